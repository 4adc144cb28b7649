/- (*Trie).Add: the walk. Conditions: those that each row states. -/
import Derived.Test.YtcicnbbnkeellaaGreatDoorAd
namespace Go.Proofs.YtcicnbbnkeellaaGreatDoor
open Go.RowKit
set_option maxRecDepth 100000

def AddOk (w : World) (X : Nat → Prop) (t N : Nat) (l : List Pr) (p : List UInt8) (z : Int) (e : Ending) (w' : World) : Prop :=
  e = .returned (.int .i64 (addC l p z)) ∧ ∃ X', PT w' X' t (N + 8) (addR l p z) ∧ Fr X X' w w'
theorem AddOk.same {w w' : World} {X : Nat → Prop} {t N : Nat} {l : List Pr} {p : List UInt8} {z c : Int} (h : PT w X t N l) (hc : addC l p z = c) (h0 : c ≠ 0) (hb : Below w.heap.size w w') : AddOk w X t N l p z (.returned (.int .i64 c)) w' :=
  ⟨by rw [hc], X, by rw [addR_eq hc h0]; exact (h.below hb).mono (by omega), Fr.of_below hb⟩
/-- The place of a number at a pattern's node, whether there is one or not. -/
theorem place_at {w w2 : World} {t N : Nat} {T : Tr} {nd : Nd} {l : List Pr} (h : PTT w t N T nd l) (hb : Below w.heap.size w w2) (p : List UInt8) (z : Int) : ∃ k : Nat, (∀ n, T (wordsL p) = some n → k = posI n.ids z) ∧
    Calls Tryz.prog 23 #[ptrO ((T (wordsL p)).map Nd.q), .int .i64 z] w2 fun e w' => e = .returned (.tuple #[.int .i64 k, .bool (decide ((p, z) ∈ l))]) ∧ Below w2.heap.size w2 w' := by
  cases hn : T (wordsL p) with
  | none =>
    refine ⟨0, fun n e => (by cases e), ?_⟩
    rw [decide_eq_false (h.not_there p z hn)]
    refine (place_none w2 z).mono ?_
    rintro e w' ⟨rfl, rfl⟩
    exact ⟨rfl, Below.refl _ _⟩
  | some n =>
    refine ⟨posI n.ids z, fun n' e => by injection e with e; rw [e], ?_⟩
    have hd : decide ((p, z) ∈ l) = n.ids.contains z := by
      rw [Bool.eq_iff_iff, decide_eq_true_eq]
      exact h.there p z hn
    rw [hd]
    exact place_any w2 ((h.tr.below hb).at' _ n hn) z
set_option maxHeartbeats 2000000 in
theorem add_any (w : World) (X : Nat → Prop) (t N : Nat) (l : List Pr) (h : PT w X t N l) (hv : To.Vars w) (p : List UInt8) (hpl : p.length ≤ 9223372036854775807) (z : Int) (hN : N ≤ 1000000) :
    Calls Tryz.prog 10 #[.pointer (some ⟨t, 0, none⟩), str p, .int .i64 z] w (AddOk w X t N l p z) := by
  have HP0 : Hid (PT w X t N l) := h
  have hp := To.pattern_any w hv p
  cases hpt : pat p with
  | false =>
    rw [hpt] at hp
    have hc : addC l p z = 30 := by unfold addC; rw [if_pos hpt]
    have HE : Hid (∀ w', Below w.heap.size w w' → AddOk w X t N l p z (.returned (.int .i64 30)) w') := fun w' hb => AddOk.same HP0.out hc (by decide) hb
    clear hc h hpt
    generalize AddOk w X t N l p z = R at *
    simp only [str]
    go_enter Tryz.func10, Tryz.ntmps10
    go_wp2_with (go_at_call 21; refine hp.mono ?_; rintro e w1 ⟨rfl, hb⟩)
    exact HE.out _ hb
  | true =>
    rw [hpt] at hp
    obtain ⟨T, nd, hPT, rfl⟩ := h
    have HT : Hid (PTT w t N T nd l) := hPT
    have c0 : w.cell? ⟨t, 0, none⟩ = some (.pointer (some ⟨nd.q, 0, none⟩)) := (cell_1 hPT.cell).1
    clear hPT
    generalize hR : AddOk w (XP t T) t N l p z = R
    have HR : Hid (AddOk w (XP t T) t N l p z = R) := hR
    clear hR
    simp only [str]
    go_enter Tryz.func10, Tryz.ntmps10
    go_wp2_with fail
    refine hp.mono ?_
    rintro e w1 ⟨rfl, hb1⟩
    have hT1 := HT.out.tr.below hb1
    have c1 : w1.cell? ⟨t, 0, none⟩ = some (.pointer (some ⟨nd.q, 0, none⟩)) := (hb1.cell (p := ⟨t, 0, none⟩) (World.block_lt_of_cell? w _ c0)).trans c0
    obtain ⟨o, ho⟩ : ∃ o, (T (wordsL p)).map Nd.q = o := ⟨_, rfl⟩
    have hs := seek_any idx_dot w1 hT1 HT.out.root p hpl
    rw [ho] at hs
    go_wp2_with fail
    refine hs.mono ?_
    rintro e w2 ⟨rfl, hb2⟩
    have hb02 : Below w.heap.size w w2 := hb1.trans (hb2.mono hb1.size)
    obtain ⟨k, hk, hpa⟩ := place_at HT.out hb02 p z
    rw [ho] at hpa
    have c2 : w2.cell? ⟨t, 0, none⟩ = some (.pointer (some ⟨nd.q, 0, none⟩)) := (hb02.cell (p := ⟨t, 0, none⟩) (World.block_lt_of_cell? w _ c0)).trans c0
    have HKK : Hid (∀ n, T (wordsL p) = some n → k = posI n.ids z) := hk
    clear hs hT1 hk
    by_cases hin : (p, z) ∈ l
    · rw [decide_eq_true hin] at hpa
      have HE : Hid (∀ w', Below w.heap.size w w' → AddOk w (XP t T) t N l p z (.returned (.int .i64 32)) w') := fun w' hb => AddOk.same HP0.out (by unfold addC; rw [if_neg (by rw [hpt]; simp), if_pos hin]) (by decide) hb
      rw [HR.out] at HE
      clear hin
      go_wp2_with (go_at_call 23; refine hpa.mono ?_; rintro e w3 ⟨rfl, hb3⟩)
      exact HE.out _ (hb02.trans (hb3.mono hb02.size))
    · rw [decide_eq_false hin] at hpa
      have HIN : Hid ((p, z) ∉ l) := hin
      clear hin
      go_wp2_with fail
      refine hpa.mono ?_
      rintro e w3 ⟨rfl, hb3⟩
      have hb03 : Below w.heap.size w w3 := hb02.trans (hb3.mono hb02.size)
      have hln := len_any w3 (XP t T) t N l (HP0.out.below hb03)
      clear hpa c2 c1
      go_wp2_with fail
      refine hln.mono ?_
      rintro e w4 ⟨rfl, hb4⟩
      have hb04 : Below w.heap.size w w4 := hb03.trans (hb4.mono hb03.size)
      have c4 : w4.cell? ⟨t, 0, none⟩ = some (.pointer (some ⟨nd.q, 0, none⟩)) := (hb04.cell (p := ⟨t, 0, none⟩) (World.block_lt_of_cell? w _ c0)).trans c0
      have hfew := HT.out.few
      clear hln
      by_cases h64 : 64 ≤ l.length
      · have HE : Hid (∀ w', Below w.heap.size w w' → AddOk w (XP t T) t N l p z (.returned (.int .i64 34)) w') := fun w' hb => AddOk.same HP0.out (by unfold addC; rw [if_neg (by rw [hpt]; simp), if_neg HIN.out, if_pos h64]) (by decide) hb
        rw [HR.out] at HE
        go_wp2
        exact HE.out _ hb04
      · have hcode : Hid (addC l p z = 0) := by
          show addC l p z = 0
          unfold addC
          rw [if_neg (by rw [hpt]; simp), if_neg HIN.out, if_neg h64]
        have hnm := pat_nums hpt
        have hPT4 : PTT w4 t N T nd l := HT.out.on (fun b hb => hb04.block b (HT.out.lt hb))
        have hgr := grow_any idx_dot clone_any w4 hPT4.tr hPT4.root p hnm.1 hnm.2 hN
        simp only [ptrO, str] at hgr
        have H4 : Hid (PTT w4 t N T nd l) := hPT4
        have hlt : Hid (l.length < 64) := by
          show l.length < 64
          omega
        have h64i : ¬ ((64 : Int) ≤ (l.length : Int)) := by omega
        clear hPT4 h64
        go_wp2_with fail
        refine hgr.mono ?_
        rintro e w5 ⟨T', nx, rfl, hx5, hT5, hid5, hext5, hF5⟩
        have hat5 := hT5.at' _ nx hx5
        have hpl5 := place_any w5 hat5 z
        have hz5 : nx.ids.contains z = false := by
          have h9 : z ∉ nx.ids := fun h9 => HIN.out ((H4.out.mem _).2 (by rw [← hid5, ids_some hx5]; exact h9))
          simpa using h9
        rw [hz5] at hpl5
        simp only [ptrO] at hpl5
        clear hgr
        go_wp2_with fail
        refine hpl5.mono ?_
        rintro e w6 ⟨rfl, hb6⟩
        have hT6 := hT5.below hb6
        have hat6 := hT6.at' _ nx hx5
        obtain ⟨d0, d1, g0, g1⟩ := cell_q hat6.cells
        have hvb : (w6.alloc (.cells #[.int .i64 z] 3)).heap[w6.heap.size]? = some (.cells #[.int .i64 z] 3 (0, 0)) := by rw [alloc_at', if_pos rfl]
        have hbA : Below w6.heap.size w6 (w6.alloc (.cells #[.int .i64 z] 3)) := (Below.refl _ _).alloc (Nat.le_refl _) _
        have hT7 := hT6.below hbA
        have hat7 := hT7.at' _ nx hx5
        have hins := insert_any (w6.alloc (.cells #[.int .i64 z] 3)) nx.v nx.ids hat7.ids hat7.few (posI nx.ids z) (posI_le _ _) z w6.heap.size hvb (fun e => by
          have := hT6.lt ⟨_, nx, hx5, .inr (.inr e)⟩
          omega)
        have HS5 : Hid (TrW w5 (N + 8) T' ∧ (∀ x, idsAt T' x = idsAt T x) ∧ (∀ x nx, T x = some nx → T' x = some nx) ∧ Fr (XT T) (XT T') w4 w5) := ⟨hT5, hid5, hext5, hF5⟩
        have HX5 : Hid (T' (wordsL p) = some nx) := hx5
        have HT7 : Hid (TrW (w6.alloc (.cells #[.int .i64 z] 3)) (N + 8) T') := hT7
        have HB6 : Hid (Below w5.heap.size w5 (w6.alloc (.cells #[.int .i64 z] 3))) := hb6.trans (hbA.mono hb6.size)
        clear hT5 hid5 hext5 hF5 hx5 hT6 hT7 hat5 hat6 hat7 hvb hbA hpl5 hz5
        go_wp2_with fail
        refine hins.mono ?_
        rintro e w7 ⟨v', rfl, hr7, hf7⟩
        obtain ⟨a', c', rfl⟩ := row_len hr7
        have hq7 : w7.heap[nx.q]? = (w6.alloc (.cells #[.int .i64 z] 3)).heap[nx.q]? := hf7.keep _ (HT7.out.lt ⟨_, nx, HX5.out, .inl rfl⟩) (HT7.out.qv HX5.out HX5.out)
        have hc7 : w7.heap[nx.q]? = some (.cells #[.map (some nx.m), nx.v] 58 (0, 0)) := hq7.trans (HT7.out.at' _ nx HX5.out).cells
        obtain ⟨_, _, _, g7⟩ := cell_q hc7
        obtain ⟨_, k7, _, _⟩ := cell_q hc7
        have ht5 : (w6.alloc (.cells #[.int .i64 z] 3)).heap[t]? = w4.heap[t]? := by
          have htx : ¬ XT T t := fun hx => by
            obtain ⟨x, n2, h2, h3⟩ := hx
            have h4 := H4.out.cell
            rcases h3 with h3 | h3 | h3
            · rw [h3, (H4.out.tr.at' _ n2 h2).cells] at h4
              injection h4 with h4
              injection h4 with _ h4
              cases h4
            · obtain ⟨es, c, hm⟩ := (H4.out.tr.at' _ n2 h2).map.isMap
              rw [h3, hm] at h4
              cases h4
            · obtain ⟨cur, hc⟩ := row_lt (H4.out.tr.at' _ n2 h2).ids h3
              rw [hc] at h4
              injection h4 with h4
              injection h4 with _ h4
              cases h4
          have h5 := HS5.out.2.2.2.keep t (lt_of_some H4.out.cell) htx
          rw [← h5]
          exact HB6.out.block t (Nat.lt_of_lt_of_le (lt_of_some H4.out.cell) HS5.out.2.2.2.size)
        have hfin := H4.out.added p z hpt HIN.out hlt.out HT7.out HX5.out HS5.out.2.1 HS5.out.2.2.1 ht5 hr7 hf7
        have HE : Hid (AddOk w (XP t T) t N l p z (.returned (.int .i64 0)) (w7.setCell ⟨nx.q, 1, none⟩ (.slice a' (nx.ids.length + 1) c'))) := by
          refine ⟨by rw [hcode.out], _, ⟨_, _, by unfold addR; rw [if_pos hcode.out]; exact hfin.1, rfl⟩, ?_⟩
          have hF5 := HS5.out.2.2.2
          have F1 : Fr (XP t T) (XP t T') w4 w5 := ⟨hF5.os, hF5.tape, hF5.output, hF5.size, fun b hb hx => hF5.keep b hb (fun e => hx (.inr e)), fun b hb => by
            rcases hb with rfl | hb
            · exact .inl (.inl rfl)
            · rcases hF5.new b hb with h1 | h1
              · exact .inl (.inr h1)
              · exact .inr h1⟩
          exact (Fr.of_below hb04).trans (F1.trans ((Fr.of_below HB6.out).trans hfin.2))
        rw [HR.out] at HE
        clear hfin hr7 hf7 hq7 hc7 ht5 hins
        go_wp2
        exact HE.out
end Go.Proofs.YtcicnbbnkeellaaGreatDoor
