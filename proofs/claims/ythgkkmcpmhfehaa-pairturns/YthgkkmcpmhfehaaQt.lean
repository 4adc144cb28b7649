/- PairTurns walked. -/
import Derived.Test.YthgkkmcpmhfehaaPx
namespace Go.Proofs.Ythgkkmcpmhfehaa
open Go.RowKit Go.Lib Go.Shelf
set_option maxRecDepth 100000
set_option linter.unusedSimpArgs false

theorem append_either (w0 w : World) (X : Nat → Prop) (p t q n : Nat) (S : DS) (half : Nat) (b : List UInt8) (rs : List (List UInt8)) (h : PA w0 w X p t q n S half b rs) (hops : S.ops ≤ 100000) (hn : rs.length ≤ 5000) (r : List UInt8) (a : Option Addr) (c : Nat) (hr : Sl.RdA w (.slice a r.length c) r) (hrl : r.length ≤ 2048) :
    Calls Try.prog 14 #[.pointer (some ⟨p, 0, none⟩), .slice a r.length c] w fun e w' => ∃ (k : Int) (X' : Nat → Prop) (S' : DS) (rs' : List (List UInt8)), e = .returned (.int .i64 k) ∧ PA w0 w' X' p t q n S' half b rs' ∧ S'.ops ≤ S.ops + 14 ∧ rs'.length ≤ rs.length + 1 := by
  by_cases hpl : tot rs + (12 + r.length) ≤ (spanN n - takesN b.length) * 256
  · refine (append_pa w0 w X p t q n S half b rs h hops hn r _ hr (by omega) hpl).mono ?_
    rintro e w' ⟨rfl, X', S', h1, h2, _, _, _⟩
    exact ⟨0, X', S', _, rfl, h1, by omega, by simp⟩
  · refine (append_pafull w0 w X p t q n S half b rs h r a c (by omega) (by omega)).mono ?_
    rintro e w' ⟨rfl, h1⟩
    exact ⟨22, X, S, rs, rfl, h1, by omega, by omega⟩

theorem info9 : (Try.prog.info? 9).map (fun i => (i.zero, i.size, i.bytes)) = some (some (.string ByteArray.empty), 1, 16) := by kernel_rfl
theorem appStr {ops : Array Oper} {rest : List Oper} {o : Oper} {a : Act} {Q : Exit → Act → World → Prop} (hgd : o.guard = none) (s x : Operand)
    (ho : o.op = .call { callee := .builtin .append, args := #[s, x], argTypes := #[63, 63] }) (B : Nat) (v : Value) (xs : List Value) (n : Nat) (w : World) (u : ByteArray)
    (hs : a.eval s = v) (hown : w.ownsRow B 9 1 v n xs) (hx : a.eval x = .slice (some ⟨w.heap.size, 0, none⟩) 1 1) (hn : n ≤ 5000) (hB : B ≤ w.heap.size)
    (h : ∀ v' w', w'.ownsRow B 9 1 v' (n + 1) (xs ++ [.string u]) → Below B w w' → wpList Try.prog ops Q rest (a.put o.dst v') w') :
    wpList Try.prog ops Q (o :: rest) a (w.alloc (.cells #[.string u] 9)) := by
  obtain ⟨i0, hi, hz0, hz1, hz2⟩ := info_parts info9
  refine wpList_append_own _ hgd s x 63 ho B 9 i0 (.string ByteArray.empty) 1 16 Try.underlying63 hi hz0 hz1 hz2 rfl (by decide) v n xs hs (World.ownsRow.alloc hown _) ⟨w.heap.size, 0, none⟩ 1 1 [.string u] hx rfl ?_ ?_ (by unfold maxLen; omega) (by omega) (by simp; omega) ?_
  · intro j u' hj
    match j, hj with
    | 0, hj => simp at hj; subst hj; simp [Addr.add_lit, World.cell?_alloc_new]
  · intro u' hu; simp at hu; subst hu; rfl
  · intro v' w' h1 h2 _
    exact h v' w' h1 (((Below.refl B w).alloc hB _).grown h2 (by simp; omega) (fun k hk => (World.ownsRow.lt hown k hk).1))
theorem pageOf_same {P P' : List UInt8} {k : Nat} (h : ∀ j, k * 256 ≤ j → j < (k + 1) * 256 → P'[j]? = P[j]?) : pageOf P' k = pageOf P k := by
  apply List.ext_getElem?
  intro i
  by_cases hi : i < 256
  · rw [pageOf_get _ _ _ hi, pageOf_get _ _ _ hi]
    exact h _ (by omega) (by omega)
  · unfold pageOf
    rw [List.getElem?_take, if_neg hi, List.getElem?_take, if_neg hi]
/-- A page as a string. -/
def strP (P : List UInt8) (i : Nat) : ByteArray := ⟨(pageOf P i).toArray⟩
/-- The first pages as strings. -/
def strs (P : List UInt8) (k : Nat) : List Value := (List.range k).map fun i => .string (strP P i)
theorem strs_succ (P : List UInt8) (k : Nat) : strs P (k + 1) = strs P k ++ [.string (strP P k)] := by simp [strs, List.range_succ]
theorem strs_cell {w : World} {B : Nat} {v : Value} {n : Nat} {P : List UInt8} (h : w.ownsRow B 9 1 v n (strs P n)) (hn : 0 < n) : ∃ g c, v = .slice (some ⟨g, 0, none⟩) n c ∧ B ≤ g ∧ n ≤ c ∧ (∃ cc, w.heap[g]? = some (.cells cc 9 (0, 0))) ∧ ∀ k, k < n → w.cell? ⟨g, k, none⟩ = some (.string (strP P k)) := by
  rcases h.2 with ⟨_, h0⟩ | ⟨g, cap, cur, rfl, hB, hg, hc, _, _, ht⟩
  · omega
  · refine ⟨g, cap, rfl, hB, hc, ⟨_, hg⟩, fun k hk => ?_⟩
    have e : (cur.toList.take (n * 1))[k]? = (strs P n)[k]? := by rw [ht]
    rw [List.getElem?_take_of_lt (by omega)] at e
    simp only [strs, List.getElem?_map, List.getElem?_range hk, Option.map_some] at e
    simp only [World.cell?, hg]
    simpa using e

set_option maxHeartbeats 16000000 in
theorem turns_any (w : World) (z : Int) (v1 : Value) (r1 : List (List UInt8)) (h1 : RdL w v1 r1) (vr : Value) (r : List UInt8) (hr : Sl.RdA w vr r) (hrl : r.length ≤ 140737488355328) :
    Calls Try.prog 7 #[.int .i64 z, v1, vr] w fun e w' => e = .returned (.bool true) ∧ Below w.heap.size w w' := by
  obtain ⟨a1, c1, rfl, hr1⟩ := h1
  obtain ⟨n1, hn1⟩ : ∃ n, n = r1.length := ⟨_, rfl⟩
  rw [← hn1]
  have N1H : Hid (n1 = r1.length) := hn1
  clear hn1
  have HR1 : Hid _ := hr1
  clear hr1
  have hmix : Try.prog.follows .mixedOrders = true := by kernel_rfl
  obtain ⟨ra, rc, rfl⟩ := hr.len
  have HR : Hid _ := hr
  clear hr
  have hnot : ∀ (b : Bool) (w : World), (Op.unary .not (.bool b)).run Try.prog w = .ok (.bool (!b)) w := fun _ _ => rfl
  go_enter Try.func7, Try.ntmps7
  go_wp2_with fail
  refine (wakes_any w).mono ?_
  rintro e w0 ⟨rfl, hb0⟩
  by_cases h0 : z < 5
  · go_wp2_with fail
    go_ret
    exact ⟨rfl, hb0⟩
  by_cases h00 : 60 < z
  · go_wp2_with fail
    go_ret
    exact ⟨rfl, hb0⟩
  by_cases h000 : (12 : Int) < (n1 : Int)
  · go_wp2_with fail
    go_ret
    exact ⟨rfl, hb0⟩
  by_cases h0000 : (2048 : Int) < (r.length : Int)
  · go_wp2_with fail
    go_ret
    exact ⟨rfl, hb0⟩
  have hrl2 : r.length ≤ 2048 := by omega
  have hn12 : n1 ≤ 12 := by omega
  clear hrl
  obtain ⟨n, rfl⟩ : ∃ n : Nat, z = (n : Int) := ⟨z.toNat, by omega⟩
  have hn5 : 5 ≤ n := by omega
  have hn60 : n ≤ 60 := by omega
  have N10 := new_open w0 n hn5 (by omega)
  go_wp2_with fail
  refine N10.mono ?_
  rintro e w1 ⟨X0, q, S0, rfl, hdr0, hpp0, hW0, hops0, har0, hdn0, hb1, hX0⟩
  have hb01 : Below w.heap.size w w1 := hb0.trans (hb1.mono hb0.size)
  have N12 := first_pa w w1 X0 q n S0 hdr0 hpp0 hW0 har0 hdn0 hb01 (fun k hk => Nat.le_trans hb0.size (hX0 k hk)) hn5
  clear N10 h0 h00 h000 h0000
  go_wp2_with fail
  refine N12.mono ?_
  rintro e w2 ⟨v1, v2, p, t, rfl, ⟨sa6, sc6, rfl⟩, ⟨ra6, rc6, rfl⟩, hpa⟩
  clear N12 hb01 hdr0 hpp0 hW0 har0 hdn0 hX0 hb1 hb0
  have d1 : ((n : Int) - 1).tdiv 2 = ((spanN n : Nat) : Int) := by rw [Int.tdiv_eq_ediv_of_nonneg (by omega)]; unfold spanN; omega
  have hsn : 1 + 2 * spanN n ≤ n := by unfold spanN; omega
  have hs2 : 2 ≤ spanN n := by unfold spanN; omega
  obtain ⟨sp, hsp⟩ : ∃ sp, spanN n = sp := ⟨_, rfl⟩
  have HSP : Hid _ := hsp
  rw [hsp] at d1 hsn hs2
  clear hsp
  go_wp2_with fail
  go_loopw [58, 11, 12] (fun i v11 v12 wr => ∃ (j half t : Nat) (X : Nat → Prop) (S : DS) (b : List UInt8) (rs : List (List UInt8)) (ec : Int), j ≤ n1 ∧ i = .int .i64 j ∧ v11 = .int .i64 ec ∧ v12 = .int .i64 half ∧ PA w wr X p t q n S half b rs ∧ rs.length ≤ j ∧ S.ops ≤ 80 * j) (fun i _ _ _ => n1 - (RowKit.intOf i).toNat)
  case atStart => exact ⟨0, 0, t, X0, S0, [], [], 0, by omega, rfl, rfl, rfl, hpa, by simp, by omega⟩
  case round =>
    clear hpa hops0
    obtain ⟨j, half, t, X, S, b, rs, ec, hj, rfl, rfl, rfl, hpa, hrsl, hops⟩ := hrel
    by_cases hlt : j < n1
    · obtain ⟨s, hs⟩ : ∃ s, r1[j]? = some s := ⟨_, List.getElem?_eq_getElem (by rw [← N1H.out]; exact hlt)⟩
      obtain ⟨xb, xo, u, hae, e1, f1⟩ := HR1.out j s hs
      cases hae
      have e4 : wr.cell? ⟨xb, xo + j, none⟩ = some u := (hpa.bel.cell (p := ⟨xb, xo + j, none⟩) (World.block_lt_of_cell? w _ e1)).trans e1
      obtain ⟨ua, uc, rfl⟩ := f1.len
      have F1 : Hid _ := f1
      clear e1 f1 hs
      by_cases hbig : (8192 : Int) < (s.length : Int)
      · go_wp2_with fail
        go_ret
        exact ⟨rfl, hpa.bel⟩
      have hsl : s.length ≤ 8192 := by omega
      have N14 := append_either w wr X p t q n S half b rs hpa (by omega) (by omega) r ra rc (Sl.RdA.on HR.out hpa.bel) hrl2
      go_wp2_with fail
      refine N14.mono ?_
      rintro e w3 ⟨kc, X3, S3, rs3, rfl, hp3, ho3, hl3⟩
      have hops3 : S3.ops ≤ 80 * j + 14 := by omega
      have hrs3 : rs3.length ≤ j + 1 := by omega
      clear N14 hpa e4 hrsl hops ho3 hl3
      have hx3 := hp3.ps.d.xlt
      have hpl3 := hp3.ps.pr.lt
      have hhf := hp3.ps.pp.h1
      go_wp2_with fail
      go_loopw [17, 16] (fun i v wr => ∃ (k : Nat), k ≤ n ∧ i = .int .i64 k ∧ wr.ownsRow w3.heap.size 9 1 v k (strs S3.P k) ∧ Below w3.heap.size w3 wr) (fun i _ _ => n - (RowKit.intOf i).toNat)
      case atStart => exact ⟨0, by omega, rfl, World.ownsRow_nil _ _ _ _, Below.refl _ _⟩
      case round =>
        obtain ⟨k, hk, rfl, hown, hbw⟩ := hrel
        have hle := hbw.size
        have hpk := hp3.on hbw
        by_cases hkn : k < n
        · have N32 := read0 wr X3 q n S3 k hkn hpk.ps.dn hpk.ps.d
          have hpkl : (pageOf S3.P k).length = 256 := pageOf_length _ n _ hpk.ps.d.len hkn
          go_wp2_with fail
          refine N32.mono ?_
          rintro e w4 ⟨rfl, hpg⟩
          have hb4 : Below w3.heap.size w3 w4 := hbw.trans (hpg.below.mono hle)
          have hcv : (convert 30 9 (.slice (some ⟨wr.heap.size, 0, none⟩) 256 256)).run Try.prog w4 = .ok (.string (strP S3.P k)) w4 := by
            apply convA
            have := sl_range (c := 256) (range_of_block hpg.block) (by omega)
            rwa [hpkl] at this
          have ho4 : w4.ownsRow w3.heap.size 9 1 u16 k (strs S3.P k) := ownsRow_block hown (fun g hg => hpg.below.block g (World.ownsRow.lt hown g hg).2)
          have hss : Hid _ := strs_succ S3.P k
          generalize strP S3.P k = cs at *
          generalize strs S3.P k = xs at *
          have hle4 := hb4.size
          clear N32 hpk hpg hown
          go_wp2_with (at_builtin; refine appStr rfl (.tmp 81) (.tmp 84) rfl w3.heap.size _ xs k w4 cs rfl ho4 rfl (by omega) hle4 ?_)
          intro v5 w5 ho5 hb5
          go_wp2
          exact ⟨⟨k + 1, by omega, by go_num, by rw [hss.out]; exact ho5, hb4.trans hb5⟩, by simp [RowKit.intOf]; omega⟩
        · have hkn' : n = k := by omega
          subst hkn'
          obtain ⟨gw, cw, rfl, hgB, hgc, ⟨cc, hgh⟩, hcell⟩ := strs_cell hown (by omega)
          have hgl : gw < wr.heap.size := (Array.getElem?_eq_some_iff.1 hgh).1
          have HC : Hid _ := hcell
          clear hcell hown
          have d2 : takesN s.length ≤ 40 := by unfold takesN; omega
          by_cases hfit : takesN s.length < spanN n
          · have N16 := save_pa w wr X3 p t q n S3 half b rs3 hpk (by omega) s _ (Sl.RdA.on F1.out hpk.bel) (by omega) hfit
            go_wp2_with fail
            refine N16.mono ?_
            rintro e w5 ⟨rfl, X5, S5, t5, hp5, ho5, hsame, hX5, ht5, hst5⟩
            have hc5 : ∀ i, i < n → w5.cell? ⟨gw, i, none⟩ = some (.string (strP S3.P i)) := fun i hi => by
              rw [← HC.out i hi]
              have := hst5.block gw hgl (fun h => by
                rcases h with h | h
                · have := hx3 gw h; omega
                · omega)
              simp only [World.cell?, this]
            have HC5 : Hid _ := hc5
            have HS5 : Hid _ := hsame
            clear hc5 hsame hX5 hst5 hpk HC N16
            obtain ⟨hn, hhn⟩ : ∃ x, x = 1 - half := ⟨_, rfl⟩
            have hh2 : (1 : Int) - (half : Int) = (hn : Int) := by omega
            rw [← hhn] at hp5 HS5
            have hhn1 : hn ≤ 1 := by omega
            clear hhn
            go_wp2_with fail
            go_loopw [20] (fun i wr => ∃ (k : Nat), k ≤ n ∧ i = .int .i64 k ∧ Below w5.heap.size w5 wr) (fun i _ => n - (RowKit.intOf i).toNat)
            case atStart => exact ⟨0, by omega, rfl, Below.refl _ _⟩
            case round =>
              obtain ⟨k, hk, rfl, hbw2⟩ := hrel
              by_cases hkn : k < n
              · have hpk := hp5.on hbw2
                have N32 := read0 wr X5 q n S5 k hkn hpk.ps.dn hpk.ps.d
                have hpkl : (pageOf S5.P k).length = 256 := pageOf_length _ n _ hpk.ps.d.len hkn
                have ht0 := hpk.ps.pp.t
                go_wp2_with fail
                refine N32.mono ?_
                rintro e w6 ⟨rfl, hpg⟩
                have hb6 : Below w5.heap.size w5 w6 := hbw2.trans (hpg.below.mono hbw2.size)
                obtain ⟨mm, hmm⟩ : ∃ mm : Nat, mm = (hn) * sp := ⟨_, rfl⟩
                have hmul : ((hn : Nat) : Int) * (sp : Int) = (mm : Int) := by rw [hmm]; simp
                have hmb : mm ≤ 60 := by
                  rcases (show (hn) = 0 ∨ (hn) = 1 by omega) with h | h
                  · rw [hmm, h]; omega
                  · rw [hmm, h]; omega
                have hfst : Hid (firstN n (hn) = 1 + mm) := by
                  have : firstN n (hn) = 1 + mm := by unfold firstN; rw [HSP.out, hmm]
                  exact this
                have hh2l : (hn) ≤ 1 := by omega
                clear hmm
                have hpage : ¬ (0 = (0 : Int) ∧ 1 + mm ≤ k ∧ k < 1 + mm + sp) → 0 < k → pageOf S5.P k = pageOf S3.P k := fun hno hk0 => by
                  refine pageOf_same (fun jj h1 h2 => HS5.out jj (by omega) ?_)
                  rw [hfst.out, HSP.out]
                  have : ¬ (1 + mm ≤ k ∧ k < 1 + mm + sp) := fun h => hno ⟨rfl, h⟩
                  omega
                have HP : Hid _ := hpage
                clear hpage
                by_cases hk0 : k = 0
                · subst hk0
                  have hb0 : ∀ m, (w6.drewN m).cell? ⟨wr.heap.size, 0, none⟩ = some (.int .u8 (hn : Int)) := fun m => by
                    show w6.cell? ⟨wr.heap.size, 0, none⟩ = _
                    rw [cell_of_row _ _ _ _ _ _ hpg.block]
                    have hpt : (pageOf S5.P 0)[0]? = some (UInt8.ofNat hn) := by rw [pageOf_get _ _ _ (by omega)]; exact ht0
                    simp only [byteCells, List.getElem?_toArray, List.getElem?_map, hpt, Option.map_some]
                    congr 2
                    rcases (show hn = 0 ∨ hn = 1 by omega) with h | h <;> subst h <;> rfl
                  have i1 : ¬ (1 : Int) + (mm : Int) ≤ 0 := by omega
                  have HB0 : Hid _ := hb0
                  clear hb0 ht0 hpg hpk N32
                  go_upto_region 34 with fail
                  have hb0 : ∀ m, (w6.drewN m).cell? ⟨wr.heap.size, 0, none⟩ = some (.int .u8 (hn : Int)) := HB0.out
                  have h256 : (hn : Int) < 256 := by omega
                  go_quiet (fail)
                  go_wp2
                  exact ⟨⟨0 + 1, by omega, by go_num, hb6.trans ⟨rfl, rfl, rfl, Nat.le_refl _, fun _ _ => rfl⟩⟩, by simp [RowKit.intOf]; omega⟩
                · have hcv : ∀ m, (convert 30 9 (.slice (some ⟨wr.heap.size, 0, none⟩) 256 256)).run Try.prog (w6.drewN m) = .ok (.string (strP S5.P k)) (w6.drewN m) := fun m => by
                    apply convA
                    have := sl_range (c := 256) (range_of_block (w := w6.drewN m) hpg.block) (by omega)
                    rwa [hpkl] at this
                  have hwk : ∀ m, (w6.drewN m).cell? ⟨gw, k, none⟩ = some (.string (strP S3.P k)) := fun m => by
                    show w6.cell? ⟨gw, k, none⟩ = _
                    rw [← HC5.out k hkn]
                    exact hb6.cell (p := ⟨gw, k, none⟩) (World.block_lt_of_cell? _ _ (HC5.out k hkn))
                  have hki : ¬ (k : Int) = 0 := by omega
                  have hkp : (0 : Int) < (k : Int) := by omega
                  have HCV : Hid _ := hcv
                  have HWK : Hid _ := hwk
                  clear hcv hwk ht0 hpg hpk N32
                  by_cases iA : (1 : Int) + (mm : Int) ≤ (k : Int)
                  · by_cases iB : (k : Int) < 1 + (mm : Int) + (sp : Int)
                    · clear HP
                      go_upto_region 34 with fail
                      have b1 : decide ((k : Int) = 0) = false := decide_eq_false (by omega)
                      have b2 : decide ((0 : Int) < (k : Int)) = true := decide_eq_true (by omega)
                      have b3 : ((k : Int) == 0) = false := by simp; omega
                      have b4 : decide ((k : Int) < 1 + (mm : Int) + (sp : Int)) = true := decide_eq_true (by omega)
                      have c1 : ∀ inst, @decide ((k : Int) = 0) inst = false := fun _ => decide_eq_false (by omega)
                      have c2 : ∀ inst, @decide ((0 : Int) < (k : Int)) inst = true := fun _ => decide_eq_true (by omega)
                      have c4 : ∀ inst, @decide ((k : Int) < 1 + (mm : Int) + (sp : Int)) inst = true := fun _ => decide_eq_true (by omega)
                      try simp only [c4]
                      have hS : True := trivial
                      refine wp_region_held (S := fun _ => True) hmix ?_
                      show wpAnyH _ _ _ _ _ _ _ _ w6.drew
                      refine wpAnyH_take (i := 0) (v := .int .i64 0) rfl (by kernel_rfl) (by kernel_rfl) (by kernel_rfl) (fun _ _ _ h => h) (.inl ⟨by rfl, fun W' hW' => ?_⟩) hS ?_
                      · clear hW'
                        go_simp
                      simp only [Act.put, List.getElem_toArray, List.getElem_cons_succ, List.getElem_cons_zero, List.setIfInBounds_toArray, List.set_cons_succ, List.set_cons_zero]
                      refine wpAnyH_take (i := 1) (v := .bool false) rfl (by kernel_rfl) (by kernel_rfl) (by kernel_rfl) (fun _ _ _ h => h) (.inl ⟨by rfl, fun W' hW' => ?_⟩) hS ?_
                      · clear hW'
                        go_simp
                      simp only [Act.put, List.getElem_toArray, List.getElem_cons_succ, List.getElem_cons_zero, List.setIfInBounds_toArray, List.set_cons_succ, List.set_cons_zero]
                      refine wpAnyH_take (i := 2) (v := .bool false) rfl (by kernel_rfl) (by kernel_rfl) (by kernel_rfl) (fun _ _ _ h => h) (.inl ⟨by rfl, fun W' hW' => ?_⟩) hS ?_
                      · clear hW'
                        go_simp
                      simp only [Act.put, List.getElem_toArray, List.getElem_cons_succ, List.getElem_cons_zero, List.setIfInBounds_toArray, List.set_cons_succ, List.set_cons_zero]
                      refine wpAnyH_take (i := 3) (v := .int .i64 (k : Int)) rfl (by kernel_rfl) (by kernel_rfl) (by kernel_rfl) (fun _ _ _ h => h) (.inl ⟨by rfl, fun W' hW' => ?_⟩) hS ?_
                      · clear hW'
                        go_simp
                      simp only [Act.put, List.getElem_toArray, List.getElem_cons_succ, List.getElem_cons_zero, List.setIfInBounds_toArray, List.set_cons_succ, List.set_cons_zero]
                      refine wpAnyH_take (i := 4) (v := .bool false) rfl (by kernel_rfl) (by kernel_rfl) (by kernel_rfl) (fun _ _ _ h => h) (.inl ⟨by rfl, fun W' hW' => ?_⟩) hS ?_
                      · clear hW'
                        go_simp
                      simp only [Act.put, List.getElem_toArray, List.getElem_cons_succ, List.getElem_cons_zero, List.setIfInBounds_toArray, List.set_cons_succ, List.set_cons_zero]
                      refine wpAnyH_take (i := 5) (v := .bool false) rfl (by kernel_rfl) (by kernel_rfl) (by kernel_rfl) (fun _ _ _ h => h) (.inl ⟨by rfl, fun W' hW' => ?_⟩) hS ?_
                      · clear hW'
                        go_simp
                      simp only [Act.put, List.getElem_toArray, List.getElem_cons_succ, List.getElem_cons_zero, List.setIfInBounds_toArray, List.set_cons_succ, List.set_cons_zero]
                      refine wpAnyH_take (i := 6) (v := undef) rfl (by kernel_rfl) (by kernel_rfl) (by kernel_rfl) (fun _ _ _ h => h) (.inr ⟨by rfl, rfl⟩) hS ?_
                      simp only [Act.put, List.getElem_toArray, List.getElem_cons_succ, List.getElem_cons_zero, List.setIfInBounds_toArray, List.set_cons_succ, List.set_cons_zero]
                      refine wpAnyH_take (i := 7) (v := undef) rfl (by kernel_rfl) (by kernel_rfl) (by kernel_rfl) (fun _ _ _ h => h) (.inr ⟨by rfl, rfl⟩) hS ?_
                      simp only [Act.put, List.getElem_toArray, List.getElem_cons_succ, List.getElem_cons_zero, List.setIfInBounds_toArray, List.set_cons_succ, List.set_cons_zero]
                      refine wpAnyH_take (i := 8) (v := undef) rfl (by kernel_rfl) (by kernel_rfl) (by kernel_rfl) (fun _ _ _ h => h) (.inr ⟨by rfl, rfl⟩) hS ?_
                      simp only [Act.put, List.getElem_toArray, List.getElem_cons_succ, List.getElem_cons_zero, List.setIfInBounds_toArray, List.set_cons_succ, List.set_cons_zero]
                      refine wpAnyH_take (i := 9) (v := undef) rfl (by kernel_rfl) (by kernel_rfl) (by kernel_rfl) (fun _ _ _ h => h) (.inr ⟨by rfl, rfl⟩) hS ?_
                      simp only [Act.put, List.getElem_toArray, List.getElem_cons_succ, List.getElem_cons_zero, List.setIfInBounds_toArray, List.set_cons_succ, List.set_cons_zero]
                      refine wpAnyH_take (i := 10) (v := undef) rfl (by kernel_rfl) (by kernel_rfl) (by kernel_rfl) (fun _ _ _ h => h) (.inr ⟨by rfl, rfl⟩) hS ?_
                      simp only [Act.put, List.getElem_toArray, List.getElem_cons_succ, List.getElem_cons_zero, List.setIfInBounds_toArray, List.set_cons_succ, List.set_cons_zero]
                      refine wpAnyH_take (i := 11) (v := undef) rfl (by kernel_rfl) (by kernel_rfl) (by kernel_rfl) (fun _ _ _ h => h) (.inr ⟨by rfl, rfl⟩) hS ?_
                      simp only [Act.put, List.getElem_toArray, List.getElem_cons_succ, List.getElem_cons_zero, List.setIfInBounds_toArray, List.set_cons_succ, List.set_cons_zero]
                      refine wpAnyH_take (i := 12) (v := .bool false) rfl (by kernel_rfl) (by kernel_rfl) (by kernel_rfl) (fun _ _ _ h => h) (.inl ⟨by rfl, fun W' hW' => ?_⟩) hS ?_
                      · clear hW'
                        go_simp
                      simp only [Act.put, List.getElem_toArray, List.getElem_cons_succ, List.getElem_cons_zero, List.setIfInBounds_toArray, List.set_cons_succ, List.set_cons_zero]
                      refine wpAnyH_take (i := 13) (v := .bool false) rfl (by kernel_rfl) (by kernel_rfl) (by kernel_rfl) (fun _ _ _ h => h) (.inl ⟨by rfl, fun W' hW' => ?_⟩) hS ?_
                      · clear hW'
                        go_simp
                      simp only [Act.put, List.getElem_toArray, List.getElem_cons_succ, List.getElem_cons_zero, List.setIfInBounds_toArray, List.set_cons_succ, List.set_cons_zero]
                      refine wpAnyH_take (i := 14) (v := .bool false) rfl (by kernel_rfl) (by kernel_rfl) (by kernel_rfl) (fun _ _ _ h => h) (.inl ⟨by rfl, fun W' hW' => ?_⟩) hS ?_
                      · clear hW'
                        go_simp
                      simp only [Act.put, List.getElem_toArray, List.getElem_cons_succ, List.getElem_cons_zero, List.setIfInBounds_toArray, List.set_cons_succ, List.set_cons_zero]
                      refine wpAnyH_take (i := 15) (v := .int .i64 (k : Int)) rfl (by kernel_rfl) (by kernel_rfl) (by kernel_rfl) (fun _ _ _ h => h) (.inl ⟨by rfl, fun W' hW' => ?_⟩) hS ?_
                      · clear hW'
                        go_simp
                      simp only [Act.put, List.getElem_toArray, List.getElem_cons_succ, List.getElem_cons_zero, List.setIfInBounds_toArray, List.set_cons_succ, List.set_cons_zero]
                      refine wpAnyH_take (i := 16) (v := .bool true) rfl (by kernel_rfl) (by kernel_rfl) (by kernel_rfl) (fun _ _ _ h => h) (.inl ⟨by rfl, fun W' hW' => ?_⟩) hS ?_
                      · clear hW'
                        go_simp <;> omega
                      simp only [Act.put, List.getElem_toArray, List.getElem_cons_succ, List.getElem_cons_zero, List.setIfInBounds_toArray, List.set_cons_succ, List.set_cons_zero]
                      refine wpAnyH_take (i := 17) (v := .bool true) rfl (by kernel_rfl) (by kernel_rfl) (by kernel_rfl) (fun _ _ _ h => h) (.inl ⟨by rfl, fun W' hW' => ?_⟩) hS ?_
                      · clear hW'
                        go_simp
                      simp only [Act.put, List.getElem_toArray, List.getElem_cons_succ, List.getElem_cons_zero, List.setIfInBounds_toArray, List.set_cons_succ, List.set_cons_zero]
                      refine wpAnyH_take (i := 18) (v := .int .i64 0) rfl (by kernel_rfl) (by kernel_rfl) (by kernel_rfl) (fun _ _ _ h => h) (.inl ⟨by rfl, fun W' hW' => ?_⟩) hS ?_
                      · clear hW'
                        go_simp
                      simp only [Act.put, List.getElem_toArray, List.getElem_cons_succ, List.getElem_cons_zero, List.setIfInBounds_toArray, List.set_cons_succ, List.set_cons_zero]
                      refine wpAnyH_take (i := 19) (v := .bool true) rfl (by kernel_rfl) (by kernel_rfl) (by kernel_rfl) (fun _ _ _ h => h) (.inl ⟨by rfl, fun W' hW' => ?_⟩) hS ?_
                      · clear hW'
                        go_simp
                      simp only [Act.put, List.getElem_toArray, List.getElem_cons_succ, List.getElem_cons_zero, List.setIfInBounds_toArray, List.set_cons_succ, List.set_cons_zero]
                      refine wpAnyH_take (i := 20) (v := .bool true) rfl (by kernel_rfl) (by kernel_rfl) (by kernel_rfl) (fun _ _ _ h => h) (.inl ⟨by rfl, fun W' hW' => ?_⟩) hS ?_
                      · clear hW'
                        go_simp
                      simp only [Act.put, List.getElem_toArray, List.getElem_cons_succ, List.getElem_cons_zero, List.setIfInBounds_toArray, List.set_cons_succ, List.set_cons_zero]
                      refine wpAnyH_take (i := 21) (v := .bool true) rfl (by kernel_rfl) (by kernel_rfl) (by kernel_rfl) (fun _ _ _ h => h) (.inl ⟨by rfl, fun W' hW' => ?_⟩) hS ?_
                      · clear hW'
                        go_simp
                      simp only [Act.put, List.getElem_toArray, List.getElem_cons_succ, List.getElem_cons_zero, List.setIfInBounds_toArray, List.set_cons_succ, List.set_cons_zero]
                      refine wpAnyH_take (i := 22) (v := .bool true) rfl (by kernel_rfl) (by kernel_rfl) (by kernel_rfl) (fun _ _ _ h => h) (.inl ⟨by rfl, fun W' hW' => ?_⟩) hS ?_
                      · clear hW'
                        go_simp
                      simp only [Act.put, List.getElem_toArray, List.getElem_cons_succ, List.getElem_cons_zero, List.setIfInBounds_toArray, List.set_cons_succ, List.set_cons_zero]
                      refine wpAnyH_take (i := 23) (v := .bool false) rfl (by kernel_rfl) (by kernel_rfl) (by kernel_rfl) (fun _ _ _ h => h) (.inl ⟨by rfl, fun W' hW' => ?_⟩) hS ?_
                      · clear hW'
                        go_simp
                      simp only [Act.put, List.getElem_toArray, List.getElem_cons_succ, List.getElem_cons_zero, List.setIfInBounds_toArray, List.set_cons_succ, List.set_cons_zero]
                      refine wpAnyH_take (i := 24) (v := .bool false) rfl (by kernel_rfl) (by kernel_rfl) (by kernel_rfl) (fun _ _ _ h => h) (.inl ⟨by rfl, fun W' hW' => ?_⟩) hS ?_
                      · clear hW'
                        go_simp
                      simp only [Act.put, List.getElem_toArray, List.getElem_cons_succ, List.getElem_cons_zero, List.setIfInBounds_toArray, List.set_cons_succ, List.set_cons_zero]
                      refine wpAnyH_take (i := 25) (v := .bool false) rfl (by kernel_rfl) (by kernel_rfl) (by kernel_rfl) (fun _ _ _ h => h) (.inl ⟨by rfl, fun W' hW' => ?_⟩) hS ?_
                      · clear hW'
                        go_simp
                      simp only [Act.put, List.getElem_toArray, List.getElem_cons_succ, List.getElem_cons_zero, List.setIfInBounds_toArray, List.set_cons_succ, List.set_cons_zero]
                      refine wpAnyH_take (i := 26) (v := undef) rfl (by kernel_rfl) (by kernel_rfl) (by kernel_rfl) (fun _ _ _ h => h) (.inr ⟨by rfl, rfl⟩) hS ?_
                      simp only [Act.put, List.getElem_toArray, List.getElem_cons_succ, List.getElem_cons_zero, List.setIfInBounds_toArray, List.set_cons_succ, List.set_cons_zero]
                      refine wpAnyH_take (i := 27) (v := undef) rfl (by kernel_rfl) (by kernel_rfl) (by kernel_rfl) (fun _ _ _ h => h) (.inr ⟨by rfl, rfl⟩) hS ?_
                      simp only [Act.put, List.getElem_toArray, List.getElem_cons_succ, List.getElem_cons_zero, List.setIfInBounds_toArray, List.set_cons_succ, List.set_cons_zero]
                      refine wpAnyH_take (i := 28) (v := undef) rfl (by kernel_rfl) (by kernel_rfl) (by kernel_rfl) (fun _ _ _ h => h) (.inr ⟨by rfl, rfl⟩) hS ?_
                      simp only [Act.put, List.getElem_toArray, List.getElem_cons_succ, List.getElem_cons_zero, List.setIfInBounds_toArray, List.set_cons_succ, List.set_cons_zero]
                      refine wpAnyH_take (i := 29) (v := undef) rfl (by kernel_rfl) (by kernel_rfl) (by kernel_rfl) (fun _ _ _ h => h) (.inr ⟨by rfl, rfl⟩) hS ?_
                      simp only [Act.put, List.getElem_toArray, List.getElem_cons_succ, List.getElem_cons_zero, List.setIfInBounds_toArray, List.set_cons_succ, List.set_cons_zero]
                      refine wpAnyH_take (i := 30) (v := undef) rfl (by kernel_rfl) (by kernel_rfl) (by kernel_rfl) (fun _ _ _ h => h) (.inr ⟨by rfl, rfl⟩) hS ?_
                      simp only [Act.put, List.getElem_toArray, List.getElem_cons_succ, List.getElem_cons_zero, List.setIfInBounds_toArray, List.set_cons_succ, List.set_cons_zero]
                      refine wpAnyH_take (i := 31) (v := undef) rfl (by kernel_rfl) (by kernel_rfl) (by kernel_rfl) (fun _ _ _ h => h) (.inr ⟨by rfl, rfl⟩) hS ?_
                      simp only [Act.put, List.getElem_toArray, List.getElem_cons_succ, List.getElem_cons_zero, List.setIfInBounds_toArray, List.set_cons_succ, List.set_cons_zero]
                      refine wpAnyH_take (i := 32) (v := undef) rfl (by kernel_rfl) (by kernel_rfl) (by kernel_rfl) (fun _ _ _ h => h) (.inr ⟨by rfl, rfl⟩) hS ?_
                      simp only [Act.put, List.getElem_toArray, List.getElem_cons_succ, List.getElem_cons_zero, List.setIfInBounds_toArray, List.set_cons_succ, List.set_cons_zero]
                      refine wpAnyH_take (i := 33) (v := .bool false) rfl (by kernel_rfl) (by kernel_rfl) (by kernel_rfl) (fun _ _ _ h => h) (.inl ⟨by rfl, fun W' hW' => ?_⟩) hS ?_
                      · clear hW'
                        go_simp
                      simp only [Act.put, List.getElem_toArray, List.getElem_cons_succ, List.getElem_cons_zero, List.setIfInBounds_toArray, List.set_cons_succ, List.set_cons_zero]
                      refine wpAnyH_take (i := 34) (v := .bool false) rfl (by kernel_rfl) (by kernel_rfl) (by kernel_rfl) (fun _ _ _ h => h) (.inl ⟨by rfl, fun W' hW' => ?_⟩) hS ?_
                      · clear hW'
                        go_simp
                      simp only [Act.put, List.getElem_toArray, List.getElem_cons_succ, List.getElem_cons_zero, List.setIfInBounds_toArray, List.set_cons_succ, List.set_cons_zero]
                      refine wpAnyH_done (by kernel_rfl) ?_ _
                      go_wp2
                      exact ⟨⟨k + 1, by omega, by go_num, hb6.trans ⟨rfl, rfl, rfl, Nat.le_refl _, fun _ _ => rfl⟩⟩, by simp [RowKit.intOf]; omega⟩
                    · have hpe := HP.out (fun h => by omega) (by omega)
                      have hcv : ∀ m, (convert 30 9 (.slice (some ⟨wr.heap.size, 0, none⟩) 256 256)).run Try.prog (w6.drewN m) = .ok (.string (strP S5.P k)) (w6.drewN m) := HCV.out
                      have hwk : ∀ m, (w6.drewN m).cell? ⟨gw, k, none⟩ = some (.string (strP S3.P k)) := HWK.out
                      have hse : strP S5.P k = strP S3.P k := by unfold strP; rw [hpe]
                      rw [hse] at hcv
                      have H1 : Hid _ := hcv
                      have H2 : Hid _ := hwk
                      clear hpe hcv hwk hse HCV HWK HP
                      go_upto_region 34 with fail
                      have hcv : ∀ m, (convert 30 9 (.slice (some ⟨wr.heap.size, 0, none⟩) 256 256)).run Try.prog (w6.drewN m) = .ok (.string (strP S3.P k)) (w6.drewN m) := H1.out
                      have hwk : ∀ m, (w6.drewN m).cell? ⟨gw, k, none⟩ = some (.string (strP S3.P k)) := H2.out
                      generalize strP S3.P k = cs at *
                      have b1 : decide ((k : Int) = 0) = false := decide_eq_false (by omega)
                      have b2 : decide ((0 : Int) < (k : Int)) = true := decide_eq_true (by omega)
                      have b3 : ((k : Int) == 0) = false := by simp; omega
                      have b4 : decide ((k : Int) < 1 + (mm : Int) + (sp : Int)) = false := decide_eq_false (by omega)
                      have c1 : ∀ inst, @decide ((k : Int) = 0) inst = false := fun _ => decide_eq_false (by omega)
                      have c2 : ∀ inst, @decide ((0 : Int) < (k : Int)) inst = true := fun _ => decide_eq_true (by omega)
                      have c4 : ∀ inst, @decide ((k : Int) < 1 + (mm : Int) + (sp : Int)) inst = false := fun _ => decide_eq_false (by omega)
                      try simp only [c4]
                      have hS : (convert 30 9 (.slice (some ⟨wr.heap.size, 0, none⟩) 256 256)).run Try.prog w6.drew = .ok (.string cs) w6.drew ∧ w6.drew.cell? ⟨gw, k, none⟩ = some (.string cs) := ⟨hcv 1, hwk 1⟩
                      clear hcv hwk
                      refine wp_region_held (S := fun W' => (convert 30 9 (.slice (some ⟨wr.heap.size, 0, none⟩) 256 256)).run Try.prog W' = .ok (.string cs) W' ∧ W'.cell? ⟨gw, k, none⟩ = some (.string cs)) hmix ?_
                      show wpAnyH _ _ _ _ _ _ _ _ w6.drew
                      refine wpAnyH_take (i := 0) (v := .int .i64 0) rfl (by kernel_rfl) (by kernel_rfl) (by kernel_rfl) (fun _ _ _ h => h) (.inl ⟨by rfl, fun W' hW' => ?_⟩) hS ?_
                      · obtain ⟨q1, q2⟩ := hW'
                        go_simp
                      simp only [Act.put, List.getElem_toArray, List.getElem_cons_succ, List.getElem_cons_zero, List.setIfInBounds_toArray, List.set_cons_succ, List.set_cons_zero]
                      refine wpAnyH_take (i := 1) (v := .bool false) rfl (by kernel_rfl) (by kernel_rfl) (by kernel_rfl) (fun _ _ _ h => h) (.inl ⟨by rfl, fun W' hW' => ?_⟩) hS ?_
                      · obtain ⟨q1, q2⟩ := hW'
                        go_simp
                      simp only [Act.put, List.getElem_toArray, List.getElem_cons_succ, List.getElem_cons_zero, List.setIfInBounds_toArray, List.set_cons_succ, List.set_cons_zero]
                      refine wpAnyH_take (i := 2) (v := .bool false) rfl (by kernel_rfl) (by kernel_rfl) (by kernel_rfl) (fun _ _ _ h => h) (.inl ⟨by rfl, fun W' hW' => ?_⟩) hS ?_
                      · obtain ⟨q1, q2⟩ := hW'
                        go_simp
                      simp only [Act.put, List.getElem_toArray, List.getElem_cons_succ, List.getElem_cons_zero, List.setIfInBounds_toArray, List.set_cons_succ, List.set_cons_zero]
                      refine wpAnyH_take (i := 3) (v := .int .i64 (k : Int)) rfl (by kernel_rfl) (by kernel_rfl) (by kernel_rfl) (fun _ _ _ h => h) (.inl ⟨by rfl, fun W' hW' => ?_⟩) hS ?_
                      · obtain ⟨q1, q2⟩ := hW'
                        go_simp
                      simp only [Act.put, List.getElem_toArray, List.getElem_cons_succ, List.getElem_cons_zero, List.setIfInBounds_toArray, List.set_cons_succ, List.set_cons_zero]
                      refine wpAnyH_take (i := 4) (v := .bool false) rfl (by kernel_rfl) (by kernel_rfl) (by kernel_rfl) (fun _ _ _ h => h) (.inl ⟨by rfl, fun W' hW' => ?_⟩) hS ?_
                      · obtain ⟨q1, q2⟩ := hW'
                        go_simp
                      simp only [Act.put, List.getElem_toArray, List.getElem_cons_succ, List.getElem_cons_zero, List.setIfInBounds_toArray, List.set_cons_succ, List.set_cons_zero]
                      refine wpAnyH_take (i := 5) (v := .bool false) rfl (by kernel_rfl) (by kernel_rfl) (by kernel_rfl) (fun _ _ _ h => h) (.inl ⟨by rfl, fun W' hW' => ?_⟩) hS ?_
                      · obtain ⟨q1, q2⟩ := hW'
                        go_simp
                      simp only [Act.put, List.getElem_toArray, List.getElem_cons_succ, List.getElem_cons_zero, List.setIfInBounds_toArray, List.set_cons_succ, List.set_cons_zero]
                      refine wpAnyH_take (i := 6) (v := undef) rfl (by kernel_rfl) (by kernel_rfl) (by kernel_rfl) (fun _ _ _ h => h) (.inr ⟨by rfl, rfl⟩) hS ?_
                      simp only [Act.put, List.getElem_toArray, List.getElem_cons_succ, List.getElem_cons_zero, List.setIfInBounds_toArray, List.set_cons_succ, List.set_cons_zero]
                      refine wpAnyH_take (i := 7) (v := undef) rfl (by kernel_rfl) (by kernel_rfl) (by kernel_rfl) (fun _ _ _ h => h) (.inr ⟨by rfl, rfl⟩) hS ?_
                      simp only [Act.put, List.getElem_toArray, List.getElem_cons_succ, List.getElem_cons_zero, List.setIfInBounds_toArray, List.set_cons_succ, List.set_cons_zero]
                      refine wpAnyH_take (i := 8) (v := undef) rfl (by kernel_rfl) (by kernel_rfl) (by kernel_rfl) (fun _ _ _ h => h) (.inr ⟨by rfl, rfl⟩) hS ?_
                      simp only [Act.put, List.getElem_toArray, List.getElem_cons_succ, List.getElem_cons_zero, List.setIfInBounds_toArray, List.set_cons_succ, List.set_cons_zero]
                      refine wpAnyH_take (i := 9) (v := undef) rfl (by kernel_rfl) (by kernel_rfl) (by kernel_rfl) (fun _ _ _ h => h) (.inr ⟨by rfl, rfl⟩) hS ?_
                      simp only [Act.put, List.getElem_toArray, List.getElem_cons_succ, List.getElem_cons_zero, List.setIfInBounds_toArray, List.set_cons_succ, List.set_cons_zero]
                      refine wpAnyH_take (i := 10) (v := undef) rfl (by kernel_rfl) (by kernel_rfl) (by kernel_rfl) (fun _ _ _ h => h) (.inr ⟨by rfl, rfl⟩) hS ?_
                      simp only [Act.put, List.getElem_toArray, List.getElem_cons_succ, List.getElem_cons_zero, List.setIfInBounds_toArray, List.set_cons_succ, List.set_cons_zero]
                      refine wpAnyH_take (i := 11) (v := undef) rfl (by kernel_rfl) (by kernel_rfl) (by kernel_rfl) (fun _ _ _ h => h) (.inr ⟨by rfl, rfl⟩) hS ?_
                      simp only [Act.put, List.getElem_toArray, List.getElem_cons_succ, List.getElem_cons_zero, List.setIfInBounds_toArray, List.set_cons_succ, List.set_cons_zero]
                      refine wpAnyH_take (i := 12) (v := .bool false) rfl (by kernel_rfl) (by kernel_rfl) (by kernel_rfl) (fun _ _ _ h => h) (.inl ⟨by rfl, fun W' hW' => ?_⟩) hS ?_
                      · obtain ⟨q1, q2⟩ := hW'
                        go_simp
                      simp only [Act.put, List.getElem_toArray, List.getElem_cons_succ, List.getElem_cons_zero, List.setIfInBounds_toArray, List.set_cons_succ, List.set_cons_zero]
                      refine wpAnyH_take (i := 13) (v := .bool false) rfl (by kernel_rfl) (by kernel_rfl) (by kernel_rfl) (fun _ _ _ h => h) (.inl ⟨by rfl, fun W' hW' => ?_⟩) hS ?_
                      · obtain ⟨q1, q2⟩ := hW'
                        go_simp
                      simp only [Act.put, List.getElem_toArray, List.getElem_cons_succ, List.getElem_cons_zero, List.setIfInBounds_toArray, List.set_cons_succ, List.set_cons_zero]
                      refine wpAnyH_take (i := 14) (v := .bool false) rfl (by kernel_rfl) (by kernel_rfl) (by kernel_rfl) (fun _ _ _ h => h) (.inl ⟨by rfl, fun W' hW' => ?_⟩) hS ?_
                      · obtain ⟨q1, q2⟩ := hW'
                        go_simp
                      simp only [Act.put, List.getElem_toArray, List.getElem_cons_succ, List.getElem_cons_zero, List.setIfInBounds_toArray, List.set_cons_succ, List.set_cons_zero]
                      refine wpAnyH_take (i := 15) (v := .int .i64 (k : Int)) rfl (by kernel_rfl) (by kernel_rfl) (by kernel_rfl) (fun _ _ _ h => h) (.inl ⟨by rfl, fun W' hW' => ?_⟩) hS ?_
                      · obtain ⟨q1, q2⟩ := hW'
                        go_simp
                      simp only [Act.put, List.getElem_toArray, List.getElem_cons_succ, List.getElem_cons_zero, List.setIfInBounds_toArray, List.set_cons_succ, List.set_cons_zero]
                      refine wpAnyH_take (i := 16) (v := .bool true) rfl (by kernel_rfl) (by kernel_rfl) (by kernel_rfl) (fun _ _ _ h => h) (.inl ⟨by rfl, fun W' hW' => ?_⟩) hS ?_
                      · obtain ⟨q1, q2⟩ := hW'
                        go_simp <;> omega
                      simp only [Act.put, List.getElem_toArray, List.getElem_cons_succ, List.getElem_cons_zero, List.setIfInBounds_toArray, List.set_cons_succ, List.set_cons_zero]
                      refine wpAnyH_take (i := 17) (v := .bool true) rfl (by kernel_rfl) (by kernel_rfl) (by kernel_rfl) (fun _ _ _ h => h) (.inl ⟨by rfl, fun W' hW' => ?_⟩) hS ?_
                      · obtain ⟨q1, q2⟩ := hW'
                        go_simp
                      simp only [Act.put, List.getElem_toArray, List.getElem_cons_succ, List.getElem_cons_zero, List.setIfInBounds_toArray, List.set_cons_succ, List.set_cons_zero]
                      refine wpAnyH_take (i := 18) (v := .int .i64 0) rfl (by kernel_rfl) (by kernel_rfl) (by kernel_rfl) (fun _ _ _ h => h) (.inl ⟨by rfl, fun W' hW' => ?_⟩) hS ?_
                      · obtain ⟨q1, q2⟩ := hW'
                        go_simp
                      simp only [Act.put, List.getElem_toArray, List.getElem_cons_succ, List.getElem_cons_zero, List.setIfInBounds_toArray, List.set_cons_succ, List.set_cons_zero]
                      refine wpAnyH_take (i := 19) (v := .bool true) rfl (by kernel_rfl) (by kernel_rfl) (by kernel_rfl) (fun _ _ _ h => h) (.inl ⟨by rfl, fun W' hW' => ?_⟩) hS ?_
                      · obtain ⟨q1, q2⟩ := hW'
                        go_simp
                      simp only [Act.put, List.getElem_toArray, List.getElem_cons_succ, List.getElem_cons_zero, List.setIfInBounds_toArray, List.set_cons_succ, List.set_cons_zero]
                      refine wpAnyH_take (i := 20) (v := .bool true) rfl (by kernel_rfl) (by kernel_rfl) (by kernel_rfl) (fun _ _ _ h => h) (.inl ⟨by rfl, fun W' hW' => ?_⟩) hS ?_
                      · obtain ⟨q1, q2⟩ := hW'
                        go_simp
                      simp only [Act.put, List.getElem_toArray, List.getElem_cons_succ, List.getElem_cons_zero, List.setIfInBounds_toArray, List.set_cons_succ, List.set_cons_zero]
                      refine wpAnyH_take (i := 21) (v := .bool false) rfl (by kernel_rfl) (by kernel_rfl) (by kernel_rfl) (fun _ _ _ h => h) (.inl ⟨by rfl, fun W' hW' => ?_⟩) hS ?_
                      · obtain ⟨q1, q2⟩ := hW'
                        go_simp
                      simp only [Act.put, List.getElem_toArray, List.getElem_cons_succ, List.getElem_cons_zero, List.setIfInBounds_toArray, List.set_cons_succ, List.set_cons_zero]
                      refine wpAnyH_take (i := 22) (v := .bool false) rfl (by kernel_rfl) (by kernel_rfl) (by kernel_rfl) (fun _ _ _ h => h) (.inl ⟨by rfl, fun W' hW' => ?_⟩) hS ?_
                      · obtain ⟨q1, q2⟩ := hW'
                        go_simp
                      simp only [Act.put, List.getElem_toArray, List.getElem_cons_succ, List.getElem_cons_zero, List.setIfInBounds_toArray, List.set_cons_succ, List.set_cons_zero]
                      refine wpAnyH_take (i := 23) (v := .bool true) rfl (by kernel_rfl) (by kernel_rfl) (by kernel_rfl) (fun _ _ _ h => h) (.inl ⟨by rfl, fun W' hW' => ?_⟩) hS ?_
                      · obtain ⟨q1, q2⟩ := hW'
                        go_simp
                      simp only [Act.put, List.getElem_toArray, List.getElem_cons_succ, List.getElem_cons_zero, List.setIfInBounds_toArray, List.set_cons_succ, List.set_cons_zero]
                      refine wpAnyH_take (i := 24) (v := .bool true) rfl (by kernel_rfl) (by kernel_rfl) (by kernel_rfl) (fun _ _ _ h => h) (.inl ⟨by rfl, fun W' hW' => ?_⟩) hS ?_
                      · obtain ⟨q1, q2⟩ := hW'
                        go_simp
                      simp only [Act.put, List.getElem_toArray, List.getElem_cons_succ, List.getElem_cons_zero, List.setIfInBounds_toArray, List.set_cons_succ, List.set_cons_zero]
                      refine wpAnyH_take (i := 25) (v := .bool true) rfl (by kernel_rfl) (by kernel_rfl) (by kernel_rfl) (fun _ _ _ h => h) (.inl ⟨by rfl, fun W' hW' => ?_⟩) hS ?_
                      · obtain ⟨q1, q2⟩ := hW'
                        go_simp
                      simp only [Act.put, List.getElem_toArray, List.getElem_cons_succ, List.getElem_cons_zero, List.setIfInBounds_toArray, List.set_cons_succ, List.set_cons_zero]
                      refine wpAnyH_take (i := 26) (v := .slice (some ⟨wr.heap.size, 0, none⟩) 256 256) rfl (by kernel_rfl) (by kernel_rfl) (by kernel_rfl) (fun _ _ _ h => h) (.inl ⟨by rfl, fun W' hW' => ?_⟩) hS ?_
                      · obtain ⟨q1, q2⟩ := hW'
                        go_simp
                      simp only [Act.put, List.getElem_toArray, List.getElem_cons_succ, List.getElem_cons_zero, List.setIfInBounds_toArray, List.set_cons_succ, List.set_cons_zero]
                      refine wpAnyH_take (i := 27) (v := .string cs) rfl (by kernel_rfl) (by kernel_rfl) (by kernel_rfl) (fun _ _ _ h => h) (.inl ⟨by rfl, fun W' hW' => ?_⟩) hS ?_
                      · obtain ⟨q1, q2⟩ := hW'
                        go_simp
                      simp only [Act.put, List.getElem_toArray, List.getElem_cons_succ, List.getElem_cons_zero, List.setIfInBounds_toArray, List.set_cons_succ, List.set_cons_zero]
                      refine wpAnyH_take (i := 28) (v := .slice (some ⟨gw, 0, none⟩) n cw) rfl (by kernel_rfl) (by kernel_rfl) (by kernel_rfl) (fun _ _ _ h => h) (.inl ⟨by rfl, fun W' hW' => ?_⟩) hS ?_
                      · obtain ⟨q1, q2⟩ := hW'
                        go_simp
                      simp only [Act.put, List.getElem_toArray, List.getElem_cons_succ, List.getElem_cons_zero, List.setIfInBounds_toArray, List.set_cons_succ, List.set_cons_zero]
                      refine wpAnyH_take (i := 29) (v := .int .i64 (k : Int)) rfl (by kernel_rfl) (by kernel_rfl) (by kernel_rfl) (fun _ _ _ h => h) (.inl ⟨by rfl, fun W' hW' => ?_⟩) hS ?_
                      · obtain ⟨q1, q2⟩ := hW'
                        go_simp
                      simp only [Act.put, List.getElem_toArray, List.getElem_cons_succ, List.getElem_cons_zero, List.setIfInBounds_toArray, List.set_cons_succ, List.set_cons_zero]
                      refine wpAnyH_take (i := 30) (v := .pointer (some ⟨gw, k, none⟩)) rfl (by kernel_rfl) (by kernel_rfl) (by kernel_rfl) (fun _ _ _ h => h) (.inl ⟨by rfl, fun W' hW' => ?_⟩) hS ?_
                      · obtain ⟨q1, q2⟩ := hW'
                        go_simp
                      simp only [Act.put, List.getElem_toArray, List.getElem_cons_succ, List.getElem_cons_zero, List.setIfInBounds_toArray, List.set_cons_succ, List.set_cons_zero]
                      refine wpAnyH_take (i := 31) (v := .string cs) rfl (by kernel_rfl) (by kernel_rfl) (by kernel_rfl) (fun _ _ _ h => h) (.inl ⟨by rfl, fun W' hW' => ?_⟩) hS ?_
                      · obtain ⟨q1, q2⟩ := hW'
                        go_simp
                      simp only [Act.put, List.getElem_toArray, List.getElem_cons_succ, List.getElem_cons_zero, List.setIfInBounds_toArray, List.set_cons_succ, List.set_cons_zero]
                      refine wpAnyH_take (i := 32) (v := .bool false) rfl (by kernel_rfl) (by kernel_rfl) (by kernel_rfl) (fun _ _ _ h => h) (.inl ⟨by rfl, fun W' hW' => ?_⟩) hS ?_
                      · obtain ⟨q1, q2⟩ := hW'
                        go_simp
                      simp only [Act.put, List.getElem_toArray, List.getElem_cons_succ, List.getElem_cons_zero, List.setIfInBounds_toArray, List.set_cons_succ, List.set_cons_zero]
                      refine wpAnyH_take (i := 33) (v := .bool false) rfl (by kernel_rfl) (by kernel_rfl) (by kernel_rfl) (fun _ _ _ h => h) (.inl ⟨by rfl, fun W' hW' => ?_⟩) hS ?_
                      · obtain ⟨q1, q2⟩ := hW'
                        go_simp
                      simp only [Act.put, List.getElem_toArray, List.getElem_cons_succ, List.getElem_cons_zero, List.setIfInBounds_toArray, List.set_cons_succ, List.set_cons_zero]
                      refine wpAnyH_take (i := 34) (v := .bool false) rfl (by kernel_rfl) (by kernel_rfl) (by kernel_rfl) (fun _ _ _ h => h) (.inl ⟨by rfl, fun W' hW' => ?_⟩) hS ?_
                      · obtain ⟨q1, q2⟩ := hW'
                        go_simp
                      simp only [Act.put, List.getElem_toArray, List.getElem_cons_succ, List.getElem_cons_zero, List.setIfInBounds_toArray, List.set_cons_succ, List.set_cons_zero]
                      refine wpAnyH_done (by kernel_rfl) ?_ _
                      go_wp2
                      exact ⟨⟨k + 1, by omega, by go_num, hb6.trans ⟨rfl, rfl, rfl, Nat.le_refl _, fun _ _ => rfl⟩⟩, by simp [RowKit.intOf]; omega⟩
                  · have hpe := HP.out (fun h => by omega) (by omega)
                    have hcv : ∀ m, (convert 30 9 (.slice (some ⟨wr.heap.size, 0, none⟩) 256 256)).run Try.prog (w6.drewN m) = .ok (.string (strP S5.P k)) (w6.drewN m) := HCV.out
                    have hwk : ∀ m, (w6.drewN m).cell? ⟨gw, k, none⟩ = some (.string (strP S3.P k)) := HWK.out
                    have hse : strP S5.P k = strP S3.P k := by unfold strP; rw [hpe]
                    rw [hse] at hcv
                    have H1 : Hid _ := hcv
                    have H2 : Hid _ := hwk
                    clear hpe hcv hwk hse HCV HWK HP
                    go_upto_region 34 with fail
                    have hcv : ∀ m, (convert 30 9 (.slice (some ⟨wr.heap.size, 0, none⟩) 256 256)).run Try.prog (w6.drewN m) = .ok (.string (strP S3.P k)) (w6.drewN m) := H1.out
                    have hwk : ∀ m, (w6.drewN m).cell? ⟨gw, k, none⟩ = some (.string (strP S3.P k)) := H2.out
                    generalize strP S3.P k = cs at *
                    have b1 : decide ((k : Int) = 0) = false := decide_eq_false (by omega)
                    have b2 : decide ((0 : Int) < (k : Int)) = true := decide_eq_true (by omega)
                    have b3 : ((k : Int) == 0) = false := by simp; omega
                    have c1 : ∀ inst, @decide ((k : Int) = 0) inst = false := fun _ => decide_eq_false (by omega)
                    have c2 : ∀ inst, @decide ((0 : Int) < (k : Int)) inst = true := fun _ => decide_eq_true (by omega)
                    have hS : (convert 30 9 (.slice (some ⟨wr.heap.size, 0, none⟩) 256 256)).run Try.prog w6.drew = .ok (.string cs) w6.drew ∧ w6.drew.cell? ⟨gw, k, none⟩ = some (.string cs) := ⟨hcv 1, hwk 1⟩
                    clear hcv hwk
                    refine wp_region_held (S := fun W' => (convert 30 9 (.slice (some ⟨wr.heap.size, 0, none⟩) 256 256)).run Try.prog W' = .ok (.string cs) W' ∧ W'.cell? ⟨gw, k, none⟩ = some (.string cs)) hmix ?_
                    show wpAnyH _ _ _ _ _ _ _ _ w6.drew
                    refine wpAnyH_take (i := 0) (v := .int .i64 0) rfl (by kernel_rfl) (by kernel_rfl) (by kernel_rfl) (fun _ _ _ h => h) (.inl ⟨by rfl, fun W' hW' => ?_⟩) hS ?_
                    · obtain ⟨q1, q2⟩ := hW'
                      go_simp
                    simp only [Act.put, List.getElem_toArray, List.getElem_cons_succ, List.getElem_cons_zero, List.setIfInBounds_toArray, List.set_cons_succ, List.set_cons_zero]
                    refine wpAnyH_take (i := 1) (v := .bool false) rfl (by kernel_rfl) (by kernel_rfl) (by kernel_rfl) (fun _ _ _ h => h) (.inl ⟨by rfl, fun W' hW' => ?_⟩) hS ?_
                    · obtain ⟨q1, q2⟩ := hW'
                      go_simp
                    simp only [Act.put, List.getElem_toArray, List.getElem_cons_succ, List.getElem_cons_zero, List.setIfInBounds_toArray, List.set_cons_succ, List.set_cons_zero]
                    refine wpAnyH_take (i := 2) (v := .bool false) rfl (by kernel_rfl) (by kernel_rfl) (by kernel_rfl) (fun _ _ _ h => h) (.inl ⟨by rfl, fun W' hW' => ?_⟩) hS ?_
                    · obtain ⟨q1, q2⟩ := hW'
                      go_simp
                    simp only [Act.put, List.getElem_toArray, List.getElem_cons_succ, List.getElem_cons_zero, List.setIfInBounds_toArray, List.set_cons_succ, List.set_cons_zero]
                    refine wpAnyH_take (i := 3) (v := .int .i64 (k : Int)) rfl (by kernel_rfl) (by kernel_rfl) (by kernel_rfl) (fun _ _ _ h => h) (.inl ⟨by rfl, fun W' hW' => ?_⟩) hS ?_
                    · obtain ⟨q1, q2⟩ := hW'
                      go_simp
                    simp only [Act.put, List.getElem_toArray, List.getElem_cons_succ, List.getElem_cons_zero, List.setIfInBounds_toArray, List.set_cons_succ, List.set_cons_zero]
                    refine wpAnyH_take (i := 4) (v := .bool false) rfl (by kernel_rfl) (by kernel_rfl) (by kernel_rfl) (fun _ _ _ h => h) (.inl ⟨by rfl, fun W' hW' => ?_⟩) hS ?_
                    · obtain ⟨q1, q2⟩ := hW'
                      go_simp
                    simp only [Act.put, List.getElem_toArray, List.getElem_cons_succ, List.getElem_cons_zero, List.setIfInBounds_toArray, List.set_cons_succ, List.set_cons_zero]
                    refine wpAnyH_take (i := 5) (v := .bool false) rfl (by kernel_rfl) (by kernel_rfl) (by kernel_rfl) (fun _ _ _ h => h) (.inl ⟨by rfl, fun W' hW' => ?_⟩) hS ?_
                    · obtain ⟨q1, q2⟩ := hW'
                      go_simp
                    simp only [Act.put, List.getElem_toArray, List.getElem_cons_succ, List.getElem_cons_zero, List.setIfInBounds_toArray, List.set_cons_succ, List.set_cons_zero]
                    refine wpAnyH_take (i := 6) (v := undef) rfl (by kernel_rfl) (by kernel_rfl) (by kernel_rfl) (fun _ _ _ h => h) (.inr ⟨by rfl, rfl⟩) hS ?_
                    simp only [Act.put, List.getElem_toArray, List.getElem_cons_succ, List.getElem_cons_zero, List.setIfInBounds_toArray, List.set_cons_succ, List.set_cons_zero]
                    refine wpAnyH_take (i := 7) (v := undef) rfl (by kernel_rfl) (by kernel_rfl) (by kernel_rfl) (fun _ _ _ h => h) (.inr ⟨by rfl, rfl⟩) hS ?_
                    simp only [Act.put, List.getElem_toArray, List.getElem_cons_succ, List.getElem_cons_zero, List.setIfInBounds_toArray, List.set_cons_succ, List.set_cons_zero]
                    refine wpAnyH_take (i := 8) (v := undef) rfl (by kernel_rfl) (by kernel_rfl) (by kernel_rfl) (fun _ _ _ h => h) (.inr ⟨by rfl, rfl⟩) hS ?_
                    simp only [Act.put, List.getElem_toArray, List.getElem_cons_succ, List.getElem_cons_zero, List.setIfInBounds_toArray, List.set_cons_succ, List.set_cons_zero]
                    refine wpAnyH_take (i := 9) (v := undef) rfl (by kernel_rfl) (by kernel_rfl) (by kernel_rfl) (fun _ _ _ h => h) (.inr ⟨by rfl, rfl⟩) hS ?_
                    simp only [Act.put, List.getElem_toArray, List.getElem_cons_succ, List.getElem_cons_zero, List.setIfInBounds_toArray, List.set_cons_succ, List.set_cons_zero]
                    refine wpAnyH_take (i := 10) (v := undef) rfl (by kernel_rfl) (by kernel_rfl) (by kernel_rfl) (fun _ _ _ h => h) (.inr ⟨by rfl, rfl⟩) hS ?_
                    simp only [Act.put, List.getElem_toArray, List.getElem_cons_succ, List.getElem_cons_zero, List.setIfInBounds_toArray, List.set_cons_succ, List.set_cons_zero]
                    refine wpAnyH_take (i := 11) (v := undef) rfl (by kernel_rfl) (by kernel_rfl) (by kernel_rfl) (fun _ _ _ h => h) (.inr ⟨by rfl, rfl⟩) hS ?_
                    simp only [Act.put, List.getElem_toArray, List.getElem_cons_succ, List.getElem_cons_zero, List.setIfInBounds_toArray, List.set_cons_succ, List.set_cons_zero]
                    refine wpAnyH_take (i := 12) (v := .bool false) rfl (by kernel_rfl) (by kernel_rfl) (by kernel_rfl) (fun _ _ _ h => h) (.inl ⟨by rfl, fun W' hW' => ?_⟩) hS ?_
                    · obtain ⟨q1, q2⟩ := hW'
                      go_simp
                    simp only [Act.put, List.getElem_toArray, List.getElem_cons_succ, List.getElem_cons_zero, List.setIfInBounds_toArray, List.set_cons_succ, List.set_cons_zero]
                    refine wpAnyH_take (i := 13) (v := .bool false) rfl (by kernel_rfl) (by kernel_rfl) (by kernel_rfl) (fun _ _ _ h => h) (.inl ⟨by rfl, fun W' hW' => ?_⟩) hS ?_
                    · obtain ⟨q1, q2⟩ := hW'
                      go_simp
                    simp only [Act.put, List.getElem_toArray, List.getElem_cons_succ, List.getElem_cons_zero, List.setIfInBounds_toArray, List.set_cons_succ, List.set_cons_zero]
                    refine wpAnyH_take (i := 14) (v := .bool false) rfl (by kernel_rfl) (by kernel_rfl) (by kernel_rfl) (fun _ _ _ h => h) (.inl ⟨by rfl, fun W' hW' => ?_⟩) hS ?_
                    · obtain ⟨q1, q2⟩ := hW'
                      go_simp
                    simp only [Act.put, List.getElem_toArray, List.getElem_cons_succ, List.getElem_cons_zero, List.setIfInBounds_toArray, List.set_cons_succ, List.set_cons_zero]
                    refine wpAnyH_take (i := 15) (v := .int .i64 (k : Int)) rfl (by kernel_rfl) (by kernel_rfl) (by kernel_rfl) (fun _ _ _ h => h) (.inl ⟨by rfl, fun W' hW' => ?_⟩) hS ?_
                    · obtain ⟨q1, q2⟩ := hW'
                      go_simp
                    simp only [Act.put, List.getElem_toArray, List.getElem_cons_succ, List.getElem_cons_zero, List.setIfInBounds_toArray, List.set_cons_succ, List.set_cons_zero]
                    refine wpAnyH_take (i := 16) (v := .bool true) rfl (by kernel_rfl) (by kernel_rfl) (by kernel_rfl) (fun _ _ _ h => h) (.inl ⟨by rfl, fun W' hW' => ?_⟩) hS ?_
                    · obtain ⟨q1, q2⟩ := hW'
                      go_simp <;> omega
                    simp only [Act.put, List.getElem_toArray, List.getElem_cons_succ, List.getElem_cons_zero, List.setIfInBounds_toArray, List.set_cons_succ, List.set_cons_zero]
                    refine wpAnyH_take (i := 17) (v := .bool true) rfl (by kernel_rfl) (by kernel_rfl) (by kernel_rfl) (fun _ _ _ h => h) (.inl ⟨by rfl, fun W' hW' => ?_⟩) hS ?_
                    · obtain ⟨q1, q2⟩ := hW'
                      go_simp
                    simp only [Act.put, List.getElem_toArray, List.getElem_cons_succ, List.getElem_cons_zero, List.setIfInBounds_toArray, List.set_cons_succ, List.set_cons_zero]
                    refine wpAnyH_take (i := 18) (v := .int .i64 0) rfl (by kernel_rfl) (by kernel_rfl) (by kernel_rfl) (fun _ _ _ h => h) (.inl ⟨by rfl, fun W' hW' => ?_⟩) hS ?_
                    · obtain ⟨q1, q2⟩ := hW'
                      go_simp
                    simp only [Act.put, List.getElem_toArray, List.getElem_cons_succ, List.getElem_cons_zero, List.setIfInBounds_toArray, List.set_cons_succ, List.set_cons_zero]
                    refine wpAnyH_take (i := 19) (v := .bool true) rfl (by kernel_rfl) (by kernel_rfl) (by kernel_rfl) (fun _ _ _ h => h) (.inl ⟨by rfl, fun W' hW' => ?_⟩) hS ?_
                    · obtain ⟨q1, q2⟩ := hW'
                      go_simp
                    simp only [Act.put, List.getElem_toArray, List.getElem_cons_succ, List.getElem_cons_zero, List.setIfInBounds_toArray, List.set_cons_succ, List.set_cons_zero]
                    refine wpAnyH_take (i := 20) (v := .bool true) rfl (by kernel_rfl) (by kernel_rfl) (by kernel_rfl) (fun _ _ _ h => h) (.inl ⟨by rfl, fun W' hW' => ?_⟩) hS ?_
                    · obtain ⟨q1, q2⟩ := hW'
                      go_simp
                    simp only [Act.put, List.getElem_toArray, List.getElem_cons_succ, List.getElem_cons_zero, List.setIfInBounds_toArray, List.set_cons_succ, List.set_cons_zero]
                    refine wpAnyH_take (i := 21) (v := .bool false) rfl (by kernel_rfl) (by kernel_rfl) (by kernel_rfl) (fun _ _ _ h => h) (.inl ⟨by rfl, fun W' hW' => ?_⟩) hS ?_
                    · obtain ⟨q1, q2⟩ := hW'
                      go_simp
                    simp only [Act.put, List.getElem_toArray, List.getElem_cons_succ, List.getElem_cons_zero, List.setIfInBounds_toArray, List.set_cons_succ, List.set_cons_zero]
                    refine wpAnyH_take (i := 22) (v := .bool false) rfl (by kernel_rfl) (by kernel_rfl) (by kernel_rfl) (fun _ _ _ h => h) (.inl ⟨by rfl, fun W' hW' => ?_⟩) hS ?_
                    · obtain ⟨q1, q2⟩ := hW'
                      go_simp
                    simp only [Act.put, List.getElem_toArray, List.getElem_cons_succ, List.getElem_cons_zero, List.setIfInBounds_toArray, List.set_cons_succ, List.set_cons_zero]
                    refine wpAnyH_take (i := 23) (v := .bool true) rfl (by kernel_rfl) (by kernel_rfl) (by kernel_rfl) (fun _ _ _ h => h) (.inl ⟨by rfl, fun W' hW' => ?_⟩) hS ?_
                    · obtain ⟨q1, q2⟩ := hW'
                      go_simp
                    simp only [Act.put, List.getElem_toArray, List.getElem_cons_succ, List.getElem_cons_zero, List.setIfInBounds_toArray, List.set_cons_succ, List.set_cons_zero]
                    refine wpAnyH_take (i := 24) (v := .bool true) rfl (by kernel_rfl) (by kernel_rfl) (by kernel_rfl) (fun _ _ _ h => h) (.inl ⟨by rfl, fun W' hW' => ?_⟩) hS ?_
                    · obtain ⟨q1, q2⟩ := hW'
                      go_simp
                    simp only [Act.put, List.getElem_toArray, List.getElem_cons_succ, List.getElem_cons_zero, List.setIfInBounds_toArray, List.set_cons_succ, List.set_cons_zero]
                    refine wpAnyH_take (i := 25) (v := .bool true) rfl (by kernel_rfl) (by kernel_rfl) (by kernel_rfl) (fun _ _ _ h => h) (.inl ⟨by rfl, fun W' hW' => ?_⟩) hS ?_
                    · obtain ⟨q1, q2⟩ := hW'
                      go_simp
                    simp only [Act.put, List.getElem_toArray, List.getElem_cons_succ, List.getElem_cons_zero, List.setIfInBounds_toArray, List.set_cons_succ, List.set_cons_zero]
                    refine wpAnyH_take (i := 26) (v := .slice (some ⟨wr.heap.size, 0, none⟩) 256 256) rfl (by kernel_rfl) (by kernel_rfl) (by kernel_rfl) (fun _ _ _ h => h) (.inl ⟨by rfl, fun W' hW' => ?_⟩) hS ?_
                    · obtain ⟨q1, q2⟩ := hW'
                      go_simp
                    simp only [Act.put, List.getElem_toArray, List.getElem_cons_succ, List.getElem_cons_zero, List.setIfInBounds_toArray, List.set_cons_succ, List.set_cons_zero]
                    refine wpAnyH_take (i := 27) (v := .string cs) rfl (by kernel_rfl) (by kernel_rfl) (by kernel_rfl) (fun _ _ _ h => h) (.inl ⟨by rfl, fun W' hW' => ?_⟩) hS ?_
                    · obtain ⟨q1, q2⟩ := hW'
                      go_simp
                    simp only [Act.put, List.getElem_toArray, List.getElem_cons_succ, List.getElem_cons_zero, List.setIfInBounds_toArray, List.set_cons_succ, List.set_cons_zero]
                    refine wpAnyH_take (i := 28) (v := .slice (some ⟨gw, 0, none⟩) n cw) rfl (by kernel_rfl) (by kernel_rfl) (by kernel_rfl) (fun _ _ _ h => h) (.inl ⟨by rfl, fun W' hW' => ?_⟩) hS ?_
                    · obtain ⟨q1, q2⟩ := hW'
                      go_simp
                    simp only [Act.put, List.getElem_toArray, List.getElem_cons_succ, List.getElem_cons_zero, List.setIfInBounds_toArray, List.set_cons_succ, List.set_cons_zero]
                    refine wpAnyH_take (i := 29) (v := .int .i64 (k : Int)) rfl (by kernel_rfl) (by kernel_rfl) (by kernel_rfl) (fun _ _ _ h => h) (.inl ⟨by rfl, fun W' hW' => ?_⟩) hS ?_
                    · obtain ⟨q1, q2⟩ := hW'
                      go_simp
                    simp only [Act.put, List.getElem_toArray, List.getElem_cons_succ, List.getElem_cons_zero, List.setIfInBounds_toArray, List.set_cons_succ, List.set_cons_zero]
                    refine wpAnyH_take (i := 30) (v := .pointer (some ⟨gw, k, none⟩)) rfl (by kernel_rfl) (by kernel_rfl) (by kernel_rfl) (fun _ _ _ h => h) (.inl ⟨by rfl, fun W' hW' => ?_⟩) hS ?_
                    · obtain ⟨q1, q2⟩ := hW'
                      go_simp
                    simp only [Act.put, List.getElem_toArray, List.getElem_cons_succ, List.getElem_cons_zero, List.setIfInBounds_toArray, List.set_cons_succ, List.set_cons_zero]
                    refine wpAnyH_take (i := 31) (v := .string cs) rfl (by kernel_rfl) (by kernel_rfl) (by kernel_rfl) (fun _ _ _ h => h) (.inl ⟨by rfl, fun W' hW' => ?_⟩) hS ?_
                    · obtain ⟨q1, q2⟩ := hW'
                      go_simp
                    simp only [Act.put, List.getElem_toArray, List.getElem_cons_succ, List.getElem_cons_zero, List.setIfInBounds_toArray, List.set_cons_succ, List.set_cons_zero]
                    refine wpAnyH_take (i := 32) (v := .bool false) rfl (by kernel_rfl) (by kernel_rfl) (by kernel_rfl) (fun _ _ _ h => h) (.inl ⟨by rfl, fun W' hW' => ?_⟩) hS ?_
                    · obtain ⟨q1, q2⟩ := hW'
                      go_simp
                    simp only [Act.put, List.getElem_toArray, List.getElem_cons_succ, List.getElem_cons_zero, List.setIfInBounds_toArray, List.set_cons_succ, List.set_cons_zero]
                    refine wpAnyH_take (i := 33) (v := .bool false) rfl (by kernel_rfl) (by kernel_rfl) (by kernel_rfl) (fun _ _ _ h => h) (.inl ⟨by rfl, fun W' hW' => ?_⟩) hS ?_
                    · obtain ⟨q1, q2⟩ := hW'
                      go_simp
                    simp only [Act.put, List.getElem_toArray, List.getElem_cons_succ, List.getElem_cons_zero, List.setIfInBounds_toArray, List.set_cons_succ, List.set_cons_zero]
                    refine wpAnyH_take (i := 34) (v := .bool false) rfl (by kernel_rfl) (by kernel_rfl) (by kernel_rfl) (fun _ _ _ h => h) (.inl ⟨by rfl, fun W' hW' => ?_⟩) hS ?_
                    · obtain ⟨q1, q2⟩ := hW'
                      go_simp
                    simp only [Act.put, List.getElem_toArray, List.getElem_cons_succ, List.getElem_cons_zero, List.setIfInBounds_toArray, List.set_cons_succ, List.set_cons_zero]
                    refine wpAnyH_done (by kernel_rfl) ?_ _
                    go_wp2
                    exact ⟨⟨k + 1, by omega, by go_num, hb6.trans ⟨rfl, rfl, rfl, Nat.le_refl _, fun _ _ => rfl⟩⟩, by simp [RowKit.intOf]; omega⟩
              · have hps := hp5.on hbw2
                go_wp2_with fail
                exact ⟨⟨j + 1, hn, t5, X5, S5, _, _, 0, by omega, by go_num, rfl, rfl, hps, by simp, by omega⟩, by simp [RowKit.intOf]; omega⟩
          · have N16 := save_palong w wr X3 p t q n S3 half b rs3 hpk (by omega) s ua uc (by omega) hfit
            go_wp2_with fail
            refine N16.mono ?_
            rintro e w5 ⟨rfl, hp5, hb5⟩
            have hc5 : ∀ i, i < n → w5.cell? ⟨gw, i, none⟩ = some (.string (strP S3.P i)) := fun i hi => by
              rw [← HC.out i hi]
              simp only [World.cell?, hb5.block gw hgl]
            have HC5 : Hid _ := hc5
            clear hc5 hpk HC N16
            go_wp2_with fail
            go_loopw [20] (fun i wr => ∃ (k : Nat), k ≤ n ∧ i = .int .i64 k ∧ Below w5.heap.size w5 wr) (fun i _ => n - (RowKit.intOf i).toNat)
            case atStart => exact ⟨0, by omega, rfl, Below.refl _ _⟩
            case round =>
              obtain ⟨k, hk, rfl, hbw2⟩ := hrel
              by_cases hkn : k < n
              · have hpk := hp5.on hbw2
                have N32 := read0 wr X3 q n S3 k hkn hpk.ps.dn hpk.ps.d
                have hpkl : (pageOf S3.P k).length = 256 := pageOf_length _ n _ hpk.ps.d.len hkn
                have ht0 := hpk.ps.pp.t
                go_wp2_with fail
                refine N32.mono ?_
                rintro e w6 ⟨rfl, hpg⟩
                have hb6 : Below w5.heap.size w5 w6 := hbw2.trans (hpg.below.mono hbw2.size)
                obtain ⟨mm, hmm⟩ : ∃ mm : Nat, mm = (half) * sp := ⟨_, rfl⟩
                have hmul : ((half : Nat) : Int) * (sp : Int) = (mm : Int) := by rw [hmm]; simp
                have hmb : mm ≤ 60 := by
                  rcases (show (half) = 0 ∨ (half) = 1 by omega) with h | h
                  · rw [hmm, h]; omega
                  · rw [hmm, h]; omega
                have hfst : Hid (firstN n (half) = 1 + mm) := by
                  have : firstN n (half) = 1 + mm := by unfold firstN; rw [HSP.out, hmm]
                  exact this
                have hh2l : (half) ≤ 1 := by omega
                clear hmm
                have hpage : ¬ (3 = (0 : Int) ∧ 1 + mm ≤ k ∧ k < 1 + mm + sp) → 0 < k → pageOf S3.P k = pageOf S3.P k := fun hno hk0 => by
                  rfl
                have HP : Hid _ := hpage
                clear hpage
                by_cases hk0 : k = 0
                · subst hk0
                  have hb0 : ∀ m, (w6.drewN m).cell? ⟨wr.heap.size, 0, none⟩ = some (.int .u8 (half : Int)) := fun m => by
                    show w6.cell? ⟨wr.heap.size, 0, none⟩ = _
                    rw [cell_of_row _ _ _ _ _ _ hpg.block]
                    have hpt : (pageOf S3.P 0)[0]? = some (UInt8.ofNat half) := by rw [pageOf_get _ _ _ (by omega)]; exact ht0
                    simp only [byteCells, List.getElem?_toArray, List.getElem?_map, hpt, Option.map_some]
                    congr 2
                    rcases (show half = 0 ∨ half = 1 by omega) with h | h <;> subst h <;> rfl
                  have i1 : ¬ (1 : Int) + (mm : Int) ≤ 0 := by omega
                  have HB0 : Hid _ := hb0
                  clear hb0 ht0 hpg hpk N32
                  go_upto_region 34 with fail
                  have hb0 : ∀ m, (w6.drewN m).cell? ⟨wr.heap.size, 0, none⟩ = some (.int .u8 (half : Int)) := HB0.out
                  have h256 : (half : Int) < 256 := by omega
                  go_quiet (fail)
                  go_wp2
                  exact ⟨⟨0 + 1, by omega, by go_num, hb6.trans ⟨rfl, rfl, rfl, Nat.le_refl _, fun _ _ => rfl⟩⟩, by simp [RowKit.intOf]; omega⟩
                · have hcv : ∀ m, (convert 30 9 (.slice (some ⟨wr.heap.size, 0, none⟩) 256 256)).run Try.prog (w6.drewN m) = .ok (.string (strP S3.P k)) (w6.drewN m) := fun m => by
                    apply convA
                    have := sl_range (c := 256) (range_of_block (w := w6.drewN m) hpg.block) (by omega)
                    rwa [hpkl] at this
                  have hwk : ∀ m, (w6.drewN m).cell? ⟨gw, k, none⟩ = some (.string (strP S3.P k)) := fun m => by
                    show w6.cell? ⟨gw, k, none⟩ = _
                    rw [← HC5.out k hkn]
                    exact hb6.cell (p := ⟨gw, k, none⟩) (World.block_lt_of_cell? _ _ (HC5.out k hkn))
                  have hki : ¬ (k : Int) = 0 := by omega
                  have hkp : (0 : Int) < (k : Int) := by omega
                  have HCV : Hid _ := hcv
                  have HWK : Hid _ := hwk
                  clear hcv hwk ht0 hpg hpk N32
                  by_cases iA : (1 : Int) + (mm : Int) ≤ (k : Int)
                  · by_cases iB : (k : Int) < 1 + (mm : Int) + (sp : Int)
                    · have hpe := HP.out (fun h => by omega) (by omega)
                      have hcv : ∀ m, (convert 30 9 (.slice (some ⟨wr.heap.size, 0, none⟩) 256 256)).run Try.prog (w6.drewN m) = .ok (.string (strP S3.P k)) (w6.drewN m) := HCV.out
                      have hwk : ∀ m, (w6.drewN m).cell? ⟨gw, k, none⟩ = some (.string (strP S3.P k)) := HWK.out
                      have hse : strP S3.P k = strP S3.P k := by unfold strP; rw [hpe]
                      rw [hse] at hcv
                      have H1 : Hid _ := hcv
                      have H2 : Hid _ := hwk
                      clear hpe hcv hwk hse HCV HWK HP
                      go_upto_region 34 with fail
                      have hcv : ∀ m, (convert 30 9 (.slice (some ⟨wr.heap.size, 0, none⟩) 256 256)).run Try.prog (w6.drewN m) = .ok (.string (strP S3.P k)) (w6.drewN m) := H1.out
                      have hwk : ∀ m, (w6.drewN m).cell? ⟨gw, k, none⟩ = some (.string (strP S3.P k)) := H2.out
                      generalize strP S3.P k = cs at *
                      have b1 : decide ((k : Int) = 0) = false := decide_eq_false (by omega)
                      have b2 : decide ((0 : Int) < (k : Int)) = true := decide_eq_true (by omega)
                      have b3 : ((k : Int) == 0) = false := by simp; omega
                      have b4 : decide ((k : Int) < 1 + (mm : Int) + (sp : Int)) = true := decide_eq_true (by omega)
                      have c1 : ∀ inst, @decide ((k : Int) = 0) inst = false := fun _ => decide_eq_false (by omega)
                      have c2 : ∀ inst, @decide ((0 : Int) < (k : Int)) inst = true := fun _ => decide_eq_true (by omega)
                      have hS : (convert 30 9 (.slice (some ⟨wr.heap.size, 0, none⟩) 256 256)).run Try.prog w6.drew = .ok (.string cs) w6.drew ∧ w6.drew.cell? ⟨gw, k, none⟩ = some (.string cs) := ⟨hcv 1, hwk 1⟩
                      clear hcv hwk
                      refine wp_region_held (S := fun W' => (convert 30 9 (.slice (some ⟨wr.heap.size, 0, none⟩) 256 256)).run Try.prog W' = .ok (.string cs) W' ∧ W'.cell? ⟨gw, k, none⟩ = some (.string cs)) hmix ?_
                      show wpAnyH _ _ _ _ _ _ _ _ w6.drew
                      refine wpAnyH_take (i := 0) (v := .int .i64 0) rfl (by kernel_rfl) (by kernel_rfl) (by kernel_rfl) (fun _ _ _ h => h) (.inl ⟨by rfl, fun W' hW' => ?_⟩) hS ?_
                      · obtain ⟨q1, q2⟩ := hW'
                        go_simp
                      simp only [Act.put, List.getElem_toArray, List.getElem_cons_succ, List.getElem_cons_zero, List.setIfInBounds_toArray, List.set_cons_succ, List.set_cons_zero]
                      refine wpAnyH_take (i := 1) (v := .bool false) rfl (by kernel_rfl) (by kernel_rfl) (by kernel_rfl) (fun _ _ _ h => h) (.inl ⟨by rfl, fun W' hW' => ?_⟩) hS ?_
                      · obtain ⟨q1, q2⟩ := hW'
                        go_simp
                      simp only [Act.put, List.getElem_toArray, List.getElem_cons_succ, List.getElem_cons_zero, List.setIfInBounds_toArray, List.set_cons_succ, List.set_cons_zero]
                      refine wpAnyH_take (i := 2) (v := .bool false) rfl (by kernel_rfl) (by kernel_rfl) (by kernel_rfl) (fun _ _ _ h => h) (.inl ⟨by rfl, fun W' hW' => ?_⟩) hS ?_
                      · obtain ⟨q1, q2⟩ := hW'
                        go_simp
                      simp only [Act.put, List.getElem_toArray, List.getElem_cons_succ, List.getElem_cons_zero, List.setIfInBounds_toArray, List.set_cons_succ, List.set_cons_zero]
                      refine wpAnyH_take (i := 3) (v := .int .i64 (k : Int)) rfl (by kernel_rfl) (by kernel_rfl) (by kernel_rfl) (fun _ _ _ h => h) (.inl ⟨by rfl, fun W' hW' => ?_⟩) hS ?_
                      · obtain ⟨q1, q2⟩ := hW'
                        go_simp
                      simp only [Act.put, List.getElem_toArray, List.getElem_cons_succ, List.getElem_cons_zero, List.setIfInBounds_toArray, List.set_cons_succ, List.set_cons_zero]
                      refine wpAnyH_take (i := 4) (v := .bool false) rfl (by kernel_rfl) (by kernel_rfl) (by kernel_rfl) (fun _ _ _ h => h) (.inl ⟨by rfl, fun W' hW' => ?_⟩) hS ?_
                      · obtain ⟨q1, q2⟩ := hW'
                        go_simp
                      simp only [Act.put, List.getElem_toArray, List.getElem_cons_succ, List.getElem_cons_zero, List.setIfInBounds_toArray, List.set_cons_succ, List.set_cons_zero]
                      refine wpAnyH_take (i := 5) (v := .bool false) rfl (by kernel_rfl) (by kernel_rfl) (by kernel_rfl) (fun _ _ _ h => h) (.inl ⟨by rfl, fun W' hW' => ?_⟩) hS ?_
                      · obtain ⟨q1, q2⟩ := hW'
                        go_simp
                      simp only [Act.put, List.getElem_toArray, List.getElem_cons_succ, List.getElem_cons_zero, List.setIfInBounds_toArray, List.set_cons_succ, List.set_cons_zero]
                      refine wpAnyH_take (i := 6) (v := undef) rfl (by kernel_rfl) (by kernel_rfl) (by kernel_rfl) (fun _ _ _ h => h) (.inr ⟨by rfl, rfl⟩) hS ?_
                      simp only [Act.put, List.getElem_toArray, List.getElem_cons_succ, List.getElem_cons_zero, List.setIfInBounds_toArray, List.set_cons_succ, List.set_cons_zero]
                      refine wpAnyH_take (i := 7) (v := undef) rfl (by kernel_rfl) (by kernel_rfl) (by kernel_rfl) (fun _ _ _ h => h) (.inr ⟨by rfl, rfl⟩) hS ?_
                      simp only [Act.put, List.getElem_toArray, List.getElem_cons_succ, List.getElem_cons_zero, List.setIfInBounds_toArray, List.set_cons_succ, List.set_cons_zero]
                      refine wpAnyH_take (i := 8) (v := undef) rfl (by kernel_rfl) (by kernel_rfl) (by kernel_rfl) (fun _ _ _ h => h) (.inr ⟨by rfl, rfl⟩) hS ?_
                      simp only [Act.put, List.getElem_toArray, List.getElem_cons_succ, List.getElem_cons_zero, List.setIfInBounds_toArray, List.set_cons_succ, List.set_cons_zero]
                      refine wpAnyH_take (i := 9) (v := undef) rfl (by kernel_rfl) (by kernel_rfl) (by kernel_rfl) (fun _ _ _ h => h) (.inr ⟨by rfl, rfl⟩) hS ?_
                      simp only [Act.put, List.getElem_toArray, List.getElem_cons_succ, List.getElem_cons_zero, List.setIfInBounds_toArray, List.set_cons_succ, List.set_cons_zero]
                      refine wpAnyH_take (i := 10) (v := undef) rfl (by kernel_rfl) (by kernel_rfl) (by kernel_rfl) (fun _ _ _ h => h) (.inr ⟨by rfl, rfl⟩) hS ?_
                      simp only [Act.put, List.getElem_toArray, List.getElem_cons_succ, List.getElem_cons_zero, List.setIfInBounds_toArray, List.set_cons_succ, List.set_cons_zero]
                      refine wpAnyH_take (i := 11) (v := undef) rfl (by kernel_rfl) (by kernel_rfl) (by kernel_rfl) (fun _ _ _ h => h) (.inr ⟨by rfl, rfl⟩) hS ?_
                      simp only [Act.put, List.getElem_toArray, List.getElem_cons_succ, List.getElem_cons_zero, List.setIfInBounds_toArray, List.set_cons_succ, List.set_cons_zero]
                      refine wpAnyH_take (i := 12) (v := .bool false) rfl (by kernel_rfl) (by kernel_rfl) (by kernel_rfl) (fun _ _ _ h => h) (.inl ⟨by rfl, fun W' hW' => ?_⟩) hS ?_
                      · obtain ⟨q1, q2⟩ := hW'
                        go_simp
                      simp only [Act.put, List.getElem_toArray, List.getElem_cons_succ, List.getElem_cons_zero, List.setIfInBounds_toArray, List.set_cons_succ, List.set_cons_zero]
                      refine wpAnyH_take (i := 13) (v := .bool false) rfl (by kernel_rfl) (by kernel_rfl) (by kernel_rfl) (fun _ _ _ h => h) (.inl ⟨by rfl, fun W' hW' => ?_⟩) hS ?_
                      · obtain ⟨q1, q2⟩ := hW'
                        go_simp
                      simp only [Act.put, List.getElem_toArray, List.getElem_cons_succ, List.getElem_cons_zero, List.setIfInBounds_toArray, List.set_cons_succ, List.set_cons_zero]
                      refine wpAnyH_take (i := 14) (v := .bool false) rfl (by kernel_rfl) (by kernel_rfl) (by kernel_rfl) (fun _ _ _ h => h) (.inl ⟨by rfl, fun W' hW' => ?_⟩) hS ?_
                      · obtain ⟨q1, q2⟩ := hW'
                        go_simp
                      simp only [Act.put, List.getElem_toArray, List.getElem_cons_succ, List.getElem_cons_zero, List.setIfInBounds_toArray, List.set_cons_succ, List.set_cons_zero]
                      refine wpAnyH_take (i := 15) (v := .int .i64 (k : Int)) rfl (by kernel_rfl) (by kernel_rfl) (by kernel_rfl) (fun _ _ _ h => h) (.inl ⟨by rfl, fun W' hW' => ?_⟩) hS ?_
                      · obtain ⟨q1, q2⟩ := hW'
                        go_simp
                      simp only [Act.put, List.getElem_toArray, List.getElem_cons_succ, List.getElem_cons_zero, List.setIfInBounds_toArray, List.set_cons_succ, List.set_cons_zero]
                      refine wpAnyH_take (i := 16) (v := .bool true) rfl (by kernel_rfl) (by kernel_rfl) (by kernel_rfl) (fun _ _ _ h => h) (.inl ⟨by rfl, fun W' hW' => ?_⟩) hS ?_
                      · obtain ⟨q1, q2⟩ := hW'
                        go_simp <;> omega
                      simp only [Act.put, List.getElem_toArray, List.getElem_cons_succ, List.getElem_cons_zero, List.setIfInBounds_toArray, List.set_cons_succ, List.set_cons_zero]
                      refine wpAnyH_take (i := 17) (v := .bool true) rfl (by kernel_rfl) (by kernel_rfl) (by kernel_rfl) (fun _ _ _ h => h) (.inl ⟨by rfl, fun W' hW' => ?_⟩) hS ?_
                      · obtain ⟨q1, q2⟩ := hW'
                        go_simp
                      simp only [Act.put, List.getElem_toArray, List.getElem_cons_succ, List.getElem_cons_zero, List.setIfInBounds_toArray, List.set_cons_succ, List.set_cons_zero]
                      refine wpAnyH_take (i := 18) (v := .int .i64 3) rfl (by kernel_rfl) (by kernel_rfl) (by kernel_rfl) (fun _ _ _ h => h) (.inl ⟨by rfl, fun W' hW' => ?_⟩) hS ?_
                      · obtain ⟨q1, q2⟩ := hW'
                        go_simp
                      simp only [Act.put, List.getElem_toArray, List.getElem_cons_succ, List.getElem_cons_zero, List.setIfInBounds_toArray, List.set_cons_succ, List.set_cons_zero]
                      refine wpAnyH_take (i := 19) (v := .bool false) rfl (by kernel_rfl) (by kernel_rfl) (by kernel_rfl) (fun _ _ _ h => h) (.inl ⟨by rfl, fun W' hW' => ?_⟩) hS ?_
                      · obtain ⟨q1, q2⟩ := hW'
                        go_simp
                      simp only [Act.put, List.getElem_toArray, List.getElem_cons_succ, List.getElem_cons_zero, List.setIfInBounds_toArray, List.set_cons_succ, List.set_cons_zero]
                      refine wpAnyH_take (i := 20) (v := .bool false) rfl (by kernel_rfl) (by kernel_rfl) (by kernel_rfl) (fun _ _ _ h => h) (.inl ⟨by rfl, fun W' hW' => ?_⟩) hS ?_
                      · obtain ⟨q1, q2⟩ := hW'
                        go_simp
                      simp only [Act.put, List.getElem_toArray, List.getElem_cons_succ, List.getElem_cons_zero, List.setIfInBounds_toArray, List.set_cons_succ, List.set_cons_zero]
                      refine wpAnyH_take (i := 21) (v := undef) rfl (by kernel_rfl) (by kernel_rfl) (by kernel_rfl) (fun _ _ _ h => h) (.inr ⟨by rfl, rfl⟩) hS ?_
                      simp only [Act.put, List.getElem_toArray, List.getElem_cons_succ, List.getElem_cons_zero, List.setIfInBounds_toArray, List.set_cons_succ, List.set_cons_zero]
                      refine wpAnyH_take (i := 22) (v := .bool false) rfl (by kernel_rfl) (by kernel_rfl) (by kernel_rfl) (fun _ _ _ h => h) (.inl ⟨by rfl, fun W' hW' => ?_⟩) hS ?_
                      · obtain ⟨q1, q2⟩ := hW'
                        go_simp
                      simp only [Act.put, List.getElem_toArray, List.getElem_cons_succ, List.getElem_cons_zero, List.setIfInBounds_toArray, List.set_cons_succ, List.set_cons_zero]
                      refine wpAnyH_take (i := 23) (v := .bool true) rfl (by kernel_rfl) (by kernel_rfl) (by kernel_rfl) (fun _ _ _ h => h) (.inl ⟨by rfl, fun W' hW' => ?_⟩) hS ?_
                      · obtain ⟨q1, q2⟩ := hW'
                        go_simp
                      simp only [Act.put, List.getElem_toArray, List.getElem_cons_succ, List.getElem_cons_zero, List.setIfInBounds_toArray, List.set_cons_succ, List.set_cons_zero]
                      refine wpAnyH_take (i := 24) (v := .bool true) rfl (by kernel_rfl) (by kernel_rfl) (by kernel_rfl) (fun _ _ _ h => h) (.inl ⟨by rfl, fun W' hW' => ?_⟩) hS ?_
                      · obtain ⟨q1, q2⟩ := hW'
                        go_simp
                      simp only [Act.put, List.getElem_toArray, List.getElem_cons_succ, List.getElem_cons_zero, List.setIfInBounds_toArray, List.set_cons_succ, List.set_cons_zero]
                      refine wpAnyH_take (i := 25) (v := .bool true) rfl (by kernel_rfl) (by kernel_rfl) (by kernel_rfl) (fun _ _ _ h => h) (.inl ⟨by rfl, fun W' hW' => ?_⟩) hS ?_
                      · obtain ⟨q1, q2⟩ := hW'
                        go_simp
                      simp only [Act.put, List.getElem_toArray, List.getElem_cons_succ, List.getElem_cons_zero, List.setIfInBounds_toArray, List.set_cons_succ, List.set_cons_zero]
                      refine wpAnyH_take (i := 26) (v := .slice (some ⟨wr.heap.size, 0, none⟩) 256 256) rfl (by kernel_rfl) (by kernel_rfl) (by kernel_rfl) (fun _ _ _ h => h) (.inl ⟨by rfl, fun W' hW' => ?_⟩) hS ?_
                      · obtain ⟨q1, q2⟩ := hW'
                        go_simp
                      simp only [Act.put, List.getElem_toArray, List.getElem_cons_succ, List.getElem_cons_zero, List.setIfInBounds_toArray, List.set_cons_succ, List.set_cons_zero]
                      refine wpAnyH_take (i := 27) (v := .string cs) rfl (by kernel_rfl) (by kernel_rfl) (by kernel_rfl) (fun _ _ _ h => h) (.inl ⟨by rfl, fun W' hW' => ?_⟩) hS ?_
                      · obtain ⟨q1, q2⟩ := hW'
                        go_simp
                      simp only [Act.put, List.getElem_toArray, List.getElem_cons_succ, List.getElem_cons_zero, List.setIfInBounds_toArray, List.set_cons_succ, List.set_cons_zero]
                      refine wpAnyH_take (i := 28) (v := .slice (some ⟨gw, 0, none⟩) n cw) rfl (by kernel_rfl) (by kernel_rfl) (by kernel_rfl) (fun _ _ _ h => h) (.inl ⟨by rfl, fun W' hW' => ?_⟩) hS ?_
                      · obtain ⟨q1, q2⟩ := hW'
                        go_simp
                      simp only [Act.put, List.getElem_toArray, List.getElem_cons_succ, List.getElem_cons_zero, List.setIfInBounds_toArray, List.set_cons_succ, List.set_cons_zero]
                      refine wpAnyH_take (i := 29) (v := .int .i64 (k : Int)) rfl (by kernel_rfl) (by kernel_rfl) (by kernel_rfl) (fun _ _ _ h => h) (.inl ⟨by rfl, fun W' hW' => ?_⟩) hS ?_
                      · obtain ⟨q1, q2⟩ := hW'
                        go_simp
                      simp only [Act.put, List.getElem_toArray, List.getElem_cons_succ, List.getElem_cons_zero, List.setIfInBounds_toArray, List.set_cons_succ, List.set_cons_zero]
                      refine wpAnyH_take (i := 30) (v := .pointer (some ⟨gw, k, none⟩)) rfl (by kernel_rfl) (by kernel_rfl) (by kernel_rfl) (fun _ _ _ h => h) (.inl ⟨by rfl, fun W' hW' => ?_⟩) hS ?_
                      · obtain ⟨q1, q2⟩ := hW'
                        go_simp
                      simp only [Act.put, List.getElem_toArray, List.getElem_cons_succ, List.getElem_cons_zero, List.setIfInBounds_toArray, List.set_cons_succ, List.set_cons_zero]
                      refine wpAnyH_take (i := 31) (v := .string cs) rfl (by kernel_rfl) (by kernel_rfl) (by kernel_rfl) (fun _ _ _ h => h) (.inl ⟨by rfl, fun W' hW' => ?_⟩) hS ?_
                      · obtain ⟨q1, q2⟩ := hW'
                        go_simp
                      simp only [Act.put, List.getElem_toArray, List.getElem_cons_succ, List.getElem_cons_zero, List.setIfInBounds_toArray, List.set_cons_succ, List.set_cons_zero]
                      refine wpAnyH_take (i := 32) (v := .bool false) rfl (by kernel_rfl) (by kernel_rfl) (by kernel_rfl) (fun _ _ _ h => h) (.inl ⟨by rfl, fun W' hW' => ?_⟩) hS ?_
                      · obtain ⟨q1, q2⟩ := hW'
                        go_simp
                      simp only [Act.put, List.getElem_toArray, List.getElem_cons_succ, List.getElem_cons_zero, List.setIfInBounds_toArray, List.set_cons_succ, List.set_cons_zero]
                      refine wpAnyH_take (i := 33) (v := .bool false) rfl (by kernel_rfl) (by kernel_rfl) (by kernel_rfl) (fun _ _ _ h => h) (.inl ⟨by rfl, fun W' hW' => ?_⟩) hS ?_
                      · obtain ⟨q1, q2⟩ := hW'
                        go_simp
                      simp only [Act.put, List.getElem_toArray, List.getElem_cons_succ, List.getElem_cons_zero, List.setIfInBounds_toArray, List.set_cons_succ, List.set_cons_zero]
                      refine wpAnyH_take (i := 34) (v := .bool false) rfl (by kernel_rfl) (by kernel_rfl) (by kernel_rfl) (fun _ _ _ h => h) (.inl ⟨by rfl, fun W' hW' => ?_⟩) hS ?_
                      · obtain ⟨q1, q2⟩ := hW'
                        go_simp
                      simp only [Act.put, List.getElem_toArray, List.getElem_cons_succ, List.getElem_cons_zero, List.setIfInBounds_toArray, List.set_cons_succ, List.set_cons_zero]
                      refine wpAnyH_done (by kernel_rfl) ?_ _
                      go_wp2
                      exact ⟨⟨k + 1, by omega, by go_num, hb6.trans ⟨rfl, rfl, rfl, Nat.le_refl _, fun _ _ => rfl⟩⟩, by simp [RowKit.intOf]; omega⟩
                    · have hpe := HP.out (fun h => by omega) (by omega)
                      have hcv : ∀ m, (convert 30 9 (.slice (some ⟨wr.heap.size, 0, none⟩) 256 256)).run Try.prog (w6.drewN m) = .ok (.string (strP S3.P k)) (w6.drewN m) := HCV.out
                      have hwk : ∀ m, (w6.drewN m).cell? ⟨gw, k, none⟩ = some (.string (strP S3.P k)) := HWK.out
                      have hse : strP S3.P k = strP S3.P k := by unfold strP; rw [hpe]
                      rw [hse] at hcv
                      have H1 : Hid _ := hcv
                      have H2 : Hid _ := hwk
                      clear hpe hcv hwk hse HCV HWK HP
                      go_upto_region 34 with fail
                      have hcv : ∀ m, (convert 30 9 (.slice (some ⟨wr.heap.size, 0, none⟩) 256 256)).run Try.prog (w6.drewN m) = .ok (.string (strP S3.P k)) (w6.drewN m) := H1.out
                      have hwk : ∀ m, (w6.drewN m).cell? ⟨gw, k, none⟩ = some (.string (strP S3.P k)) := H2.out
                      generalize strP S3.P k = cs at *
                      have b1 : decide ((k : Int) = 0) = false := decide_eq_false (by omega)
                      have b2 : decide ((0 : Int) < (k : Int)) = true := decide_eq_true (by omega)
                      have b3 : ((k : Int) == 0) = false := by simp; omega
                      have b4 : decide ((k : Int) < 1 + (mm : Int) + (sp : Int)) = false := decide_eq_false (by omega)
                      have c1 : ∀ inst, @decide ((k : Int) = 0) inst = false := fun _ => decide_eq_false (by omega)
                      have c2 : ∀ inst, @decide ((0 : Int) < (k : Int)) inst = true := fun _ => decide_eq_true (by omega)
                      have hS : (convert 30 9 (.slice (some ⟨wr.heap.size, 0, none⟩) 256 256)).run Try.prog w6.drew = .ok (.string cs) w6.drew ∧ w6.drew.cell? ⟨gw, k, none⟩ = some (.string cs) := ⟨hcv 1, hwk 1⟩
                      clear hcv hwk
                      refine wp_region_held (S := fun W' => (convert 30 9 (.slice (some ⟨wr.heap.size, 0, none⟩) 256 256)).run Try.prog W' = .ok (.string cs) W' ∧ W'.cell? ⟨gw, k, none⟩ = some (.string cs)) hmix ?_
                      show wpAnyH _ _ _ _ _ _ _ _ w6.drew
                      refine wpAnyH_take (i := 0) (v := .int .i64 0) rfl (by kernel_rfl) (by kernel_rfl) (by kernel_rfl) (fun _ _ _ h => h) (.inl ⟨by rfl, fun W' hW' => ?_⟩) hS ?_
                      · obtain ⟨q1, q2⟩ := hW'
                        go_simp
                      simp only [Act.put, List.getElem_toArray, List.getElem_cons_succ, List.getElem_cons_zero, List.setIfInBounds_toArray, List.set_cons_succ, List.set_cons_zero]
                      refine wpAnyH_take (i := 1) (v := .bool false) rfl (by kernel_rfl) (by kernel_rfl) (by kernel_rfl) (fun _ _ _ h => h) (.inl ⟨by rfl, fun W' hW' => ?_⟩) hS ?_
                      · obtain ⟨q1, q2⟩ := hW'
                        go_simp
                      simp only [Act.put, List.getElem_toArray, List.getElem_cons_succ, List.getElem_cons_zero, List.setIfInBounds_toArray, List.set_cons_succ, List.set_cons_zero]
                      refine wpAnyH_take (i := 2) (v := .bool false) rfl (by kernel_rfl) (by kernel_rfl) (by kernel_rfl) (fun _ _ _ h => h) (.inl ⟨by rfl, fun W' hW' => ?_⟩) hS ?_
                      · obtain ⟨q1, q2⟩ := hW'
                        go_simp
                      simp only [Act.put, List.getElem_toArray, List.getElem_cons_succ, List.getElem_cons_zero, List.setIfInBounds_toArray, List.set_cons_succ, List.set_cons_zero]
                      refine wpAnyH_take (i := 3) (v := .int .i64 (k : Int)) rfl (by kernel_rfl) (by kernel_rfl) (by kernel_rfl) (fun _ _ _ h => h) (.inl ⟨by rfl, fun W' hW' => ?_⟩) hS ?_
                      · obtain ⟨q1, q2⟩ := hW'
                        go_simp
                      simp only [Act.put, List.getElem_toArray, List.getElem_cons_succ, List.getElem_cons_zero, List.setIfInBounds_toArray, List.set_cons_succ, List.set_cons_zero]
                      refine wpAnyH_take (i := 4) (v := .bool false) rfl (by kernel_rfl) (by kernel_rfl) (by kernel_rfl) (fun _ _ _ h => h) (.inl ⟨by rfl, fun W' hW' => ?_⟩) hS ?_
                      · obtain ⟨q1, q2⟩ := hW'
                        go_simp
                      simp only [Act.put, List.getElem_toArray, List.getElem_cons_succ, List.getElem_cons_zero, List.setIfInBounds_toArray, List.set_cons_succ, List.set_cons_zero]
                      refine wpAnyH_take (i := 5) (v := .bool false) rfl (by kernel_rfl) (by kernel_rfl) (by kernel_rfl) (fun _ _ _ h => h) (.inl ⟨by rfl, fun W' hW' => ?_⟩) hS ?_
                      · obtain ⟨q1, q2⟩ := hW'
                        go_simp
                      simp only [Act.put, List.getElem_toArray, List.getElem_cons_succ, List.getElem_cons_zero, List.setIfInBounds_toArray, List.set_cons_succ, List.set_cons_zero]
                      refine wpAnyH_take (i := 6) (v := undef) rfl (by kernel_rfl) (by kernel_rfl) (by kernel_rfl) (fun _ _ _ h => h) (.inr ⟨by rfl, rfl⟩) hS ?_
                      simp only [Act.put, List.getElem_toArray, List.getElem_cons_succ, List.getElem_cons_zero, List.setIfInBounds_toArray, List.set_cons_succ, List.set_cons_zero]
                      refine wpAnyH_take (i := 7) (v := undef) rfl (by kernel_rfl) (by kernel_rfl) (by kernel_rfl) (fun _ _ _ h => h) (.inr ⟨by rfl, rfl⟩) hS ?_
                      simp only [Act.put, List.getElem_toArray, List.getElem_cons_succ, List.getElem_cons_zero, List.setIfInBounds_toArray, List.set_cons_succ, List.set_cons_zero]
                      refine wpAnyH_take (i := 8) (v := undef) rfl (by kernel_rfl) (by kernel_rfl) (by kernel_rfl) (fun _ _ _ h => h) (.inr ⟨by rfl, rfl⟩) hS ?_
                      simp only [Act.put, List.getElem_toArray, List.getElem_cons_succ, List.getElem_cons_zero, List.setIfInBounds_toArray, List.set_cons_succ, List.set_cons_zero]
                      refine wpAnyH_take (i := 9) (v := undef) rfl (by kernel_rfl) (by kernel_rfl) (by kernel_rfl) (fun _ _ _ h => h) (.inr ⟨by rfl, rfl⟩) hS ?_
                      simp only [Act.put, List.getElem_toArray, List.getElem_cons_succ, List.getElem_cons_zero, List.setIfInBounds_toArray, List.set_cons_succ, List.set_cons_zero]
                      refine wpAnyH_take (i := 10) (v := undef) rfl (by kernel_rfl) (by kernel_rfl) (by kernel_rfl) (fun _ _ _ h => h) (.inr ⟨by rfl, rfl⟩) hS ?_
                      simp only [Act.put, List.getElem_toArray, List.getElem_cons_succ, List.getElem_cons_zero, List.setIfInBounds_toArray, List.set_cons_succ, List.set_cons_zero]
                      refine wpAnyH_take (i := 11) (v := undef) rfl (by kernel_rfl) (by kernel_rfl) (by kernel_rfl) (fun _ _ _ h => h) (.inr ⟨by rfl, rfl⟩) hS ?_
                      simp only [Act.put, List.getElem_toArray, List.getElem_cons_succ, List.getElem_cons_zero, List.setIfInBounds_toArray, List.set_cons_succ, List.set_cons_zero]
                      refine wpAnyH_take (i := 12) (v := .bool false) rfl (by kernel_rfl) (by kernel_rfl) (by kernel_rfl) (fun _ _ _ h => h) (.inl ⟨by rfl, fun W' hW' => ?_⟩) hS ?_
                      · obtain ⟨q1, q2⟩ := hW'
                        go_simp
                      simp only [Act.put, List.getElem_toArray, List.getElem_cons_succ, List.getElem_cons_zero, List.setIfInBounds_toArray, List.set_cons_succ, List.set_cons_zero]
                      refine wpAnyH_take (i := 13) (v := .bool false) rfl (by kernel_rfl) (by kernel_rfl) (by kernel_rfl) (fun _ _ _ h => h) (.inl ⟨by rfl, fun W' hW' => ?_⟩) hS ?_
                      · obtain ⟨q1, q2⟩ := hW'
                        go_simp
                      simp only [Act.put, List.getElem_toArray, List.getElem_cons_succ, List.getElem_cons_zero, List.setIfInBounds_toArray, List.set_cons_succ, List.set_cons_zero]
                      refine wpAnyH_take (i := 14) (v := .bool false) rfl (by kernel_rfl) (by kernel_rfl) (by kernel_rfl) (fun _ _ _ h => h) (.inl ⟨by rfl, fun W' hW' => ?_⟩) hS ?_
                      · obtain ⟨q1, q2⟩ := hW'
                        go_simp
                      simp only [Act.put, List.getElem_toArray, List.getElem_cons_succ, List.getElem_cons_zero, List.setIfInBounds_toArray, List.set_cons_succ, List.set_cons_zero]
                      refine wpAnyH_take (i := 15) (v := .int .i64 (k : Int)) rfl (by kernel_rfl) (by kernel_rfl) (by kernel_rfl) (fun _ _ _ h => h) (.inl ⟨by rfl, fun W' hW' => ?_⟩) hS ?_
                      · obtain ⟨q1, q2⟩ := hW'
                        go_simp
                      simp only [Act.put, List.getElem_toArray, List.getElem_cons_succ, List.getElem_cons_zero, List.setIfInBounds_toArray, List.set_cons_succ, List.set_cons_zero]
                      refine wpAnyH_take (i := 16) (v := .bool true) rfl (by kernel_rfl) (by kernel_rfl) (by kernel_rfl) (fun _ _ _ h => h) (.inl ⟨by rfl, fun W' hW' => ?_⟩) hS ?_
                      · obtain ⟨q1, q2⟩ := hW'
                        go_simp <;> omega
                      simp only [Act.put, List.getElem_toArray, List.getElem_cons_succ, List.getElem_cons_zero, List.setIfInBounds_toArray, List.set_cons_succ, List.set_cons_zero]
                      refine wpAnyH_take (i := 17) (v := .bool true) rfl (by kernel_rfl) (by kernel_rfl) (by kernel_rfl) (fun _ _ _ h => h) (.inl ⟨by rfl, fun W' hW' => ?_⟩) hS ?_
                      · obtain ⟨q1, q2⟩ := hW'
                        go_simp
                      simp only [Act.put, List.getElem_toArray, List.getElem_cons_succ, List.getElem_cons_zero, List.setIfInBounds_toArray, List.set_cons_succ, List.set_cons_zero]
                      refine wpAnyH_take (i := 18) (v := .int .i64 3) rfl (by kernel_rfl) (by kernel_rfl) (by kernel_rfl) (fun _ _ _ h => h) (.inl ⟨by rfl, fun W' hW' => ?_⟩) hS ?_
                      · obtain ⟨q1, q2⟩ := hW'
                        go_simp
                      simp only [Act.put, List.getElem_toArray, List.getElem_cons_succ, List.getElem_cons_zero, List.setIfInBounds_toArray, List.set_cons_succ, List.set_cons_zero]
                      refine wpAnyH_take (i := 19) (v := .bool false) rfl (by kernel_rfl) (by kernel_rfl) (by kernel_rfl) (fun _ _ _ h => h) (.inl ⟨by rfl, fun W' hW' => ?_⟩) hS ?_
                      · obtain ⟨q1, q2⟩ := hW'
                        go_simp
                      simp only [Act.put, List.getElem_toArray, List.getElem_cons_succ, List.getElem_cons_zero, List.setIfInBounds_toArray, List.set_cons_succ, List.set_cons_zero]
                      refine wpAnyH_take (i := 20) (v := .bool false) rfl (by kernel_rfl) (by kernel_rfl) (by kernel_rfl) (fun _ _ _ h => h) (.inl ⟨by rfl, fun W' hW' => ?_⟩) hS ?_
                      · obtain ⟨q1, q2⟩ := hW'
                        go_simp
                      simp only [Act.put, List.getElem_toArray, List.getElem_cons_succ, List.getElem_cons_zero, List.setIfInBounds_toArray, List.set_cons_succ, List.set_cons_zero]
                      refine wpAnyH_take (i := 21) (v := undef) rfl (by kernel_rfl) (by kernel_rfl) (by kernel_rfl) (fun _ _ _ h => h) (.inr ⟨by rfl, rfl⟩) hS ?_
                      simp only [Act.put, List.getElem_toArray, List.getElem_cons_succ, List.getElem_cons_zero, List.setIfInBounds_toArray, List.set_cons_succ, List.set_cons_zero]
                      refine wpAnyH_take (i := 22) (v := .bool false) rfl (by kernel_rfl) (by kernel_rfl) (by kernel_rfl) (fun _ _ _ h => h) (.inl ⟨by rfl, fun W' hW' => ?_⟩) hS ?_
                      · obtain ⟨q1, q2⟩ := hW'
                        go_simp
                      simp only [Act.put, List.getElem_toArray, List.getElem_cons_succ, List.getElem_cons_zero, List.setIfInBounds_toArray, List.set_cons_succ, List.set_cons_zero]
                      refine wpAnyH_take (i := 23) (v := .bool true) rfl (by kernel_rfl) (by kernel_rfl) (by kernel_rfl) (fun _ _ _ h => h) (.inl ⟨by rfl, fun W' hW' => ?_⟩) hS ?_
                      · obtain ⟨q1, q2⟩ := hW'
                        go_simp
                      simp only [Act.put, List.getElem_toArray, List.getElem_cons_succ, List.getElem_cons_zero, List.setIfInBounds_toArray, List.set_cons_succ, List.set_cons_zero]
                      refine wpAnyH_take (i := 24) (v := .bool true) rfl (by kernel_rfl) (by kernel_rfl) (by kernel_rfl) (fun _ _ _ h => h) (.inl ⟨by rfl, fun W' hW' => ?_⟩) hS ?_
                      · obtain ⟨q1, q2⟩ := hW'
                        go_simp
                      simp only [Act.put, List.getElem_toArray, List.getElem_cons_succ, List.getElem_cons_zero, List.setIfInBounds_toArray, List.set_cons_succ, List.set_cons_zero]
                      refine wpAnyH_take (i := 25) (v := .bool true) rfl (by kernel_rfl) (by kernel_rfl) (by kernel_rfl) (fun _ _ _ h => h) (.inl ⟨by rfl, fun W' hW' => ?_⟩) hS ?_
                      · obtain ⟨q1, q2⟩ := hW'
                        go_simp
                      simp only [Act.put, List.getElem_toArray, List.getElem_cons_succ, List.getElem_cons_zero, List.setIfInBounds_toArray, List.set_cons_succ, List.set_cons_zero]
                      refine wpAnyH_take (i := 26) (v := .slice (some ⟨wr.heap.size, 0, none⟩) 256 256) rfl (by kernel_rfl) (by kernel_rfl) (by kernel_rfl) (fun _ _ _ h => h) (.inl ⟨by rfl, fun W' hW' => ?_⟩) hS ?_
                      · obtain ⟨q1, q2⟩ := hW'
                        go_simp
                      simp only [Act.put, List.getElem_toArray, List.getElem_cons_succ, List.getElem_cons_zero, List.setIfInBounds_toArray, List.set_cons_succ, List.set_cons_zero]
                      refine wpAnyH_take (i := 27) (v := .string cs) rfl (by kernel_rfl) (by kernel_rfl) (by kernel_rfl) (fun _ _ _ h => h) (.inl ⟨by rfl, fun W' hW' => ?_⟩) hS ?_
                      · obtain ⟨q1, q2⟩ := hW'
                        go_simp
                      simp only [Act.put, List.getElem_toArray, List.getElem_cons_succ, List.getElem_cons_zero, List.setIfInBounds_toArray, List.set_cons_succ, List.set_cons_zero]
                      refine wpAnyH_take (i := 28) (v := .slice (some ⟨gw, 0, none⟩) n cw) rfl (by kernel_rfl) (by kernel_rfl) (by kernel_rfl) (fun _ _ _ h => h) (.inl ⟨by rfl, fun W' hW' => ?_⟩) hS ?_
                      · obtain ⟨q1, q2⟩ := hW'
                        go_simp
                      simp only [Act.put, List.getElem_toArray, List.getElem_cons_succ, List.getElem_cons_zero, List.setIfInBounds_toArray, List.set_cons_succ, List.set_cons_zero]
                      refine wpAnyH_take (i := 29) (v := .int .i64 (k : Int)) rfl (by kernel_rfl) (by kernel_rfl) (by kernel_rfl) (fun _ _ _ h => h) (.inl ⟨by rfl, fun W' hW' => ?_⟩) hS ?_
                      · obtain ⟨q1, q2⟩ := hW'
                        go_simp
                      simp only [Act.put, List.getElem_toArray, List.getElem_cons_succ, List.getElem_cons_zero, List.setIfInBounds_toArray, List.set_cons_succ, List.set_cons_zero]
                      refine wpAnyH_take (i := 30) (v := .pointer (some ⟨gw, k, none⟩)) rfl (by kernel_rfl) (by kernel_rfl) (by kernel_rfl) (fun _ _ _ h => h) (.inl ⟨by rfl, fun W' hW' => ?_⟩) hS ?_
                      · obtain ⟨q1, q2⟩ := hW'
                        go_simp
                      simp only [Act.put, List.getElem_toArray, List.getElem_cons_succ, List.getElem_cons_zero, List.setIfInBounds_toArray, List.set_cons_succ, List.set_cons_zero]
                      refine wpAnyH_take (i := 31) (v := .string cs) rfl (by kernel_rfl) (by kernel_rfl) (by kernel_rfl) (fun _ _ _ h => h) (.inl ⟨by rfl, fun W' hW' => ?_⟩) hS ?_
                      · obtain ⟨q1, q2⟩ := hW'
                        go_simp
                      simp only [Act.put, List.getElem_toArray, List.getElem_cons_succ, List.getElem_cons_zero, List.setIfInBounds_toArray, List.set_cons_succ, List.set_cons_zero]
                      refine wpAnyH_take (i := 32) (v := .bool false) rfl (by kernel_rfl) (by kernel_rfl) (by kernel_rfl) (fun _ _ _ h => h) (.inl ⟨by rfl, fun W' hW' => ?_⟩) hS ?_
                      · obtain ⟨q1, q2⟩ := hW'
                        go_simp
                      simp only [Act.put, List.getElem_toArray, List.getElem_cons_succ, List.getElem_cons_zero, List.setIfInBounds_toArray, List.set_cons_succ, List.set_cons_zero]
                      refine wpAnyH_take (i := 33) (v := .bool false) rfl (by kernel_rfl) (by kernel_rfl) (by kernel_rfl) (fun _ _ _ h => h) (.inl ⟨by rfl, fun W' hW' => ?_⟩) hS ?_
                      · obtain ⟨q1, q2⟩ := hW'
                        go_simp
                      simp only [Act.put, List.getElem_toArray, List.getElem_cons_succ, List.getElem_cons_zero, List.setIfInBounds_toArray, List.set_cons_succ, List.set_cons_zero]
                      refine wpAnyH_take (i := 34) (v := .bool false) rfl (by kernel_rfl) (by kernel_rfl) (by kernel_rfl) (fun _ _ _ h => h) (.inl ⟨by rfl, fun W' hW' => ?_⟩) hS ?_
                      · obtain ⟨q1, q2⟩ := hW'
                        go_simp
                      simp only [Act.put, List.getElem_toArray, List.getElem_cons_succ, List.getElem_cons_zero, List.setIfInBounds_toArray, List.set_cons_succ, List.set_cons_zero]
                      refine wpAnyH_done (by kernel_rfl) ?_ _
                      go_wp2
                      exact ⟨⟨k + 1, by omega, by go_num, hb6.trans ⟨rfl, rfl, rfl, Nat.le_refl _, fun _ _ => rfl⟩⟩, by simp [RowKit.intOf]; omega⟩
                  · have hpe := HP.out (fun h => by omega) (by omega)
                    have hcv : ∀ m, (convert 30 9 (.slice (some ⟨wr.heap.size, 0, none⟩) 256 256)).run Try.prog (w6.drewN m) = .ok (.string (strP S3.P k)) (w6.drewN m) := HCV.out
                    have hwk : ∀ m, (w6.drewN m).cell? ⟨gw, k, none⟩ = some (.string (strP S3.P k)) := HWK.out
                    have hse : strP S3.P k = strP S3.P k := by unfold strP; rw [hpe]
                    rw [hse] at hcv
                    have H1 : Hid _ := hcv
                    have H2 : Hid _ := hwk
                    clear hpe hcv hwk hse HCV HWK HP
                    go_upto_region 34 with fail
                    have hcv : ∀ m, (convert 30 9 (.slice (some ⟨wr.heap.size, 0, none⟩) 256 256)).run Try.prog (w6.drewN m) = .ok (.string (strP S3.P k)) (w6.drewN m) := H1.out
                    have hwk : ∀ m, (w6.drewN m).cell? ⟨gw, k, none⟩ = some (.string (strP S3.P k)) := H2.out
                    generalize strP S3.P k = cs at *
                    have b1 : decide ((k : Int) = 0) = false := decide_eq_false (by omega)
                    have b2 : decide ((0 : Int) < (k : Int)) = true := decide_eq_true (by omega)
                    have b3 : ((k : Int) == 0) = false := by simp; omega
                    have c1 : ∀ inst, @decide ((k : Int) = 0) inst = false := fun _ => decide_eq_false (by omega)
                    have c2 : ∀ inst, @decide ((0 : Int) < (k : Int)) inst = true := fun _ => decide_eq_true (by omega)
                    have hS : (convert 30 9 (.slice (some ⟨wr.heap.size, 0, none⟩) 256 256)).run Try.prog w6.drew = .ok (.string cs) w6.drew ∧ w6.drew.cell? ⟨gw, k, none⟩ = some (.string cs) := ⟨hcv 1, hwk 1⟩
                    clear hcv hwk
                    refine wp_region_held (S := fun W' => (convert 30 9 (.slice (some ⟨wr.heap.size, 0, none⟩) 256 256)).run Try.prog W' = .ok (.string cs) W' ∧ W'.cell? ⟨gw, k, none⟩ = some (.string cs)) hmix ?_
                    show wpAnyH _ _ _ _ _ _ _ _ w6.drew
                    refine wpAnyH_take (i := 0) (v := .int .i64 0) rfl (by kernel_rfl) (by kernel_rfl) (by kernel_rfl) (fun _ _ _ h => h) (.inl ⟨by rfl, fun W' hW' => ?_⟩) hS ?_
                    · obtain ⟨q1, q2⟩ := hW'
                      go_simp
                    simp only [Act.put, List.getElem_toArray, List.getElem_cons_succ, List.getElem_cons_zero, List.setIfInBounds_toArray, List.set_cons_succ, List.set_cons_zero]
                    refine wpAnyH_take (i := 1) (v := .bool false) rfl (by kernel_rfl) (by kernel_rfl) (by kernel_rfl) (fun _ _ _ h => h) (.inl ⟨by rfl, fun W' hW' => ?_⟩) hS ?_
                    · obtain ⟨q1, q2⟩ := hW'
                      go_simp
                    simp only [Act.put, List.getElem_toArray, List.getElem_cons_succ, List.getElem_cons_zero, List.setIfInBounds_toArray, List.set_cons_succ, List.set_cons_zero]
                    refine wpAnyH_take (i := 2) (v := .bool false) rfl (by kernel_rfl) (by kernel_rfl) (by kernel_rfl) (fun _ _ _ h => h) (.inl ⟨by rfl, fun W' hW' => ?_⟩) hS ?_
                    · obtain ⟨q1, q2⟩ := hW'
                      go_simp
                    simp only [Act.put, List.getElem_toArray, List.getElem_cons_succ, List.getElem_cons_zero, List.setIfInBounds_toArray, List.set_cons_succ, List.set_cons_zero]
                    refine wpAnyH_take (i := 3) (v := .int .i64 (k : Int)) rfl (by kernel_rfl) (by kernel_rfl) (by kernel_rfl) (fun _ _ _ h => h) (.inl ⟨by rfl, fun W' hW' => ?_⟩) hS ?_
                    · obtain ⟨q1, q2⟩ := hW'
                      go_simp
                    simp only [Act.put, List.getElem_toArray, List.getElem_cons_succ, List.getElem_cons_zero, List.setIfInBounds_toArray, List.set_cons_succ, List.set_cons_zero]
                    refine wpAnyH_take (i := 4) (v := .bool false) rfl (by kernel_rfl) (by kernel_rfl) (by kernel_rfl) (fun _ _ _ h => h) (.inl ⟨by rfl, fun W' hW' => ?_⟩) hS ?_
                    · obtain ⟨q1, q2⟩ := hW'
                      go_simp
                    simp only [Act.put, List.getElem_toArray, List.getElem_cons_succ, List.getElem_cons_zero, List.setIfInBounds_toArray, List.set_cons_succ, List.set_cons_zero]
                    refine wpAnyH_take (i := 5) (v := .bool false) rfl (by kernel_rfl) (by kernel_rfl) (by kernel_rfl) (fun _ _ _ h => h) (.inl ⟨by rfl, fun W' hW' => ?_⟩) hS ?_
                    · obtain ⟨q1, q2⟩ := hW'
                      go_simp
                    simp only [Act.put, List.getElem_toArray, List.getElem_cons_succ, List.getElem_cons_zero, List.setIfInBounds_toArray, List.set_cons_succ, List.set_cons_zero]
                    refine wpAnyH_take (i := 6) (v := undef) rfl (by kernel_rfl) (by kernel_rfl) (by kernel_rfl) (fun _ _ _ h => h) (.inr ⟨by rfl, rfl⟩) hS ?_
                    simp only [Act.put, List.getElem_toArray, List.getElem_cons_succ, List.getElem_cons_zero, List.setIfInBounds_toArray, List.set_cons_succ, List.set_cons_zero]
                    refine wpAnyH_take (i := 7) (v := undef) rfl (by kernel_rfl) (by kernel_rfl) (by kernel_rfl) (fun _ _ _ h => h) (.inr ⟨by rfl, rfl⟩) hS ?_
                    simp only [Act.put, List.getElem_toArray, List.getElem_cons_succ, List.getElem_cons_zero, List.setIfInBounds_toArray, List.set_cons_succ, List.set_cons_zero]
                    refine wpAnyH_take (i := 8) (v := undef) rfl (by kernel_rfl) (by kernel_rfl) (by kernel_rfl) (fun _ _ _ h => h) (.inr ⟨by rfl, rfl⟩) hS ?_
                    simp only [Act.put, List.getElem_toArray, List.getElem_cons_succ, List.getElem_cons_zero, List.setIfInBounds_toArray, List.set_cons_succ, List.set_cons_zero]
                    refine wpAnyH_take (i := 9) (v := undef) rfl (by kernel_rfl) (by kernel_rfl) (by kernel_rfl) (fun _ _ _ h => h) (.inr ⟨by rfl, rfl⟩) hS ?_
                    simp only [Act.put, List.getElem_toArray, List.getElem_cons_succ, List.getElem_cons_zero, List.setIfInBounds_toArray, List.set_cons_succ, List.set_cons_zero]
                    refine wpAnyH_take (i := 10) (v := undef) rfl (by kernel_rfl) (by kernel_rfl) (by kernel_rfl) (fun _ _ _ h => h) (.inr ⟨by rfl, rfl⟩) hS ?_
                    simp only [Act.put, List.getElem_toArray, List.getElem_cons_succ, List.getElem_cons_zero, List.setIfInBounds_toArray, List.set_cons_succ, List.set_cons_zero]
                    refine wpAnyH_take (i := 11) (v := undef) rfl (by kernel_rfl) (by kernel_rfl) (by kernel_rfl) (fun _ _ _ h => h) (.inr ⟨by rfl, rfl⟩) hS ?_
                    simp only [Act.put, List.getElem_toArray, List.getElem_cons_succ, List.getElem_cons_zero, List.setIfInBounds_toArray, List.set_cons_succ, List.set_cons_zero]
                    refine wpAnyH_take (i := 12) (v := .bool false) rfl (by kernel_rfl) (by kernel_rfl) (by kernel_rfl) (fun _ _ _ h => h) (.inl ⟨by rfl, fun W' hW' => ?_⟩) hS ?_
                    · obtain ⟨q1, q2⟩ := hW'
                      go_simp
                    simp only [Act.put, List.getElem_toArray, List.getElem_cons_succ, List.getElem_cons_zero, List.setIfInBounds_toArray, List.set_cons_succ, List.set_cons_zero]
                    refine wpAnyH_take (i := 13) (v := .bool false) rfl (by kernel_rfl) (by kernel_rfl) (by kernel_rfl) (fun _ _ _ h => h) (.inl ⟨by rfl, fun W' hW' => ?_⟩) hS ?_
                    · obtain ⟨q1, q2⟩ := hW'
                      go_simp
                    simp only [Act.put, List.getElem_toArray, List.getElem_cons_succ, List.getElem_cons_zero, List.setIfInBounds_toArray, List.set_cons_succ, List.set_cons_zero]
                    refine wpAnyH_take (i := 14) (v := .bool false) rfl (by kernel_rfl) (by kernel_rfl) (by kernel_rfl) (fun _ _ _ h => h) (.inl ⟨by rfl, fun W' hW' => ?_⟩) hS ?_
                    · obtain ⟨q1, q2⟩ := hW'
                      go_simp
                    simp only [Act.put, List.getElem_toArray, List.getElem_cons_succ, List.getElem_cons_zero, List.setIfInBounds_toArray, List.set_cons_succ, List.set_cons_zero]
                    refine wpAnyH_take (i := 15) (v := .int .i64 (k : Int)) rfl (by kernel_rfl) (by kernel_rfl) (by kernel_rfl) (fun _ _ _ h => h) (.inl ⟨by rfl, fun W' hW' => ?_⟩) hS ?_
                    · obtain ⟨q1, q2⟩ := hW'
                      go_simp
                    simp only [Act.put, List.getElem_toArray, List.getElem_cons_succ, List.getElem_cons_zero, List.setIfInBounds_toArray, List.set_cons_succ, List.set_cons_zero]
                    refine wpAnyH_take (i := 16) (v := .bool true) rfl (by kernel_rfl) (by kernel_rfl) (by kernel_rfl) (fun _ _ _ h => h) (.inl ⟨by rfl, fun W' hW' => ?_⟩) hS ?_
                    · obtain ⟨q1, q2⟩ := hW'
                      go_simp <;> omega
                    simp only [Act.put, List.getElem_toArray, List.getElem_cons_succ, List.getElem_cons_zero, List.setIfInBounds_toArray, List.set_cons_succ, List.set_cons_zero]
                    refine wpAnyH_take (i := 17) (v := .bool true) rfl (by kernel_rfl) (by kernel_rfl) (by kernel_rfl) (fun _ _ _ h => h) (.inl ⟨by rfl, fun W' hW' => ?_⟩) hS ?_
                    · obtain ⟨q1, q2⟩ := hW'
                      go_simp
                    simp only [Act.put, List.getElem_toArray, List.getElem_cons_succ, List.getElem_cons_zero, List.setIfInBounds_toArray, List.set_cons_succ, List.set_cons_zero]
                    refine wpAnyH_take (i := 18) (v := .int .i64 3) rfl (by kernel_rfl) (by kernel_rfl) (by kernel_rfl) (fun _ _ _ h => h) (.inl ⟨by rfl, fun W' hW' => ?_⟩) hS ?_
                    · obtain ⟨q1, q2⟩ := hW'
                      go_simp
                    simp only [Act.put, List.getElem_toArray, List.getElem_cons_succ, List.getElem_cons_zero, List.setIfInBounds_toArray, List.set_cons_succ, List.set_cons_zero]
                    refine wpAnyH_take (i := 19) (v := .bool false) rfl (by kernel_rfl) (by kernel_rfl) (by kernel_rfl) (fun _ _ _ h => h) (.inl ⟨by rfl, fun W' hW' => ?_⟩) hS ?_
                    · obtain ⟨q1, q2⟩ := hW'
                      go_simp
                    simp only [Act.put, List.getElem_toArray, List.getElem_cons_succ, List.getElem_cons_zero, List.setIfInBounds_toArray, List.set_cons_succ, List.set_cons_zero]
                    refine wpAnyH_take (i := 20) (v := .bool false) rfl (by kernel_rfl) (by kernel_rfl) (by kernel_rfl) (fun _ _ _ h => h) (.inl ⟨by rfl, fun W' hW' => ?_⟩) hS ?_
                    · obtain ⟨q1, q2⟩ := hW'
                      go_simp
                    simp only [Act.put, List.getElem_toArray, List.getElem_cons_succ, List.getElem_cons_zero, List.setIfInBounds_toArray, List.set_cons_succ, List.set_cons_zero]
                    refine wpAnyH_take (i := 21) (v := undef) rfl (by kernel_rfl) (by kernel_rfl) (by kernel_rfl) (fun _ _ _ h => h) (.inr ⟨by rfl, rfl⟩) hS ?_
                    simp only [Act.put, List.getElem_toArray, List.getElem_cons_succ, List.getElem_cons_zero, List.setIfInBounds_toArray, List.set_cons_succ, List.set_cons_zero]
                    refine wpAnyH_take (i := 22) (v := .bool false) rfl (by kernel_rfl) (by kernel_rfl) (by kernel_rfl) (fun _ _ _ h => h) (.inl ⟨by rfl, fun W' hW' => ?_⟩) hS ?_
                    · obtain ⟨q1, q2⟩ := hW'
                      go_simp
                    simp only [Act.put, List.getElem_toArray, List.getElem_cons_succ, List.getElem_cons_zero, List.setIfInBounds_toArray, List.set_cons_succ, List.set_cons_zero]
                    refine wpAnyH_take (i := 23) (v := .bool true) rfl (by kernel_rfl) (by kernel_rfl) (by kernel_rfl) (fun _ _ _ h => h) (.inl ⟨by rfl, fun W' hW' => ?_⟩) hS ?_
                    · obtain ⟨q1, q2⟩ := hW'
                      go_simp
                    simp only [Act.put, List.getElem_toArray, List.getElem_cons_succ, List.getElem_cons_zero, List.setIfInBounds_toArray, List.set_cons_succ, List.set_cons_zero]
                    refine wpAnyH_take (i := 24) (v := .bool true) rfl (by kernel_rfl) (by kernel_rfl) (by kernel_rfl) (fun _ _ _ h => h) (.inl ⟨by rfl, fun W' hW' => ?_⟩) hS ?_
                    · obtain ⟨q1, q2⟩ := hW'
                      go_simp
                    simp only [Act.put, List.getElem_toArray, List.getElem_cons_succ, List.getElem_cons_zero, List.setIfInBounds_toArray, List.set_cons_succ, List.set_cons_zero]
                    refine wpAnyH_take (i := 25) (v := .bool true) rfl (by kernel_rfl) (by kernel_rfl) (by kernel_rfl) (fun _ _ _ h => h) (.inl ⟨by rfl, fun W' hW' => ?_⟩) hS ?_
                    · obtain ⟨q1, q2⟩ := hW'
                      go_simp
                    simp only [Act.put, List.getElem_toArray, List.getElem_cons_succ, List.getElem_cons_zero, List.setIfInBounds_toArray, List.set_cons_succ, List.set_cons_zero]
                    refine wpAnyH_take (i := 26) (v := .slice (some ⟨wr.heap.size, 0, none⟩) 256 256) rfl (by kernel_rfl) (by kernel_rfl) (by kernel_rfl) (fun _ _ _ h => h) (.inl ⟨by rfl, fun W' hW' => ?_⟩) hS ?_
                    · obtain ⟨q1, q2⟩ := hW'
                      go_simp
                    simp only [Act.put, List.getElem_toArray, List.getElem_cons_succ, List.getElem_cons_zero, List.setIfInBounds_toArray, List.set_cons_succ, List.set_cons_zero]
                    refine wpAnyH_take (i := 27) (v := .string cs) rfl (by kernel_rfl) (by kernel_rfl) (by kernel_rfl) (fun _ _ _ h => h) (.inl ⟨by rfl, fun W' hW' => ?_⟩) hS ?_
                    · obtain ⟨q1, q2⟩ := hW'
                      go_simp
                    simp only [Act.put, List.getElem_toArray, List.getElem_cons_succ, List.getElem_cons_zero, List.setIfInBounds_toArray, List.set_cons_succ, List.set_cons_zero]
                    refine wpAnyH_take (i := 28) (v := .slice (some ⟨gw, 0, none⟩) n cw) rfl (by kernel_rfl) (by kernel_rfl) (by kernel_rfl) (fun _ _ _ h => h) (.inl ⟨by rfl, fun W' hW' => ?_⟩) hS ?_
                    · obtain ⟨q1, q2⟩ := hW'
                      go_simp
                    simp only [Act.put, List.getElem_toArray, List.getElem_cons_succ, List.getElem_cons_zero, List.setIfInBounds_toArray, List.set_cons_succ, List.set_cons_zero]
                    refine wpAnyH_take (i := 29) (v := .int .i64 (k : Int)) rfl (by kernel_rfl) (by kernel_rfl) (by kernel_rfl) (fun _ _ _ h => h) (.inl ⟨by rfl, fun W' hW' => ?_⟩) hS ?_
                    · obtain ⟨q1, q2⟩ := hW'
                      go_simp
                    simp only [Act.put, List.getElem_toArray, List.getElem_cons_succ, List.getElem_cons_zero, List.setIfInBounds_toArray, List.set_cons_succ, List.set_cons_zero]
                    refine wpAnyH_take (i := 30) (v := .pointer (some ⟨gw, k, none⟩)) rfl (by kernel_rfl) (by kernel_rfl) (by kernel_rfl) (fun _ _ _ h => h) (.inl ⟨by rfl, fun W' hW' => ?_⟩) hS ?_
                    · obtain ⟨q1, q2⟩ := hW'
                      go_simp
                    simp only [Act.put, List.getElem_toArray, List.getElem_cons_succ, List.getElem_cons_zero, List.setIfInBounds_toArray, List.set_cons_succ, List.set_cons_zero]
                    refine wpAnyH_take (i := 31) (v := .string cs) rfl (by kernel_rfl) (by kernel_rfl) (by kernel_rfl) (fun _ _ _ h => h) (.inl ⟨by rfl, fun W' hW' => ?_⟩) hS ?_
                    · obtain ⟨q1, q2⟩ := hW'
                      go_simp
                    simp only [Act.put, List.getElem_toArray, List.getElem_cons_succ, List.getElem_cons_zero, List.setIfInBounds_toArray, List.set_cons_succ, List.set_cons_zero]
                    refine wpAnyH_take (i := 32) (v := .bool false) rfl (by kernel_rfl) (by kernel_rfl) (by kernel_rfl) (fun _ _ _ h => h) (.inl ⟨by rfl, fun W' hW' => ?_⟩) hS ?_
                    · obtain ⟨q1, q2⟩ := hW'
                      go_simp
                    simp only [Act.put, List.getElem_toArray, List.getElem_cons_succ, List.getElem_cons_zero, List.setIfInBounds_toArray, List.set_cons_succ, List.set_cons_zero]
                    refine wpAnyH_take (i := 33) (v := .bool false) rfl (by kernel_rfl) (by kernel_rfl) (by kernel_rfl) (fun _ _ _ h => h) (.inl ⟨by rfl, fun W' hW' => ?_⟩) hS ?_
                    · obtain ⟨q1, q2⟩ := hW'
                      go_simp
                    simp only [Act.put, List.getElem_toArray, List.getElem_cons_succ, List.getElem_cons_zero, List.setIfInBounds_toArray, List.set_cons_succ, List.set_cons_zero]
                    refine wpAnyH_take (i := 34) (v := .bool false) rfl (by kernel_rfl) (by kernel_rfl) (by kernel_rfl) (fun _ _ _ h => h) (.inl ⟨by rfl, fun W' hW' => ?_⟩) hS ?_
                    · obtain ⟨q1, q2⟩ := hW'
                      go_simp
                    simp only [Act.put, List.getElem_toArray, List.getElem_cons_succ, List.getElem_cons_zero, List.setIfInBounds_toArray, List.set_cons_succ, List.set_cons_zero]
                    refine wpAnyH_done (by kernel_rfl) ?_ _
                    go_wp2
                    exact ⟨⟨k + 1, by omega, by go_num, hb6.trans ⟨rfl, rfl, rfl, Nat.le_refl _, fun _ _ => rfl⟩⟩, by simp [RowKit.intOf]; omega⟩
              · have hps := hp5.on hbw2
                go_wp2_with fail
                exact ⟨⟨j + 1, half, t, X3, S3, _, _, 3, by omega, by go_num, rfl, rfl, hps, by omega, by omega⟩, by simp [RowKit.intOf]; omega⟩
    · go_wp2_with fail
      go_ret
      exact ⟨rfl, hpa.bel⟩
end Go.Proofs.Ythgkkmcpmhfehaa
