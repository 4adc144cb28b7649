/- trivetlaw16.AframeChunks answers true of any row of frames and any cut. Conditions: those that each row states. -/
import Derived.Test.YtlkinkbdhoejiaaLc
namespace Go.Proofs.Ytlkinkbdhoejiaa
open Go.RowKit Go.Lib
set_option maxRecDepth 100000

set_option maxHeartbeats 4000000 in
theorem chunks_at (w : World) (ad : Option Addr) (cap : Nat) (fs : List Fr) (cut : Int) (hfs : 0 < fs.length → ∃ b o, ad = some ⟨b, o, none⟩ ∧ b < w.heap.size ∧ FrsAt w b o fs) (hcap : fs.length ≤ cap) (hn : fs.length ≤ 40) :
    Calls Try.prog 6 #[.slice ad fs.length cap, .int .i64 cut] w fun e w' => e = .returned (.bool true) ∧ Below w.heap.size w w' := by
  obtain ⟨n, hnn⟩ : ∃ n, fs.length = n := ⟨_, rfl⟩
  rw [hnn] at hcap hn hfs ⊢
  have HN : Hid (fs.length = n) := hnn
  have HF : Hid (0 < n → ∃ b o, ad = some ⟨b, o, none⟩ ∧ b < w.heap.size ∧ FrsAt w b o fs) := hfs
  have hz40 : (n : Int) ≤ 40 := by omega
  clear hnn hfs
  go_enter Try.func6, Try.ntmps6
  go_wp2_with fail
  refine (wakes_any _).mono ?_
  rintro e w1 ⟨rfl, hb1⟩
  go_wp2_with fail
  go_loopw [5, 6, 24] (fun u e i wr => ∃ k : Nat, k ≤ n ∧ i = .int .i64 k ∧ Own wr w.heap.size u (flatB (fs.take k)) ∧ OwnI wr w.heap.size e (endsL fs k) ∧ Below w.heap.size w wr ∧ (flatB (fs.take k)).length ≤ k * 4104 ∧ Hid (∀ j (hj : j < fs.length), j < k → fs[j].ok)) (fun _ _ i _ => n - (RowKit.intOf i).toNat)
  case atStart => exact ⟨0, Nat.zero_le _, rfl, Own.nil _ _, OwnI.nil _ _, hb1, by simp [flatB], fun j _ hj => absurd hj (Nat.not_lt_zero _)⟩
  case round =>
    clear hb1
    obtain ⟨k, hk, rfl, hou, hoe, hbr, hll, hok⟩ := hrel
    have hwr := hbr.size
    by_cases hlt : k < n
    · have hkl : k < fs.length := by have := HN.out; omega
      obtain ⟨b, o, rfl, hbw, hFs⟩ := HF.out (by omega)
      obtain ⟨c0, c1, c2⟩ := hFs.below hbr hbw k hkl
      clear hFs
      have HO : Hid (fs[k].ok → ∀ j (hj : j < fs.length), j < k + 1 → fs[j].ok) := fun h j hj hjk => by
        by_cases e : j = k
        · subst e; exact h
        · exact hok.out j hj (by omega)
      have HS : Hid (flatB (fs.take (k + 1)) = flatB (fs.take k) ++ frL fs[k].t.toNat fs[k].c.toNat fs[k].p) := flat_snoc fs k hkl
      have HE : Hid (endsL fs (k + 1) = endsL fs k ++ [((flatB (fs.take (k + 1))).length : Int)]) := endsL_snoc fs k
      clear hok
      generalize fs[k] = f at *
      obtain ⟨L', eL⟩ : ∃ x, flatB (fs.take (k + 1)) = x := ⟨_, rfl⟩
      have HL1 : Hid (flatB (fs.take (k + 1)) = L') := eL
      rw [eL] at HS HE
      clear eL
      generalize flatB (fs.take k) = L at *
      obtain ⟨E', eE⟩ : ∃ x, endsL fs (k + 1) = x := ⟨_, rfl⟩
      have HE1 : Hid (endsL fs (k + 1) = E') := eE
      rw [eE] at HE
      clear eE
      have hEl : Hid ((endsL fs k).length = k) := endsL_len fs k
      generalize endsL fs k = E at *
      obtain ⟨t, c, p⟩ := f
      have hkz : (k : Int) < (n : Int) := by omega
      by_cases h4 : 4096 < p.length
      · have d4 : decide ((4096 : Int) < (p.length : Int)) = true := by simp; omega
        clear h4
        go_wp2_with fail
        go_ret
        exact ⟨rfl, hbr.alloc hwr _⟩
      · have d4 : decide ((4096 : Int) < (p.length : Int)) = false := by simp; omega
        have hen : ∀ w, Calls Try.prog 9 #[frV t c p] w fun e w' => ∃ v, e = .returned (.tuple #[v, .int .i64 (encE t c p)]) ∧ Own w' w.heap.size v (encB t c p) ∧ Below w.heap.size w w' := fun w => enc_any w t c p (by omega)
        have hbn := below_new wr (.cells #[.int .i64 t, .int .i64 c, str p] 23)
        have hsn : w.heap.size ≤ (wr.alloc (.cells #[.int .i64 t, .int .i64 c, str p] 23)).heap.size := by simp; omega
        have hou1 := hou.on hbn
        have hoe1 := hoe.on hbn
        have hbr1 := hbr.trans (hbn.mono hwr)
        obtain ⟨q0, q1, q2, _, _, _⟩ := F3.new wr (.int .i64 t) (.int .i64 c) (str p) 23
        cases hok2 : okF t c p with
        | false =>
          simp only [encE, hok2] at hen
          clear hou1 hoe1 hou hoe hbn h4
          go_wp2_with fail
          generalize wr.alloc (.cells #[.int .i64 t, .int .i64 c, .string { data := p.toArray }] 23) = w2 at *
          refine (hen _).mono ?_
          rintro e w3 ⟨v3, rfl, _, hb3⟩
          go_wp2_with fail
          go_ret
          exact ⟨rfl, hbr1.trans (hb3.mono hsn)⟩
        | true =>
          simp only [encE, encB, hok2, if_true] at hen
          obtain ⟨t', c', rfl, rfl, y1, y2, y3, y4⟩ := okF_nat t c p hok2
          have HP : Hid (p.length ≤ 4096) := by show _ ≤ _; omega
          have hF : Fr.ok ⟨t', c', p⟩ := ⟨⟨y1, y2, y3, y4⟩, by show (0 : Int) ≤ (t' : Int); omega, by show (0 : Int) ≤ (c' : Int); omega⟩
          have HO' := HO.out hF
          have HO2 : Hid (∀ j (hj : j < fs.length), j < k + 1 → fs[j].ok) := HO'
          have HFl : Hid ((frL t' c' p).length = p.length + 8) := frL_len t' c' p
          simp only [Int.toNat_natCast] at hen HS
          generalize frL t' c' p = F at *
          clear hou hoe hbn HO HO' hF hok2 y1 y2 y3 y4 h4 hbr
          go_wp2_with fail
          generalize wr.alloc (.cells #[.int .i64 (t' : Int), .int .i64 (c' : Int), .string { data := p.toArray }] 23) = w2 at *
          refine (hen _).mono ?_
          rintro e w3 ⟨v3, rfl, ho3, hb3⟩
          have hou2 := hou1.on hb3
          have hoe2 := hoe1.on hb3
          have hbr3 := hbr1.trans (hb3.mono hsn)
          have hs3 := hbr3.size
          clear hen hou1 hoe1 hb3 hbr1 hsn q0 q1 q2 c0 c1 c2
          go_wp2_with (at_builtin; refine appG rfl (.tmp 39) (.tmp 40) rfl w.heap.size _ _ L F w3 rfl hou2 rfl ho3.rd (by have := HFl.out; have := HP.out; omega) hs3 ?_)
          intro v4 w4 ho4 hb4 hg4
          have hoe4 := hoe2.kept hg4 (own_apart hou2 hoe2).2
          have hb4' := hbr3.trans hb4
          have hs4 := hb4'.size
          have HL' : Hid (L'.length ≤ (k + 1) * 4104) := by
            show _ ≤ _
            rw [HS.out, List.length_append, HFl.out]
            have := HP.out
            omega
          rw [← HS.out] at ho4
          clear hg4 hb4 hou2 hoe2 hbr3 ho3
          obtain ⟨a4, cp4, rfl⟩ := ho4.len
          have hl4 := HL'.out
          go_wp2_with (at_builtin; refine appI rfl (.tmp 42) (.tmp 45) rfl w.heap.size _ E w4 (L'.length : Int) rfl hoe4 rfl (by have := hEl.out; omega) hs4 ?_)
          intro v5 w5 ho5 hb5 hg5
          have hbn := below_new w4 (.cells #[.int .i64 (L'.length : Int)] 3)
          have ho4' := (ho4.on hbn).kept hg5 (own_apart (ho4.on hbn) (hoe4.on hbn)).1
          have hb5' := hb4'.trans hb5
          rw [← HE.out] at ho5
          clear hbn ho4 hoe4 hg5 hb5 hb4' hs4
          go_wp2_with fail
          go_roundw
          case rel => exact ⟨k + 1, by omega, by go_num, by rw [HL1.out]; exact ho4', by rw [HE1.out]; exact ho5, hb5', by rw [HL1.out]; exact hl4, HO2⟩
          case measure => simp [RowKit.intOf]; omega
    · have hkn : k = n := by omega
      subst hkn
      have HA : Hid (∀ j (hj : j < fs.length), fs[j].ok) := fun j hj => hok.out j hj (by have := HN.out; omega)
      have hF0 : fs.take k = fs := by rw [← HN.out]; exact List.take_length
      rw [hF0] at hou hll
      clear hok hF0 hlt hk
      obtain ⟨w0, ew⟩ : ∃ x, x = wr := ⟨_, rfl⟩
      subst ew
      obtain ⟨a, cp, rfl⟩ := hou.len
      obtain ⟨q, hqT, hq1, hq2⟩ : ∃ q : Nat, q ≤ (flatB fs).length ∧ ((cut < 0 ∨ ((flatB fs).length : Int) < cut) → q = (flatB fs).length) ∧ (¬ cut < 0 ∧ ¬ ((flatB fs).length : Int) < cut → cut = q) := by
        by_cases h : cut < 0 ∨ ((flatB fs).length : Int) < cut
        · exact ⟨_, Nat.le_refl _, fun _ => rfl, fun h' => absurd h (by omega)⟩
        · exact ⟨cut.toNat, by omega, fun h' => absurd h' h, fun _ => by omega⟩
      obtain ⟨hcc, CV⟩ := conv_take hou.rd q hqT
      have HT : Hid ((flatB fs).length ≤ k * 4104) := hll
      obtain ⟨T, hT⟩ : ∃ T, (flatB fs).length = T := ⟨_, rfl⟩
      rw [hT] at hcc hqT hq1 hq2 ⊢
      have HTT : Hid ((flatB fs).length = T) := hT
      clear hT hll hou
      have x1 : (q : Int) ≤ (T : Int) := by omega
      have x2 : (T : Int) ≤ (cp : Int) := by omega
      have x3 : (q : Int) ≤ (cp : Int) := by omega
      rcases (by omega : (cut < 0 ∧ q = T) ∨ (¬ cut < 0 ∧ (T : Int) < cut ∧ q = T) ∨ (0 ≤ cut ∧ cut ≤ T ∧ cut = q)) with ⟨z1, rfl⟩ | ⟨z1, z2, rfl⟩ | ⟨z1, z2, rfl⟩
      · clear hq1 hq2
        have y1 : decide (cut < 0) = true := by simpa using z1
        clear z1
        go_wp2_with fail
        go_loopw [12, 13] (fun at' i w2 => ∃ j : Nat, j ≤ k ∧ i = .int .i64 j ∧ at' = .int .i64 (off fs j) ∧ off fs j ≤ q ∧ Below w0.heap.size w0 w2) (fun _ i _ => k + 1 - (RowKit.intOf i).toNat)
        case atStart => exact ⟨0, Nat.zero_le _, rfl, rfl, Nat.zero_le _, Below.refl _ _⟩
        case round =>
          obtain ⟨j, hj, rfl, rfl, hoq, hb2⟩ := hrel
          have hbw2 := hbr.trans (hb2.mono hwr)
          have hsw2 := hbw2.size
          have hql : ((flatB fs).take q).length = q := by rw [List.length_take, HTT.out]; omega
          have hq9 : q ≤ 164160 := by have := HT.out; have := HTT.out; omega
          have X : ∀ w, Calls Try.prog 11 #[.string ((⟨((flatB fs).take q).toArray⟩ : ByteArray).extract (off fs j) q)] w fun e w' => e = .returned (nrV (nextL (((flatB fs).take q).drop (off fs j)))) ∧ Below w.heap.size w w' := fun w => by
            rw [ext_str, List.take_of_length_le (by rw [List.length_drop, hql]; exact Nat.le_refl _)]
            exact next_any w _ (by rw [List.length_drop, hql]; omega)
          have x4 : ((off fs j : Nat) : Int) ≤ (q : Int) := by omega
          by_cases hjn : j < k
          · have hjl : j < fs.length := by have := HN.out; omega
            have hok := HA.out j hjl
            obtain ⟨b, o, rfl, hbw, hFs⟩ := HF.out (by omega)
            have hcs := hFs.below hbw2 hbw j hjl
            clear hFs
            obtain ⟨g, ge, rfl, hg, hge, hgc⟩ := hoe.get (by rw [endsL_len]; omega)
            have hgj := hgc j _ (endsL_get fs k j hjn)
            rw [endsL_len] at hge ⊢
            rcases next_at fs q j hjl hoq hok with ⟨hlt, he⟩ | ⟨hle, he⟩
            · rw [he] at X
              clear he hcs hok
              have z1 : (q : Int) < ((off fs (j + 1) : Nat) : Int) := by omega
              have z2 : ¬ ((j : Int) = (k : Int)) := by omega
              have z3 : (j : Int) < (k : Int) := by omega
              generalize off fs (j + 1) = A' at *
              generalize off fs j = A at *
              generalize (flatB fs).take q = S at *
              clear hgc hlt
              go_wp2_with fail
              refine (X _).mono ?_
              rintro e w3 ⟨rfl, hb3⟩
              have hB3 := hbw2.trans (hb3.mono hsw2)
              have hbn := (hb2.trans (hb3.mono hb2.size)).alloc (Nat.le_trans hb2.size hb3.size) (.cells #[.int .i64 0, .int .i64 0, .string { data := #[] }] 23)
              have hgj' := hbn.cell (p := ⟨g, j, none⟩) hg
              rw [hgj] at hgj'
              unfold nrV
              clear X hbn
              go_wp2_with fail
              go_ret
              exact ⟨rfl, hB3.alloc hB3.size _⟩
            · rw [he] at X
              have hoe1 : Hid (off fs (j + 1) = off fs j + (fs[j].p.length + 8)) := by
                show _ = _
                rw [off_succ fs j hjl, b_len]
              clear he
              obtain ⟨c0, c1, c2⟩ := hcs
              obtain ⟨_, ht0, hc0⟩ := hok
              have eT : ((fs[j].t.toNat : Nat) : Int) = fs[j].t := Int.toNat_of_nonneg ht0
              have eC : ((fs[j].c.toNat : Nat) : Int) = fs[j].c := Int.toNat_of_nonneg hc0
              unfold nrV at X
              simp only [eT, eC] at X
              generalize fs[j].t = t at *
              generalize fs[j].c = c at *
              generalize fs[j].p = p at *
              have z1 : ((off fs (j + 1) : Nat) : Int) ≤ (q : Int) := by omega
              have z3 : (j : Int) < (k : Int) := by omega
              obtain ⟨A', eA'⟩ : ∃ x, off fs (j + 1) = x := ⟨_, rfl⟩
              have HA' : Hid (off fs (j + 1) = A') := eA'
              rw [eA'] at hgj hoe1 z1
              have hzz : Hid ((A' : Int) = ((off fs j : Nat) : Int) + ((p.length : Int) + 8)) := by
                show _ = _
                rw [hoe1.out]; omega
              generalize off fs j = A at *
              generalize (flatB fs).take q = S at *
              clear hgc eA' eT eC ht0 hc0 hle
              go_wp2_with fail
              refine (X _).mono ?_
              rintro e w3 ⟨rfl, hb3⟩
              clear X
              go_wp2_with fail
              have hx := F3.new w3 (.int .i64 t) (.int .i64 c) (str p) 23
              have hbn := below_new w3 (.cells #[.int .i64 t, .int .i64 c, str p] 23)
              have hb4 := (hb2.trans (hb3.mono hb2.size)).trans (hbn.mono (Nat.le_trans hb2.size hb3.size))
              have hbw4 := (hbw2.trans (hb3.mono hsw2)).trans (hbn.mono (Nat.le_trans hsw2 hb3.size))
              have hx4 : w3.heap.size < (w3.alloc (.cells #[.int .i64 t, .int .i64 c, str p] 23)).heap.size := by simp
              have hs04 : w0.heap.size ≤ (w3.alloc (.cells #[.int .i64 t, .int .i64 c, str p] 23)).heap.size := hb4.size
              have hsw4 := hbw4.size
              have g4 := hb4.cell (p := ⟨g, j, none⟩) hg
              rw [hgj] at g4
              have hbs : Below (wr.heap.size) wr (w3.alloc (.cells #[.int .i64 t, .int .i64 c, str p] 23)) := hb3.trans (hbn.mono hb3.size)
              have a0 := hbs.cell (p := ⟨b, o + j * 3, none⟩) (by show b < _; omega)
              have a1 := hbs.cell (p := ⟨b, o + j * 3 + 1, none⟩) (by show b < _; omega)
              have a2 := hbs.cell (p := ⟨b, o + j * 3 + 2, none⟩) (by show b < _; omega)
              rw [c0] at a0
              rw [c1] at a1
              rw [c2] at a2
              obtain ⟨m, hm⟩ : ∃ m, w3.heap.size = m := ⟨_, rfl⟩
              rw [hm] at hx hx4 ⊢
              clear hbn hb3 hb2 hbw2 hsw2 hbs hgj c0 c1 c2 hm
              generalize w3.alloc (.cells #[.int .i64 t, .int .i64 c, str p] 23) = w4 at *
              refine wp_region_held (S := fun W => Below w4.heap.size w4 W) hmix ?_
              show wpAnyH _ _ _ _ _ _ _ _ (World.drew _)
              have hS : Below w4.heap.size w4 w4.drew := (Below.refl _ _).drew
              have zA : (A : Int) + ((p.length : Int) + 8) = (A' : Int) := hzz.out.symm
              have zB : (A' : Int) ≤ 1000000 := by omega
              have zC : (0 : Int) ≤ (A : Int) := by omega
              refine tks [0, 1, 2, 3, 4, 5, 6, 7, 8, 9, 10, 11, 12, 13, 14, 15, 16, 17, 18, 19, 20, 21] [.int .i64 j, .slice (some ⟨b, o, none⟩) k cap, .int .i64 k, .bool false, .bool false, frV t c p, .slice (some ⟨b, o, none⟩) k cap, .int .i64 j, .pointer (some ⟨b, o + j * 3, none⟩), frV t c p, .bool false, .bool false, .bool false, .int .i64 A, .int .i64 ((p.length : Int) + 8), .int .i64 A', .slice (some ⟨g, 0, none⟩) k ge, .int .i64 j, .pointer (some ⟨g, j, none⟩), .int .i64 A', .bool false, .bool false] 0 ?_ hS ?_
              · simp only [tkY, tkf]
                refine ⟨.yes ?_, .yes ?_, .yes ?_, .yes ?_, .yes ?_, .yes ?_, .yes ?_, .yes ?_, .yes ?_, .yes ?_, .yes ?_, .yes ?_, .yes ?_, .yes ?_, .yes ?_, .yes ?_, .yes ?_, .yes ?_, .yes ?_, .yes ?_, .yes ?_, .yes ?_, trivial⟩
                all_goals
                  intro W' hW'
                  obtain ⟨k0, k1, k2, _, _, _⟩ := hx.below hW' hx4
                  have b0 := hW'.cell (p := ⟨b, o + j * 3, none⟩) (by show b < _; omega)
                  have b1 := hW'.cell (p := ⟨b, o + j * 3 + 1, none⟩) (by show b < _; omega)
                  have b2 := hW'.cell (p := ⟨b, o + j * 3 + 2, none⟩) (by show b < _; omega)
                  have bg := hW'.cell (p := ⟨g, j, none⟩) (by show g < _; omega)
                  rw [a0] at b0
                  rw [a1] at b1
                  rw [a2] at b2
                  rw [g4] at bg
                  go_simp
                  all_goals (rw [IntKind.wrap_i64]; omega)
              simp only [tkA, tkf]
              refine wpAnyH_done (by kernel_rfl) ?_ _
              have hb5 : Below w0.heap.size w0 w4.drew := hb4.drew
              clear hS hb4 hbw4 hsw4 hs04 hx hx4 a0 a1 a2 g4 hge
              generalize w4.drew = w5 at *
              go_wp2_with fail
              go_roundw
              case rel => exact ⟨j + 1, by omega, by go_num, by rw [HA'.out], by rw [HA'.out]; omega, hb5⟩
              case measure => simp [RowKit.intOf]; omega
          · have hjk : j = k := by omega
            subst hjk
            have he := next_end fs q (by rw [HTT.out]; exact hqT)
            rw [HN.out] at he
            rw [he] at X
            clear he hjn hj
            generalize off fs j = A at *
            generalize (flatB fs).take q = S at *
            go_wp2_with fail
            refine (X _).mono ?_
            rintro e w3 ⟨rfl, hb3⟩
            have hB3 := hbw2.trans (hb3.mono hsw2)
            unfold nrV
            clear X
            go_wp2_with fail
            go_ret
            exact ⟨rfl, hB3.alloc hB3.size _⟩
      · clear hq1 hq2
        have y1 : decide (cut < 0) = false := by simpa using z1
        have y2 : decide ((q : Int) < cut) = true := by simpa using z2
        clear z1 z2
        go_wp2_with fail
        go_loopw [12, 13] (fun at' i w2 => ∃ j : Nat, j ≤ k ∧ i = .int .i64 j ∧ at' = .int .i64 (off fs j) ∧ off fs j ≤ q ∧ Below w0.heap.size w0 w2) (fun _ i _ => k + 1 - (RowKit.intOf i).toNat)
        case atStart => exact ⟨0, Nat.zero_le _, rfl, rfl, Nat.zero_le _, Below.refl _ _⟩
        case round =>
          obtain ⟨j, hj, rfl, rfl, hoq, hb2⟩ := hrel
          have hbw2 := hbr.trans (hb2.mono hwr)
          have hsw2 := hbw2.size
          have hql : ((flatB fs).take q).length = q := by rw [List.length_take, HTT.out]; omega
          have hq9 : q ≤ 164160 := by have := HT.out; have := HTT.out; omega
          have X : ∀ w, Calls Try.prog 11 #[.string ((⟨((flatB fs).take q).toArray⟩ : ByteArray).extract (off fs j) q)] w fun e w' => e = .returned (nrV (nextL (((flatB fs).take q).drop (off fs j)))) ∧ Below w.heap.size w w' := fun w => by
            rw [ext_str, List.take_of_length_le (by rw [List.length_drop, hql]; exact Nat.le_refl _)]
            exact next_any w _ (by rw [List.length_drop, hql]; omega)
          have x4 : ((off fs j : Nat) : Int) ≤ (q : Int) := by omega
          by_cases hjn : j < k
          · have hjl : j < fs.length := by have := HN.out; omega
            have hok := HA.out j hjl
            obtain ⟨b, o, rfl, hbw, hFs⟩ := HF.out (by omega)
            have hcs := hFs.below hbw2 hbw j hjl
            clear hFs
            obtain ⟨g, ge, rfl, hg, hge, hgc⟩ := hoe.get (by rw [endsL_len]; omega)
            have hgj := hgc j _ (endsL_get fs k j hjn)
            rw [endsL_len] at hge ⊢
            rcases next_at fs q j hjl hoq hok with ⟨hlt, he⟩ | ⟨hle, he⟩
            · rw [he] at X
              clear he hcs hok
              have z1 : (q : Int) < ((off fs (j + 1) : Nat) : Int) := by omega
              have z2 : ¬ ((j : Int) = (k : Int)) := by omega
              have z3 : (j : Int) < (k : Int) := by omega
              generalize off fs (j + 1) = A' at *
              generalize off fs j = A at *
              generalize (flatB fs).take q = S at *
              clear hgc hlt
              go_wp2_with fail
              refine (X _).mono ?_
              rintro e w3 ⟨rfl, hb3⟩
              have hB3 := hbw2.trans (hb3.mono hsw2)
              have hbn := (hb2.trans (hb3.mono hb2.size)).alloc (Nat.le_trans hb2.size hb3.size) (.cells #[.int .i64 0, .int .i64 0, .string { data := #[] }] 23)
              have hgj' := hbn.cell (p := ⟨g, j, none⟩) hg
              rw [hgj] at hgj'
              unfold nrV
              clear X hbn
              go_wp2_with fail
              go_ret
              exact ⟨rfl, hB3.alloc hB3.size _⟩
            · rw [he] at X
              have hoe1 : Hid (off fs (j + 1) = off fs j + (fs[j].p.length + 8)) := by
                show _ = _
                rw [off_succ fs j hjl, b_len]
              clear he
              obtain ⟨c0, c1, c2⟩ := hcs
              obtain ⟨_, ht0, hc0⟩ := hok
              have eT : ((fs[j].t.toNat : Nat) : Int) = fs[j].t := Int.toNat_of_nonneg ht0
              have eC : ((fs[j].c.toNat : Nat) : Int) = fs[j].c := Int.toNat_of_nonneg hc0
              unfold nrV at X
              simp only [eT, eC] at X
              generalize fs[j].t = t at *
              generalize fs[j].c = c at *
              generalize fs[j].p = p at *
              have z1 : ((off fs (j + 1) : Nat) : Int) ≤ (q : Int) := by omega
              have z3 : (j : Int) < (k : Int) := by omega
              obtain ⟨A', eA'⟩ : ∃ x, off fs (j + 1) = x := ⟨_, rfl⟩
              have HA' : Hid (off fs (j + 1) = A') := eA'
              rw [eA'] at hgj hoe1 z1
              have hzz : Hid ((A' : Int) = ((off fs j : Nat) : Int) + ((p.length : Int) + 8)) := by
                show _ = _
                rw [hoe1.out]; omega
              generalize off fs j = A at *
              generalize (flatB fs).take q = S at *
              clear hgc eA' eT eC ht0 hc0 hle
              go_wp2_with fail
              refine (X _).mono ?_
              rintro e w3 ⟨rfl, hb3⟩
              clear X
              go_wp2_with fail
              have hx := F3.new w3 (.int .i64 t) (.int .i64 c) (str p) 23
              have hbn := below_new w3 (.cells #[.int .i64 t, .int .i64 c, str p] 23)
              have hb4 := (hb2.trans (hb3.mono hb2.size)).trans (hbn.mono (Nat.le_trans hb2.size hb3.size))
              have hbw4 := (hbw2.trans (hb3.mono hsw2)).trans (hbn.mono (Nat.le_trans hsw2 hb3.size))
              have hx4 : w3.heap.size < (w3.alloc (.cells #[.int .i64 t, .int .i64 c, str p] 23)).heap.size := by simp
              have hs04 : w0.heap.size ≤ (w3.alloc (.cells #[.int .i64 t, .int .i64 c, str p] 23)).heap.size := hb4.size
              have hsw4 := hbw4.size
              have g4 := hb4.cell (p := ⟨g, j, none⟩) hg
              rw [hgj] at g4
              have hbs : Below (wr.heap.size) wr (w3.alloc (.cells #[.int .i64 t, .int .i64 c, str p] 23)) := hb3.trans (hbn.mono hb3.size)
              have a0 := hbs.cell (p := ⟨b, o + j * 3, none⟩) (by show b < _; omega)
              have a1 := hbs.cell (p := ⟨b, o + j * 3 + 1, none⟩) (by show b < _; omega)
              have a2 := hbs.cell (p := ⟨b, o + j * 3 + 2, none⟩) (by show b < _; omega)
              rw [c0] at a0
              rw [c1] at a1
              rw [c2] at a2
              obtain ⟨m, hm⟩ : ∃ m, w3.heap.size = m := ⟨_, rfl⟩
              rw [hm] at hx hx4 ⊢
              clear hbn hb3 hb2 hbw2 hsw2 hbs hgj c0 c1 c2 hm
              generalize w3.alloc (.cells #[.int .i64 t, .int .i64 c, str p] 23) = w4 at *
              refine wp_region_held (S := fun W => Below w4.heap.size w4 W) hmix ?_
              show wpAnyH _ _ _ _ _ _ _ _ (World.drew _)
              have hS : Below w4.heap.size w4 w4.drew := (Below.refl _ _).drew
              have zA : (A : Int) + ((p.length : Int) + 8) = (A' : Int) := hzz.out.symm
              have zB : (A' : Int) ≤ 1000000 := by omega
              have zC : (0 : Int) ≤ (A : Int) := by omega
              refine tks [0, 1, 2, 3, 4, 5, 6, 7, 8, 9, 10, 11, 12, 13, 14, 15, 16, 17, 18, 19, 20, 21] [.int .i64 j, .slice (some ⟨b, o, none⟩) k cap, .int .i64 k, .bool false, .bool false, frV t c p, .slice (some ⟨b, o, none⟩) k cap, .int .i64 j, .pointer (some ⟨b, o + j * 3, none⟩), frV t c p, .bool false, .bool false, .bool false, .int .i64 A, .int .i64 ((p.length : Int) + 8), .int .i64 A', .slice (some ⟨g, 0, none⟩) k ge, .int .i64 j, .pointer (some ⟨g, j, none⟩), .int .i64 A', .bool false, .bool false] 0 ?_ hS ?_
              · simp only [tkY, tkf]
                refine ⟨.yes ?_, .yes ?_, .yes ?_, .yes ?_, .yes ?_, .yes ?_, .yes ?_, .yes ?_, .yes ?_, .yes ?_, .yes ?_, .yes ?_, .yes ?_, .yes ?_, .yes ?_, .yes ?_, .yes ?_, .yes ?_, .yes ?_, .yes ?_, .yes ?_, .yes ?_, trivial⟩
                all_goals
                  intro W' hW'
                  obtain ⟨k0, k1, k2, _, _, _⟩ := hx.below hW' hx4
                  have b0 := hW'.cell (p := ⟨b, o + j * 3, none⟩) (by show b < _; omega)
                  have b1 := hW'.cell (p := ⟨b, o + j * 3 + 1, none⟩) (by show b < _; omega)
                  have b2 := hW'.cell (p := ⟨b, o + j * 3 + 2, none⟩) (by show b < _; omega)
                  have bg := hW'.cell (p := ⟨g, j, none⟩) (by show g < _; omega)
                  rw [a0] at b0
                  rw [a1] at b1
                  rw [a2] at b2
                  rw [g4] at bg
                  go_simp
                  all_goals (rw [IntKind.wrap_i64]; omega)
              simp only [tkA, tkf]
              refine wpAnyH_done (by kernel_rfl) ?_ _
              have hb5 : Below w0.heap.size w0 w4.drew := hb4.drew
              clear hS hb4 hbw4 hsw4 hs04 hx hx4 a0 a1 a2 g4 hge
              generalize w4.drew = w5 at *
              go_wp2_with fail
              go_roundw
              case rel => exact ⟨j + 1, by omega, by go_num, by rw [HA'.out], by rw [HA'.out]; omega, hb5⟩
              case measure => simp [RowKit.intOf]; omega
          · have hjk : j = k := by omega
            subst hjk
            have he := next_end fs q (by rw [HTT.out]; exact hqT)
            rw [HN.out] at he
            rw [he] at X
            clear he hjn hj
            generalize off fs j = A at *
            generalize (flatB fs).take q = S at *
            go_wp2_with fail
            refine (X _).mono ?_
            rintro e w3 ⟨rfl, hb3⟩
            have hB3 := hbw2.trans (hb3.mono hsw2)
            unfold nrV
            clear X
            go_wp2_with fail
            go_ret
            exact ⟨rfl, hB3.alloc hB3.size _⟩
      · clear hq1 hq2
        have y1 : decide ((q : Int) < 0) = false := by simp
        have y2 : decide ((T : Int) < (q : Int)) = false := by simp; omega
        have y3 : decide (T < q) = false := by simp; omega
        clear z1 z2
        go_wp2_with fail
        go_loopw [12, 13] (fun at' i w2 => ∃ j : Nat, j ≤ k ∧ i = .int .i64 j ∧ at' = .int .i64 (off fs j) ∧ off fs j ≤ q ∧ Below w0.heap.size w0 w2) (fun _ i _ => k + 1 - (RowKit.intOf i).toNat)
        case atStart => exact ⟨0, Nat.zero_le _, rfl, rfl, Nat.zero_le _, Below.refl _ _⟩
        case round =>
          obtain ⟨j, hj, rfl, rfl, hoq, hb2⟩ := hrel
          have hbw2 := hbr.trans (hb2.mono hwr)
          have hsw2 := hbw2.size
          have hql : ((flatB fs).take q).length = q := by rw [List.length_take, HTT.out]; omega
          have hq9 : q ≤ 164160 := by have := HT.out; have := HTT.out; omega
          have X : ∀ w, Calls Try.prog 11 #[.string ((⟨((flatB fs).take q).toArray⟩ : ByteArray).extract (off fs j) q)] w fun e w' => e = .returned (nrV (nextL (((flatB fs).take q).drop (off fs j)))) ∧ Below w.heap.size w w' := fun w => by
            rw [ext_str, List.take_of_length_le (by rw [List.length_drop, hql]; exact Nat.le_refl _)]
            exact next_any w _ (by rw [List.length_drop, hql]; omega)
          have x4 : ((off fs j : Nat) : Int) ≤ (q : Int) := by omega
          by_cases hjn : j < k
          · have hjl : j < fs.length := by have := HN.out; omega
            have hok := HA.out j hjl
            obtain ⟨b, o, rfl, hbw, hFs⟩ := HF.out (by omega)
            have hcs := hFs.below hbw2 hbw j hjl
            clear hFs
            obtain ⟨g, ge, rfl, hg, hge, hgc⟩ := hoe.get (by rw [endsL_len]; omega)
            have hgj := hgc j _ (endsL_get fs k j hjn)
            rw [endsL_len] at hge ⊢
            rcases next_at fs q j hjl hoq hok with ⟨hlt, he⟩ | ⟨hle, he⟩
            · rw [he] at X
              clear he hcs hok
              have z1 : (q : Int) < ((off fs (j + 1) : Nat) : Int) := by omega
              have z2 : ¬ ((j : Int) = (k : Int)) := by omega
              have z3 : (j : Int) < (k : Int) := by omega
              generalize off fs (j + 1) = A' at *
              generalize off fs j = A at *
              generalize (flatB fs).take q = S at *
              clear hgc hlt
              go_wp2_with fail
              refine (X _).mono ?_
              rintro e w3 ⟨rfl, hb3⟩
              have hB3 := hbw2.trans (hb3.mono hsw2)
              have hbn := (hb2.trans (hb3.mono hb2.size)).alloc (Nat.le_trans hb2.size hb3.size) (.cells #[.int .i64 0, .int .i64 0, .string { data := #[] }] 23)
              have hgj' := hbn.cell (p := ⟨g, j, none⟩) hg
              rw [hgj] at hgj'
              unfold nrV
              clear X hbn
              go_wp2_with fail
              go_ret
              exact ⟨rfl, hB3.alloc hB3.size _⟩
            · rw [he] at X
              have hoe1 : Hid (off fs (j + 1) = off fs j + (fs[j].p.length + 8)) := by
                show _ = _
                rw [off_succ fs j hjl, b_len]
              clear he
              obtain ⟨c0, c1, c2⟩ := hcs
              obtain ⟨_, ht0, hc0⟩ := hok
              have eT : ((fs[j].t.toNat : Nat) : Int) = fs[j].t := Int.toNat_of_nonneg ht0
              have eC : ((fs[j].c.toNat : Nat) : Int) = fs[j].c := Int.toNat_of_nonneg hc0
              unfold nrV at X
              simp only [eT, eC] at X
              generalize fs[j].t = t at *
              generalize fs[j].c = c at *
              generalize fs[j].p = p at *
              have z1 : ((off fs (j + 1) : Nat) : Int) ≤ (q : Int) := by omega
              have z3 : (j : Int) < (k : Int) := by omega
              obtain ⟨A', eA'⟩ : ∃ x, off fs (j + 1) = x := ⟨_, rfl⟩
              have HA' : Hid (off fs (j + 1) = A') := eA'
              rw [eA'] at hgj hoe1 z1
              have hzz : Hid ((A' : Int) = ((off fs j : Nat) : Int) + ((p.length : Int) + 8)) := by
                show _ = _
                rw [hoe1.out]; omega
              generalize off fs j = A at *
              generalize (flatB fs).take q = S at *
              clear hgc eA' eT eC ht0 hc0 hle
              go_wp2_with fail
              refine (X _).mono ?_
              rintro e w3 ⟨rfl, hb3⟩
              clear X
              go_wp2_with fail
              have hx := F3.new w3 (.int .i64 t) (.int .i64 c) (str p) 23
              have hbn := below_new w3 (.cells #[.int .i64 t, .int .i64 c, str p] 23)
              have hb4 := (hb2.trans (hb3.mono hb2.size)).trans (hbn.mono (Nat.le_trans hb2.size hb3.size))
              have hbw4 := (hbw2.trans (hb3.mono hsw2)).trans (hbn.mono (Nat.le_trans hsw2 hb3.size))
              have hx4 : w3.heap.size < (w3.alloc (.cells #[.int .i64 t, .int .i64 c, str p] 23)).heap.size := by simp
              have hs04 : w0.heap.size ≤ (w3.alloc (.cells #[.int .i64 t, .int .i64 c, str p] 23)).heap.size := hb4.size
              have hsw4 := hbw4.size
              have g4 := hb4.cell (p := ⟨g, j, none⟩) hg
              rw [hgj] at g4
              have hbs : Below (wr.heap.size) wr (w3.alloc (.cells #[.int .i64 t, .int .i64 c, str p] 23)) := hb3.trans (hbn.mono hb3.size)
              have a0 := hbs.cell (p := ⟨b, o + j * 3, none⟩) (by show b < _; omega)
              have a1 := hbs.cell (p := ⟨b, o + j * 3 + 1, none⟩) (by show b < _; omega)
              have a2 := hbs.cell (p := ⟨b, o + j * 3 + 2, none⟩) (by show b < _; omega)
              rw [c0] at a0
              rw [c1] at a1
              rw [c2] at a2
              obtain ⟨m, hm⟩ : ∃ m, w3.heap.size = m := ⟨_, rfl⟩
              rw [hm] at hx hx4 ⊢
              clear hbn hb3 hb2 hbw2 hsw2 hbs hgj c0 c1 c2 hm
              generalize w3.alloc (.cells #[.int .i64 t, .int .i64 c, str p] 23) = w4 at *
              refine wp_region_held (S := fun W => Below w4.heap.size w4 W) hmix ?_
              show wpAnyH _ _ _ _ _ _ _ _ (World.drew _)
              have hS : Below w4.heap.size w4 w4.drew := (Below.refl _ _).drew
              have zA : (A : Int) + ((p.length : Int) + 8) = (A' : Int) := hzz.out.symm
              have zB : (A' : Int) ≤ 1000000 := by omega
              have zC : (0 : Int) ≤ (A : Int) := by omega
              refine tks [0, 1, 2, 3, 4, 5, 6, 7, 8, 9, 10, 11, 12, 13, 14, 15, 16, 17, 18, 19, 20, 21] [.int .i64 j, .slice (some ⟨b, o, none⟩) k cap, .int .i64 k, .bool false, .bool false, frV t c p, .slice (some ⟨b, o, none⟩) k cap, .int .i64 j, .pointer (some ⟨b, o + j * 3, none⟩), frV t c p, .bool false, .bool false, .bool false, .int .i64 A, .int .i64 ((p.length : Int) + 8), .int .i64 A', .slice (some ⟨g, 0, none⟩) k ge, .int .i64 j, .pointer (some ⟨g, j, none⟩), .int .i64 A', .bool false, .bool false] 0 ?_ hS ?_
              · simp only [tkY, tkf]
                refine ⟨.yes ?_, .yes ?_, .yes ?_, .yes ?_, .yes ?_, .yes ?_, .yes ?_, .yes ?_, .yes ?_, .yes ?_, .yes ?_, .yes ?_, .yes ?_, .yes ?_, .yes ?_, .yes ?_, .yes ?_, .yes ?_, .yes ?_, .yes ?_, .yes ?_, .yes ?_, trivial⟩
                all_goals
                  intro W' hW'
                  obtain ⟨k0, k1, k2, _, _, _⟩ := hx.below hW' hx4
                  have b0 := hW'.cell (p := ⟨b, o + j * 3, none⟩) (by show b < _; omega)
                  have b1 := hW'.cell (p := ⟨b, o + j * 3 + 1, none⟩) (by show b < _; omega)
                  have b2 := hW'.cell (p := ⟨b, o + j * 3 + 2, none⟩) (by show b < _; omega)
                  have bg := hW'.cell (p := ⟨g, j, none⟩) (by show g < _; omega)
                  rw [a0] at b0
                  rw [a1] at b1
                  rw [a2] at b2
                  rw [g4] at bg
                  go_simp
                  all_goals (rw [IntKind.wrap_i64]; omega)
              simp only [tkA, tkf]
              refine wpAnyH_done (by kernel_rfl) ?_ _
              have hb5 : Below w0.heap.size w0 w4.drew := hb4.drew
              clear hS hb4 hbw4 hsw4 hs04 hx hx4 a0 a1 a2 g4 hge
              generalize w4.drew = w5 at *
              go_wp2_with fail
              go_roundw
              case rel => exact ⟨j + 1, by omega, by go_num, by rw [HA'.out], by rw [HA'.out]; omega, hb5⟩
              case measure => simp [RowKit.intOf]; omega
          · have hjk : j = k := by omega
            subst hjk
            have he := next_end fs q (by rw [HTT.out]; exact hqT)
            rw [HN.out] at he
            rw [he] at X
            clear he hjn hj
            generalize off fs j = A at *
            generalize (flatB fs).take q = S at *
            go_wp2_with fail
            refine (X _).mono ?_
            rintro e w3 ⟨rfl, hb3⟩
            have hB3 := hbw2.trans (hb3.mono hsw2)
            unfold nrV
            clear X
            go_wp2_with fail
            go_ret
            exact ⟨rfl, hB3.alloc hB3.size _⟩
end Go.Proofs.Ytlkinkbdhoejiaa
