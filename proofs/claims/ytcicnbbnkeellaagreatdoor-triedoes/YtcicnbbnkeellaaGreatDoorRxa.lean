/- The document's Add: what it leaves of the trie, and in which blocks. Conditions: those that each row states. -/
import Derived.Test.YtcicnbbnkeellaaGreatDoorRtd
import Derived.Test.YtcicnbbnkeellaaGreatDoorRxb
namespace Go.Proofs.YtcicnbbnkeellaaGreatDoor.To
open Go.RowKit Go.Lib
set_option maxRecDepth 10000

set_option maxHeartbeats 8000000 in
theorem radd_new (w : World) (B q : Nat) (T : TypeId) (vp vi : Value) (l : List Pr) (h : RTr w B q T vp vi l) (hl : l.length ≤ 64) (p : List UInt8) (z : Int) :
    Calls Tryz.prog 11 #[.pointer (some ⟨q, 0, none⟩), str p, .int .i64 z] w fun e w' => (∃ v1 v2, RTr w' B q T v1 v2 (addR l p z) ∧ (∀ b, v1.ownBlock = some b → vp.ownBlock = some b ∨ w.heap.size ≤ b) ∧ (∀ b, v2.ownBlock = some b → vi.ownBlock = some b ∨ w.heap.size ≤ b)) ∧ Fq q w w' ∧ e = .returned (.int .i64 (addC l p z)) := by
  have hp := rpattern_any w p
  cases hpt : pat p with
  | false =>
    rw [hpt] at hp
    have hC : addC l p z = 30 := by unfold addC; rw [if_pos hpt]
    have hR : addR l p z = l := by unfold addR; rw [hC]; rfl
    rw [hC, hR]
    have HR : Hid _ := h
    clear h
    go_enter Tryz.func11, Tryz.ntmps11
    go_wp2_with fail
    refine hp.mono ?_
    rintro e1 w1 ⟨rfl, hb1⟩
    go_wp2
    go_ret
    exact ⟨⟨_, _, HR.out.on hb1, fun b h => .inl h, fun b h => .inl h⟩, Fq.of_below hb1, rfl⟩
  | true =>
    rw [hpt] at hp
    go_enter Tryz.func11, Tryz.ntmps11
    go_wp2_with fail
    refine hp.mono ?_
    rintro e1 w1 ⟨rfl, hb1⟩
    have h1 := h.on hb1
    have hpl := place_any w1 B q T vp vi l h1 (by omega) p z
    have HR : Hid _ := h1
    have HB1 : Hid _ := hb1
    have HSZ : Hid (w.heap.size ≤ w1.heap.size) := hb1.size
    clear h h1 hp hb1
    go_wp2_with fail
    refine hpl.mono ?_
    rintro e2 w2 ⟨⟨k, rfl, hk, hke, hkb⟩ | ⟨rfl, hno⟩, rfl⟩
    · have hkz : (k : Int) ≥ 0 := by omega
      have hmem : (p, z) ∈ l := by rw [← hke]; exact List.getElem_mem hk
      have hC : Hid (addC l p z = 32) := by show addC l p z = 32; unfold addC; rw [if_neg (by rw [hpt]; decide), if_pos hmem]
      have hRR : Hid (addR l p z = l) := by show addR l p z = l; unfold addR; rw [hC.out]; rfl
      clear hpl hkb hke hmem
      go_wp2
      go_ret
      exact ⟨⟨_, _, by rw [hRR.out]; exact HR.out, fun b h => .inl h, fun b h => .inl h⟩, Fq.of_below HB1.out, by rw [hC.out]; rfl⟩
    · have hno : Hid _ := hno
      clear hpl
      obtain ⟨a0, cp0, hv0, hle0⟩ := HR.out.ps.len
      obtain ⟨a1, cp1, hv1, hle1⟩ := HR.out.is.len
      rw [strs_len] at hv0 hle0
      rw [ints_len] at hv1 hle1
      subst hv0
      subst hv1
      obtain ⟨n, hn⟩ : ∃ n, l.length = n := ⟨_, rfl⟩
      have HN : Hid (l.length = n) := hn
      rw [hn] at HR hl hle0 hle1
      have HR : Hid (RTr w2 B q T (.slice a0 n cp0) (.slice a1 n cp1) l) := HR.out
      have c0 := HR.out.c0
      have c1 := HR.out.c1
      clear hn
      by_cases h64 : (n : Int) ≥ 64
      · have hC : Hid (addC l p z = 34) := by show addC l p z = 34; unfold addC; rw [if_neg (by rw [hpt]; decide), if_neg hno.out, if_pos (by have := HN.out; omega)]
        have hRR : Hid (addR l p z = l) := by show addR l p z = l; unfold addR; rw [hC.out]; rfl
        go_wp2
        go_ret
        exact ⟨⟨.slice a0 n cp0, .slice a1 n cp1, by rw [hRR.out]; exact HR.out, fun b h => .inl (by rw [HN.out]; exact h), fun b h => .inl (by rw [HN.out]; exact h)⟩, Fq.of_below HB1.out, by rw [hC.out]; rfl⟩
      · have hC : Hid (addC l p z = 0) := by show addC l p z = 0; unfold addC; rw [if_neg (by rw [hpt]; decide), if_neg hno.out, if_neg (by have := HN.out; omega)]
        have hRR : Hid (addR l p z = addP l (p, z)) := by show addR l p z = _; unfold addR; rw [if_pos hC.out]
        have h64b : decide ((n : Int) ≥ 64) = false := decide_eq_false h64
        have hn63 : (n : Int) ≤ 9223372036854775807 := by omega
        go_upto_block 0 with fail
        go_cut [7] (fun s7 wq => ∃ j : Nat, s7 = .int .i64 j ∧ wq = w2 ∧ j ≤ n ∧ Hid (∀ i (hi : i < l.length), i < j → plt l[i] (p, z) = true) ∧ Hid (∀ hj : j < l.length, plt l[j] (p, z) = false))
        case first =>
          go_wp2_with fail
          go_loopg [7] n (fun gg s7 wx => ∃ j : Nat, j ≤ n ∧ n - j ≤ gg ∧ s7 = .int .i64 j ∧ wx = w2 ∧ Hid (∀ i (hi : i < l.length), i < j → plt l[i] (p, z) = true))
          case atStart => exact ⟨0, Nat.zero_le _, by omega, rfl, rfl, fun j _ hj => absurd hj (Nat.not_lt_zero _)⟩
          case round =>
            obtain ⟨j, hjn, hgj, rfl, rfl, A⟩ := hrel
            by_cases hlt : j < n
            · have hltz : (j : Int) < (n : Int) := by omega
              have hjl : j < l.length := by have := HN.out; omega
              obtain ⟨g0, o0, g1, o1, rfl, d0, rfl, d1⟩ := HR.out.at hjl
              obtain ⟨y, hy⟩ : ∃ y, l[j].1 = y := ⟨_, rfl⟩
              obtain ⟨x, hx⟩ : ∃ x, l[j].2 = x := ⟨_, rfl⟩
              have HY : Hid (l[j] = (y, x)) := by show l[j] = (y, x); rw [← hy, ← hx]
              rw [hy] at d0
              rw [hx] at d1
              clear hy hx
              have HP : Hid (plt l[j] (p, z) = (Op.bytesLess y p || (y == p && decide (x < z)))) := by show plt l[j] (p, z) = _; rw [HY.out]; rfl
              have HA2 : Hid (plt l[j] (p, z) = true → ∀ i (hi : i < l.length), i < j + 1 → plt l[i] (p, z) = true) := fun h i hi hij => by
                by_cases e : i = j
                · subst e
                  exact h
                · exact A.out i hi (by omega)
              cases hbl : Op.bytesLess y p with
              | true =>
                have A2 : Hid _ := HA2.out (by rw [HP.out, hbl]; rfl)
                clear HA2 HP
                go_wp2
                go_roundg (n - (j + 1))
                case measure => omega
                case rel => exact ⟨j + 1, by omega, by omega, by go_num, rfl, A2.out⟩
              | false =>
                cases hyp : (y == p) with
                | false =>
                  have HX : Hid (∀ hj : j < l.length, plt l[j] (p, z) = false) := fun _ => by rw [HP.out, hbl, hyp]; rfl
                  clear HA2 HP
                  go_wp2
                  go_meet
                  exact ⟨j, rfl, rfl, hjn, A.out, HX.out⟩
                | true =>
                  by_cases hxz : x < z
                  · have hxd : decide (x < z) = true := decide_eq_true hxz
                    have A2 : Hid _ := HA2.out (by rw [HP.out, hbl, hyp, hxd]; rfl)
                    clear HA2 HP
                    go_wp2
                    go_roundg (n - (j + 1))
                    case measure => omega
                    case rel => exact ⟨j + 1, by omega, by omega, by go_num, rfl, A2.out⟩
                  · have hxd : decide (x < z) = false := decide_eq_false hxz
                    have HX : Hid (∀ hj : j < l.length, plt l[j] (p, z) = false) := fun _ => by rw [HP.out, hbl, hyp, hxd]; rfl
                    clear HA2 HP
                    go_wp2
                    go_meet
                    exact ⟨j, rfl, rfl, hjn, A.out, HX.out⟩
            · have hltz : ¬ (j : Int) < (n : Int) := by omega
              have hltd : decide ((j : Int) < (n : Int)) = false := decide_eq_false hltz
              go_wp2
              go_meet
              exact ⟨j, rfl, rfl, hjn, A.out, fun hj => by have := HN.out; omega⟩
        case rest =>
        obtain ⟨j, rfl, hw2, hjn, A, A2⟩ := hcut
        subst hw2
        obtain ⟨W1, hW1⟩ : ∃ W1, W1 = wc := ⟨_, rfl⟩
        subst hW1
        have HE : Hid (addP l (p, z) = l.take j ++ (p, z) :: l.drop j) := add_at l (p, z) j (by have := HN.out; omega) A.out A2.out
        clear A A2 c0 c1
        have HOW : Hid (OwnV 9 W1 B (.slice a0 n cp0) (strs l)) := HR.out.ps
        have HLX : Hid ((strs l).length ≤ 100) := by show _ ≤ _; rw [strs_len]; have := HN.out; omega
        have ONE9 : Hid (∀ u ∈ strs l, u.oneCell' = true) := one_strs l
        have HCC0 : Hid (∀ w', Below W1.heap.size W1 w' → w'.cell? ⟨q, 0, none⟩ = some (.slice a0 n cp0) ∧ w'.frozen? ⟨q, 0, none⟩ = false) := fun w' hb => ⟨(HR.out.on hb).c0, (HR.out.on hb).fr 0⟩
        have HBB0 : Hid (B ≤ W1.heap.size) := Nat.le_of_lt (Nat.lt_of_le_of_lt HR.out.up HR.out.lt)
        obtain ⟨v1, v2, s1, s2, r1, r2⟩ := cut_row27 HOW.out j hjn
        have r1 : Hid _ := r1
        have r2 : Hid _ := r2
        have hl1 : Hid (((strs l).take j).length ≤ 100) := by show _ ≤ _; rw [List.length_take]; have := HLX.out; omega
        have hl2 : Hid (((strs l).drop j).length ≤ 100) := by show _ ≤ _; rw [List.length_drop]; have := HLX.out; omega
        have hbA : Below W1.heap.size W1 (W1.alloc (.cells #[] 9)).drew := ((Below.refl _ _).alloc (Nat.le_refl _) _).drew
        have hbX : Below W1.heap.size W1 (W1.alloc (.cells #[str p] 9)).drew := ((Below.refl _ _).alloc (Nat.le_refl _) _).drew
        have hbAX : Below W1.heap.size W1 ((W1.alloc (.cells #[] 9)).alloc (.cells #[str p] 9)).drew := (((Below.refl _ _).alloc (Nat.le_refl _) _).alloc (by simp) _).drew
        have hbXA : Below W1.heap.size W1 ((W1.alloc (.cells #[str p] 9)).alloc (.cells #[] 9)).drew := (((Below.refl _ _).alloc (Nat.le_refl _) _).alloc (by simp) _).drew
        have P1 : OwnV 9 (W1.alloc (.cells #[] 9)).drew W1.heap.size (.slice (some ⟨W1.heap.size, 0, none⟩) 0 0) [] := OwnV.empty 9 W1 W1.heap.size (Nat.le_refl _)
        have P2 : OwnV 9 ((W1.alloc (.cells #[] 9)).alloc (.cells #[str p] 9)).drew W1.heap.size (.slice (some ⟨W1.heap.size, 0, none⟩) 0 0) [] := OwnV.on (w := W1.alloc (.cells #[] 9)) (OwnV.empty 9 W1 W1.heap.size (Nat.le_refl _)) ((Below.refl _ _).alloc (Nat.le_refl _) _).drew
        have P3 : OwnV 9 ((W1.alloc (.cells #[str p] 9)).alloc (.cells #[] 9)).drew W1.heap.size (.slice (some ⟨W1.heap.size + 1, 0, none⟩) 0 0) [] := own_xa9 _ _
        have o1 : ∀ u ∈ ((strs l).take j), u.oneCell' = true := fun u hu => ONE9.out u (List.mem_of_mem_take hu)
        have o2 : ∀ u ∈ ((strs l).drop j), u.oneCell' = true := fun u hu => ONE9.out u (List.mem_of_mem_drop hu)
        have o3 : ∀ u ∈ [str p], Value.oneCell' u = true := fun u hu => by obtain rfl := List.mem_singleton.1 hu; rfl
        go_upto_region 10 with fail
        go_cut [64] (fun _ w3 => ∃ u, RTq w3 B q T u (.slice a1 n cp1) ((strs l).take j ++ [str p] ++ (strs l).drop j) (ints l) ∧ Fq q W1 w3 ∧ Hid (∀ b, u.ownBlock = some b → w.heap.size ≤ b))
        case first =>
          refine wp_region_to (S := fun W' => Below W1.heap.size W1 W') (z := 21) hmix ?_
          have hS : (fun W' => Below W1.heap.size W1 W') W1.drew := (Below.refl _ _).drew
          refine wpTo.take (i := 0) (z := 21) (v := .pointer (some ⟨q, 0, none⟩)) rfl (by kernel_rfl) (by kernel_rfl) (by kernel_rfl) (by kernel_rfl) (fun _ _ _ h => h) (.inl ⟨by rfl, fun W' hW' => ?_⟩) hS ?_
          · go_simp
          simp only [Act.put, List.getElem_toArray, List.getElem_cons_zero, List.setIfInBounds_toArray, List.set_cons_succ, List.set_cons_zero]
          refine wpTo.take (i := 2) (z := 21) (v := .pointer (some ⟨q, 0, none⟩)) rfl (by kernel_rfl) (by kernel_rfl) (by kernel_rfl) (by kernel_rfl) (fun _ _ _ h => h) (.inl ⟨by rfl, fun W' hW' => ?_⟩) hS ?_
          · go_simp
          simp only [Act.put, List.getElem_toArray, List.getElem_cons_succ, List.getElem_cons_zero, List.setIfInBounds_toArray, List.set_cons_succ, List.set_cons_zero]
          refine wpTo.take (i := 3) (z := 21) (v := .pointer (some ⟨q, 0, none⟩)) rfl (by kernel_rfl) (by kernel_rfl) (by kernel_rfl) (by kernel_rfl) (fun _ _ _ h => h) (.inl ⟨by rfl, fun W' hW' => ?_⟩) hS ?_
          · go_simp
          simp only [Act.put, List.getElem_toArray, List.getElem_cons_succ, List.getElem_cons_zero, List.setIfInBounds_toArray, List.set_cons_succ, List.set_cons_zero]
          refine wpTo.take (i := 4) (z := 21) (v := .pointer (some ⟨q, 0, none⟩)) rfl (by kernel_rfl) (by kernel_rfl) (by kernel_rfl) (by kernel_rfl) (fun _ _ _ h => h) (.inl ⟨by rfl, fun W' hW' => ?_⟩) hS ?_
          · go_simp
          simp only [Act.put, List.getElem_toArray, List.getElem_cons_succ, List.getElem_cons_zero, List.setIfInBounds_toArray, List.set_cons_succ, List.set_cons_zero]
          refine wpTo.take (i := 5) (z := 21) (v := .slice a0 n cp0) rfl (by kernel_rfl) (by kernel_rfl) (by kernel_rfl) (by kernel_rfl) (fun _ _ _ h => h) (.inl ⟨by rfl, fun W' hW' => ?_⟩) hS ?_
          · have hc := (HCC0.out W' hW').1
            go_simp
          simp only [Act.put, List.getElem_toArray, List.getElem_cons_succ, List.getElem_cons_zero, List.setIfInBounds_toArray, List.set_cons_succ, List.set_cons_zero]
          refine wpTo.take (i := 6) (z := 21) (v := .int .i64 (j : Int)) rfl (by kernel_rfl) (by kernel_rfl) (by kernel_rfl) (by kernel_rfl) (fun _ _ _ h => h) (.inl ⟨by rfl, fun W' hW' => ?_⟩) hS ?_
          · go_simp
          simp only [Act.put, List.getElem_toArray, List.getElem_cons_succ, List.getElem_cons_zero, List.setIfInBounds_toArray, List.set_cons_succ, List.set_cons_zero]
          refine wpTo.take (i := 7) (z := 21) (v := v1) rfl (by kernel_rfl) (by kernel_rfl) (by kernel_rfl) (by kernel_rfl) (fun _ _ _ h => h) (.inl ⟨by rfl, fun W' hW' => ?_⟩) hS ?_
          · go_simp
          simp only [Act.put, List.getElem_toArray, List.getElem_cons_succ, List.getElem_cons_zero, List.setIfInBounds_toArray, List.set_cons_succ, List.set_cons_zero]
          refine wpTo.take (i := 9) (z := 21) (v := str p) rfl (by kernel_rfl) (by kernel_rfl) (by kernel_rfl) (by kernel_rfl) (fun _ _ _ h => h) (.inl ⟨by rfl, fun W' hW' => ?_⟩) hS ?_
          · go_simp
          simp only [Act.put, List.getElem_toArray, List.getElem_cons_succ, List.getElem_cons_zero, List.setIfInBounds_toArray, List.set_cons_succ, List.set_cons_zero]
          refine wpTo.take (i := 12) (z := 21) (v := .pointer (some ⟨q, 0, none⟩)) rfl (by kernel_rfl) (by kernel_rfl) (by kernel_rfl) (by kernel_rfl) (fun _ _ _ h => h) (.inl ⟨by rfl, fun W' hW' => ?_⟩) hS ?_
          · go_simp
          simp only [Act.put, List.getElem_toArray, List.getElem_cons_succ, List.getElem_cons_zero, List.setIfInBounds_toArray, List.set_cons_succ, List.set_cons_zero]
          refine wpTo.take (i := 13) (z := 21) (v := .pointer (some ⟨q, 0, none⟩)) rfl (by kernel_rfl) (by kernel_rfl) (by kernel_rfl) (by kernel_rfl) (fun _ _ _ h => h) (.inl ⟨by rfl, fun W' hW' => ?_⟩) hS ?_
          · go_simp
          simp only [Act.put, List.getElem_toArray, List.getElem_cons_succ, List.getElem_cons_zero, List.setIfInBounds_toArray, List.set_cons_succ, List.set_cons_zero]
          refine wpTo.take (i := 14) (z := 21) (v := .pointer (some ⟨q, 0, none⟩)) rfl (by kernel_rfl) (by kernel_rfl) (by kernel_rfl) (by kernel_rfl) (fun _ _ _ h => h) (.inl ⟨by rfl, fun W' hW' => ?_⟩) hS ?_
          · go_simp
          simp only [Act.put, List.getElem_toArray, List.getElem_cons_succ, List.getElem_cons_zero, List.setIfInBounds_toArray, List.set_cons_succ, List.set_cons_zero]
          refine wpTo.take (i := 15) (z := 21) (v := .slice a0 n cp0) rfl (by kernel_rfl) (by kernel_rfl) (by kernel_rfl) (by kernel_rfl) (fun _ _ _ h => h) (.inl ⟨by rfl, fun W' hW' => ?_⟩) hS ?_
          · have hc := (HCC0.out W' hW').1
            go_simp
          simp only [Act.put, List.getElem_toArray, List.getElem_cons_succ, List.getElem_cons_zero, List.setIfInBounds_toArray, List.set_cons_succ, List.set_cons_zero]
          refine wpTo.take (i := 16) (z := 21) (v := .int .i64 (j : Int)) rfl (by kernel_rfl) (by kernel_rfl) (by kernel_rfl) (by kernel_rfl) (fun _ _ _ h => h) (.inl ⟨by rfl, fun W' hW' => ?_⟩) hS ?_
          · go_simp
          simp only [Act.put, List.getElem_toArray, List.getElem_cons_succ, List.getElem_cons_zero, List.setIfInBounds_toArray, List.set_cons_succ, List.set_cons_zero]
          refine wpTo.take (i := 17) (z := 21) (v := v2) rfl (by kernel_rfl) (by kernel_rfl) (by kernel_rfl) (by kernel_rfl) (fun _ _ _ h => h) (.inl ⟨by rfl, fun W' hW' => ?_⟩) hS ?_
          · go_simp
          simp only [Act.put, List.getElem_toArray, List.getElem_cons_succ, List.getElem_cons_zero, List.setIfInBounds_toArray, List.set_cons_succ, List.set_cons_zero]
          refine wpTo.two (i := 1) (j := 10) (by kernel_rfl) rfl rfl (by rfl) (by rfl) (fun K hK => ?_) (fun K hK => ?_)
          · go_simp
            refine hK _ _ (fun _ => hbA) ?_
            clear hK K
            refine wpTo.two (i := 8) (j := 10) (by kernel_rfl) rfl rfl (by rfl) (by rfl) (fun K hK => ?_) (fun K hK => ?_)
            · refine wp_app2 H27 rfl (.tmp 65) (.tmp 71) (by rfl) W1.heap.size _ _ [] ((strs l).take j) _ rfl _ rfl P1 rfl (r1.out _ hbA) o1 (by have := hl1.out; simp at this ⊢; omega) hbA.size ?_
              intro a1 m1 x1 wa HM1 HO1 HB1 HF1
              have HAa : Below W1.heap.size W1 wa := hbA.trans HB1.out
              refine hK _ _ (fun _ => HAa) ?_
              clear hK K
              simp only [Act.put, List.getElem_toArray, List.getElem_cons_succ, List.getElem_cons_zero, List.setIfInBounds_toArray, List.set_cons_succ, List.set_cons_zero]
              refine wpTo.one (i := 10) (by kernel_rfl) rfl (by rfl) (fun K hK => ?_)
              go_simp
              have hbw : Below W1.heap.size W1 (wa.alloc (.cells #[str p] 9)) := HAa.alloc HAa.size _
              refine hK _ _ (fun _ => hbw) ?_
              clear hK K
              refine wpTo.one (i := 11) (by kernel_rfl) rfl (by rfl) (fun K hK => ?_)
              refine wp_app2 H27 rfl (.tmp 72) (.tmp 74) (by rfl) W1.heap.size _ _ _ [str p] _ rfl _ rfl (HO1.out.on ((Below.refl _ _).alloc (Nat.le_refl _) _)) rfl (new_x9 _ _) o3 (by have := hl1.out; simp at this ⊢; omega) hbw.size ?_
              intro a2 m2 x2 wb HM2 HO2b HB2b HF2
              have HAb : Below W1.heap.size W1 wb := hbw.trans HB2b.out
              refine hK _ _ (fun _ => HAb) ?_
              clear hK K
              simp only [Act.put, List.getElem_toArray, List.getElem_cons_succ, List.getElem_cons_zero, List.setIfInBounds_toArray, List.set_cons_succ, List.set_cons_zero]
              refine wpTo.one (i := 18) (by kernel_rfl) rfl (by rfl) (fun K hK => ?_)
              refine wp_app2 H27 rfl (.tmp 75) (.tmp 81) (by rfl) W1.heap.size _ _ _ ((strs l).drop j) _ rfl _ rfl HO2b.out rfl (r2.out _ HAb) o2 (by have := hl1.out; have := hl2.out; simp at this ⊢; omega) HAb.size ?_
              intro a3 m3 x3 wd HM3 HO3b HB3b HF3
              have HAd : Below W1.heap.size W1 wd := HAb.trans HB3b.out
              refine hK _ _ (fun _ => HAd) ?_
              clear hK K
              simp only [Act.put, List.getElem_toArray, List.getElem_cons_succ, List.getElem_cons_zero, List.setIfInBounds_toArray, List.set_cons_succ, List.set_cons_zero]
              refine wpTo.one (i := 19) (by kernel_rfl) rfl (by rfl) (fun K hK => ?_)
              go_simp
              refine hK _ _ (fun _ => HAd) ?_
              clear hK K
              refine wpTo.one (i := 20) (by kernel_rfl) rfl (by rfl) (fun K hK => ?_)
              go_simp
              refine hK _ _ (fun _ => HAd) ?_
              clear hK K
              have kd := (HCC0.out _ HAd).1
              have ke := (HCC0.out _ HAd).2
              refine wpTo.one (i := 21) (by kernel_rfl) rfl (by rfl) (fun K hK => ?_)
              go_simp
              refine hK _ _ (fun h => absurd rfl h) ?_
              clear hK K
              refine wpTo.done (by kernel_rfl) ?_ _
              go_wp2_with fail
              go_meet
              exact ⟨_, (HR.out.on HAd).put0 (HO3b.out.base HBB0.out), (Fq.of_below HAd).trans (Fq.set _ _ _), fun b hb => Nat.le_trans HSZ.out (own_from HO3b.out hb)⟩
            · go_simp
              refine hK _ _ (fun _ => hbAX) ?_
              clear hK K
              refine wpTo.one (i := 8) (by kernel_rfl) rfl (by rfl) (fun K hK => ?_)
              refine wp_app2 H27 rfl (.tmp 65) (.tmp 71) (by rfl) W1.heap.size _ _ [] ((strs l).take j) _ rfl _ rfl P2 rfl (r1.out _ hbAX) o1 (by have := hl1.out; simp at this ⊢; omega) hbAX.size ?_
              intro a1 m1 x1 wa HM1 HO1 HB1 HF1
              have HAa : Below W1.heap.size W1 wa := hbAX.trans HB1.out
              have HX := new_ax9 _ _ wa HF1.out
              refine hK _ _ (fun _ => HAa) ?_
              clear hK K
              simp only [Act.put, List.getElem_toArray, List.getElem_cons_succ, List.getElem_cons_zero, List.setIfInBounds_toArray, List.set_cons_succ, List.set_cons_zero]
              refine wpTo.one (i := 11) (by kernel_rfl) rfl (by rfl) (fun K hK => ?_)
              refine wp_app2 H27 rfl (.tmp 72) (.tmp 74) (by rfl) W1.heap.size _ _ _ [str p] _ rfl _ rfl HO1.out rfl HX o3 (by have := hl1.out; simp at this ⊢; omega) HAa.size ?_
              intro a2 m2 x2 wb HM2 HO2b HB2b HF2
              have HAb : Below W1.heap.size W1 wb := HAa.trans HB2b.out
              refine hK _ _ (fun _ => HAb) ?_
              clear hK K
              simp only [Act.put, List.getElem_toArray, List.getElem_cons_succ, List.getElem_cons_zero, List.setIfInBounds_toArray, List.set_cons_succ, List.set_cons_zero]
              refine wpTo.one (i := 18) (by kernel_rfl) rfl (by rfl) (fun K hK => ?_)
              refine wp_app2 H27 rfl (.tmp 75) (.tmp 81) (by rfl) W1.heap.size _ _ _ ((strs l).drop j) _ rfl _ rfl HO2b.out rfl (r2.out _ HAb) o2 (by have := hl1.out; have := hl2.out; simp at this ⊢; omega) HAb.size ?_
              intro a3 m3 x3 wd HM3 HO3b HB3b HF3
              have HAd : Below W1.heap.size W1 wd := HAb.trans HB3b.out
              refine hK _ _ (fun _ => HAd) ?_
              clear hK K
              simp only [Act.put, List.getElem_toArray, List.getElem_cons_succ, List.getElem_cons_zero, List.setIfInBounds_toArray, List.set_cons_succ, List.set_cons_zero]
              refine wpTo.one (i := 19) (by kernel_rfl) rfl (by rfl) (fun K hK => ?_)
              go_simp
              refine hK _ _ (fun _ => HAd) ?_
              clear hK K
              refine wpTo.one (i := 20) (by kernel_rfl) rfl (by rfl) (fun K hK => ?_)
              go_simp
              refine hK _ _ (fun _ => HAd) ?_
              clear hK K
              have kd := (HCC0.out _ HAd).1
              have ke := (HCC0.out _ HAd).2
              refine wpTo.one (i := 21) (by kernel_rfl) rfl (by rfl) (fun K hK => ?_)
              go_simp
              refine hK _ _ (fun h => absurd rfl h) ?_
              clear hK K
              refine wpTo.done (by kernel_rfl) ?_ _
              go_wp2_with fail
              go_meet
              exact ⟨_, (HR.out.on HAd).put0 (HO3b.out.base HBB0.out), (Fq.of_below HAd).trans (Fq.set _ _ _), fun b hb => Nat.le_trans HSZ.out (own_from HO3b.out hb)⟩
          · go_simp
            refine hK _ _ (fun _ => hbX) ?_
            clear hK K
            refine wpTo.one (i := 1) (by kernel_rfl) rfl (by rfl) (fun K hK => ?_)
            go_simp
            refine hK _ _ (fun _ => hbXA) ?_
            clear hK K
            refine wpTo.one (i := 8) (by kernel_rfl) rfl (by rfl) (fun K hK => ?_)
            refine wp_app2 H27 rfl (.tmp 65) (.tmp 71) (by rfl) W1.heap.size _ _ [] ((strs l).take j) _ rfl _ rfl P3 rfl (r1.out _ hbXA) o1 (by have := hl1.out; simp at this ⊢; omega) hbXA.size ?_
            intro a1 m1 x1 wa HM1 HO1 HB1 HF1
            have HAa : Below W1.heap.size W1 wa := hbXA.trans HB1.out
            have HX := new_xa9 _ _ wa HF1.out
            refine hK _ _ (fun _ => HAa) ?_
            clear hK K
            simp only [Act.put, List.getElem_toArray, List.getElem_cons_succ, List.getElem_cons_zero, List.setIfInBounds_toArray, List.set_cons_succ, List.set_cons_zero]
            refine wpTo.one (i := 11) (by kernel_rfl) rfl (by rfl) (fun K hK => ?_)
            refine wp_app2 H27 rfl (.tmp 72) (.tmp 74) (by rfl) W1.heap.size _ _ _ [str p] _ rfl _ rfl HO1.out rfl HX o3 (by have := hl1.out; simp at this ⊢; omega) HAa.size ?_
            intro a2 m2 x2 wb HM2 HO2b HB2b HF2
            have HAb : Below W1.heap.size W1 wb := HAa.trans HB2b.out
            refine hK _ _ (fun _ => HAb) ?_
            clear hK K
            simp only [Act.put, List.getElem_toArray, List.getElem_cons_succ, List.getElem_cons_zero, List.setIfInBounds_toArray, List.set_cons_succ, List.set_cons_zero]
            refine wpTo.one (i := 18) (by kernel_rfl) rfl (by rfl) (fun K hK => ?_)
            refine wp_app2 H27 rfl (.tmp 75) (.tmp 81) (by rfl) W1.heap.size _ _ _ ((strs l).drop j) _ rfl _ rfl HO2b.out rfl (r2.out _ HAb) o2 (by have := hl1.out; have := hl2.out; simp at this ⊢; omega) HAb.size ?_
            intro a3 m3 x3 wd HM3 HO3b HB3b HF3
            have HAd : Below W1.heap.size W1 wd := HAb.trans HB3b.out
            refine hK _ _ (fun _ => HAd) ?_
            clear hK K
            simp only [Act.put, List.getElem_toArray, List.getElem_cons_succ, List.getElem_cons_zero, List.setIfInBounds_toArray, List.set_cons_succ, List.set_cons_zero]
            refine wpTo.one (i := 19) (by kernel_rfl) rfl (by rfl) (fun K hK => ?_)
            go_simp
            refine hK _ _ (fun _ => HAd) ?_
            clear hK K
            refine wpTo.one (i := 20) (by kernel_rfl) rfl (by rfl) (fun K hK => ?_)
            go_simp
            refine hK _ _ (fun _ => HAd) ?_
            clear hK K
            have kd := (HCC0.out _ HAd).1
            have ke := (HCC0.out _ HAd).2
            refine wpTo.one (i := 21) (by kernel_rfl) rfl (by rfl) (fun K hK => ?_)
            go_simp
            refine hK _ _ (fun h => absurd rfl h) ?_
            clear hK K
            refine wpTo.done (by kernel_rfl) ?_ _
            go_wp2_with fail
            go_meet
            exact ⟨_, (HR.out.on HAd).put0 (HO3b.out.base HBB0.out), (Fq.of_below HAd).trans (Fq.set _ _ _), fun b hb => Nat.le_trans HSZ.out (own_from HO3b.out hb)⟩
        case rest =>
        obtain ⟨u, hR2, hF2, HNU⟩ := hcut
        have HR2 : Hid (RTq wc B q T u (.slice a1 n cp1) ((strs l).take j ++ [str p] ++ (strs l).drop j) (ints l)) := hR2
        have HFQ : Hid (Fq q W1 wc) := hF2
        clear hR2 hF2 HOW HLX HCC0 s1 s2 r1 r2 P1 P2 P3 hbA hbX hbAX hbXA o1 o2 o3 hl1 hl2
        have HOW : Hid (OwnV 3 wc B (.slice a1 n cp1) (ints l)) := HR2.out.is
        have HLX : Hid ((ints l).length ≤ 100) := by show _ ≤ _; rw [ints_len]; have := HN.out; omega
        have ONE3 : Hid (∀ u ∈ ints l, u.oneCell' = true) := one_ints l
        have HCC1 : Hid (∀ w', Below wc.heap.size wc w' → w'.cell? ⟨q, 1, none⟩ = some (.slice a1 n cp1) ∧ w'.frozen? ⟨q, 1, none⟩ = false) := fun w' hb => ⟨(HR2.out.on hb).c1, (HR2.out.on hb).fr 1⟩
        have HBB1 : Hid (B ≤ wc.heap.size) := Nat.le_of_lt (Nat.lt_of_le_of_lt HR2.out.up HR2.out.lt)
        obtain ⟨v1, v2, s1, s2, r1, r2⟩ := cut_row28 HOW.out j hjn
        have r1 : Hid _ := r1
        have r2 : Hid _ := r2
        have hl1 : Hid (((ints l).take j).length ≤ 100) := by show _ ≤ _; rw [List.length_take]; have := HLX.out; omega
        have hl2 : Hid (((ints l).drop j).length ≤ 100) := by show _ ≤ _; rw [List.length_drop]; have := HLX.out; omega
        have hbA : Below wc.heap.size wc (wc.alloc (.cells #[] 3)).drew := ((Below.refl _ _).alloc (Nat.le_refl _) _).drew
        have hbX : Below wc.heap.size wc (wc.alloc (.cells #[.int .i64 z] 3)).drew := ((Below.refl _ _).alloc (Nat.le_refl _) _).drew
        have hbAX : Below wc.heap.size wc ((wc.alloc (.cells #[] 3)).alloc (.cells #[.int .i64 z] 3)).drew := (((Below.refl _ _).alloc (Nat.le_refl _) _).alloc (by simp) _).drew
        have hbXA : Below wc.heap.size wc ((wc.alloc (.cells #[.int .i64 z] 3)).alloc (.cells #[] 3)).drew := (((Below.refl _ _).alloc (Nat.le_refl _) _).alloc (by simp) _).drew
        have P1 : OwnV 3 (wc.alloc (.cells #[] 3)).drew wc.heap.size (.slice (some ⟨wc.heap.size, 0, none⟩) 0 0) [] := OwnV.empty 3 wc wc.heap.size (Nat.le_refl _)
        have P2 : OwnV 3 ((wc.alloc (.cells #[] 3)).alloc (.cells #[.int .i64 z] 3)).drew wc.heap.size (.slice (some ⟨wc.heap.size, 0, none⟩) 0 0) [] := OwnV.on (w := wc.alloc (.cells #[] 3)) (OwnV.empty 3 wc wc.heap.size (Nat.le_refl _)) ((Below.refl _ _).alloc (Nat.le_refl _) _).drew
        have P3 : OwnV 3 ((wc.alloc (.cells #[.int .i64 z] 3)).alloc (.cells #[] 3)).drew wc.heap.size (.slice (some ⟨wc.heap.size + 1, 0, none⟩) 0 0) [] := own_xa3 _ _
        have o1 : ∀ u ∈ ((ints l).take j), u.oneCell' = true := fun u hu => ONE3.out u (List.mem_of_mem_take hu)
        have o2 : ∀ u ∈ ((ints l).drop j), u.oneCell' = true := fun u hu => ONE3.out u (List.mem_of_mem_drop hu)
        have o3 : ∀ u ∈ [.int .i64 z], Value.oneCell' u = true := fun u hu => by obtain rfl := List.mem_singleton.1 hu; rfl
        go_upto_region 11 with fail
        go_cut [85] (fun _ w3 => ∃ u2, RTq w3 B q T u u2 ((strs l).take j ++ [str p] ++ (strs l).drop j) ((ints l).take j ++ [.int .i64 z] ++ (ints l).drop j) ∧ Fq q W1 w3 ∧ Hid (∀ b, u2.ownBlock = some b → w.heap.size ≤ b))
        case first =>
          refine wp_region_to (S := fun W' => Below wc.heap.size wc W') (z := 21) hmix ?_
          have hS : (fun W' => Below wc.heap.size wc W') wc.drew := (Below.refl _ _).drew
          refine wpTo.take (i := 0) (z := 21) (v := .pointer (some ⟨q, 0, none⟩)) rfl (by kernel_rfl) (by kernel_rfl) (by kernel_rfl) (by kernel_rfl) (fun _ _ _ h => h) (.inl ⟨by rfl, fun W' hW' => ?_⟩) hS ?_
          · go_simp
          simp only [Act.put, List.getElem_toArray, List.getElem_cons_zero, List.setIfInBounds_toArray, List.set_cons_succ, List.set_cons_zero]
          refine wpTo.take (i := 2) (z := 21) (v := .pointer (some ⟨q, 0, none⟩)) rfl (by kernel_rfl) (by kernel_rfl) (by kernel_rfl) (by kernel_rfl) (fun _ _ _ h => h) (.inl ⟨by rfl, fun W' hW' => ?_⟩) hS ?_
          · go_simp
          simp only [Act.put, List.getElem_toArray, List.getElem_cons_succ, List.getElem_cons_zero, List.setIfInBounds_toArray, List.set_cons_succ, List.set_cons_zero]
          refine wpTo.take (i := 3) (z := 21) (v := .pointer (some ⟨q, 0, none⟩)) rfl (by kernel_rfl) (by kernel_rfl) (by kernel_rfl) (by kernel_rfl) (fun _ _ _ h => h) (.inl ⟨by rfl, fun W' hW' => ?_⟩) hS ?_
          · go_simp
          simp only [Act.put, List.getElem_toArray, List.getElem_cons_succ, List.getElem_cons_zero, List.setIfInBounds_toArray, List.set_cons_succ, List.set_cons_zero]
          refine wpTo.take (i := 4) (z := 21) (v := .pointer (some ⟨q, 1, none⟩)) rfl (by kernel_rfl) (by kernel_rfl) (by kernel_rfl) (by kernel_rfl) (fun _ _ _ h => h) (.inl ⟨by rfl, fun W' hW' => ?_⟩) hS ?_
          · go_simp
          simp only [Act.put, List.getElem_toArray, List.getElem_cons_succ, List.getElem_cons_zero, List.setIfInBounds_toArray, List.set_cons_succ, List.set_cons_zero]
          refine wpTo.take (i := 5) (z := 21) (v := .slice a1 n cp1) rfl (by kernel_rfl) (by kernel_rfl) (by kernel_rfl) (by kernel_rfl) (fun _ _ _ h => h) (.inl ⟨by rfl, fun W' hW' => ?_⟩) hS ?_
          · have hc := (HCC1.out W' hW').1
            go_simp
          simp only [Act.put, List.getElem_toArray, List.getElem_cons_succ, List.getElem_cons_zero, List.setIfInBounds_toArray, List.set_cons_succ, List.set_cons_zero]
          refine wpTo.take (i := 6) (z := 21) (v := .int .i64 (j : Int)) rfl (by kernel_rfl) (by kernel_rfl) (by kernel_rfl) (by kernel_rfl) (fun _ _ _ h => h) (.inl ⟨by rfl, fun W' hW' => ?_⟩) hS ?_
          · go_simp
          simp only [Act.put, List.getElem_toArray, List.getElem_cons_succ, List.getElem_cons_zero, List.setIfInBounds_toArray, List.set_cons_succ, List.set_cons_zero]
          refine wpTo.take (i := 7) (z := 21) (v := v1) rfl (by kernel_rfl) (by kernel_rfl) (by kernel_rfl) (by kernel_rfl) (fun _ _ _ h => h) (.inl ⟨by rfl, fun W' hW' => ?_⟩) hS ?_
          · go_simp
          simp only [Act.put, List.getElem_toArray, List.getElem_cons_succ, List.getElem_cons_zero, List.setIfInBounds_toArray, List.set_cons_succ, List.set_cons_zero]
          refine wpTo.take (i := 9) (z := 21) (v := .int .i64 z) rfl (by kernel_rfl) (by kernel_rfl) (by kernel_rfl) (by kernel_rfl) (fun _ _ _ h => h) (.inl ⟨by rfl, fun W' hW' => ?_⟩) hS ?_
          · go_simp
          simp only [Act.put, List.getElem_toArray, List.getElem_cons_succ, List.getElem_cons_zero, List.setIfInBounds_toArray, List.set_cons_succ, List.set_cons_zero]
          refine wpTo.take (i := 12) (z := 21) (v := .pointer (some ⟨q, 0, none⟩)) rfl (by kernel_rfl) (by kernel_rfl) (by kernel_rfl) (by kernel_rfl) (fun _ _ _ h => h) (.inl ⟨by rfl, fun W' hW' => ?_⟩) hS ?_
          · go_simp
          simp only [Act.put, List.getElem_toArray, List.getElem_cons_succ, List.getElem_cons_zero, List.setIfInBounds_toArray, List.set_cons_succ, List.set_cons_zero]
          refine wpTo.take (i := 13) (z := 21) (v := .pointer (some ⟨q, 0, none⟩)) rfl (by kernel_rfl) (by kernel_rfl) (by kernel_rfl) (by kernel_rfl) (fun _ _ _ h => h) (.inl ⟨by rfl, fun W' hW' => ?_⟩) hS ?_
          · go_simp
          simp only [Act.put, List.getElem_toArray, List.getElem_cons_succ, List.getElem_cons_zero, List.setIfInBounds_toArray, List.set_cons_succ, List.set_cons_zero]
          refine wpTo.take (i := 14) (z := 21) (v := .pointer (some ⟨q, 1, none⟩)) rfl (by kernel_rfl) (by kernel_rfl) (by kernel_rfl) (by kernel_rfl) (fun _ _ _ h => h) (.inl ⟨by rfl, fun W' hW' => ?_⟩) hS ?_
          · go_simp
          simp only [Act.put, List.getElem_toArray, List.getElem_cons_succ, List.getElem_cons_zero, List.setIfInBounds_toArray, List.set_cons_succ, List.set_cons_zero]
          refine wpTo.take (i := 15) (z := 21) (v := .slice a1 n cp1) rfl (by kernel_rfl) (by kernel_rfl) (by kernel_rfl) (by kernel_rfl) (fun _ _ _ h => h) (.inl ⟨by rfl, fun W' hW' => ?_⟩) hS ?_
          · have hc := (HCC1.out W' hW').1
            go_simp
          simp only [Act.put, List.getElem_toArray, List.getElem_cons_succ, List.getElem_cons_zero, List.setIfInBounds_toArray, List.set_cons_succ, List.set_cons_zero]
          refine wpTo.take (i := 16) (z := 21) (v := .int .i64 (j : Int)) rfl (by kernel_rfl) (by kernel_rfl) (by kernel_rfl) (by kernel_rfl) (fun _ _ _ h => h) (.inl ⟨by rfl, fun W' hW' => ?_⟩) hS ?_
          · go_simp
          simp only [Act.put, List.getElem_toArray, List.getElem_cons_succ, List.getElem_cons_zero, List.setIfInBounds_toArray, List.set_cons_succ, List.set_cons_zero]
          refine wpTo.take (i := 17) (z := 21) (v := v2) rfl (by kernel_rfl) (by kernel_rfl) (by kernel_rfl) (by kernel_rfl) (fun _ _ _ h => h) (.inl ⟨by rfl, fun W' hW' => ?_⟩) hS ?_
          · go_simp
          simp only [Act.put, List.getElem_toArray, List.getElem_cons_succ, List.getElem_cons_zero, List.setIfInBounds_toArray, List.set_cons_succ, List.set_cons_zero]
          refine wpTo.two (i := 1) (j := 10) (by kernel_rfl) rfl rfl (by rfl) (by rfl) (fun K hK => ?_) (fun K hK => ?_)
          · go_simp
            refine hK _ _ (fun _ => hbA) ?_
            clear hK K
            refine wpTo.two (i := 8) (j := 10) (by kernel_rfl) rfl rfl (by rfl) (by rfl) (fun K hK => ?_) (fun K hK => ?_)
            · refine wp_app2 H28 rfl (.tmp 86) (.tmp 92) (by rfl) wc.heap.size _ _ [] ((ints l).take j) _ rfl _ rfl P1 rfl (r1.out _ hbA) o1 (by have := hl1.out; simp at this ⊢; omega) hbA.size ?_
              intro a1 m1 x1 wa HM1 HO1 HB1 HF1
              have HAa : Below wc.heap.size wc wa := hbA.trans HB1.out
              refine hK _ _ (fun _ => HAa) ?_
              clear hK K
              simp only [Act.put, List.getElem_toArray, List.getElem_cons_succ, List.getElem_cons_zero, List.setIfInBounds_toArray, List.set_cons_succ, List.set_cons_zero]
              refine wpTo.one (i := 10) (by kernel_rfl) rfl (by rfl) (fun K hK => ?_)
              go_simp
              have hbw : Below wc.heap.size wc (wa.alloc (.cells #[.int .i64 z] 3)) := HAa.alloc HAa.size _
              refine hK _ _ (fun _ => hbw) ?_
              clear hK K
              refine wpTo.one (i := 11) (by kernel_rfl) rfl (by rfl) (fun K hK => ?_)
              refine wp_app2 H28 rfl (.tmp 93) (.tmp 95) (by rfl) wc.heap.size _ _ _ [.int .i64 z] _ rfl _ rfl (HO1.out.on ((Below.refl _ _).alloc (Nat.le_refl _) _)) rfl (new_x3 _ _) o3 (by have := hl1.out; simp at this ⊢; omega) hbw.size ?_
              intro a2 m2 x2 wb HM2 HO2b HB2b HF2
              have HAb : Below wc.heap.size wc wb := hbw.trans HB2b.out
              refine hK _ _ (fun _ => HAb) ?_
              clear hK K
              simp only [Act.put, List.getElem_toArray, List.getElem_cons_succ, List.getElem_cons_zero, List.setIfInBounds_toArray, List.set_cons_succ, List.set_cons_zero]
              refine wpTo.one (i := 18) (by kernel_rfl) rfl (by rfl) (fun K hK => ?_)
              refine wp_app2 H28 rfl (.tmp 96) (.tmp 102) (by rfl) wc.heap.size _ _ _ ((ints l).drop j) _ rfl _ rfl HO2b.out rfl (r2.out _ HAb) o2 (by have := hl1.out; have := hl2.out; simp at this ⊢; omega) HAb.size ?_
              intro a3 m3 x3 wd HM3 HO3b HB3b HF3
              have HAd : Below wc.heap.size wc wd := HAb.trans HB3b.out
              refine hK _ _ (fun _ => HAd) ?_
              clear hK K
              simp only [Act.put, List.getElem_toArray, List.getElem_cons_succ, List.getElem_cons_zero, List.setIfInBounds_toArray, List.set_cons_succ, List.set_cons_zero]
              refine wpTo.one (i := 19) (by kernel_rfl) rfl (by rfl) (fun K hK => ?_)
              go_simp
              refine hK _ _ (fun _ => HAd) ?_
              clear hK K
              refine wpTo.one (i := 20) (by kernel_rfl) rfl (by rfl) (fun K hK => ?_)
              go_simp
              refine hK _ _ (fun _ => HAd) ?_
              clear hK K
              have kd := (HCC1.out _ HAd).1
              have ke := (HCC1.out _ HAd).2
              refine wpTo.one (i := 21) (by kernel_rfl) rfl (by rfl) (fun K hK => ?_)
              go_simp
              refine hK _ _ (fun h => absurd rfl h) ?_
              clear hK K
              refine wpTo.done (by kernel_rfl) ?_ _
              go_wp2_with fail
              go_meet
              exact ⟨_, (HR2.out.on HAd).put1 (HO3b.out.base HBB1.out), HFQ.out.trans ((Fq.of_below HAd).trans (Fq.set _ _ _)), fun b hb => Nat.le_trans HSZ.out (Nat.le_trans HFQ.out.size (own_from HO3b.out hb))⟩
            · go_simp
              refine hK _ _ (fun _ => hbAX) ?_
              clear hK K
              refine wpTo.one (i := 8) (by kernel_rfl) rfl (by rfl) (fun K hK => ?_)
              refine wp_app2 H28 rfl (.tmp 86) (.tmp 92) (by rfl) wc.heap.size _ _ [] ((ints l).take j) _ rfl _ rfl P2 rfl (r1.out _ hbAX) o1 (by have := hl1.out; simp at this ⊢; omega) hbAX.size ?_
              intro a1 m1 x1 wa HM1 HO1 HB1 HF1
              have HAa : Below wc.heap.size wc wa := hbAX.trans HB1.out
              have HX := new_ax3 _ _ wa HF1.out
              refine hK _ _ (fun _ => HAa) ?_
              clear hK K
              simp only [Act.put, List.getElem_toArray, List.getElem_cons_succ, List.getElem_cons_zero, List.setIfInBounds_toArray, List.set_cons_succ, List.set_cons_zero]
              refine wpTo.one (i := 11) (by kernel_rfl) rfl (by rfl) (fun K hK => ?_)
              refine wp_app2 H28 rfl (.tmp 93) (.tmp 95) (by rfl) wc.heap.size _ _ _ [.int .i64 z] _ rfl _ rfl HO1.out rfl HX o3 (by have := hl1.out; simp at this ⊢; omega) HAa.size ?_
              intro a2 m2 x2 wb HM2 HO2b HB2b HF2
              have HAb : Below wc.heap.size wc wb := HAa.trans HB2b.out
              refine hK _ _ (fun _ => HAb) ?_
              clear hK K
              simp only [Act.put, List.getElem_toArray, List.getElem_cons_succ, List.getElem_cons_zero, List.setIfInBounds_toArray, List.set_cons_succ, List.set_cons_zero]
              refine wpTo.one (i := 18) (by kernel_rfl) rfl (by rfl) (fun K hK => ?_)
              refine wp_app2 H28 rfl (.tmp 96) (.tmp 102) (by rfl) wc.heap.size _ _ _ ((ints l).drop j) _ rfl _ rfl HO2b.out rfl (r2.out _ HAb) o2 (by have := hl1.out; have := hl2.out; simp at this ⊢; omega) HAb.size ?_
              intro a3 m3 x3 wd HM3 HO3b HB3b HF3
              have HAd : Below wc.heap.size wc wd := HAb.trans HB3b.out
              refine hK _ _ (fun _ => HAd) ?_
              clear hK K
              simp only [Act.put, List.getElem_toArray, List.getElem_cons_succ, List.getElem_cons_zero, List.setIfInBounds_toArray, List.set_cons_succ, List.set_cons_zero]
              refine wpTo.one (i := 19) (by kernel_rfl) rfl (by rfl) (fun K hK => ?_)
              go_simp
              refine hK _ _ (fun _ => HAd) ?_
              clear hK K
              refine wpTo.one (i := 20) (by kernel_rfl) rfl (by rfl) (fun K hK => ?_)
              go_simp
              refine hK _ _ (fun _ => HAd) ?_
              clear hK K
              have kd := (HCC1.out _ HAd).1
              have ke := (HCC1.out _ HAd).2
              refine wpTo.one (i := 21) (by kernel_rfl) rfl (by rfl) (fun K hK => ?_)
              go_simp
              refine hK _ _ (fun h => absurd rfl h) ?_
              clear hK K
              refine wpTo.done (by kernel_rfl) ?_ _
              go_wp2_with fail
              go_meet
              exact ⟨_, (HR2.out.on HAd).put1 (HO3b.out.base HBB1.out), HFQ.out.trans ((Fq.of_below HAd).trans (Fq.set _ _ _)), fun b hb => Nat.le_trans HSZ.out (Nat.le_trans HFQ.out.size (own_from HO3b.out hb))⟩
          · go_simp
            refine hK _ _ (fun _ => hbX) ?_
            clear hK K
            refine wpTo.one (i := 1) (by kernel_rfl) rfl (by rfl) (fun K hK => ?_)
            go_simp
            refine hK _ _ (fun _ => hbXA) ?_
            clear hK K
            refine wpTo.one (i := 8) (by kernel_rfl) rfl (by rfl) (fun K hK => ?_)
            refine wp_app2 H28 rfl (.tmp 86) (.tmp 92) (by rfl) wc.heap.size _ _ [] ((ints l).take j) _ rfl _ rfl P3 rfl (r1.out _ hbXA) o1 (by have := hl1.out; simp at this ⊢; omega) hbXA.size ?_
            intro a1 m1 x1 wa HM1 HO1 HB1 HF1
            have HAa : Below wc.heap.size wc wa := hbXA.trans HB1.out
            have HX := new_xa3 _ _ wa HF1.out
            refine hK _ _ (fun _ => HAa) ?_
            clear hK K
            simp only [Act.put, List.getElem_toArray, List.getElem_cons_succ, List.getElem_cons_zero, List.setIfInBounds_toArray, List.set_cons_succ, List.set_cons_zero]
            refine wpTo.one (i := 11) (by kernel_rfl) rfl (by rfl) (fun K hK => ?_)
            refine wp_app2 H28 rfl (.tmp 93) (.tmp 95) (by rfl) wc.heap.size _ _ _ [.int .i64 z] _ rfl _ rfl HO1.out rfl HX o3 (by have := hl1.out; simp at this ⊢; omega) HAa.size ?_
            intro a2 m2 x2 wb HM2 HO2b HB2b HF2
            have HAb : Below wc.heap.size wc wb := HAa.trans HB2b.out
            refine hK _ _ (fun _ => HAb) ?_
            clear hK K
            simp only [Act.put, List.getElem_toArray, List.getElem_cons_succ, List.getElem_cons_zero, List.setIfInBounds_toArray, List.set_cons_succ, List.set_cons_zero]
            refine wpTo.one (i := 18) (by kernel_rfl) rfl (by rfl) (fun K hK => ?_)
            refine wp_app2 H28 rfl (.tmp 96) (.tmp 102) (by rfl) wc.heap.size _ _ _ ((ints l).drop j) _ rfl _ rfl HO2b.out rfl (r2.out _ HAb) o2 (by have := hl1.out; have := hl2.out; simp at this ⊢; omega) HAb.size ?_
            intro a3 m3 x3 wd HM3 HO3b HB3b HF3
            have HAd : Below wc.heap.size wc wd := HAb.trans HB3b.out
            refine hK _ _ (fun _ => HAd) ?_
            clear hK K
            simp only [Act.put, List.getElem_toArray, List.getElem_cons_succ, List.getElem_cons_zero, List.setIfInBounds_toArray, List.set_cons_succ, List.set_cons_zero]
            refine wpTo.one (i := 19) (by kernel_rfl) rfl (by rfl) (fun K hK => ?_)
            go_simp
            refine hK _ _ (fun _ => HAd) ?_
            clear hK K
            refine wpTo.one (i := 20) (by kernel_rfl) rfl (by rfl) (fun K hK => ?_)
            go_simp
            refine hK _ _ (fun _ => HAd) ?_
            clear hK K
            have kd := (HCC1.out _ HAd).1
            have ke := (HCC1.out _ HAd).2
            refine wpTo.one (i := 21) (by kernel_rfl) rfl (by rfl) (fun K hK => ?_)
            go_simp
            refine hK _ _ (fun h => absurd rfl h) ?_
            clear hK K
            refine wpTo.done (by kernel_rfl) ?_ _
            go_wp2_with fail
            go_meet
            exact ⟨_, (HR2.out.on HAd).put1 (HO3b.out.base HBB1.out), HFQ.out.trans ((Fq.of_below HAd).trans (Fq.set _ _ _)), fun b hb => Nat.le_trans HSZ.out (Nat.le_trans HFQ.out.size (own_from HO3b.out hb))⟩
        case rest =>
        obtain ⟨u2, hR3, hF3, HNU2⟩ := hcut
        have HS : Hid ((strs l).take j ++ [str p] ++ (strs l).drop j = strs (addR l p z) ∧ (ints l).take j ++ [.int .i64 z] ++ (ints l).drop j = ints (addR l p z)) := by
          show _ ∧ _
          rw [hRR.out, HE.out, strs_take, strs_drop, ints_take, ints_drop]
          constructor
          · unfold strs; simp
          · unfold ints; simp
        rw [HS.out.1, HS.out.2] at hR3
        have hR3 : Hid _ := hR3
        have hF3 : Hid _ := (Fq.of_below HB1.out).trans hF3
        go_wp2
        go_ret
        exact ⟨⟨_, _, hR3.out, fun b hb => .inr (HNU.out b hb), fun b hb => .inr (HNU2.out b hb)⟩, hF3.out, by rw [hC.out]; rfl⟩
end Go.Proofs.YtcicnbbnkeellaaGreatDoor.To
