/- TapeTwice walked. -/
import Derived.Test.YtpbpcefcnkfbpaaTw
namespace Go.Proofs.Ytpbpcefcnkfbpaa
open Go.RowKit Go.Lib Go.Shelf
set_option maxRecDepth 100000

set_option maxHeartbeats 8000000 in
theorem twice_any (w : World) (zl zn : Int) (hzl : -9223372036854775808 ≤ zl) (hzl' : zl < 9223372036854775808) (hzn : -9223372036854775808 ≤ zn) (hzn' : zn < 9223372036854775808) (v1 : Value) (r1 : List (List UInt8)) (h1 : RdL w v1 r1) :
    Calls Try.prog 5 #[.int .i64 zl, .int .i64 zn, v1] w fun e w' => e = .returned (.bool true) ∧ Below w.heap.size w w' := by
  obtain ⟨a1, c1, rfl, hr1⟩ := h1
  obtain ⟨n1, hn1⟩ : ∃ n, n = r1.length := ⟨_, rfl⟩
  rw [← hn1]
  have N1H : Hid (n1 = r1.length) := hn1
  clear hn1
  have hnot : ∀ (b : Bool) (w : World), (Op.unary .not (.bool b)).run Try.prog w = .ok (.bool (!b)) w := fun _ _ => rfl
  go_enter Try.func5, Try.ntmps5
  go_wp2_with fail
  refine (wakes_any w).mono ?_
  rintro e w0 ⟨rfl, hb0⟩
  by_cases hc1 : zl < 0
  · go_wp2_with fail
    go_ret
    exact ⟨rfl, hb0⟩
  by_cases hc2 : 20 < zl
  · go_wp2_with fail
    go_ret
    exact ⟨rfl, hb0⟩
  by_cases hc3 : zn < 1
  · go_wp2_with fail
    go_ret
    exact ⟨rfl, hb0⟩
  by_cases hc4 : 20 < zn
  · go_wp2_with fail
    go_ret
    exact ⟨rfl, hb0⟩
  by_cases hbig : 40 < n1
  · have h' : (40 : Int) < (n1 : Int) := by omega
    go_wp2_with fail
    go_ret
    exact ⟨rfl, hb0⟩
  have i1 : ¬ (40 : Int) < (n1 : Int) := by omega
  obtain ⟨lo, rfl⟩ : ∃ lo : Nat, zl = (lo : Int) := ⟨zl.toNat, by omega⟩
  obtain ⟨n, rfl⟩ : ∃ n : Nat, zn = (n : Int) := ⟨zn.toNat, by omega⟩
  have hs1 : n1 ≤ 40 := by omega
  clear hbig
  have HR1 : Hid _ := hr1
  clear hr1
  have hlo : lo ≤ 20 := by omega
  have hn0 : 1 ≤ n := by omega
  have hn9 : n ≤ 20 := by omega
  clear hzl hzl' hzn hzn'
  have N26 := new_ts w0 (lo + n + 3) (by omega) (by omega)
  rw [show (((lo + n + 3 : Nat)) : Int) = (lo : Int) + (n : Int) + 3 by omega] at N26
  have wr1 : IntKind.i64.wrap ((lo : Int) + (n : Int)) = (lo : Int) + (n : Int) := wrapI _ (by omega) (by omega)
  have wr2 : IntKind.i64.wrap ((lo : Int) + (n : Int) + 3) = (lo : Int) + (n : Int) + 3 := wrapI _ (by omega) (by omega)
  go_wp2_with fail
  refine N26.mono ?_
  rintro e w1 ⟨X0, q, S0, rfl, hdr0, hP0, hW0, hops0, har0, hdn0, hb1, hX0⟩
  clear N26
  have hz0 : S0.P[lo * 256]? = some 0 := by rw [hP0, List.getElem?_replicate, if_pos (by omega)]
  clear hP0
  have hb01 : Below w.heap.size w w1 := hb0.trans (hb1.mono hb0.size)
  have hX0' : ∀ j, X0 j → w.heap.size ≤ j := fun j hj => Nat.le_trans hb0.size (hX0 j hj)
  have hmk := make256 w1
  have hbm : Below w1.heap.size w1 (w1.alloc (.cells (byteCells (List.replicate 256 0)).toArray 5)) := (Below.refl _ _).alloc (Nat.le_refl _) _
  have hM0 : Mk (w1.alloc (.cells (byteCells (List.replicate 256 0)).toArray 5)) X0 w1.heap.size (List.replicate 256 0) := ⟨heap_alloc_new w1 _, List.length_replicate, fun h => by have := hdr0.xlt _ h; omega⟩
  have hdr1 := hdr0.below hbm
  have hb02 := hb01.trans (hbm.mono hb01.size)
  have hgw := hb01.size
  have HD1 : Hid _ := hdr1
  have HM0 : Hid _ := hM0
  have HB2 : Hid _ := hb02
  clear hdr1 hM0 hb02 hbm hdr0 hb01 hb1 hb0
  generalize w1.heap.size = g at *
  generalize List.replicate 256 (0 : UInt8) = Z at *
  generalize hW1 : w1.alloc (.cells (byteCells Z).toArray 5) = w2 at *
  clear hW1
  go_wp2_with fail
  go_loopw [56] (fun i wr => ∃ (k : Nat) (M : List UInt8), k ≤ 256 ∧ i = .int .i64 k ∧ Drum wr X0 q (lo + n + 3) S0 ∧ Mk wr X0 g M ∧ Below w.heap.size w wr) (fun i _ => 256 - (RowKit.intOf i).toNat)
  case atStart => exact ⟨0, Z, by omega, rfl, HD1.out, HM0.out, HB2.out⟩
  case round =>
    clear HD1 HM0 HB2
    obtain ⟨k, M, hk, rfl, hd, hm, hb⟩ := hrel
    by_cases hkl : k < 256
    · have hcl : ∃ u, wr.cell? ⟨g, k, none⟩ = some u := ⟨_, by rw [cell_of_row _ _ _ _ _ _ hm.blk]; simp [byteCells, hm.len, hkl]; rfl⟩
      obtain ⟨u, hc⟩ := hcl
      have hz := frozen_of_row wr g k _ _ hm.blk
      have HN : Hid (∀ z : Int, 0 ≤ z → z < 256 → Drum (wr.setCell ⟨g, k, none⟩ (.int .u8 z)) X0 q (lo + n + 3) S0 ∧ Mk (wr.setCell ⟨g, k, none⟩ (.int .u8 z)) X0 g (M.set k (UInt8.ofNat z.toNat)) ∧ Below w.heap.size w (wr.setCell ⟨g, k, none⟩ (.int .u8 z))) := fun z h1 h2 =>
        ⟨hd.on (step_at wr g k _) (fun j hj e => hm.nx (e ▸ hj)), hm.set k z h1 h2, hb.setCell hgw _⟩
      clear hd hm hb
      go_wp2
      go_roundw
      case rel => exact ⟨k + 1, _, by omega, by go_num, HN.out _ (bits_u8_or _ _).1 (bits_u8_or _ _).2⟩
      case measure => simp [RowKit.intOf]; omega
    · have hN23 : lo + n + 3 ≤ 43 := by omega
      have hnP := hd.len
      have hd' := hd
      clear hmk
      go_wp2_with fail
      go_loopw [10] (fun i wr => ∃ (j : Nat) (X : Nat → Prop) (S : DS), j ≤ lo + n + 3 ∧ i = .int .i64 j ∧ Drum wr X q (lo + n + 3) S ∧ S.armed = 0 ∧ S.down = false ∧ S.W.length ≤ j ∧ S.ops ≤ j ∧ S.P[lo * 256]? = some 0 ∧ Outs S.P M lo (lo + n) j ∧ Mk wr X g M ∧ Below w.heap.size w wr ∧ (∀ j, X j → w.heap.size ≤ j)) (fun i _ => lo + n + 3 - (RowKit.intOf i).toNat)
      case atStart => exact ⟨0, X0, S0, by omega, rfl, hd', har0, hdn0, by rw [hW0]; decide, by omega, hz0, fun j hj => absurd hj (by omega), hm, hb, hX0'⟩
      case round =>
        clear hd' hd hm hb hz0 hW0 hops0 har0 hdn0 hX0 hX0'
        obtain ⟨j, X, S, hj, rfl, hd, har, hdn, hwl, hops, hz0, hou, hm, hb, hX⟩ := hrel
        by_cases hjl : j < lo + n + 3
        · have c1 : (j : Int) < (lo : Int) + (n : Int) + 3 := by omega
          by_cases hin : j < lo
          · have c2 : (j : Int) < (lo : Int) := by omega
            have N27 := write_ts wr X q (lo + n + 3) S j _ M hjl har hdn (by omega) (by omega) hd hm.len hm.rd (fun k hk => by cases hk; exact hm.nx)
            go_wp2_with fail
            refine N27.mono ?_
            rintro e w3 ⟨rfl, X3, S3, hd3, hst3, hP3, har3, hdn3, hw3, hops3⟩
            have hz3 : S3.P[lo * 256]? = some 0 := by
              rw [hP3, splice_get _ _ _ (by rw [hd.len, hm.len]; omega), if_neg (by rw [hm.len]; omega)]; exact hz0
            have hou3 : Outs S3.P M lo (lo + n) (j + 1) := by rw [hP3]; exact hou.put hd.len hm.len hjl
            have hm3 : Mk w3 X3 g M := hm.on hst3 hm.nx (hst3.grow g)
            have hb3 : Below w.heap.size w w3 := hb.trans (hst3.below hX hb.size)
            have hX3 := hst3.above hX hb.size
            clear N27 hd hst3 hm hb hou
            go_wp2_with fail
            go_roundw
            case rel => exact ⟨j + 1, X3, S3, by omega, by go_num, hd3, har3, hdn3, by omega, by omega, hz3, hou3, hm3, hb3, hX3⟩
            case measure => simp [RowKit.intOf]; omega
          · have c2 : ¬ (j : Int) < (lo : Int) := by omega
            by_cases hin2 : lo + n ≤ j
            · have c3 : (lo : Int) + (n : Int) ≤ (j : Int) := by omega
              have N27 := write_ts wr X q (lo + n + 3) S j _ M hjl har hdn (by omega) (by omega) hd hm.len hm.rd (fun k hk => by cases hk; exact hm.nx)
              go_wp2_with fail
              refine N27.mono ?_
              rintro e w3 ⟨rfl, X3, S3, hd3, hst3, hP3, har3, hdn3, hw3, hops3⟩
              have hz3 : S3.P[lo * 256]? = some 0 := by
                rw [hP3, splice_get _ _ _ (by rw [hd.len, hm.len]; omega), if_neg (by rw [hm.len]; omega)]; exact hz0
              have hou3 : Outs S3.P M lo (lo + n) (j + 1) := by rw [hP3]; exact hou.put hd.len hm.len hjl
              have hm3 : Mk w3 X3 g M := hm.on hst3 hm.nx (hst3.grow g)
              have hb3 : Below w.heap.size w w3 := hb.trans (hst3.below hX hb.size)
              have hX3 := hst3.above hX hb.size
              clear N27 hd hst3 hm hb hou
              go_wp2_with fail
              go_roundw
              case rel => exact ⟨j + 1, X3, S3, by omega, by go_num, hd3, har3, hdn3, by omega, by omega, hz3, hou3, hm3, hb3, hX3⟩
              case measure => simp [RowKit.intOf]; omega
            · have c3 : ¬ (lo : Int) + (n : Int) ≤ (j : Int) := by omega
              have hou3 : Outs S.P M lo (lo + n) (j + 1) := hou.skip (by omega)
              clear hou
              go_wp2_with fail
              go_roundw
              case rel => exact ⟨j + 1, X, S, by omega, by go_num, hd, har, hdn, by omega, by omega, hz0, hou3, hm, hb, hX⟩
              case measure => simp [RowKit.intOf]; omega
        · have c1 : ¬ (j : Int) < (lo : Int) + (n : Int) + 3 := by omega
          have hla0 : Laid S.P lo ((lo + n - lo) * 256) [] := zeros_laid S.P (lo + n + 3) lo (lo + n) hd.len (by omega) (by omega) hz0
          have N12 := open_ts wr X q (lo + n + 3) S lo (lo + n) [] hd hla0 har hdn (by omega) (by omega) (by omega) (by simp)
          rw [show (((lo + n : Nat)) : Int) = (lo : Int) + (n : Int) by omega] at N12
          go_wp2_with fail
          refine N12.mono ?_
          rintro e w3 ⟨hb3, v3, t, rfl, ht3, hrec3, hts3⟩
          obtain ⟨va, vc, rfl⟩ := hrec3.shape
          have hb03 : Below w.heap.size w w3 := hb.trans (hb3.mono hb.size)
          have htw : w.heap.size ≤ t := Nat.le_trans hb.size ht3
          have hm3 : Mk w3 X g M := hm.on (Step.of_below (X := fun _ => False) hb3) (fun h => h) .inl
          have hgt : g ≠ t := by have := hm.lt; omega
          have hou9 : Outs S.P M lo (lo + n) (lo + n + 3) := fun k hk ho => hou k (by omega) ho
          clear hb hb3 hrec3 N12 hd hm hou hla0 hz0
          obtain ⟨N, hN⟩ : ∃ N, N = lo + n + 3 := ⟨_, rfl⟩
          obtain ⟨hi, hhi⟩ : ∃ hi, hi = lo + n := ⟨_, rfl⟩
          rw [← hN] at hts3 hou9
          rw [← hhi] at hts3 hou9
          go_wp2_with fail
          go_loopw [107, 14, 15] (fun i v14 v15 wr => ∃ (j L : Nat) (X4 : Nat → Prop) (S4 : DS) (rs : List (List UInt8)), j ≤ n1 ∧ i = .int .i64 j ∧ v15 = .int .i64 L ∧ L + tot rs = 256 * n ∧ rs.length ≤ j ∧ TS wr X4 t q N S4 lo hi rs ∧ S4.ops ≤ 100 + tot rs + 300 * rs.length ∧ S4.W.length ≤ 100 ∧ Below w.heap.size w wr ∧ (∀ j, X4 j → w.heap.size ≤ j) ∧ WN w wr X4 t v14 rs ∧ Mk wr X4 g M ∧ Outs S4.P M lo hi N) (fun i _ _ _ => n1 - (RowKit.intOf i).toNat)
          case atStart => exact ⟨0, 256 * n, X, S, [], by omega, rfl, by go_num, by simp [tot], by simp, hts3, by omega, by omega, hb03, hX, WN.nil w w3 X t, hm3, hou9⟩
          case round =>
            clear hts3 hm3 hb03 hou9
            obtain ⟨j, L, X4, S4, rs, hj, rfl, rfl, hL, hrsl, hts4, hops4, hwl4, hb4, hX4, hwn4, hm4, hou4⟩ := hrel
            by_cases hlt : j < n1
            · obtain ⟨x, hx⟩ : ∃ x, r1[j]? = some x := ⟨_, List.getElem?_eq_getElem (by rw [← N1H.out]; exact hlt)⟩
              obtain ⟨b, o, u, hae, e1, f1⟩ := HR1.out j x hx
              cases hae
              have e4 : wr.cell? ⟨b, o + j, none⟩ = some u := (hb4.cell (p := ⟨b, o + j, none⟩) (World.block_lt_of_cell? w _ e1)).trans e1
              have f4 : Sl.RdA wr u x := Sl.RdA.on f1 hb4
              obtain ⟨ua, uc, rfl⟩ := f4.len
              by_cases hbig : 8192 < x.length
              · have hbig' : (8192 : Int) < (x.length : Int) := by omega
                go_wp2_with fail
                go_ret
                exact ⟨rfl, hb4⟩
              · have hbig' : ¬ (8192 : Int) < (x.length : Int) := by omega
                have N30 := ops_any wr X4 q N S4 hts4.d
                have hsize : (hi - lo) * 256 = 256 * n := by rw [hhi]; omega
                go_wp2_with fail
                refine N30.mono ?_
                rintro e w4 ⟨rfl, hw4⟩
                have hw4 := hw4.symm
                subst hw4
                clear N30
                by_cases hfit : 12 + x.length ≤ L
                · have N17 := append_ts wr X4 t q N S4 lo hi rs hts4 (by omega) (by omega) (by omega) (by omega) x _ f4 (by omega) (by omega)
                  have hopl := opsN_le (tot rs) x.length ((hi - lo) * 256)
                  go_wp2_with fail
                  refine N17.mono ?_
                  rintro e w7 ⟨rfl, X7, S7, hts7, hst7, hX7, hops7, hW7, hP7⟩
                  clear N17
                  have hab : ∀ k, (X4 k ∨ k = t) → w.heap.size ≤ k := fun k hk => by
                    rcases hk with hk | hk
                    · exact hX4 k hk
                    · rw [hk]; exact htw
                  have hb7 : Below w.heap.size w w7 := hb4.trans (hst7.below hab hb4.size)
                  have hX7' : ∀ k, X7 k → w.heap.size ≤ k := fun k hk => by
                    rcases hX7 k hk with h | h
                    · exact hX4 k h
                    · exact Nat.le_trans hb4.size h
                  have hsep := hwn4.sep
                  have hwn7 : WN w w7 X7 t u14 rs := hwn4.on hst7 (fun k hk h => by
                    rcases h with h | h
                    · exact (hsep k hk).2.1 h
                    · exact (hsep k hk).2.2 h) hX7
                  have hm7 : Mk w7 X7 g M := hm4.on hst7 (fun h => by
                    rcases h with h | h
                    · exact hm4.nx h
                    · exact hgt h) (hX7 g)
                  have hou7 : Outs S7.P M lo hi N := hou4.keep hts4.d.len hts7.d.len (Nat.le_refl _) hP7
                  have hxl2 := hts7.d.xlt
                  have htl2 := hts7.tp.lt
                  obtain ⟨vals, ho, hbv, hrr⟩ := hwn7
                  have F1 : Hid _ := f1
                  have HT7 : Hid _ := hts7
                  clear hts4 hwn4 hm4 hou4 hb4 f4 f1 e4 e1 hst7 hts7 hP7 hsize hN hhi
                  have hLx : (12 : Int) + (x.length : Int) ≤ (L : Int) := by omega
                  go_wp2_with (at_builtin; refine wpList_plain rfl (fun K hK => wp_push1 (.tmp 143) (.tmp 145) 33 22 (.slice none 0 0) 24 rfl Try.underlying33 info22 rfl (by decide) w7 _ rs.length vals ho _ rfl (by omega) rfl rfl (fun g1 cap w9 hpu => hK _ _ ?_)))
                  go_roundw
                  case rel =>
                    have hwn9 : WN w w9 X7 t (.slice (some ⟨g1, 0, none⟩) (rs.length + 1) cap) (rs ++ [x]) := WN.push hb7.size hxl2 htl2 ho hbv hrr F1.out hpu.out
                    have hts9 := TS.on HT7.out hpu.out.step (fun k hk h => (hbv k h).2.1 hk) (fun h => (hbv t h).2.2 rfl)
                    have hb9 : Below w.heap.size w w9 := hb7.trans (hpu.out.step.below (fun k h => (hbv k h).1) hb7.size)
                    have hgv : ∀ k, u14.ownBlock = some k → k ≠ g := fun k hk => by obtain ⟨c, hc⟩ := own_ne ho hk; exact ne_type hc hm7.blk (by decide)
                    have hm9 : Mk w9 X7 g M := hm7.on hpu.out.step (fun h => hgv g h rfl) .inl
                    exact ⟨j + 1, L - (12 + x.length), X7, S7, rs ++ [x], by omega, by go_num, by go_num, by rw [tot_snoc]; omega, by rw [List.length_append]; simp; omega, hts9, by rw [tot_snoc, List.length_append]; simp; omega, by rw [hW7]; decide, hb9, hX7', hwn9, hm9, hou7⟩
                  case measure => simp [RowKit.intOf]; omega
                · have N17 := append_full wr t q lo hi (tot rs) rs.length hts4.tp (by omega) (by omega) (by omega) x ua uc (by omega) (by omega)
                  go_wp2_with fail
                  refine N17.mono ?_
                  rintro e w7 ⟨rfl, hb7⟩
                  have hts7 := hts4.on (Step.of_below (X := fun _ => False) hb7) (fun _ _ h => h) (fun h => h)
                  have hb7w : Below w.heap.size w w7 := hb4.trans (hb7.mono hb4.size)
                  have hwn7 : WN w w7 X4 t u14 rs := hwn4.on (Step.of_below (X := fun _ => False) hb7) (fun _ _ h => h) (fun _ h => .inl h)
                  have hm7 : Mk w7 X4 g M := hm4.on (Step.of_below (X := fun _ => False) hb7) (fun h => h) .inl
                  have N30 := ops_any w7 X4 q N S4 hts7.d
                  have hLx : ¬ (12 : Int) + (x.length : Int) ≤ (L : Int) := by omega
                  clear hts4 hwn4 hm4 hb4 f4 f1 e4 e1 hb7 N17 hsize hN hhi
                  go_wp2_with fail
                  refine N30.mono ?_
                  rintro e w4 ⟨rfl, hw4⟩
                  have hw4 := hw4.symm
                  subst hw4
                  go_wp2_with fail
                  go_roundw
                  case rel => exact ⟨j + 1, L, X4, S4, rs, by omega, by go_num, rfl, hL, by omega, hts7, by omega, by omega, hb7w, hX4, hwn7, hm7, hou4⟩
                  case measure => simp [RowKit.intOf]; omega
            · have hsize : (hi - lo) * 256 = 256 * n := by rw [hhi]; omega
              have N30 := ops_any wr X4 q N S4 hts4.d
              go_wp2_with fail
              refine N30.mono ?_
              rintro e w4 ⟨rfl, hw4⟩
              have hw4 := hw4.symm
              subst hw4
              clear N30
              go_wp2_with fail
              go_loopw [20] (fun i wr => ∃ (k : Nat), k ≤ 2 ∧ i = .int .i64 k ∧ TS wr X4 t q N S4 lo hi rs ∧ Below w.heap.size w wr ∧ WN w wr X4 t u14 rs ∧ Mk wr X4 g M) (fun i _ => 2 - (RowKit.intOf i).toNat)
              case atStart => exact ⟨0, by omega, rfl, hts4, hb4, hwn4, hm4⟩
              case round =>
                clear hts4 hb4 hwn4 hm4
                obtain ⟨k, hk, rfl, hts4, hb4, hwn4, hm4⟩ := hrel
                by_cases hkl : k < 2
                · have c9 : (k : Int) < 2 := by omega
                  have N12 := open_ts wr X4 q N S4 lo hi rs hts4.d hts4.la hts4.ar hts4.dn hts4.wl (by omega) (by omega) (by omega)
                  rw [show (hi : Int) = (lo : Int) + (n : Int) by omega] at N12
                  go_wp2_with fail
                  refine N12.mono ?_
                  rintro e w6 ⟨hb6, v6, t6, rfl, ht6, hrec6, _⟩
                  have hb06 : Below w.heap.size w w6 := hb4.trans (hb6.mono hb4.size)
                  have hwn6 : WN w w6 X4 t u14 rs := hwn4.on (Step.of_below (X := fun _ => False) hb6) (fun _ _ h => h) (fun _ h => .inl h)
                  have hts6 := hts4.on (Step.of_below (X := fun _ => False) hb6) (fun _ _ h => h) (fun h => h)
                  have hm6 : Mk w6 X4 g M := hm4.on (Step.of_below (X := fun _ => False) hb6) (fun h => h) .inl
                  have N14 := alike_any w6 v6 u14 rs rs hrec6.rdl (hwn6.rdl hb06) (by omega) (by omega)
                  rw [decide_eq_true (rfl : rs = rs)] at N14
                  obtain ⟨va6, vc6, rfl⟩ := hrec6.shape
                  clear hts4 hb4 hwn4 hm4 hrec6 hb6 N12
                  go_wp2_with fail
                  refine N14.mono ?_
                  rintro e w8 ⟨rfl, kq, hw8⟩
                  have hb68 : Below w6.heap.size w6 w8 := by rw [hw8]; exact ⟨rfl, rfl, rfl, Nat.le_refl _, fun _ _ => rfl⟩
                  have hb08 : Below w.heap.size w w8 := hb06.trans (hb68.mono hb06.size)
                  have hwn8 : WN w w8 X4 t u14 rs := hwn6.on (Step.of_below (X := fun _ => False) hb68) (fun _ _ h => h) (fun _ h => .inl h)
                  have hts8 := hts6.on (Step.of_below (X := fun _ => False) hb68) (fun _ _ h => h) (fun h => h)
                  have hm8 : Mk w8 X4 g M := hm6.on (Step.of_below (X := fun _ => False) hb68) (fun h => h) .inl
                  have N30 := ops_any w8 X4 q N S4 hts8.d
                  clear hw8 hb68 hb06 hwn6 hts6 hm6 N14
                  go_wp2_with fail
                  refine N30.mono ?_
                  rintro e w4 ⟨rfl, hw4⟩
                  have hw4 := hw4.symm
                  subst hw4
                  go_wp2_with fail
                  go_roundw
                  case rel => exact ⟨k + 1, by omega, by go_num, hts8, hb08, hwn8, hm8⟩
                  case measure => simp [RowKit.intOf]; omega
                · have c9 : ¬ (k : Int) < 2 := by omega
                  go_wp2_with fail
                  go_loopw [24] (fun i wr => ∃ (k : Nat), k ≤ N ∧ i = .int .i64 k ∧ Drum wr X4 q N S4 ∧ Below w.heap.size w wr ∧ Mk wr X4 g M) (fun i _ => N - (RowKit.intOf i).toNat)
                  case atStart => exact ⟨0, by omega, rfl, hts4.d, hb4, hm4⟩
                  case round =>
                    have hdn4 := hts4.dn
                    clear hts4 hb4 hwn4 hm4
                    obtain ⟨k, hk, rfl, hd4, hb4, hm4⟩ := hrel
                    by_cases hkl : k < N
                    · have c9 : (k : Int) < (lo : Int) + (n : Int) + 3 := by omega
                      have N31 := read0 wr X4 q N S4 k hkl hdn4 hd4
                      go_wp2_with fail
                      refine N31.mono ?_
                      rintro e w6 ⟨rfl, hpg⟩
                      have hb6 := hpg.below
                      have hb06 : Below w.heap.size w w6 := hb4.trans (hb6.mono hb4.size)
                      have hd6 := hd4.below hb6
                      have hm6 : Mk w6 X4 g M := hm4.on (Step.of_below (X := fun _ => False) hb6) (fun h => h) .inl
                      have q1 := hm6.conv
                      have q2 := conv37 (c := 256) (pageOf_length _ N k hd4.len hkl) (range_of_block hpg.block)
                      have hou := hou4 k hkl
                      clear hpg hb6 hb4 hd4 hm4 N31
                      by_cases ha : k < lo
                      · have a1 : (k : Int) < (lo : Int) := by omega
                        rw [hou (.inl ha)] at q2
                        generalize (⟨M.toArray⟩ : ByteArray) = MM at *
                        have hq : (MM.toList == MM.toList) = true := by simp
                        go_wp2_with fail
                        go_roundw
                        case rel => exact ⟨k + 1, by omega, by go_num, hd6, hb06, hm6⟩
                        case measure => simp [RowKit.intOf]; omega
                      · have a1 : ¬ (k : Int) < (lo : Int) := by omega
                        by_cases hb : hi ≤ k
                        · have a2 : (lo : Int) + (n : Int) ≤ (k : Int) := by omega
                          rw [hou (.inr hb)] at q2
                          generalize (⟨M.toArray⟩ : ByteArray) = MM at *
                          have hq : (MM.toList == MM.toList) = true := by simp
                          go_wp2_with fail
                          go_roundw
                          case rel => exact ⟨k + 1, by omega, by go_num, hd6, hb06, hm6⟩
                          case measure => simp [RowKit.intOf]; omega
                        · have a2 : ¬ (lo : Int) + (n : Int) ≤ (k : Int) := by omega
                          go_wp2_with fail
                          go_roundw
                          case rel => exact ⟨k + 1, by omega, by go_num, hd6, hb06, hm6⟩
                          case measure => simp [RowKit.intOf]; omega
                    · have c9 : ¬ (k : Int) < (lo : Int) + (n : Int) + 3 := by omega
                      go_wp2_with fail
                      go_ret
                      exact ⟨rfl, hb4⟩
end Go.Proofs.Ytpbpcefcnkfbpaa
