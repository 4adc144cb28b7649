/- TapeLoses walked. -/
import Derived.Test.YtpbpcefcnkfbpaaLp
import Derived.Test.YtpbpcefcnkfbpaaTe
import Derived.BigQuiet
namespace Go.Proofs.Ytpbpcefcnkfbpaa
open Go.RowKit Go.Lib Go.Shelf
set_option maxRecDepth 100000

set_option maxHeartbeats 8000000 in
theorem loses_any (w : World) (x : UInt8) (a1 : Option Addr) (n1 c1 : Nat) (r1 : List (List UInt8)) (h1 : RdL w (.slice a1 n1 c1) r1) (hlen : ∀ r ∈ r1, r.length ≤ 140737488355328) (v2 : Value) (n2 : Nat) (h2 : RdW w v2 n2) :
    Calls Try.prog 4 #[.int .u8 (x.toNat : Int), .slice a1 n1 c1, v2] w fun e w' => e = .returned (.bool true) ∧ Below w.heap.size w w' := by
  obtain ⟨a1', c1', he, hr1⟩ := h1
  cases he
  obtain ⟨n1, hn1⟩ : ∃ n, n = r1.length := ⟨_, rfl⟩
  rw [← hn1]
  have N1H : Hid (n1 = r1.length) := hn1
  clear hn1
  obtain ⟨a2, c2, rfl, hr2⟩ := h2
  have HR1 : Hid _ := hr1
  have HL : Hid _ := hlen
  have HR2 : Hid _ := hr2
  clear hr1 hlen hr2
  have hmix : Try.prog.follows .mixedOrders = true := by kernel_rfl
  have hnot : ∀ (b : Bool) (w : World), (Op.unary .not (.bool b)).run Try.prog w = .ok (.bool (!b)) w := fun _ _ => rfl
  go_enter Try.func4, Try.ntmps4
  go_wp2_with fail
  refine (wakes_any w).mono ?_
  rintro e w0 ⟨rfl, hb0⟩
  go_wp2_with fail
  go_loopw [25, 7] (fun i v7 wr => ∃ (j : Nat), j ≤ n1 ∧ i = .int .i64 j ∧ v7 = .int .i64 (tot (r1.take j) : Nat) ∧ tot (r1.take j) ≤ 10240 ∧ Below w.heap.size w wr) (fun i _ _ => n1 - (RowKit.intOf i).toNat)
  case atStart => exact ⟨0, by omega, rfl, rfl, by simp [tot], hb0⟩
  case round =>
    clear hb0
    obtain ⟨j, hj, rfl, rfl, htj, hb0⟩ := hrel
    have hj9 : j ≤ 10240 := by
      have := len_le_tot (r1.take j)
      rw [List.length_take, ← N1H.out] at this
      omega
    by_cases hlt : j < n1
    · obtain ⟨x, hx⟩ : ∃ x, r1[j]? = some x := ⟨_, List.getElem?_eq_getElem (by rw [← N1H.out]; exact hlt)⟩
      obtain ⟨b, o, u, hae, e1, f1⟩ := HR1.out j x hx
      cases hae
      have e4 : wr.cell? ⟨b, o + j, none⟩ = some u := (hb0.cell (p := ⟨b, o + j, none⟩) (World.block_lt_of_cell? w _ e1)).trans e1
      obtain ⟨ua, uc, rfl⟩ := f1.len
      have hxl := HL.out x (List.mem_iff_getElem?.2 ⟨j, hx⟩)
      have hsu := tot_take_succ r1 j x hx
      by_cases hbig : 10240 < tot (r1.take (j + 1))
      · have hbig' : (10240 : Int) < (tot (r1.take j) : Int) + ((x.length : Int) + 12) := by omega
        clear hsu hbig
        generalize tot (r1.take j) = T at *
        go_wp2_with fail
        go_ret
        exact ⟨rfl, hb0⟩
      · have hbig' : ¬ (10240 : Int) < (tot (r1.take j) : Int) + ((x.length : Int) + 12) := by omega
        have HS : Hid _ := hsu
        clear hsu
        have hT : ∀ T : Int, T = (tot (r1.take j) : Int) + ((x.length : Int) + 12) → T = (tot (r1.take (j + 1)) : Nat) := fun T hT => by have := HS.out; omega
        have HT : Hid _ := hT
        have hB : tot (r1.take (j + 1)) ≤ 10240 := by omega
        have HB : Hid (tot (r1.take (j + 1)) ≤ 10240) := hB
        clear hT hbig hB
        generalize tot (r1.take j) = T at *
        go_wp2_with fail
        go_roundw
        case rel => exact ⟨j + 1, by omega, by go_num, by rw [← HT.out _ rfl], by have := HB.out; omega, hb0⟩
        case measure => simp [RowKit.intOf]; omega
    · have hjn : r1.take j = r1 := List.take_of_length_le (by rw [← N1H.out]; omega)
      rw [hjn] at htj ⊢
      have HT : Hid (tot r1 ≤ 10240) := htj
      generalize tot r1 = T0 at htj ⊢
      clear hjn
      by_cases k1 : (60 : Int) < (n1 : Int)
      · go_wp2_with fail
        go_ret
        exact ⟨rfl, hb0⟩
      by_cases k2 : (60 : Int) < (n2 : Int)
      · go_wp2_with fail
        go_ret
        exact ⟨rfl, hb0⟩
      have hn1 : n1 ≤ 60 := by omega
      have hn2 : n2 ≤ 60 := by omega
      have N26 := new_ts wr 60 (by decide) (by decide)
      go_wp2_with fail
      refine N26.mono ?_
      rintro e w1 ⟨X0, q, S0, rfl, hdr0, hP0, hW0, hops0, har0, hdn0, hb1, hX0⟩
      have hz0 : S0.P[0]? = some 0 := by rw [hP0, List.getElem?_replicate, if_pos (by decide)]
      clear hP0 N26
      have hb01 : Below w.heap.size w w1 := hb0.trans (hb1.mono hb0.size)
      have hX0' : ∀ j, X0 j → w.heap.size ≤ j := fun j hj => Nat.le_trans hb0.size (hX0 j hj)
      have hmk := make256 w1
      have hbm : Below w1.heap.size w1 (w1.alloc (.cells (byteCells (List.replicate 256 0)).toArray 5)) := (Below.refl _ _).alloc (Nat.le_refl _) _
      have hM0 : Mk (w1.alloc (.cells (byteCells (List.replicate 256 0)).toArray 5)) X0 w1.heap.size (List.replicate 256 0) := ⟨heap_alloc_new w1 _, List.length_replicate, fun h => by have := hdr0.xlt _ h; omega⟩
      have hdr1 := hdr0.below hbm
      have hb02 := hb01.trans (hbm.mono hb01.size)
      have hgw := hb01.size
      have HD1 : Hid _ := hdr1
      have HM0 : Hid _ := hM0
      have HB2 : Hid _ := hb02
      clear hdr1 hM0 hb02 hbm hdr0 hb01 hb1 hb0
      generalize w1.heap.size = g at *
      generalize List.replicate 256 (0 : UInt8) = Z at *
      generalize hW1 : w1.alloc (.cells (byteCells Z).toArray 5) = w2 at *
      clear hW1
      go_wp2_with fail
      go_loopw [49] (fun i wr => ∃ (k : Nat) (M : List UInt8), k ≤ 256 ∧ i = .int .i64 k ∧ Drum wr X0 q 60 S0 ∧ Mk wr X0 g M ∧ Below w.heap.size w wr) (fun i _ => 256 - (RowKit.intOf i).toNat)
      case atStart => exact ⟨0, Z, by omega, rfl, HD1.out, HM0.out, HB2.out⟩
      case round =>
        clear HD1 HM0 HB2
        obtain ⟨k, M, hk, rfl, hd, hm, hb⟩ := hrel
        by_cases hkl : k < 256
        · have hcl : ∃ u, wr.cell? ⟨g, k, none⟩ = some u := ⟨_, by rw [cell_of_row _ _ _ _ _ _ hm.blk]; simp [byteCells, hm.len, hkl]; rfl⟩
          obtain ⟨u, hc⟩ := hcl
          have hz := frozen_of_row wr g k _ _ hm.blk
          have HN : Hid (∀ z : Int, 0 ≤ z → z < 256 → Drum (wr.setCell ⟨g, k, none⟩ (.int .u8 z)) X0 q 60 S0 ∧ Mk (wr.setCell ⟨g, k, none⟩ (.int .u8 z)) X0 g (M.set k (UInt8.ofNat z.toNat)) ∧ Below w.heap.size w (wr.setCell ⟨g, k, none⟩ (.int .u8 z))) := fun z h1 h2 =>
            ⟨hd.on (step_at wr g k _) (fun j hj e => hm.nx (e ▸ hj)), hm.set k z h1 h2, hb.setCell hgw _⟩
          obtain ⟨zz, hzz⟩ : ∃ zz, IntKind.u8.wrap ((x.toNat : Int) + (k : Int)) = zz := ⟨_, rfl⟩
          have hzz1 : 0 ≤ zz ∧ zz < 256 := by rw [← hzz, IntKind.wrap_u8]; omega
          clear hd hm hb
          go_wp2
          go_roundw
          case rel => exact ⟨k + 1, _, by omega, by go_num, HN.out _ hzz1.1 hzz1.2⟩
          case measure => simp [RowKit.intOf]; omega
        · clear hmk
          go_wp2_with fail
          go_loopw [13] (fun i wr => ∃ (j : Nat) (X : Nat → Prop) (S : DS), 1 ≤ j ∧ j ≤ 60 ∧ i = .int .i64 j ∧ Drum wr X q 60 S ∧ S.armed = 0 ∧ S.down = false ∧ S.W.length ≤ j ∧ S.ops ≤ j ∧ S.P[0]? = some 0 ∧ Mk wr X g M ∧ Below w.heap.size w wr ∧ (∀ j, X j → w.heap.size ≤ j)) (fun i _ => 60 - (RowKit.intOf i).toNat)
          case atStart => exact ⟨1, X0, S0, by omega, by omega, rfl, hd, har0, hdn0, by rw [hW0]; decide, by omega, hz0, hm, hb, hX0'⟩
          case round =>
            clear hd hm hb hz0 hW0 hops0 har0 hdn0 hX0 hX0'
            obtain ⟨j, X, S, hj1, hj, rfl, hd, har, hdn, hwl, hops, hz0, hm, hb, hX⟩ := hrel
            by_cases hjl : j < 60
            · have c1 : (j : Int) < 60 := by omega
              have N27 := write_ts wr X q 60 S j _ M hjl har hdn (by omega) (by omega) hd hm.len hm.rd (fun k hk => by cases hk; exact hm.nx)
              go_wp2_with fail
              refine N27.mono ?_
              rintro e w3 ⟨rfl, X3, S3, hd3, hst3, hP3, har3, hdn3, hw3, hops3⟩
              have hz3 : S3.P[0]? = some 0 := by
                rw [hP3, splice_get _ _ _ (by rw [hd.len, hm.len]; omega), if_neg (by rw [hm.len]; omega)]; exact hz0
              have hm3 : Mk w3 X3 g M := hm.on hst3 hm.nx (hst3.grow g)
              have hb3 : Below w.heap.size w w3 := hb.trans (hst3.below hX hb.size)
              have hX3 := hst3.above hX hb.size
              clear N27 hd hst3 hm hb
              go_wp2_with fail
              go_roundw
              case rel => exact ⟨j + 1, X3, S3, by omega, by omega, by go_num, hd3, har3, hdn3, by omega, by omega, hz3, hm3, hb3, hX3⟩
              case measure => simp [RowKit.intOf]; omega
            · have c1 : ¬ (j : Int) < 60 := by omega
              have N28 := flush_ts wr X q 60 S har hdn (by omega) (by omega) hd
              go_wp2_with fail
              refine N28.mono ?_
              rintro e w3 ⟨rfl, S3, hd3, hst3, hP3, har3, hdn3, hw3, hops3⟩
              have hb3 : Below w.heap.size w w3 := hb.trans (hst3.below hX hb.size)
              have hla3 : Laid S3.P 0 ((60 - 0) * 256) [] := zeros_laid S3.P 60 0 60 hd3.len (by decide) (by decide) (by rw [hP3]; exact hz0)
              have N12 := open_ta w3 X q 60 S3 0 60 [] hd3 hla3 hdn3 hw3 (by decide) (by decide) (by decide)
              clear N28 hd hst3 hm hb hP3 hz0
              go_wp2_with fail
              refine N12.mono ?_
              rintro e w4 ⟨hb4', v4, t4, rfl, ht4, hrec4, hta4⟩
              obtain ⟨va, vc, rfl⟩ := hrec4.shape
              have hb4 : Below w.heap.size w w4 := hb3.trans (hb4'.mono hb3.size)
              have ht4w : w.heap.size ≤ t4 := Nat.le_trans hb3.size ht4
              clear N12 hrec4 hb4' hb3 hd3 hla3 ht4
              go_wp2_with fail
              go_loopw [87, 14, 17, 18] (fun i v14 v17 v18 wr => ∃ (j nx t : Nat) (X : Nat → Prop) (S : DS) (rs : List (List UInt8)), j ≤ n1 ∧ i = .int .i64 j ∧ v14 = .pointer (some ⟨t, 0, none⟩) ∧ v18 = .int .i64 nx ∧ nx ≤ j ∧ (n2 ≤ nx → S.armed = 0) ∧ TA wr X t q 60 S 0 60 rs ∧ w.heap.size ≤ t ∧ SL w wr X t v17 rs ∧ rs.length ≤ j ∧ tot rs ≤ tot (r1.take j) ∧ S.ops ≤ 100 + tot (r1.take j) + 300 * j ∧ Below w.heap.size w wr ∧ (∀ j, X j → w.heap.size ≤ j)) (fun i _ _ _ _ => n1 - (RowKit.intOf i).toNat)
              case atStart => exact ⟨0, 0, t4, X, S3, [], by omega, rfl, rfl, rfl, by omega, fun _ => har3, hta4, ht4w, SL.nil _ _ _ _, by simp, by simp [tot], by omega, hb4, hX⟩
              case round =>
                clear hta4 hb4 hX ht4w har3 hdn3 hw3 hops3 hwl hops har hdn
                obtain ⟨j, nx, t, X, S, rs, hj, rfl, rfl, rfl, hnx, harm, hta, htw, hsl, hrsl, htot, hops, hb, hX⟩ := hrel
                by_cases hlt : j < n1
                · obtain ⟨y, hy⟩ : ∃ y, r1[j]? = some y := ⟨_, List.getElem?_eq_getElem (by rw [← N1H.out]; exact hlt)⟩
                  obtain ⟨b, o, u, hae, e1, f1⟩ := HR1.out j y hy
                  cases hae
                  have e4 : wr.cell? ⟨b, o + j, none⟩ = some u := (hb.cell (p := ⟨b, o + j, none⟩) (World.block_lt_of_cell? w _ e1)).trans e1
                  obtain ⟨ua, uc, rfl⟩ := f1.len
                  have hsu := tot_take_succ r1 j y hy
                  have hle := tot_take_le r1 (j + 1)
                  have hT10 := HT.out
                  obtain ⟨su, sc, rfl⟩ := hsl.shape
                  by_cases hnc : nx < n2
                  · have c1 : (nx : Int) < (n2 : Int) := by omega
                    obtain ⟨b2, o2, zx, zy, hae2, g1, g2, g3, g4⟩ := HR2.out nx hnc
                    cases hae2
                    have N19 := arm_any wr.drew X q 60 S zx zy g3.1 g3.2 g4.1 g4.2 hta.d.drew
                    have l1 : wr.drew.cell? ⟨b2, o2 + nx * 2, none⟩ = some (.int .i64 zx) := (hb.cell (p := ⟨b2, o2 + nx * 2, none⟩) (World.block_lt_of_cell? w _ g1)).trans g1
                    have l2 : wr.drew.cell? ⟨b2, o2 + nx * 2 + 1, none⟩ = some (.int .i64 zy) := (hb.cell (p := ⟨b2, o2 + nx * 2 + 1, none⟩) (World.block_lt_of_cell? w _ g2)).trans g2
                    have HB0 : Hid (∀ w5, Step X X wr.drew w5 → w5.cell? ⟨b2, o2 + nx * 2, none⟩ = some (.int .i64 zx) ∧ w5.cell? ⟨b2, o2 + nx * 2 + 1, none⟩ = some (.int .i64 zy)) := fun w5 hst => by
                      have hbw : Below w.heap.size w wr.drew := hb.trans ⟨rfl, rfl, rfl, Nat.le_refl _, fun _ _ => rfl⟩
                      have hb5 : Below w.heap.size w w5 := hbw.trans (hst.below hX hb.size)
                      exact ⟨(hb5.cell (p := ⟨b2, o2 + nx * 2, none⟩) (World.block_lt_of_cell? w _ g1)).trans g1, (hb5.cell (p := ⟨b2, o2 + nx * 2 + 1, none⟩) (World.block_lt_of_cell? w _ g2)).trans g2⟩
                    go_upto_region 36 with fail
                    have hS : wr.drew.cell? ⟨b2, o2 + nx * 2, none⟩ = some (.int .i64 zx) ∧ wr.drew.cell? ⟨b2, o2 + nx * 2 + 1, none⟩ = some (.int .i64 zy) := ⟨l1, l2⟩
                    clear l1 l2
                    refine wp_region_held (S := fun W' => W'.cell? ⟨b2, o2 + nx * 2, none⟩ = some (.int .i64 zx) ∧ W'.cell? ⟨b2, o2 + nx * 2 + 1, none⟩ = some (.int .i64 zy)) hmix ?_
                    show wpAnyH _ _ _ _ _ _ _ _ wr.drew
                    refine wpAnyH_take (i := 0) (v := .pointer (some ⟨q, 0, none⟩)) rfl (by kernel_rfl) (by kernel_rfl) (by kernel_rfl) (fun _ _ _ h => h) (.inl ⟨by rfl, fun W' hW' => ?_⟩) hS ?_
                    · obtain ⟨l1, l2⟩ := hW'
                      go_simp
                    simp only [Act.put, List.getElem_toArray, List.getElem_cons_zero, List.setIfInBounds_toArray, List.set_cons_succ, List.set_cons_zero]
                    refine wpAnyH_take (i := 1) (v := .slice (some ⟨b2, o2, none⟩) n2 c2) rfl (by kernel_rfl) (by kernel_rfl) (by kernel_rfl) (fun _ _ _ h => h) (.inl ⟨by rfl, fun W' hW' => ?_⟩) hS ?_
                    · obtain ⟨l1, l2⟩ := hW'
                      go_simp
                    simp only [Act.put, List.getElem_toArray, List.getElem_cons_succ, List.getElem_cons_zero, List.setIfInBounds_toArray, List.set_cons_succ, List.set_cons_zero]
                    refine wpAnyH_take (i := 2) (v := .int .i64 (nx : Int)) rfl (by kernel_rfl) (by kernel_rfl) (by kernel_rfl) (fun _ _ _ h => h) (.inl ⟨by rfl, fun W' hW' => ?_⟩) hS ?_
                    · obtain ⟨l1, l2⟩ := hW'
                      go_simp
                    simp only [Act.put, List.getElem_toArray, List.getElem_cons_succ, List.getElem_cons_zero, List.setIfInBounds_toArray, List.set_cons_succ, List.set_cons_zero]
                    refine wpAnyH_take (i := 3) (v := .pointer (some ⟨b2, o2 + nx * 2, none⟩)) rfl (by kernel_rfl) (by kernel_rfl) (by kernel_rfl) (fun _ _ _ h => h) (.inl ⟨by rfl, fun W' hW' => ?_⟩) hS ?_
                    · obtain ⟨l1, l2⟩ := hW'
                      go_simp
                    simp only [Act.put, List.getElem_toArray, List.getElem_cons_succ, List.getElem_cons_zero, List.setIfInBounds_toArray, List.set_cons_succ, List.set_cons_zero]
                    refine wpAnyH_take (i := 4) (v := .pointer (some ⟨b2, o2 + nx * 2, none⟩)) rfl (by kernel_rfl) (by kernel_rfl) (by kernel_rfl) (fun _ _ _ h => h) (.inl ⟨by rfl, fun W' hW' => ?_⟩) hS ?_
                    · obtain ⟨l1, l2⟩ := hW'
                      go_simp
                    simp only [Act.put, List.getElem_toArray, List.getElem_cons_succ, List.getElem_cons_zero, List.setIfInBounds_toArray, List.set_cons_succ, List.set_cons_zero]
                    refine wpAnyH_take (i := 5) (v := .int .i64 zx) rfl (by kernel_rfl) (by kernel_rfl) (by kernel_rfl) (fun _ _ _ h => h) (.inl ⟨by rfl, fun W' hW' => ?_⟩) hS ?_
                    · obtain ⟨l1, l2⟩ := hW'
                      go_simp
                    simp only [Act.put, List.getElem_toArray, List.getElem_cons_succ, List.getElem_cons_zero, List.setIfInBounds_toArray, List.set_cons_succ, List.set_cons_zero]
                    refine wpAnyH_take (i := 6) (v := .slice (some ⟨b2, o2, none⟩) n2 c2) rfl (by kernel_rfl) (by kernel_rfl) (by kernel_rfl) (fun _ _ _ h => h) (.inl ⟨by rfl, fun W' hW' => ?_⟩) hS ?_
                    · obtain ⟨l1, l2⟩ := hW'
                      go_simp
                    simp only [Act.put, List.getElem_toArray, List.getElem_cons_succ, List.getElem_cons_zero, List.setIfInBounds_toArray, List.set_cons_succ, List.set_cons_zero]
                    refine wpAnyH_take (i := 7) (v := .int .i64 (nx : Int)) rfl (by kernel_rfl) (by kernel_rfl) (by kernel_rfl) (fun _ _ _ h => h) (.inl ⟨by rfl, fun W' hW' => ?_⟩) hS ?_
                    · obtain ⟨l1, l2⟩ := hW'
                      go_simp
                    simp only [Act.put, List.getElem_toArray, List.getElem_cons_succ, List.getElem_cons_zero, List.setIfInBounds_toArray, List.set_cons_succ, List.set_cons_zero]
                    refine wpAnyH_take (i := 8) (v := .pointer (some ⟨b2, o2 + nx * 2, none⟩)) rfl (by kernel_rfl) (by kernel_rfl) (by kernel_rfl) (fun _ _ _ h => h) (.inl ⟨by rfl, fun W' hW' => ?_⟩) hS ?_
                    · obtain ⟨l1, l2⟩ := hW'
                      go_simp
                    simp only [Act.put, List.getElem_toArray, List.getElem_cons_succ, List.getElem_cons_zero, List.setIfInBounds_toArray, List.set_cons_succ, List.set_cons_zero]
                    refine wpAnyH_take (i := 9) (v := .pointer (some ⟨b2, o2 + nx * 2 + 1, none⟩)) rfl (by kernel_rfl) (by kernel_rfl) (by kernel_rfl) (fun _ _ _ h => h) (.inl ⟨by rfl, fun W' hW' => ?_⟩) hS ?_
                    · obtain ⟨l1, l2⟩ := hW'
                      go_simp
                    simp only [Act.put, List.getElem_toArray, List.getElem_cons_succ, List.getElem_cons_zero, List.setIfInBounds_toArray, List.set_cons_succ, List.set_cons_zero]
                    refine wpAnyH_take (i := 10) (v := .int .i64 zy) rfl (by kernel_rfl) (by kernel_rfl) (by kernel_rfl) (fun _ _ _ h => h) (.inl ⟨by rfl, fun W' hW' => ?_⟩) hS ?_
                    · obtain ⟨l1, l2⟩ := hW'
                      go_simp
                    simp only [Act.put, List.getElem_toArray, List.getElem_cons_succ, List.getElem_cons_zero, List.setIfInBounds_toArray, List.set_cons_succ, List.set_cons_zero]
                    refine wpAnyH_one (i := 11) (by kernel_rfl) rfl (by rfl) (fun K hK => ?_)
                    go_simp
                    refine N19.mono ?_
                    rintro e w5 ⟨rfl, hd5, hst5⟩
                    show K _ _
                    refine hK _ _ (HB0.out _ hst5) ?_
                    clear hK K N19
                    have hst5' : Step X X wr w5 := ((Step.refl X wr).drew).trans hst5
                    have hb5 : Below w.heap.size w w5 := hb.trans (hst5'.below hX hb.size)
                    have hta5 : TA w5 X t q 60 { S with armed := zx.toNat, keep := zy } 0 60 rs := ⟨hd5, hta.tp.on (hst5'.block t hta.tp.lt hta.nx), hta.nx, hta.la, hta.dn, hta.wz⟩
                    have hsl5 := hsl.on hst5' (fun k h => .inl h) (fun k h => .inl h)
                    have harm5 : n2 ≤ nx → ({ S with armed := zx.toNat, keep := zy } : DS).armed = 0 := fun h => by omega
                    have hops5 : ({ S with armed := zx.toNat, keep := zy } : DS).ops ≤ 100 + tot (r1.take j) + 300 * j := hops
                    generalize ({ S with armed := zx.toNat, keep := zy } : DS) = S5 at *
                    clear hta hsl hb hst5 hst5' hd5 HB0 hS harm hops
                    refine wpAnyH_done (by kernel_rfl) ?_ _
                    have f5 : Sl.RdA w5 (.slice ua y.length uc) y := Sl.RdA.on f1 hb5
                    have N17 := append_ta w5 X t q 60 S5 0 60 rs hta5 (by decide) (by decide) (by omega) (by omega) y _ f5 (by omega) (by omega)
                    go_wp2_with fail
                    refine N17.mono ?_
                    rintro e w7 ⟨X7, S7, hd7, hst7, hX7, hnx7, hW7, hops7, _, hcase⟩
                    have hab : ∀ k, (X k ∨ k = t) → w.heap.size ≤ k := fun k hk => by
                      rcases hk with hk | hk
                      · exact hX k hk
                      · rw [hk]; exact htw
                    have hb7 : Below w.heap.size w w7 := hb5.trans (hst7.below hab hb5.size)
                    have hX7' : ∀ k, X7 k → w.heap.size ≤ k := fun k hk => by
                      rcases hX7 k hk with h | h
                      · exact hX k h
                      · exact Nat.le_trans hb5.size h
                    have hsl7 := hsl5.on hst7 (fun k h => h) hX7
                    have hops7' : S7.ops ≤ 100 + tot (r1.take (j + 1)) + 300 * (j + 1) := by omega
                    have htot7 : tot rs + (12 + y.length) ≤ tot (r1.take (j + 1)) := by omega
                    have hy9 : y.length ≤ 20000 := by omega
                    clear N17 hst7 hX7 hab hsu hle hT10 hta5 hsl5 hb5 f5 e4 hops7
                    rcases hcase with ⟨rfl, hta7, harm7⟩ | ⟨rfl, harm7, har7, hdn7, htp7, hlaid⟩
                    · have hxl2 := hta7.d.xlt
                      have htl2 := hta7.tp.lt
                      obtain ⟨vals, ho, hbv, hrr⟩ := hsl7
                      have HT7 : Hid _ := hta7
                      have F1 : Hid _ := f1
                      have HA7 : Hid (n2 ≤ nx → S7.armed = 0) := fun h => harm7 (harm5 h)
                      clear hta7 f1 harm7 harm5 hd7 e1
                      go_wp2_with (at_builtin; refine wpList_plain rfl (fun K hK => wp_push1 (.tmp 112) (.tmp 114) 33 22 (.slice none 0 0) 24 rfl Try.underlying33 info22 rfl (by decide) w7 _ rs.length vals ho _ rfl (by omega) rfl rfl (fun g1 cap w9 hpu => hK _ _ ?_)))
                      go_roundw
                      case rel =>
                        have hsl9 : SL w w9 X7 t (.slice (some ⟨g1, 0, none⟩) (rs.length + 1) cap) (rs ++ [y]) := SL.push hb7.size hxl2 htl2 ho hbv hrr F1.out hpu.out
                        have hta9 := TA.on HT7.out hpu.out.step (fun k hk h => (hbv k h).2.1 hk) (fun h => (hbv t h).2.2 rfl)
                        have hb9 : Below w.heap.size w w9 := hb7.trans (hpu.out.step.below (fun k h => (hbv k h).1) hb7.size)
                        exact ⟨j + 1, nx, t, X7, S7, rs ++ [y], by omega, by go_num, rfl, rfl, by omega, HA7.out, hta9, htw, hsl9, by rw [List.length_append]; simp; omega, by rw [tot_snoc]; exact htot7, hops7', hb9, hX7'⟩
                      case measure => simp [RowKit.intOf]; omega
                    · have N29 := down_any w7 X7 q 60 S7 hd7
                      rw [hdn7] at N29
                      have N17 := append_met w7 t q 0 60 (tot rs) rs.length 20 htp7 (by decide) y ua uc (by omega)
                      rw [show ((20 : Nat) : Int) = 20 from rfl] at N17
                      go_wp2_with (first | (go_at_call 29; refine N29.mono ?_; rintro e w' ⟨rfl, he⟩; have he := he.symm; subst he) | (go_at_call 17; refine N17.mono ?_; rintro e w8 ⟨rfl, hb8'⟩))
                      have hb8 : Below w.heap.size w w8 := hb7.trans (hb8'.mono hb7.size)
                      have hd8 := hd7.below hb8'
                      have hsl8 := hsl7.on (Step.of_below (X := fun _ => False) hb8') (fun _ h => h.elim) (fun _ h => .inl h)
                      have htl8 : t < w8.heap.size := Nat.lt_of_lt_of_le htp7.lt hb8'.size
                      have N21 := off_down w8 X7 q 60 S7 0 (by decide) (by decide) hdn7 hW7 hd8
                      clear N29 N17 hb8' hd7 hsl7 hb7
                      refine N21.mono ?_
                      rintro e w9 ⟨rfl, hd9, hst9⟩
                      have hb9 : Below w.heap.size w w9 := hb8.trans (hst9.below hX7' hb8.size)
                      have hsl9 := hsl8.on hst9 (fun _ h => .inl h) (fun _ h => .inl h)
                      have N16 := on_any w9 X7 q 60 S7 hd9
                      clear N21 hd8 hsl8 hb8 hst9
                      go_wp2_with fail
                      refine N16.mono ?_
                      rintro e w10 ⟨rfl, hd10, hst10⟩
                      have hb10 : Below w.heap.size w w10 := hb9.trans (hst10.below hX7' hb9.size)
                      have hsl10 := hsl9.on hst10 (fun _ h => .inl h) (fun _ h => .inl h)
                      obtain ⟨S10, hS10⟩ : ∃ S10, S10 = { S7 with down := false } := ⟨_, rfl⟩
                      rw [← hS10] at hd10
                      have q1 : S10.P = S7.P := by rw [hS10]
                      have q2 : S10.W = [] := by rw [hS10]; exact hW7
                      have q3 : S10.down = false := by rw [hS10]
                      have q4 : S10.ops = S7.ops := by rw [hS10]
                      clear hS10 N16 hd9 hsl9 hb9 hst10
                      obtain ⟨rs', hla', hrs'⟩ : ∃ rs', Laid S10.P 0 ((60 - 0) * 256) rs' ∧ (rs' = rs ∨ rs' = rs ++ [y]) := by
                        rw [q1]
                        rcases hlaid with h | h
                        · exact ⟨rs, h, .inl rfl⟩
                        · exact ⟨rs ++ [y], h, .inr rfl⟩
                      have hrl : rs.length ≤ rs'.length ∧ rs'.length ≤ rs.length + 1 ∧ rs'.take rs.length = rs ∧ tot rs' ≤ tot (r1.take (j + 1)) := by
                        rcases hrs' with rfl | rfl
                        · refine ⟨by omega, by omega, by simp, by omega⟩
                        · refine ⟨by simp, by simp, by simp, by rw [tot_snoc]; exact htot7⟩
                      obtain ⟨m1, m2, m3, m4⟩ := hrl
                      have N12 := open_ta w10 X7 q 60 S10 0 60 rs' hd10 hla' q3 q2 (by decide) (by decide) (by omega)
                      go_wp2_with fail
                      refine N12.mono ?_
                      rintro e w11 ⟨hb11', v11, t11, rfl, ht11, hrec11, hta11⟩
                      have hb11 : Below w.heap.size w w11 := hb10.trans (hb11'.mono hb10.size)
                      have hsl11 := hsl10.on (Step.of_below (X := fun _ => False) hb11') (fun _ h => h.elim) (fun _ h => .inl h)
                      have hslR : SL w w11 X7 t11 v11 rs' := hrec11.sl hb10.size hd10.xlt hta11.tp
                      have htw11 : w.heap.size ≤ t11 := Nat.le_trans hb10.size ht11
                      have hrdl := hrec11.rdl
                      have hown := hrec11.cap
                      obtain ⟨va11, vc11, rfl⟩ := hrec11.shape
                      have hcap11 : rs'.length ≤ vc11 := hown va11 vc11 rfl
                      have N14 := alike_any w11 (.slice va11 rs.length vc11) (.slice su rs.length sc) rs rs (by have := hrdl.take rs.length m1; rwa [m3] at this) (hsl11.rdl hb11) (by omega) (by omega)
                      rw [decide_eq_true (rfl : rs = rs)] at N14
                      clear N12 hb11' hb10 hsl10 hd10 hrec11 hsl11 hown ht11
                      have c3 : ¬ (rs'.length : Int) < (rs.length : Int) := by omega
                      have c4 : ¬ (rs.length : Int) + 1 < (rs'.length : Int) := by omega
                      have hL1 : rs.length ≤ 100 := by omega
                      have hL2 : rs'.length ≤ 101 := by omega
                      go_wp2_with fail
                      refine N14.mono ?_
                      rintro e w12 ⟨rfl, kq, hw12⟩
                      have hb12' : Below w11.heap.size w11 w12 := by rw [hw12]; exact ⟨rfl, rfl, rfl, Nat.le_refl _, fun _ _ => rfl⟩
                      have hb12 : Below w.heap.size w w12 := hb11.trans (hb12'.mono hb11.size)
                      have hta12 := hta11.on (Step.of_below (X := fun _ => False) hb12') (fun _ _ h => h) (fun h => h)
                      have hsl12 := hslR.on (Step.of_below (X := fun _ => False) hb12') (fun _ h => h.elim) (fun _ h => .inl h)
                      clear hw12 hb12' hb11 hta11 hslR N14 hrdl
                      have hrd12 := hsl12.rdl hb12
                      have f12 : Sl.RdA w12 (.slice ua y.length uc) y := Sl.RdA.on f1 hb12
                      have N19 := fun n => arm_any (w12.drewN n) X7 q 60 S10 0 0 (by decide) (by decide) (by decide) (by decide) (hta12.d.below ⟨rfl, rfl, rfl, Nat.le_refl _, fun _ _ => rfl⟩)
                      have hst12 : ∀ n, Step X7 X7 w12 (w12.drewN n) := fun n => Step.of_below ⟨rfl, rfl, rfl, Nat.le_refl _, fun _ _ => rfl⟩
                      have c5 : ∀ n, (convert 22 9 (.slice ua y.length uc)).run Try.prog (w12.drewN n) = .ok (.string ⟨y.toArray⟩) (w12.drewN n) := fun n => convA (Sl.RdA.on f12 ⟨rfl, rfl, rfl, Nat.le_refl _, fun _ _ => rfl⟩)
                      have HRS : Hid (rs' = rs ∨ rs' = rs ++ [y]) := hrs'
                      clear hrs'
                      by_cases c6 : (rs.length : Int) < (rs'.length : Int)
                      · skip
                        obtain ⟨a12, c12, he12, hel⟩ := hrd12
                        cases he12
                        obtain ⟨bb, oo, uu, hae, hcc, huu⟩ := hel rs.length y (by
                          rcases HRS.out with h | h
                          · rw [h] at c6; omega
                          · rw [h]; simp)
                        cases hae
                        have hcc' : ∀ n, (w12.drewN n).cell? ⟨bb, oo + rs.length, none⟩ = some uu := fun n => hcc
                        have c7 : ∀ n, (convert 22 9 uu).run Try.prog (w12.drewN n) = .ok (.string ⟨y.toArray⟩) (w12.drewN n) := fun n => convA (Sl.RdA.on huu ⟨rfl, rfl, rfl, Nat.le_refl _, fun _ _ => rfl⟩)
                        generalize (⟨y.toArray⟩ : ByteArray) = YY at *
                        have hq : (YY.toList == YY.toList) = true := by simp
                        clear hel hcc huu f12 HRS
                        go_upto_region 48 with fail
                        have hd : decide ((rs.length : Int) < (rs'.length : Int)) = true := decide_eq_true (by omega)
                        go_quiet (fail)
                        go_wp2_with fail
                        refine (N19 _).mono ?_
                        rintro e w13 ⟨rfl, hd13, hst13⟩
                        have hst13' := (hst12 _).trans hst13
                        have hb13 : Below w.heap.size w w13 := hb12.trans (hst13'.below hX7' hb12.size)
                        have hta13 : TA w13 X7 t11 q 60 { S10 with armed := (0 : Int).toNat, keep := 0 } 0 60 rs' := ⟨hd13, hta12.tp.on (hst13'.block t11 hta12.tp.lt hta12.nx), hta12.nx, hta12.la, hta12.dn, hta12.wz⟩
                        have hsl13 := hsl12.on hst13' (fun _ h => .inl h) (fun _ h => .inl h)
                        have hops13 : ({ S10 with armed := (0 : Int).toNat, keep := 0 } : DS).ops ≤ 100 + tot (r1.take (j + 1)) + 300 * (j + 1) := by show S10.ops ≤ _; omega
                        clear N19 hst13 hst12 hd13 hta12 hsl12 hb12
                        go_wp2_with fail
                        go_roundw
                        case rel => exact ⟨j + 1, nx + 1, t11, X7, _, rs', by omega, by go_num, rfl, by go_num, by omega, fun _ => rfl, hta13, htw11, hsl13, by omega, m4, hops13, hb13, hX7'⟩
                        case measure => simp [RowKit.intOf]; omega
                      · skip
                        have ers : rs' = rs := by
                          rcases HRS.out with h | h
                          · exact h
                          · rw [h, List.length_append] at c6; simp at c6; omega
                        clear c5 f12 hrd12 HRS
                        subst ers
                        go_upto_region 48 with fail
                        go_quiet (fail)
                        go_wp2_with fail
                        refine (N19 _).mono ?_
                        rintro e w13 ⟨rfl, hd13, hst13⟩
                        have hst13' := (hst12 _).trans hst13
                        have hb13 : Below w.heap.size w w13 := hb12.trans (hst13'.below hX7' hb12.size)
                        have hta13 : TA w13 X7 t11 q 60 { S10 with armed := (0 : Int).toNat, keep := 0 } 0 60 rs' := ⟨hd13, hta12.tp.on (hst13'.block t11 hta12.tp.lt hta12.nx), hta12.nx, hta12.la, hta12.dn, hta12.wz⟩
                        have hsl13 := hsl12.on hst13' (fun _ h => .inl h) (fun _ h => .inl h)
                        have hops13 : ({ S10 with armed := (0 : Int).toNat, keep := 0 } : DS).ops ≤ 100 + tot (r1.take (j + 1)) + 300 * (j + 1) := by show S10.ops ≤ _; omega
                        clear N19 hst13 hst12 hd13 hta12 hsl12 hb12
                        go_wp2_with fail
                        go_roundw
                        case rel => exact ⟨j + 1, nx + 1, t11, X7, _, rs', by omega, by go_num, rfl, by go_num, by omega, fun _ => rfl, hta13, htw11, hsl13, by omega, m4, hops13, hb13, hX7'⟩
                        case measure => simp [RowKit.intOf]; omega
                  · have c1 : ¬ (nx : Int) < (n2 : Int) := by omega
                    have f5 : Sl.RdA wr (.slice ua y.length uc) y := Sl.RdA.on f1 hb
                    obtain ⟨S5, hS5⟩ : ∃ S5, S5 = S := ⟨_, rfl⟩
                    rw [← hS5] at hta harm hops
                    clear hS5
                    have hta5 := hta
                    have hsl5 := hsl
                    have hb5 := hb
                    have harm5 := harm
                    have hops5 := hops
                    clear hta hsl hb harm hops
                    have N17 := append_ta wr X t q 60 S5 0 60 rs hta5 (by decide) (by decide) (by omega) (by omega) y _ f5 (by omega) (by omega)
                    go_wp2_with fail
                    refine N17.mono ?_
                    rintro e w7 ⟨X7, S7, hd7, hst7, hX7, hnx7, hW7, hops7, _, hcase⟩
                    have hab : ∀ k, (X k ∨ k = t) → w.heap.size ≤ k := fun k hk => by
                      rcases hk with hk | hk
                      · exact hX k hk
                      · rw [hk]; exact htw
                    have hb7 : Below w.heap.size w w7 := hb5.trans (hst7.below hab hb5.size)
                    have hX7' : ∀ k, X7 k → w.heap.size ≤ k := fun k hk => by
                      rcases hX7 k hk with h | h
                      · exact hX k h
                      · exact Nat.le_trans hb5.size h
                    have hsl7 := hsl5.on hst7 (fun k h => h) hX7
                    have hops7' : S7.ops ≤ 100 + tot (r1.take (j + 1)) + 300 * (j + 1) := by omega
                    have htot7 : tot rs + (12 + y.length) ≤ tot (r1.take (j + 1)) := by omega
                    have hy9 : y.length ≤ 20000 := by omega
                    clear N17 hst7 hX7 hab hsu hle hT10 hta5 hsl5 hb5 f5 e4 hops7
                    rcases hcase with ⟨rfl, hta7, harm7⟩ | ⟨rfl, harm7, har7, hdn7, htp7, hlaid⟩
                    · have hxl2 := hta7.d.xlt
                      have htl2 := hta7.tp.lt
                      obtain ⟨vals, ho, hbv, hrr⟩ := hsl7
                      have HT7 : Hid _ := hta7
                      have F1 : Hid _ := f1
                      have HA7 : Hid (n2 ≤ nx → S7.armed = 0) := fun h => harm7 (harm5 h)
                      clear hta7 f1 harm7 harm5 hd7 e1
                      go_wp2_with (at_builtin; refine wpList_plain rfl (fun K hK => wp_push1 (.tmp 112) (.tmp 114) 33 22 (.slice none 0 0) 24 rfl Try.underlying33 info22 rfl (by decide) w7 _ rs.length vals ho _ rfl (by omega) rfl rfl (fun g1 cap w9 hpu => hK _ _ ?_)))
                      go_roundw
                      case rel =>
                        have hsl9 : SL w w9 X7 t (.slice (some ⟨g1, 0, none⟩) (rs.length + 1) cap) (rs ++ [y]) := SL.push hb7.size hxl2 htl2 ho hbv hrr F1.out hpu.out
                        have hta9 := TA.on HT7.out hpu.out.step (fun k hk h => (hbv k h).2.1 hk) (fun h => (hbv t h).2.2 rfl)
                        have hb9 : Below w.heap.size w w9 := hb7.trans (hpu.out.step.below (fun k h => (hbv k h).1) hb7.size)
                        exact ⟨j + 1, nx, t, X7, S7, rs ++ [y], by omega, by go_num, rfl, rfl, by omega, HA7.out, hta9, htw, hsl9, by rw [List.length_append]; simp; omega, by rw [tot_snoc]; exact htot7, hops7', hb9, hX7'⟩
                      case measure => simp [RowKit.intOf]; omega
                    · exact absurd (harm5 (by omega)) harm7
                · have hjn : j = n1 := by omega
                  have N12 := open_ta wr X q 60 S 0 60 rs hta.d hta.la hta.dn hta.wz (by decide) (by decide) (by omega)
                  obtain ⟨su, sc, rfl⟩ := hsl.shape
                  go_wp2_with fail
                  refine N12.mono ?_
                  rintro e w6 ⟨hb6', v6, t6, rfl, ht6, hrec6, _⟩
                  have hb6 : Below w.heap.size w w6 := hb.trans (hb6'.mono hb.size)
                  have hsl6 := hsl.on (Step.of_below (X := fun _ => False) hb6') (fun _ h => h.elim) (fun _ h => .inl h)
                  have htp6 := hta.tp.below hb6'
                  have N14 := alike_any w6 v6 (.slice su rs.length sc) rs rs hrec6.rdl (hsl6.rdl hb6) (by omega) (by omega)
                  rw [decide_eq_true (rfl : rs = rs)] at N14
                  obtain ⟨va6, vc6, rfl⟩ := hrec6.shape
                  clear N12 hsl hta hb hb6' hrec6 hsl6
                  go_wp2_with fail
                  refine N14.mono ?_
                  rintro e w8 ⟨rfl, kq, hw8⟩
                  have hb8' : Below w6.heap.size w6 w8 := by rw [hw8]; exact ⟨rfl, rfl, rfl, Nat.le_refl _, fun _ _ => rfl⟩
                  have hb8 : Below w.heap.size w w8 := hb6.trans (hb8'.mono hb6.size)
                  have N25 := count_any w8 t q 0 60 (tot rs) rs.length 0 (htp6.below hb8')
                  clear hw8 hb8' hb6 htp6 N14
                  go_wp2_with fail
                  refine N25.mono ?_
                  rintro e w9 ⟨rfl, hw9⟩
                  have hw9 := hw9.symm
                  subst hw9
                  clear N25
                  go_wp2_with fail
                  go_ret
                  exact ⟨rfl, hb8⟩
end Go.Proofs.Ytpbpcefcnkfbpaa
