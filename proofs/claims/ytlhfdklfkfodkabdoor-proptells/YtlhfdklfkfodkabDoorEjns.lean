
/- What the library's ftoa64 writes of any finite number that is not nought. -/
import Derived.Test.YtlhfdklfkfodkabDoorEi
set_option maxRecDepth 100000
namespace Go.Proofs.YtlhfdklfkfodkabDoor.Ff
open Go.RowKit Go.Lib Go.Sort

set_option maxHeartbeats 4000000 in
theorem ftoaF_ns (w : World) (B : Nat) (v : Value) (b mt y : Nat) (hs : (b : Int) / 9223372036854775808 = 1) (hy : (b : Int) / 4503599627370496 = (y : Int)) (hy1 : y < 4096) (hx : bits .and .i64 (y : Int) 2047 = 0) (z : Int) (hz : (mt : Int) = z) (hf : bits .and .u64 (b : Int) 4503599627370495 = z) (hF : Fin1 mt (-1022)) (hO : Own w B v []) (hB : B ≤ w.heap.size) (hv : Vars w) (hP : Pow w) :
    Calls Tryd.prog 38 #[v, .float .f64 b, .int .u8 103, .int .i64 (-1)] w fun e w' =>
      ∃ v', e = .returned v' ∧ Own w' B v' (numT true mt (-1022)) ∧ Below B w w' := by
  have HV : Hid (Vars w ∧ Pow w) := ⟨hv, hP⟩
  have HO : Hid (Own w B v []) := hO
  have HB : Hid (B ≤ w.heap.size) := hB
  have HF : Hid (Fin1 mt (-1022)) := hF
  have m1 : (1 : Int) ≤ z := by have := hF.m1; omega
  have m2 : z < 9007199254740992 := by have := hF.m2; omega
  have mz : (z == 0) = false := by simp; omega
  obtain ⟨s, hsB⟩ : ∃ s : Nat, upS mt = s := ⟨_, rfl⟩
  have s1 : 11 ≤ s := by have := (upM_bounds hF.m1 hF.m2).2.2.1; omega
  have s2 : s ≤ 63 := by have := (upM_bounds hF.m1 hF.m2).2.2.2; omega
  have hbl : ((Lib.bitLen z.toNat : Nat) : Int) = 64 - (s : Int) := by
    rw [show z.toNat = mt from by omega]
    have := (bl_bounds hF.m1 hF.m2).2.1
    unfold upS at hsB
    omega
  have HZ : Hid ((mt : Int) = z) := hz
  have HS : Hid (upS mt = s) := hsB
  have HBL : Hid (((Lib.bitLen z.toNat : Nat) : Int) = 64 - (s : Int)) := hbl
  clear hv hP hO hB hF hz hsB hbl
  go_enter Tryd.func38, Tryd.ntmps38
  go_upto_region 14 with fail
  go_quiet (fail)
  clear hs hy hx
  go_wp2_with fail
  refine (Tryd.bits_Len64 z _ (by omega) (by omega)).mono ?_
  rintro e w1 ⟨rfl, rfl⟩
  rw [HBL.out]
  go_wp2_with fail
  have em := up_eq HZ.out HS.out HF.out.m1 HF.out.m2
  have ee : -1022 - (64 - (64 - (s : Int))) - 52 = upE mt (-1022) := by
    unfold upE
    rw [HS.out]
    omega
  rw [em, ee]
  clear em ee
  generalize hW : (w.drewN nq).alloc _ = W1
  have hb1 : Below w.heap.size w W1 := by
    rw [← hW]; exact (below_drewN (Below.refl _ w) nq).alloc (by simp) _
  have hs1 : W1.heap.size = w.heap.size + 1 := by rw [← hW]; simp
  have hq1 : W1.heap[w.heap.size]? = some (.cells (List.replicate 32 (Value.int .u8 0)).toArray 78 (0, 0)) := by rw [← hW]; simp [World.alloc]
  clear hW
  have hv1 := HV.out.1.on hb1
  have hP1 := HV.out.2.on hb1
  refine (short_any W1 (upM mt) (upE mt (-1022)) HF.out.sh hP1).mono ?_
  rintro e w2 ⟨rfl, hb2⟩
  have HW : Hid (numT true mt (-1022) = txt true (digL (dcN mt (-1022))) ((Lib.nDigits (dcN mt (-1022)) : Int) + dcP mt (-1022))) := rfl
  have dd := dcN_bounds HF.out
  have pp := dcP_bounds HF.out
  rw [show (shortN (upM mt) (upE mt (-1022))).1 = dcN mt (-1022) from rfl, show (shortN (upM mt) (upE mt (-1022))).2 = dcP mt (-1022) from rfl]
  generalize dcN mt (-1022) = d at *
  generalize dcP mt (-1022) = p at *
  have hND := Tryd.internal_strconv_numDigits d dd.1 (by have := dd.2; omega)
  have hnd20 := Lib.nDigits_le20 d (by have := dd.2; omega)
  have hnd1 := Lib.nDigits_pos d
  have hSD := fun (W : World) h => setDigits_any W w.heap.size d (Lib.nDigits d) p _ 78 h rfl (by omega) (Lib.lt_pow_nDigits d) (by have := dd.2; omega) (by omega) (by omega)
  have HTr : Hid (∀ k, Trims d (Lib.nDigits d) k → k = kN d) := fun k h => Trims.unique h (kN_trims d)
  have hE := fun (W : World) h1 h2 => efg_any W B w.heap.size v true (digL d) (by rw [digL_length]; exact kN_pos dd.1) (by rw [digL_length]; exact kN_le (by have := dd.2; omega)) ((Lib.nDigits d : Int) + p) (by omega) (by omega) h1 h2
  have HDB : Hid (∀ W, Digs W w.heap.size d (Lib.nDigits d) → DB W w.heap.size (digL d)) := fun W h => db_of_digs h
  rw [digL_length] at hE
  generalize Lib.nDigits d = nd at *
  generalize kN d = kk at *
  generalize digL d = DL at *
  have HN : Hid (∀ (w : World), Lib.TabIs Tryd.prog w "internal/strconv.uint64pow10" .u64 Lib.pow10Tab → Calls Tryd.prog 34 #[.int .u64 d] w fun e w' => e = .returned (.int .i64 nd) ∧ w' = w) := hND
  have HSD : Hid (∀ (W : World), W.heap[w.heap.size]? = some (.cells (List.replicate 32 (Value.int .u8 0)).toArray 78 (0, 0)) → Calls Tryd.prog 50 #[.slice (some ⟨w.heap.size, 0, none⟩) 32 32, .int .u64 d, .int .i64 p, .int .i64 nd] W fun e w' =>
      ∃ k : Nat, e = .returned (.tuple #[.int .i64 (nd + p), .int .i64 k]) ∧ Trims d nd k ∧ Digs w' w.heap.size d nd ∧ W.grownBy w' (some w.heap.size)) := hSD
  have HE : Hid (∀ W, OwnQ W B w.heap.size v [] → DB W w.heap.size DL → Calls Tryd.prog 48 #[v, .bool true, .slice (some ⟨w.heap.size, 0, none⟩) 32 32, .int .i64 (nd + p), .int .i64 kk, .int .i64 kk, .int .u8 103, .bool true] W fun e w' =>
      ∃ v', e = .returned v' ∧ Own w' B v' (txt true DL (nd + p)) ∧ Below B W w') := hE
  clear hND hSD hE dd
  have hq2 : w2.heap[w.heap.size]? = some (.cells (List.replicate 32 (Value.int .u8 0)).toArray 78 (0, 0)) := by rw [hb2.block _ (by omega)]; exact hq1
  have hv2 := hv1.on hb2
  have hs2 := hb2.size
  have hb02 : Below w.heap.size w w2 := hb1.trans (hb2.mono (by omega))
  clear hq1 hv1 hb1 hb2 hP1
  go_upto_region 38 with fail
  refine wp_region_held (S := fun _ => True) hmix ?_
  show wpAnyH _ _ _ _ _ _ _ _ w2.drew
  have hS : (fun _ : World => True) w2.drew := trivial
  refine wpAnyH_take (i := 0) (v := .slice (some ⟨w.heap.size, 0, none⟩) 32 32) rfl (by kernel_rfl) (by kernel_rfl) (by kernel_rfl) (fun _ _ _ h => h) (.inl ⟨by rfl, fun W' hW' => ?_⟩) hS ?_
  · go_simp
  dsimp only [Act.put]
  refine wpAnyH_take (i := 1) (v := .int .u64 d) rfl (by kernel_rfl) (by kernel_rfl) (by kernel_rfl) (fun _ _ _ h => h) (.inl ⟨by rfl, fun W' hW' => ?_⟩) hS ?_
  · go_simp
  dsimp only [Act.put]
  refine wpAnyH_take (i := 2) (v := .int .i64 p) rfl (by kernel_rfl) (by kernel_rfl) (by kernel_rfl) (fun _ _ _ h => h) (.inl ⟨by rfl, fun W' hW' => ?_⟩) hS ?_
  · go_simp
  dsimp only [Act.put]
  refine wpAnyH_take (i := 3) (v := .int .u64 d) rfl (by kernel_rfl) (by kernel_rfl) (by kernel_rfl) (fun _ _ _ h => h) (.inl ⟨by rfl, fun W' hW' => ?_⟩) hS ?_
  · go_simp
  dsimp only [Act.put]
  have hv3 : Vars w2.drew := hv2.on (Below.drew (Below.refl _ w2))
  refine wpAnyH_one (i := 4) (by kernel_rfl) rfl (by rfl) (fun K hK => ?_)
  go_simp
  refine (HN.out _ hv3.tab).mono ?_
  rintro e w3 ⟨rfl, rfl⟩
  show K _ _
  refine hK _ _ trivial ?_
  clear hK K
  have hq3 : w2.drew.heap[w.heap.size]? = some (.cells (List.replicate 32 (Value.int .u8 0)).toArray 78 (0, 0)) := hq2
  refine wpAnyH_one (i := 5) (by kernel_rfl) rfl (by rfl) (fun K hK => ?_)
  go_simp
  refine (HSD.out _ hq3).mono ?_
  rintro e w4 ⟨k, rfl, hT, hD, hG⟩
  obtain rfl := HTr.out _ hT
  show K _ _
  refine hK _ _ trivial ?_
  clear hK K hT
  refine wpAnyH_take (i := 6) (v := .tuple #[.int .i64 (nd + p), .int .i64 k]) rfl (by kernel_rfl) (by kernel_rfl) (by kernel_rfl) (fun _ _ _ h => h) (.inl ⟨by rfl, fun W' hW' => ?_⟩) trivial ?_
  · go_simp
  dsimp only [Act.put]
  refine wpAnyH_take (i := 7) (v := .int .i64 (nd + p)) rfl (by kernel_rfl) (by kernel_rfl) (by kernel_rfl) (fun _ _ _ h => h) (.inl ⟨by rfl, fun W' hW' => ?_⟩) trivial ?_
  · go_simp
  dsimp only [Act.put]
  refine wpAnyH_take (i := 8) (v := .int .i64 k) rfl (by kernel_rfl) (by kernel_rfl) (by kernel_rfl) (fun _ _ _ h => h) (.inl ⟨by rfl, fun W' hW' => ?_⟩) trivial ?_
  · go_simp
  dsimp only [Act.put]
  refine wpAnyH_take (i := 9) (v := .int .i64 (nd + p)) rfl (by kernel_rfl) (by kernel_rfl) (by kernel_rfl) (fun _ _ _ h => h) (.inl ⟨by rfl, fun W' hW' => ?_⟩) trivial ?_
  · go_simp
  dsimp only [Act.put]
  refine wpAnyH_take (i := 10) (v := .int .i64 k) rfl (by kernel_rfl) (by kernel_rfl) (by kernel_rfl) (fun _ _ _ h => h) (.inl ⟨by rfl, fun W' hW' => ?_⟩) trivial ?_
  · go_simp
  dsimp only [Act.put]
  refine wpAnyH_done (by kernel_rfl) ?_ _
  have hDB := HDB.out w4 hD
  have hO4 : OwnQ w4 B w.heap.size v [] := by
    have h2 := HO.out.on hb02
    have h3 : Own w2.drew B v [] := h2.on (Below.drew (Below.refl _ w2))
    have hg := hG.size
    have hdw : w2.drew.heap.size = w2.heap.size := rfl
    have := HB.out
    exact ⟨h3.stays hG HO.out.lt, by omega, HO.out.lt, by omega⟩
  have hb4 : Below B w w4 := by
    have hdw : w2.drew.heap.size = w2.heap.size := rfl
    have := HB.out
    exact (hb02.mono HB.out).trans ((Below.drew (Below.refl B w2)).grown hG (by omega) (by intro k hk; cases hk; exact HB.out))
  have hC := HE.out w4 hO4 hDB
  clear hD hG hv3 hv2 hq2 hq3 hs2 hs1 hb02 HN HSD HE HDB HTr hDB hO4
  go_wp2_with fail
  refine hC.mono ?_
  rintro e w5 ⟨v5, rfl, ho5, hb5⟩
  clear hC
  go_wp2
  go_ret
  exact ⟨_, rfl, by rw [HW.out]; exact ho5, hb4.trans hb5⟩
end Go.Proofs.YtlhfdklfkfodkabDoor.Ff
