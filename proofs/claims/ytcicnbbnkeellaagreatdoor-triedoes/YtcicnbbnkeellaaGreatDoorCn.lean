/- The closure by which pairs are put in order. Conditions: those that each row states. -/
import Derived.Test.YtcicnbbnkeellaaGreatDoorCm
namespace Go.Proofs.YtcicnbbnkeellaaGreatDoor
open Go.RowKit
set_option maxRecDepth 100000

theorem cmpT_any (w : World) (a b : List UInt8) : Calls Tryz.prog 42 #[.string ⟨a.toArray⟩, .string ⟨b.toArray⟩] w fun e w' => e = .returned (.int .i64 (cmpL a b)) ∧ w' = w := by
  have := cmpS_any w ⟨a.toArray⟩ ⟨b.toArray⟩
  rw [Go.ByteArray.toList_mk, Go.ByteArray.toList_mk] at this
  exact this
def cfP (x y : Pr) : Int := or2 (cmpL x.1 y.1) (Lib.compareInt x.2 y.2)
set_option maxHeartbeats 1000000 in
theorem clos_any (W : World) (x y : Pr) : Calls Tryz.prog 40 #[.agg (prC x).toArray, .agg (prC y).toArray] W fun e w' => e = .returned (.int .i64 (cfP x y)) ∧ ∃ q os', w' = Sort.grow (W.drewN q) os' := by
  have hmix : Tryz.prog.follows .mixedOrders = true := by kernel_rfl
  obtain ⟨n, hn⟩ : ∃ n, n = W.heap.size := ⟨_, rfl⟩
  have HF : Hid (∀ o1 o2 o3, ∃ q os', (((W.alloc o1).alloc o2).drew.alloc o3) = Sort.grow (W.drewN q) os') := fun o1 o2 o3 => ⟨1, #[o1, o2, o3], by
    rw [Sort.alloc_eq_grow, Sort.alloc_eq_grow, Sort.alloc_eq_grow]
    show Sort.grow (Sort.grow (Sort.grow W.drew #[o1]) #[o2]) #[o3] = _
    rw [Sort.grow_grow, Sort.grow_grow]
    rfl⟩
  simp only [prC]
  go_enter Tryz.func40, Tryz.ntmps40
  go_wp2_with fail
  rename_i Q0 K0 hK0
  obtain ⟨W2, hW2⟩ : ∃ W2, W2 = (W.alloc (.cells #[str x.1, .int .i64 x.2] 41)).alloc (.cells #[str y.1, .int .i64 y.2] 41) := ⟨_, rfl⟩
  have hw0 : W2.heap[n]? = some (.cells #[str x.1, .int .i64 x.2] 41 (0, 0)) := by
    rw [hW2, hn, alloc_at', if_neg (by rw [World.size_alloc]; omega), alloc_at', if_pos rfl]
  have hw1 : W2.heap[n + 1]? = some (.cells #[str y.1, .int .i64 y.2] 41 (0, 0)) := by
    rw [hW2, hn, alloc_at', if_pos (by rw [World.size_alloc])]
  have hs2 : W2.heap.size = n + 2 := by rw [hW2, hn, World.size_alloc, World.size_alloc]
  rw [← hW2, ← hn]
  have HF2 : Hid (∀ o3, ∃ q os', W2.drew.alloc o3 = Sort.grow (W.drewN q) os') := fun o3 => by
    rw [hW2]
    exact HF.out _ _ o3
  clear hW2 hn HF
  have g0 : W2.drew.cell? ⟨n, 0, none⟩ = some (str x.1) := by unfold World.cell?; rw [show W2.drew.heap[n]? = _ from hw0]; rfl
  have g1 : W2.drew.cell? ⟨n, 1, none⟩ = some (.int .i64 x.2) := by unfold World.cell?; rw [show W2.drew.heap[n]? = _ from hw0]; rfl
  have g2 : W2.drew.cell? ⟨n + 1, 0, none⟩ = some (str y.1) := by unfold World.cell?; rw [show W2.drew.heap[n + 1]? = _ from hw1]; rfl
  have g3 : W2.drew.cell? ⟨n + 1, 1, none⟩ = some (.int .i64 y.2) := by unfold World.cell?; rw [show W2.drew.heap[n + 1]? = _ from hw1]; rfl
  refine wp_region_held (S := fun W' => W'.cell? ⟨n, 0, none⟩ = some (str x.1) ∧ W'.cell? ⟨n, 1, none⟩ = some (.int .i64 x.2) ∧ W'.cell? ⟨n + 1, 0, none⟩ = some (str y.1) ∧ W'.cell? ⟨n + 1, 1, none⟩ = some (.int .i64 y.2)) hmix ?_
  show wpAnyH _ _ _ _ _ _ _ _ W2.drew
  have hS : W2.drew.cell? ⟨n, 0, none⟩ = some (str x.1) ∧ W2.drew.cell? ⟨n, 1, none⟩ = some (.int .i64 x.2) ∧ W2.drew.cell? ⟨n + 1, 0, none⟩ = some (str y.1) ∧ W2.drew.cell? ⟨n + 1, 1, none⟩ = some (.int .i64 y.2) := ⟨g0, g1, g2, g3⟩
  refine wpAnyH_take (i := 0) (v := .pointer (some ⟨n, 0, none⟩)) rfl (by kernel_rfl) (by kernel_rfl) (by kernel_rfl) (fun _ _ _ h => h) (.inl ⟨by rfl, fun W' hW' => ?_⟩) hS ?_
  · obtain ⟨u1, u2, u3, u4⟩ := hW'
    go_simp
  simp only [Act.put, List.getElem_toArray, List.getElem_cons_zero, List.setIfInBounds_toArray, List.set_cons_succ, List.set_cons_zero]
  refine wpAnyH_take (i := 1) (v := str x.1) rfl (by kernel_rfl) (by kernel_rfl) (by kernel_rfl) (fun _ _ _ h => h) (.inl ⟨by rfl, fun W' hW' => ?_⟩) hS ?_
  · obtain ⟨u1, u2, u3, u4⟩ := hW'
    go_simp
  simp only [Act.put, List.getElem_toArray, List.getElem_cons_succ, List.getElem_cons_zero, List.setIfInBounds_toArray, List.set_cons_succ, List.set_cons_zero]
  refine wpAnyH_take (i := 2) (v := .pointer (some ⟨n + 1, 0, none⟩)) rfl (by kernel_rfl) (by kernel_rfl) (by kernel_rfl) (fun _ _ _ h => h) (.inl ⟨by rfl, fun W' hW' => ?_⟩) hS ?_
  · obtain ⟨u1, u2, u3, u4⟩ := hW'
    go_simp
  simp only [Act.put, List.getElem_toArray, List.getElem_cons_succ, List.getElem_cons_zero, List.setIfInBounds_toArray, List.set_cons_succ, List.set_cons_zero]
  refine wpAnyH_take (i := 3) (v := str y.1) rfl (by kernel_rfl) (by kernel_rfl) (by kernel_rfl) (fun _ _ _ h => h) (.inl ⟨by rfl, fun W' hW' => ?_⟩) hS ?_
  · obtain ⟨u1, u2, u3, u4⟩ := hW'
    go_simp
  simp only [Act.put, List.getElem_toArray, List.getElem_cons_succ, List.getElem_cons_zero, List.setIfInBounds_toArray, List.set_cons_succ, List.set_cons_zero]
  refine wpAnyH_take (i := 5) (v := .pointer (some ⟨n, 1, none⟩)) rfl (by kernel_rfl) (by kernel_rfl) (by kernel_rfl) (fun _ _ _ h => h) (.inl ⟨by rfl, fun W' hW' => ?_⟩) hS ?_
  · obtain ⟨u1, u2, u3, u4⟩ := hW'
    go_simp
  simp only [Act.put, List.getElem_toArray, List.getElem_cons_succ, List.getElem_cons_zero, List.setIfInBounds_toArray, List.set_cons_succ, List.set_cons_zero]
  refine wpAnyH_take (i := 6) (v := .int .i64 x.2) rfl (by kernel_rfl) (by kernel_rfl) (by kernel_rfl) (fun _ _ _ h => h) (.inl ⟨by rfl, fun W' hW' => ?_⟩) hS ?_
  · obtain ⟨u1, u2, u3, u4⟩ := hW'
    go_simp
  simp only [Act.put, List.getElem_toArray, List.getElem_cons_succ, List.getElem_cons_zero, List.setIfInBounds_toArray, List.set_cons_succ, List.set_cons_zero]
  refine wpAnyH_take (i := 7) (v := .pointer (some ⟨n + 1, 1, none⟩)) rfl (by kernel_rfl) (by kernel_rfl) (by kernel_rfl) (fun _ _ _ h => h) (.inl ⟨by rfl, fun W' hW' => ?_⟩) hS ?_
  · obtain ⟨u1, u2, u3, u4⟩ := hW'
    go_simp
  simp only [Act.put, List.getElem_toArray, List.getElem_cons_succ, List.getElem_cons_zero, List.setIfInBounds_toArray, List.set_cons_succ, List.set_cons_zero]
  refine wpAnyH_take (i := 8) (v := .int .i64 y.2) rfl (by kernel_rfl) (by kernel_rfl) (by kernel_rfl) (fun _ _ _ h => h) (.inl ⟨by rfl, fun W' hW' => ?_⟩) hS ?_
  · obtain ⟨u1, u2, u3, u4⟩ := hW'
    go_simp
  simp only [Act.put, List.getElem_toArray, List.getElem_cons_succ, List.getElem_cons_zero, List.setIfInBounds_toArray, List.set_cons_succ, List.set_cons_zero]
  refine wpAnyH_one (i := 4) (by kernel_rfl) rfl (by rfl) (fun K hK => ?_)
  simp only [str]
  go_simp
  refine (cmpT_any W2.drew x.1 y.1).mono ?_
  rintro e w2 ⟨rfl, rfl⟩
  refine hK _ _ hS ?_
  clear hK K
  refine wpAnyH_one (i := 9) (by kernel_rfl) rfl (by rfl) (fun K hK => ?_)
  go_simp
  refine (Tryz.cmp_Compare_int x.2 y.2 W2.drew).mono ?_
  rintro e w2 ⟨rfl, rfl⟩
  refine hK _ _ hS ?_
  clear hK K
  have HR : Hid (cfP x y = or2 (cmpL x.1 y.1) (Lib.compareInt x.2 y.2)) := rfl
  generalize cmpL x.1 y.1 = c1 at *
  generalize Lib.compareInt x.2 y.2 = c2 at *
  refine wpAnyH_one (i := 10) (by kernel_rfl) rfl (by rfl) (fun K hK => ?_)
  go_simp
  obtain ⟨W3, hW3⟩ : ∃ W3, W3 = (W2.alloc (.cells #[.int .i64 c1, .int .i64 c2] 3)).drew := ⟨_, rfl⟩
  have hq3 : W3.heap[n + 2]? = some (.cells #[.int .i64 c1, .int .i64 c2] 3 (0, 0)) := by
    rw [hW3]
    show (W2.alloc _).heap[n + 2]? = _
    rw [alloc_at', if_pos hs2.symm]
  have HF3 : Hid (∃ q os', W3 = Sort.grow (W.drewN q) os') := by
    show ∃ q os', W3 = Sort.grow (W.drewN q) os'
    rw [hW3]
    exact HF2.out _
  have hk : ∀ b, b < n + 2 → W3.heap[b]? = W2.heap[b]? := fun b hb => by
    rw [hW3]
    show (W2.alloc _).heap[b]? = _
    rw [alloc_at', if_neg (by omega)]
  have k0 : W3.cell? ⟨n, 0, none⟩ = some (str x.1) := by unfold World.cell?; rw [hk n (by omega), hw0]; rfl
  have k1 : W3.cell? ⟨n, 1, none⟩ = some (.int .i64 x.2) := by unfold World.cell?; rw [hk n (by omega), hw0]; rfl
  have k2 : W3.cell? ⟨n + 1, 0, none⟩ = some (str y.1) := by unfold World.cell?; rw [hk (n + 1) (by omega), hw1]; rfl
  have k3 : W3.cell? ⟨n + 1, 1, none⟩ = some (.int .i64 y.2) := by unfold World.cell?; rw [hk (n + 1) (by omega), hw1]; rfl
  have hOr := or_any W3 (n + 2) c1 c2 (0, 0) hq3
  rw [← hW3]
  clear hW3 HF2 hk hq3
  refine hK _ _ ⟨k0, k1, k2, k3⟩ ?_
  clear hK K
  refine wpAnyH_one (i := 11) (by kernel_rfl) rfl (by rfl) (fun K hK => ?_)
  go_simp
  refine hOr.mono ?_
  rintro e w2 ⟨rfl, rfl⟩
  refine hK _ _ ⟨k0, k1, k2, k3⟩ ?_
  clear hK K
  refine wpAnyH_one (i := 12) (by kernel_rfl) rfl (by rfl) (fun K hK => ?_)
  go_simp
  refine hK _ _ ⟨k0, k1, k2, k3⟩ ?_
  clear hK K
  refine wpAnyH_done (by kernel_rfl) ?_ _
  refine hK0 _ _ ?_
  go_wp2
  go_ret
  exact ⟨ret_i HR.out.symm, HF3.out⟩
end Go.Proofs.YtcicnbbnkeellaaGreatDoor
