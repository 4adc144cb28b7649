/- tape.Append. -/
import Derived.Test.YthgkkmcpmhfehaaAp
namespace Go.Proofs.Ythgkkmcpmhfehaa
open Go.RowKit Go.Lib Go.Shelf
set_option maxRecDepth 100000

def apW (w : World) (t : Nat) (v : Value) : World := (w.alloc (.cells #[.pointer (some ⟨t, 0, none⟩)] 72)).alloc (.cells #[v] 30)
theorem apW_facts (w : World) (t : Nat) (v : Value) : Below w.heap.size w (apW w t v) ∧ (apW w t v).heap.size = w.heap.size + 2 ∧ (apW w t v).heap[w.heap.size]? = some (.cells #[.pointer (some ⟨t, 0, none⟩)] 72 (0, 0)) ∧ (apW w t v).heap[w.heap.size + 1]? = some (.cells #[v] 30 (0, 0)) := by
  unfold apW
  refine ⟨((Below.refl _ w).alloc (Nat.le_refl _) _).alloc (by simp only [World.size_alloc]; omega) _, by simp only [World.size_alloc], ?_, ?_⟩
  all_goals
    simp only [alloc_at', World.size_alloc]
    repeat (first | rw [if_pos (by omega)] | rw [if_neg (by omega)])
    try rfl

theorem append_met (w : World) (t q lo hi p c met : Nat) (ht : Tp w t q lo hi p c met) (hm : met ≠ 0) (r : List UInt8) (a : Option Addr) (fc : Nat) (hrl : r.length ≤ 65536) :
    Calls Try.prog 44 #[.pointer (some ⟨t, 0, none⟩), .slice a r.length fc] w fun e w' => e = .returned (.int .i64 met) ∧ Below w.heap.size w w' := by
  obtain ⟨hb0, hs0, hB0, hB1⟩ := apW_facts w t (.slice a r.length fc)
  have ht1 := ht.below hb0
  obtain ⟨t0, t1, t2, t3, t4, t5, tf⟩ := ht1.cells
  have c1 : (apW w t (.slice a r.length fc)).cell? ⟨w.heap.size, 0, none⟩ = some (.pointer (some ⟨t, 0, none⟩)) := by rw [cell_of_row _ _ _ _ _ _ hB0]; rfl
  have c2 : (apW w t (.slice a r.length fc)).cell? ⟨w.heap.size + 1, 0, none⟩ = some (.slice a r.length fc) := by rw [cell_of_row _ _ _ _ _ _ hB1]; rfl
  have i1 : ¬ (65536 : Int) < (r.length : Int) := by omega
  have i2 : ¬ (met : Int) = 0 := by omega
  unfold apW at *
  go_enter Try.func44, Try.ntmps44
  go_wp2_with fail
  go_ret
  exact ⟨rfl, hb0⟩

set_option maxHeartbeats 4000000 in
theorem append_full (w : World) (t q lo hi p c : Nat) (ht : Tp w t q lo hi p c 0) (hlh : lo ≤ hi) (hh : hi ≤ 4096) (hp : p ≤ (hi - lo) * 256) (r : List UInt8) (a : Option Addr) (fc : Nat) (hrl : r.length ≤ 65536) (hpl : (hi - lo) * 256 < p + (12 + r.length)) :
    Calls Try.prog 44 #[.pointer (some ⟨t, 0, none⟩), .slice a r.length fc] w fun e w' => e = .returned (.int .i64 22) ∧ Below w.heap.size w w' := by
  have hmix : Try.prog.follows .mixedOrders = true := by kernel_rfl
  obtain ⟨hb0, hs0, hB0, hB1⟩ := apW_facts w t (.slice a r.length fc)
  have ht1 := ht.below hb0
  obtain ⟨t0, t1, t2, t3, t4, t5, tf⟩ := ht1.cells
  have c1 : (apW w t (.slice a r.length fc)).cell? ⟨w.heap.size, 0, none⟩ = some (.pointer (some ⟨t, 0, none⟩)) := by rw [cell_of_row _ _ _ _ _ _ hB0]; rfl
  have c2 : (apW w t (.slice a r.length fc)).cell? ⟨w.heap.size + 1, 0, none⟩ = some (.slice a r.length fc) := by rw [cell_of_row _ _ _ _ _ _ hB1]; rfl
  have i1 : ¬ (65536 : Int) < (r.length : Int) := by omega
  obtain ⟨sz, hsz⟩ : ∃ sz, sz = (hi - lo) * 256 := ⟨_, rfl⟩
  have HZ : Hid (sz = (hi - lo) * 256) := hsz
  rw [← hsz] at hpl
  have hsz9 : sz ≤ 1048576 ∧ p ≤ sz := by omega
  clear hsz
  obtain ⟨w1, hw1⟩ : ∃ w1, w1 = apW w t (.slice a r.length fc) := ⟨_, rfl⟩
  rw [← hw1] at hb0 hs0 hB0 hB1 ht1 t0 t1 t2 t3 t4 t5 c1 c2
  have tf1 : ∀ i, w1.frozen? ⟨t, i, none⟩ = false := by rw [hw1]; exact tf
  have HW1 : Hid (w1 = apW w t (.slice a r.length fc)) := hw1
  clear hw1 tf
  have N41 : Calls Try.prog 71 #[.pointer (some ⟨t, 0, none⟩)] w1.drew fun e w' => e = .returned (.int .i64 (sz : Int)) ∧ w' = w1.drew.drew := by rw [HZ.out]; exact size_any w1.drew t q lo hi p c 0 (ht1.on rfl) hlh (by omega)
  have w2' : IntKind.i64.wrap (12 + (r.length : Int)) = 12 + (r.length : Int) := wrapI _ (by omega) (by omega)
  have w9' : IntKind.i64.wrap ((sz : Int) - (p : Int)) = (sz : Int) - (p : Int) := wrapI _ (by omega) (by omega)
  have w10' :  (sz : Int) - (p : Int) < 12 + (r.length : Int) := by omega
  have hS : w1.drew.cell? ⟨w.heap.size, 0, none⟩ = some (.pointer (some ⟨t, 0, none⟩)) ∧ w1.drew.cell? ⟨w.heap.size + 1, 0, none⟩ = some (.slice a r.length fc) ∧ w1.drew.cell? ⟨t, 3, none⟩ = some (.int .i64 p) := ⟨c1, c2, t3⟩
  have hW0 : w1 = (w.alloc (.cells #[.pointer (some ⟨t, 0, none⟩)] 72)).alloc (.cells #[.slice a r.length fc] 30) := HW1.out
  go_enter Try.func44, Try.ntmps44
  go_upto_region 1 with fail
  rw [← hW0]
  clear hW0
  go_wp2_with fail
  refine wp_region_held (S := fun W' => W'.cell? ⟨w.heap.size, 0, none⟩ = some (.pointer (some ⟨t, 0, none⟩)) ∧ W'.cell? ⟨w.heap.size + 1, 0, none⟩ = some (.slice a r.length fc) ∧ W'.cell? ⟨t, 3, none⟩ = some (.int .i64 p)) hmix ?_
  show wpAnyH _ _ _ _ _ _ _ _ w1.drew
  refine wpAnyH_take (i := 0) (v := .slice a r.length fc) rfl (by kernel_rfl) (by kernel_rfl) (by kernel_rfl) (fun _ _ _ h => h) (.inl ⟨by rfl, fun W' hW' => ?_⟩) hS ?_
  · obtain ⟨u1, u2, u3⟩ := hW'
    go_simp
  dsimp only [Act.put]
  refine wpAnyH_take (i := 1) (v := .int .i64 (r.length : Int)) rfl (by kernel_rfl) (by kernel_rfl) (by kernel_rfl) (fun _ _ _ h => h) (.inl ⟨by rfl, fun W' hW' => ?_⟩) hS ?_
  · obtain ⟨u1, u2, u3⟩ := hW'
    go_simp
  dsimp only [Act.put]
  refine wpAnyH_take (i := 2) (v := .int .i64 (12 + (r.length : Int))) rfl (by kernel_rfl) (by kernel_rfl) (by kernel_rfl) (fun _ _ _ h => h) (.inl ⟨by rfl, fun W' hW' => ?_⟩) hS ?_
  · obtain ⟨u1, u2, u3⟩ := hW'
    go_simp
  dsimp only [Act.put]
  refine wpAnyH_take (i := 3) (v := .pointer (some ⟨t, 0, none⟩)) rfl (by kernel_rfl) (by kernel_rfl) (by kernel_rfl) (fun _ _ _ h => h) (.inl ⟨by rfl, fun W' hW' => ?_⟩) hS ?_
  · obtain ⟨u1, u2, u3⟩ := hW'
    go_simp
  dsimp only [Act.put]
  refine wpAnyH_take (i := 5) (v := .pointer (some ⟨t, 0, none⟩)) rfl (by kernel_rfl) (by kernel_rfl) (by kernel_rfl) (fun _ _ _ h => h) (.inl ⟨by rfl, fun W' hW' => ?_⟩) hS ?_
  · obtain ⟨u1, u2, u3⟩ := hW'
    go_simp
  dsimp only [Act.put]
  refine wpAnyH_take (i := 6) (v := .pointer (some ⟨t, 0, none⟩)) rfl (by kernel_rfl) (by kernel_rfl) (by kernel_rfl) (fun _ _ _ h => h) (.inl ⟨by rfl, fun W' hW' => ?_⟩) hS ?_
  · obtain ⟨u1, u2, u3⟩ := hW'
    go_simp
  dsimp only [Act.put]
  refine wpAnyH_take (i := 7) (v := .pointer (some ⟨t, 3, none⟩)) rfl (by kernel_rfl) (by kernel_rfl) (by kernel_rfl) (fun _ _ _ h => h) (.inl ⟨by rfl, fun W' hW' => ?_⟩) hS ?_
  · obtain ⟨u1, u2, u3⟩ := hW'
    go_simp
  dsimp only [Act.put]
  refine wpAnyH_take (i := 8) (v := .int .i64 (p : Int)) rfl (by kernel_rfl) (by kernel_rfl) (by kernel_rfl) (fun _ _ _ h => h) (.inl ⟨by rfl, fun W' hW' => ?_⟩) hS ?_
  · obtain ⟨u1, u2, u3⟩ := hW'
    go_simp
  dsimp only [Act.put]
  refine wpAnyH_one (i := 4) (by kernel_rfl) rfl (by rfl) (fun K hK => ?_)
  go_simp
  refine N41.mono ?_
  rintro e w2 ⟨rfl, hw2⟩
  have hw2 := hw2.symm
  subst hw2
  show K _ _
  refine hK _ _ hS ?_
  clear hK K
  have hS : w1.drew.drew.cell? ⟨w.heap.size, 0, none⟩ = some (.pointer (some ⟨t, 0, none⟩)) ∧ w1.drew.drew.cell? ⟨w.heap.size + 1, 0, none⟩ = some (.slice a r.length fc) ∧ w1.drew.drew.cell? ⟨t, 3, none⟩ = some (.int .i64 p) := hS
  refine wpAnyH_take (i := 9) (v := .int .i64 ((sz : Int) - (p : Int))) rfl (by kernel_rfl) (by kernel_rfl) (by kernel_rfl) (fun _ _ _ h => h) (.inl ⟨by rfl, fun W' hW' => ?_⟩) hS ?_
  · obtain ⟨u1, u2, u3⟩ := hW'
    go_simp
  dsimp only [Act.put]
  refine wpAnyH_take (i := 10) (v := .bool true) rfl (by kernel_rfl) (by kernel_rfl) (by kernel_rfl) (fun _ _ _ h => h) (.inl ⟨by rfl, fun W' hW' => ?_⟩) hS ?_
  · obtain ⟨u1, u2, u3⟩ := hW'
    go_simp
  dsimp only [Act.put]
  refine wpAnyH_take (i := 11) (v := .bool true) rfl (by kernel_rfl) (by kernel_rfl) (by kernel_rfl) (fun _ _ _ h => h) (.inl ⟨by rfl, fun W' hW' => ?_⟩) hS ?_
  · obtain ⟨u1, u2, u3⟩ := hW'
    go_simp
  dsimp only [Act.put]
  refine wpAnyH_done (by kernel_rfl) ?_ _
  go_wp2_with fail
  go_ret
  exact ⟨rfl, hb0.trans ⟨rfl, rfl, rfl, Nat.le_refl _, fun _ _ => rfl⟩⟩

set_option maxHeartbeats 8000000 in
theorem append_any (w : World) (X : Nat → Prop) (t q n : Nat) (S : DS) (lo hi p c : Nat) (h : Drum w X q n S) (ht : Tp w t q lo hi p c 0) (hx : ¬ X t) (hlh : lo ≤ hi) (hh : hi ≤ n) (hd : S.down = false) (hW : S.W.length < 10000) (hops : S.ops ≤ 100000) (hc : c ≤ 1048576)
    (r : List UInt8) (a : Option Addr) (fc : Nat) (hr : Sl.RdA w (.slice a r.length fc) r) (hrl : r.length ≤ 65536) (hpl : p + (12 + r.length) ≤ (hi - lo) * 256) (R : DS × Int) (hRR : R = layD S lo p (frB 0 c r) ((hi - lo) * 256)) (hR9 : R.2 = 0 ∨ R.2 = 20) :
    Calls Try.prog 44 #[.pointer (some ⟨t, 0, none⟩), .slice a r.length fc] w fun e w' => ∃ X', Drum w' X' q n R.1 ∧ Step (fun k => X k ∨ k = t) (fun k => X' k ∨ k = t) w w' ∧ (∀ k, X' k → X k ∨ w.heap.size ≤ k) ∧ e = .returned (.int .i64 R.2) ∧
      ((R.2 = 0 ∧ Tp w' t q lo hi (p + (12 + r.length)) (c + 1) 0) ∨ (R.2 = 20 ∧ Tp w' t q lo hi p c 20)) := by
  have hn : n ≤ 4096 := by obtain ⟨g, v, hr, ok⟩ := h; exact ok.top
  have hxl : ∀ k, X k → k < w.heap.size := by obtain ⟨g, v, hr, ok⟩ := h; exact hr.lt
  have HRR : Hid _ := hRR
  clear hRR
  have hpl0 := hpl
  have hmix : Try.prog.follows .mixedOrders = true := by kernel_rfl
  obtain ⟨hb0, hs0, hB0, hB1⟩ := apW_facts w t (.slice a r.length fc)
  have ht1 := ht.below hb0
  obtain ⟨t0, t1, t2, t3, t4, t5, tf⟩ := ht1.cells
  have c1 : (apW w t (.slice a r.length fc)).cell? ⟨w.heap.size, 0, none⟩ = some (.pointer (some ⟨t, 0, none⟩)) := by rw [cell_of_row _ _ _ _ _ _ hB0]; rfl
  have c2 : (apW w t (.slice a r.length fc)).cell? ⟨w.heap.size + 1, 0, none⟩ = some (.slice a r.length fc) := by rw [cell_of_row _ _ _ _ _ _ hB1]; rfl
  have i1 : ¬ (65536 : Int) < (r.length : Int) := by omega
  obtain ⟨sz, hsz⟩ : ∃ sz, sz = (hi - lo) * 256 := ⟨_, rfl⟩
  have HZ : Hid (sz = (hi - lo) * 256) := hsz
  rw [← hsz] at hpl
  have hsz9 : sz ≤ 1048576 ∧ p ≤ sz := by omega
  clear hsz
  obtain ⟨w1, hw1⟩ : ∃ w1, w1 = apW w t (.slice a r.length fc) := ⟨_, rfl⟩
  rw [← hw1] at hb0 hs0 hB0 hB1 ht1 t0 t1 t2 t3 t4 t5 c1 c2
  have tf1 : ∀ i, w1.frozen? ⟨t, i, none⟩ = false := by rw [hw1]; exact tf
  have HW1 : Hid (w1 = apW w t (.slice a r.length fc)) := hw1
  clear hw1 tf
  have N41 : Calls Try.prog 71 #[.pointer (some ⟨t, 0, none⟩)] w1.drew fun e w' => e = .returned (.int .i64 (sz : Int)) ∧ w' = w1.drew.drew := by rw [HZ.out]; exact size_any w1.drew t q lo hi p c 0 (ht1.on rfl) hlh (by omega)
  have w2' : IntKind.i64.wrap (12 + (r.length : Int)) = 12 + (r.length : Int) := wrapI _ (by omega) (by omega)
  have w9' : IntKind.i64.wrap ((sz : Int) - (p : Int)) = (sz : Int) - (p : Int) := wrapI _ (by omega) (by omega)
  have w10' : ¬ (sz : Int) - (p : Int) < 12 + (r.length : Int) := by omega
  have hS : w1.drew.cell? ⟨w.heap.size, 0, none⟩ = some (.pointer (some ⟨t, 0, none⟩)) ∧ w1.drew.cell? ⟨w.heap.size + 1, 0, none⟩ = some (.slice a r.length fc) ∧ w1.drew.cell? ⟨t, 3, none⟩ = some (.int .i64 p) := ⟨c1, c2, t3⟩
  have hW0 : w1 = (w.alloc (.cells #[.pointer (some ⟨t, 0, none⟩)] 72)).alloc (.cells #[.slice a r.length fc] 30) := HW1.out
  go_enter Try.func44, Try.ntmps44
  go_upto_region 1 with fail
  rw [← hW0]
  clear hW0
  go_wp2_with fail
  refine wp_region_held (S := fun W' => W'.cell? ⟨w.heap.size, 0, none⟩ = some (.pointer (some ⟨t, 0, none⟩)) ∧ W'.cell? ⟨w.heap.size + 1, 0, none⟩ = some (.slice a r.length fc) ∧ W'.cell? ⟨t, 3, none⟩ = some (.int .i64 p)) hmix ?_
  show wpAnyH _ _ _ _ _ _ _ _ w1.drew
  refine wpAnyH_take (i := 0) (v := .slice a r.length fc) rfl (by kernel_rfl) (by kernel_rfl) (by kernel_rfl) (fun _ _ _ h => h) (.inl ⟨by rfl, fun W' hW' => ?_⟩) hS ?_
  · obtain ⟨u1, u2, u3⟩ := hW'
    go_simp
  dsimp only [Act.put]
  refine wpAnyH_take (i := 1) (v := .int .i64 (r.length : Int)) rfl (by kernel_rfl) (by kernel_rfl) (by kernel_rfl) (fun _ _ _ h => h) (.inl ⟨by rfl, fun W' hW' => ?_⟩) hS ?_
  · obtain ⟨u1, u2, u3⟩ := hW'
    go_simp
  dsimp only [Act.put]
  refine wpAnyH_take (i := 2) (v := .int .i64 (12 + (r.length : Int))) rfl (by kernel_rfl) (by kernel_rfl) (by kernel_rfl) (fun _ _ _ h => h) (.inl ⟨by rfl, fun W' hW' => ?_⟩) hS ?_
  · obtain ⟨u1, u2, u3⟩ := hW'
    go_simp
  dsimp only [Act.put]
  refine wpAnyH_take (i := 3) (v := .pointer (some ⟨t, 0, none⟩)) rfl (by kernel_rfl) (by kernel_rfl) (by kernel_rfl) (fun _ _ _ h => h) (.inl ⟨by rfl, fun W' hW' => ?_⟩) hS ?_
  · obtain ⟨u1, u2, u3⟩ := hW'
    go_simp
  dsimp only [Act.put]
  refine wpAnyH_take (i := 5) (v := .pointer (some ⟨t, 0, none⟩)) rfl (by kernel_rfl) (by kernel_rfl) (by kernel_rfl) (fun _ _ _ h => h) (.inl ⟨by rfl, fun W' hW' => ?_⟩) hS ?_
  · obtain ⟨u1, u2, u3⟩ := hW'
    go_simp
  dsimp only [Act.put]
  refine wpAnyH_take (i := 6) (v := .pointer (some ⟨t, 0, none⟩)) rfl (by kernel_rfl) (by kernel_rfl) (by kernel_rfl) (fun _ _ _ h => h) (.inl ⟨by rfl, fun W' hW' => ?_⟩) hS ?_
  · obtain ⟨u1, u2, u3⟩ := hW'
    go_simp
  dsimp only [Act.put]
  refine wpAnyH_take (i := 7) (v := .pointer (some ⟨t, 3, none⟩)) rfl (by kernel_rfl) (by kernel_rfl) (by kernel_rfl) (fun _ _ _ h => h) (.inl ⟨by rfl, fun W' hW' => ?_⟩) hS ?_
  · obtain ⟨u1, u2, u3⟩ := hW'
    go_simp
  dsimp only [Act.put]
  refine wpAnyH_take (i := 8) (v := .int .i64 (p : Int)) rfl (by kernel_rfl) (by kernel_rfl) (by kernel_rfl) (fun _ _ _ h => h) (.inl ⟨by rfl, fun W' hW' => ?_⟩) hS ?_
  · obtain ⟨u1, u2, u3⟩ := hW'
    go_simp
  dsimp only [Act.put]
  refine wpAnyH_one (i := 4) (by kernel_rfl) rfl (by rfl) (fun K hK => ?_)
  go_simp
  refine N41.mono ?_
  rintro e w2 ⟨rfl, hw2⟩
  have hw2 := hw2.symm
  subst hw2
  show K _ _
  refine hK _ _ hS ?_
  clear hK K
  have hS : w1.drew.drew.cell? ⟨w.heap.size, 0, none⟩ = some (.pointer (some ⟨t, 0, none⟩)) ∧ w1.drew.drew.cell? ⟨w.heap.size + 1, 0, none⟩ = some (.slice a r.length fc) ∧ w1.drew.drew.cell? ⟨t, 3, none⟩ = some (.int .i64 p) := hS
  refine wpAnyH_take (i := 9) (v := .int .i64 ((sz : Int) - (p : Int))) rfl (by kernel_rfl) (by kernel_rfl) (by kernel_rfl) (fun _ _ _ h => h) (.inl ⟨by rfl, fun W' hW' => ?_⟩) hS ?_
  · obtain ⟨u1, u2, u3⟩ := hW'
    go_simp
  dsimp only [Act.put]
  refine wpAnyH_take (i := 10) (v := .bool false) rfl (by kernel_rfl) (by kernel_rfl) (by kernel_rfl) (fun _ _ _ h => h) (.inl ⟨by rfl, fun W' hW' => ?_⟩) hS ?_
  · obtain ⟨u1, u2, u3⟩ := hW'
    go_simp
  dsimp only [Act.put]
  refine wpAnyH_take (i := 11) (v := .bool false) rfl (by kernel_rfl) (by kernel_rfl) (by kernel_rfl) (fun _ _ _ h => h) (.inl ⟨by rfl, fun W' hW' => ?_⟩) hS ?_
  · obtain ⟨u1, u2, u3⟩ := hW'
    go_simp
  dsimp only [Act.put]
  refine wpAnyH_done (by kernel_rfl) ?_ _
  have hmf : ∀ (fn : Fn) (first cap : Array Value) (w : World), (Instr.makeFunc fn first cap).run Try.prog w = .ok (.func fn first cap) w := fun _ _ _ _ => rfl
  go_wp2_with fail
  obtain ⟨w3, hw3⟩ : ∃ w3, w3 = w1.drew.drew.drew := ⟨_, rfl⟩
  have hb3 : Below w.heap.size w w3 := by rw [hw3]; exact hb0.trans ⟨rfl, rfl, rfl, Nat.le_refl _, fun _ _ => rfl⟩
  have hs3 : w3.heap.size = w.heap.size + 2 := by rw [hw3]; exact hs0
  have hB30 : w3.heap[w.heap.size]? = some (.cells #[.pointer (some ⟨t, 0, none⟩)] 72 (0, 0)) := by rw [hw3]; exact hB0
  have hB31 : w3.heap[w.heap.size + 1]? = some (.cells #[.slice a r.length fc] 30 (0, 0)) := by rw [hw3]; exact hB1
  have hS3 : w3.cell? ⟨w.heap.size, 0, none⟩ = some (.pointer (some ⟨t, 0, none⟩)) := by rw [cell_of_row _ _ _ _ _ _ hB30]; rfl
  have ht3 : Tp w3 t q lo hi p c 0 := ht.below hb3
  refine wp_region_held (S := fun W' => W'.cell? ⟨w.heap.size, 0, none⟩ = some (.pointer (some ⟨t, 0, none⟩))) hmix ?_
  show wpAnyH _ _ _ _ _ _ _ _ w1.drew.drew.drew
  rw [← hw3]
  clear hw3
  refine wpAnyH_take (i := 0) (v := .pointer (some ⟨t, 0, none⟩)) rfl (by kernel_rfl) (by kernel_rfl) (by kernel_rfl) (fun _ _ _ h => h) (.inl ⟨by rfl, fun W' hW' => ?_⟩) hS3 ?_
  · have hW' : W'.cell? ⟨w.heap.size, 0, none⟩ = some (.pointer (some ⟨t, 0, none⟩)) := hW'
    go_simp
  dsimp only [Act.put]
  refine wpAnyH_take (i := 1) (v := .func (.func 73) #[] #[.pointer (some ⟨w.heap.size, 0, none⟩), .pointer (some ⟨w.heap.size + 1, 0, none⟩)]) rfl (by kernel_rfl) (by kernel_rfl) (by kernel_rfl) (fun _ _ _ h => h) (.inl ⟨by rfl, fun W' hW' => ?_⟩) hS3 ?_
  · go_simp
  dsimp only [Act.put]
  have hb4 : Below w3.heap.size w3 (w3.alloc (.cells #[.int .i64 0] 32)) := (Below.refl _ _).alloc (Nat.le_refl _) _
  have hE4 : (w3.alloc (.cells #[.int .i64 0] 32)).heap[w3.heap.size]? = some (.cells #[.int .i64 0] 32 (0, 0)) := heap_alloc_new w3 _
  obtain ⟨w4, hw4⟩ : ∃ w4, w4 = w3.alloc (.cells #[.int .i64 0] 32) := ⟨_, rfl⟩
  have hs4 : w4.heap.size = w.heap.size + 3 := by rw [hw4]; simp [hs3]
  rw [← hw4] at hb4 hE4
  have hb04 : Below w.heap.size w w4 := hb3.trans (hb4.mono hb3.size)
  have ht4 : Tp w4 t q lo hi p c 0 := ht.below hb04
  have htl := ht.lt
  have N42 := append1_any w4 X t q n S lo hi p c 0 (h.below hb04) ht4 hx hlh hh hd hW hops r a fc (Sl.RdA.on hr hb04) hrl hpl0 w.heap.size (w.heap.size + 1) ((hb4.block _ (by omega)).trans hB30) ((hb4.block _ (by omega)).trans hB31) (fun hxx => by have := hxl _ hxx; omega) (fun hxx => by have := hxl _ hxx; omega)
  rw [← HRR.out] at N42
  have N36 := guarded_any 73 (enters_of Try.func73 (by kernel_rfl) rfl) #[.pointer (some ⟨w.heap.size, 0, none⟩), .pointer (some ⟨w.heap.size + 1, 0, none⟩)] w3
    (fun w2 => R.2 = 0 ∧ ∃ X', Drum w2 X' q n R.1 ∧ Step X X' w4 w2) (fun m w2 => m = R.2 ∧ R.2 ≠ 0 ∧ ∃ X', Drum w2 X' q n R.1 ∧ Step X X' w4 w2) (by
      rw [← hw4]
      refine N42.mono ?_
      rintro e w2 ⟨X', g1, g2, g3⟩
      have e1 : w2.heap[w3.heap.size]? = some (.cells #[.int .i64 0] 32 (0, 0)) := by
        rw [g2.block _ (by omega) (fun hxx => by have := hxl _ hxx; omega)]; exact hE4
      refine ⟨⟨by rw [cell_of_row _ _ _ _ _ _ e1]; rfl, frozen_of_row _ _ 0 _ _ e1⟩, ?_⟩
      rcases g3 with ⟨g3, rfl⟩ | ⟨g3, rfl⟩
      · exact .inl ⟨rfl, g3, X', g1, g2⟩
      · exact .inr ⟨_, rfl, rfl, g3, X', g1, g2⟩)
  have N36' : Calls Try.prog 72 #[.func (.func 73) #[] #[.pointer (some ⟨w.heap.size, 0, none⟩), .pointer (some ⟨w.heap.size + 1, 0, none⟩)]] w3 fun e w' => e = .returned (.int .i64 R.2) ∧ ∃ w2 X', Drum w2 X' q n R.1 ∧ Step X X' w4 w2 ∧ w' = w2.setCell ⟨w.heap.size + 2, 0, none⟩ (.int .i64 R.2) := by
    refine N36.mono ?_
    rintro e w' (⟨rfl, w2, ⟨g0, X', g1, g2⟩, g3⟩ | ⟨m, rfl, w2, ⟨rfl, g0, X', g1, g2⟩, g3⟩)
    · rw [hs3] at g3; exact ⟨by rw [g0], w2, X', g1, g2, by rw [g0]; exact g3⟩
    · rw [hs3] at g3; exact ⟨rfl, w2, X', g1, g2, g3⟩
  clear N36 N42 hw4 N41
  refine wpAnyH_one (i := 2) (by kernel_rfl) rfl (by rfl) (fun K hK => ?_)
  go_simp
  refine N36'.mono ?_
  rintro e w5 ⟨rfl, w2, X', g1, g2, hw5⟩
  have ho5 : ∀ j, j ≠ w.heap.size + 2 → w5.heap[j]? = w2.heap[j]? := fun j hj => by rw [hw5]; exact heap_setCell_other _ _ _ _ hj
  have hs5 : w5.heap.size = w2.heap.size := by rw [hw5]; simp
  have hX' : ∀ j, X' j → X j ∨ w.heap.size + 3 ≤ j := fun j hj => (g2.grow j hj).imp id (fun h => by omega)
  have hd5 : Drum w5 X' q n R.1 := g1.on (Y := fun k => k = w.heap.size + 2) (Y' := fun k => k = w.heap.size + 2) ⟨by rw [hw5]; rfl, by rw [hw5]; rfl, by rw [hw5]; rfl, Nat.le_of_eq hs5.symm, fun j _ hj => ho5 j hj, fun _ h => .inl h⟩ (fun j hj e => by
    rcases hX' j hj with h | h
    · have := hxl j h; omega
    · omega)
  have hkp : ∀ j, j < w.heap.size + 2 → ¬ X j → w5.heap[j]? = w4.heap[j]? := fun j hj hxj => (ho5 j (by omega)).trans (g2.block j (by omega) hxj)
  have ht5 : Tp w5 t q lo hi p c 0 := ht4.on (hkp _ (by omega) hx)
  have hB50 : w5.heap[w.heap.size]? = some (.cells #[.pointer (some ⟨t, 0, none⟩)] 72 (0, 0)) := (hkp _ (by omega) (fun hxx => by have := hxl _ hxx; omega)).trans ((hb4.block _ (by omega)).trans hB30)
  have hB51 : w5.heap[w.heap.size + 1]? = some (.cells #[.slice a r.length fc] 30 (0, 0)) := (hkp _ (by omega) (fun hxx => by have := hxl _ hxx; omega)).trans ((hb4.block _ (by omega)).trans hB31)
  have hS5 : w5.cell? ⟨w.heap.size, 0, none⟩ = some (.pointer (some ⟨t, 0, none⟩)) := by rw [cell_of_row _ _ _ _ _ _ hB50]; rfl
  have hst5 : Step X X' w w5 := ⟨by rw [hw5]; exact g2.os.trans hb04.os, by rw [hw5]; exact g2.tape.trans hb04.tape, by rw [hw5]; exact g2.output.trans hb04.output, by rw [hs5]; have := g2.size; omega, fun j hj hxj => (hkp j (by omega) hxj).trans (hb04.block j hj), fun j hj => (hX' j hj).imp id (fun h => by omega)⟩
  clear hw5
  show K _ _
  refine hK _ _ hS5 ?_
  clear hK K
  refine wpAnyH_take (i := 3) (v := .pointer (some ⟨t, 0, none⟩)) rfl (by kernel_rfl) (by kernel_rfl) (by kernel_rfl) (fun _ _ _ h => h) (.inl ⟨by rfl, fun W' hW' => ?_⟩) hS5 ?_
  · go_simp
  dsimp only [Act.put]
  refine wpAnyH_take (i := 4) (v := .pointer (some ⟨t, 5, none⟩)) rfl (by kernel_rfl) (by kernel_rfl) (by kernel_rfl) (fun _ _ _ h => h) (.inl ⟨by rfl, fun W' hW' => ?_⟩) hS5 ?_
  · go_simp
  dsimp only [Act.put]
  obtain ⟨u0, u1, u2, u3, u4, u5, uf⟩ := ht5.cells
  refine wpAnyH_one (i := 5) (by kernel_rfl) rfl (by rfl) (fun K hK => ?_)
  go_simp
  obtain ⟨w6, hw6⟩ : ∃ w6, w6 = w5.setCell ⟨t, 5, none⟩ (.int .i64 R.2) := ⟨_, rfl⟩
  rw [← hw6]
  have ho6 : ∀ j, j ≠ t → w6.heap[j]? = w5.heap[j]? := fun j hj => by rw [hw6]; exact heap_setCell_other _ _ _ _ hj
  have hs6 : w6.heap.size = w5.heap.size := by rw [hw6]; simp
  have hc60 := (ho6 (w.heap.size) (by omega)).trans hB50
  have hc61 := (ho6 (w.heap.size + 1) (by omega)).trans hB51
  have hS6 : w6.cell? ⟨w.heap.size, 0, none⟩ = some (.pointer (some ⟨t, 0, none⟩)) := by rw [cell_of_row _ _ _ _ _ _ hc60]; rfl
  have hS61 : w6.cell? ⟨w.heap.size + 1, 0, none⟩ = some (.slice a r.length fc) := by rw [cell_of_row _ _ _ _ _ _ hc61]; rfl
  obtain ⟨Rn, hRn⟩ : ∃ Rn : Nat, R.2 = (Rn : Int) ∧ (Rn = 0 ∨ Rn = 20) := by
    rcases hR9 with h | h
    · exact ⟨0, h, .inl rfl⟩
    · exact ⟨20, h, .inr rfl⟩
  have ht6 : Tp w6 t q lo hi p c Rn := by
    refine ⟨?_⟩
    rw [hw6, heap_setCell_same _ _ _ _ _ _ ht5.b, hRn.1]
    rfl
  have hd6 : Drum w6 X' q n R.1 := hd5.on (Y := fun k => k = t) (Y' := fun k => k = t) ⟨by rw [hw6]; rfl, by rw [hw6]; rfl, by rw [hw6]; rfl, Nat.le_of_eq hs6.symm, fun j _ hj => ho6 j hj, fun _ h => .inl h⟩ (fun j hj e => by
    rcases hX' j hj with h | h
    · exact hx (e ▸ h)
    · omega)
  have hst6 : Step (fun k => X k ∨ k = t) (fun k => X' k ∨ k = t) w w6 := ⟨by rw [hw6]; exact hst5.os, by rw [hw6]; exact hst5.tape, by rw [hw6]; exact hst5.output, by rw [hs6]; exact hst5.size, fun j hj hxj => (ho6 j (fun e => hxj (.inr e))).trans (hst5.block j hj (fun e => hxj (.inl e))), fun j hj => by
    rcases hj with h | h
    · rcases hX' j h with h | h
      · exact .inl (.inl h)
      · exact .inr (by omega)
    · exact .inl (.inr h)⟩
  clear hw6
  refine hK _ _ hS6 ?_
  clear hK K
  refine wpAnyH_done (by kernel_rfl) ?_ _
  obtain ⟨y0, y1, y2, y3, y4, y5, yf⟩ := ht6.cells
  have hRe := hRn.1
  have HRe : Hid _ := hRe
  rcases hRn.2 with rfl | rfl
  · have N45 := pass_any w6 t q lo hi p c 0 r.length ht6 (by omega) (by omega) (by omega)
    clear hRe hRn
    have hlt6 : w.heap.size < w6.heap.size := by rw [hs6, hs5]; have := g2.size; omega
    have hzz : ∀ w7 : World, Step (fun k => k = t) (fun k => k = t) w6 w7 → w7.cell? ⟨w.heap.size, 0, none⟩ = some (.pointer (some ⟨t, 0, none⟩)) := fun w7 h7 => by
      have e7 := (h7.block w.heap.size hlt6 (by show ¬ (w.heap.size = t); omega)).trans hc60
      rw [cell_of_row _ _ _ _ _ _ e7]; rfl
    go_wp2_with (go_at_call 76; refine N45.mono ?_; rintro e w7 ⟨rfl, hT7, hst7⟩; have z1 := hzz w7 hst7; obtain ⟨x0, x1, x2, x3, x4, x5, xf⟩ := hT7.cells)
    go_ret
    have hd7 : Drum w7 X' q n R.1 := hd6.on hst7 (fun j hj e => by
      rcases hX' j hj with h | h
      · exact hx (e ▸ h)
      · omega)
    exact ⟨X', hd7, ⟨hst7.os.trans hst6.os, hst7.tape.trans hst6.tape, hst7.output.trans hst6.output, Nat.le_trans hst6.size hst7.size, fun j hj hxj => (hst7.block j (Nat.lt_of_lt_of_le hj hst6.size) (fun e => hxj (.inr e))).trans (hst6.block j hj hxj), hst6.grow⟩, fun j hj => (hX' j hj).imp id (fun h => by omega), by rw [HRe.out]; rfl, .inl ⟨by rw [HRe.out]; rfl, hT7⟩⟩
  · clear hRe hRn
    go_wp2_with fail
    go_ret
    exact ⟨X', hd6, hst6, fun j hj => (hX' j hj).imp id (fun h => by omega), by rw [HRe.out]; rfl, .inr ⟨by rw [HRe.out]; rfl, ht6⟩⟩
end Go.Proofs.Ythgkkmcpmhfehaa
