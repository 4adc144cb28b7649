/- tape.Open. -/
import Derived.Test.YthgkkmcpmhfehaaRs
namespace Go.Proofs.Ythgkkmcpmhfehaa
open Go.RowKit Go.Lib Go.Shelf
set_option maxRecDepth 100000

set_option maxHeartbeats 1000000 in
theorem open1_any (w : World) (X : Nat → Prop) (t q n : Nat) (S : DS) (lo hi p c met : Nat) (h : Drum w X q n S) (ht : Tp w t q lo hi p c met) (hx : ¬ X t) (hlh : lo ≤ hi) (hh : hi ≤ n) (hp : p ≤ (hi - lo) * 256) (hc : c ≤ p) (hd : S.down = false)
    (rs : List (List UInt8)) (k : Nat) (hch : Chain S.P lo ((hi - lo) * 256) rs p c k) (hrs : rs.length ≤ 5000) (tb rb : Nat) (htb : w.heap[tb]? = some (.cells #[.pointer (some ⟨t, 0, none⟩)] 72 (0, 0))) (hrb : w.heap[rb]? = some (.cells #[.slice none 0 0] 31 (0, 0))) :
    Calls Try.prog 84 #[.pointer (some ⟨tb, 0, none⟩), .pointer (some ⟨rb, 0, none⟩)] w fun e w' =>
      ((k = 0 ∧ ∃ v w1, e = .returned (.tuple #[]) ∧ Step (fun k => k = t) (fun k => k = t) w w1 ∧ Recs w1 w.heap.size v rs ∧ Tp w1 t q lo hi (p + tot rs) (c + rs.length) met ∧ w' = w1.setCell ⟨rb, 0, none⟩ v) ∨ ((k = 11 ∨ k = 12) ∧ e = .panicked (gup (k : Int)) ∧ Step (fun k => k = t) (fun k => k = t) w w')) := by
  have c1 : w.cell? ⟨tb, 0, none⟩ = some (.pointer (some ⟨t, 0, none⟩)) := by rw [cell_of_row _ _ _ _ _ _ htb]; rfl
  have N38 := rest_any w X t q n S lo hi p c met h ht hx hlh hh hp hc hd rs k hch hrs
  have hrt : rb ≠ t := ne_type hrb ht.b (by decide)
  have hrl : rb < w.heap.size := (Array.getElem?_eq_some_iff.1 hrb).1
  go_enter Try.func84, Try.ntmps84
  go_wp2_with fail
  refine N38.mono ?_
  rintro e w1 ⟨hs1, ⟨hk, v, rfl, hR, hT⟩ | ⟨hk, rfl⟩⟩
  · have hb1 := (hs1.block rb hrl hrt).trans hrb
    have d1 : w1.cell? ⟨rb, 0, none⟩ = some (.slice none 0 0) := by rw [cell_of_row _ _ _ _ _ _ hb1]; rfl
    have d2 : w1.frozen? ⟨rb, 0, none⟩ = false := frozen_of_row _ _ 0 _ _ hb1
    have hfin : Hid _ := And.intro hR hT
    obtain ⟨va, vc, rfl⟩ := hR.shape
    clear hR
    go_wp2_with fail
    go_end0
    exact .inl ⟨hk, _, w1, rfl, hs1, hfin.out.1, hfin.out.2, rfl⟩
  · exact ⟨rfl, .inr ⟨hk, rfl, hs1⟩⟩

/-- What Open lays ahead of the guarded call. -/
def opW (w : World) (q lo hi : Nat) : World := ((w.alloc (.cells #[.pointer (some ⟨q, 0, none⟩), .int .i64 lo, .int .i64 hi, .int .i64 0, .int .i64 0, .int .i64 0] 101)).alloc (.cells #[.pointer (some ⟨w.heap.size, 0, none⟩)] 72)).alloc (.cells #[.slice none 0 0] 31)
theorem opW_facts (w : World) (q lo hi : Nat) : Below w.heap.size w (opW w q lo hi) ∧ (opW w q lo hi).heap.size = w.heap.size + 3 ∧ Tp (opW w q lo hi) w.heap.size q lo hi 0 0 0 ∧
    (opW w q lo hi).heap[w.heap.size + 1]? = some (.cells #[.pointer (some ⟨w.heap.size, 0, none⟩)] 72 (0, 0)) ∧ (opW w q lo hi).heap[w.heap.size + 2]? = some (.cells #[.slice none 0 0] 31 (0, 0)) := by
  unfold opW
  refine ⟨(((Below.refl _ w).alloc (Nat.le_refl _) _).alloc (by simp only [World.size_alloc]; omega) _).alloc (by simp only [World.size_alloc]; omega) _, by simp only [World.size_alloc], ⟨?_⟩, ?_, ?_⟩
  all_goals
    simp only [alloc_at', World.size_alloc]
    repeat (first | rw [if_pos (by omega)] | rw [if_neg (by omega)])
    try rfl

set_option maxHeartbeats 4000000 in
theorem open_any (w : World) (X : Nat → Prop) (q n : Nat) (S : DS) (lo hi : Nat) (h : Drum w X q n S) (hlh : lo < hi) (hh : hi ≤ n) (hd : S.down = false)
    (rs : List (List UInt8)) (k : Nat) (hch : Chain S.P lo ((hi - lo) * 256) rs 0 0 k) (hrs : rs.length ≤ 5000) :
    Calls Try.prog 66 #[.pointer (some ⟨q, 0, none⟩), .int .i64 lo, .int .i64 hi] w fun e w' => Below w.heap.size w w' ∧
      ((k = 0 ∧ ∃ v t, e = .returned (.tuple #[.pointer (some ⟨t, 0, none⟩), v, .int .i64 0]) ∧ w.heap.size ≤ t ∧ Recs w' w.heap.size v rs ∧ Tp w' t q lo hi (tot rs) rs.length 0) ∨ ((k = 11 ∨ k = 12) ∧ e = .returned (.tuple #[.pointer none, .slice none 0 0, .int .i64 (k : Int)]))) := by
  have hn : n ≤ 4096 := by obtain ⟨g, v, hr, ok⟩ := h; exact ok.top
  have hmf : ∀ (fn : Fn) (first cap : Array Value) (w : World), (Instr.makeFunc fn first cap).run Try.prog w = .ok (.func fn first cap) w := fun _ _ _ _ => rfl
  have N35 := pages_any w X q n S h
  have i1 : ¬ (lo : Int) < 0 := by omega
  have i2 : ¬ (hi : Int) ≤ (lo : Int) := by omega
  have i3 : ¬ (n : Int) < (hi : Int) := by omega
  go_enter Try.func66, Try.ntmps66
  go_wp2_with (go_at_call 34; refine N35.mono ?_; rintro e w' ⟨rfl, he⟩; have he := he.symm; subst he)
  simp only [Nat.add_assoc, Nat.reduceAdd]
  show Calls Try.prog 72 _ (opW w q lo hi) _
  obtain ⟨hb0, hs0, hT0, hB1, hB2⟩ := opW_facts w q lo hi
  generalize opW w q lo hi = W at *
  have hb4 : Below W.heap.size W (W.alloc (.cells #[.int .i64 0] 32)) := (Below.refl _ _).alloc (Nat.le_refl _) _
  have hE4 : (W.alloc (.cells #[.int .i64 0] 32)).heap[W.heap.size]? = some (.cells #[.int .i64 0] 32 (0, 0)) := heap_alloc_new W _
  have hxs : ∀ j, X j → j < w.heap.size := by obtain ⟨g, v, hr, ok⟩ := h; exact hr.lt
  obtain ⟨W4, hW4⟩ : ∃ W4, W4 = W.alloc (.cells #[.int .i64 0] 32) := ⟨_, rfl⟩
  have hs4 : W4.heap.size = W.heap.size + 1 := by rw [hW4]; simp
  rw [← hW4] at hb4 hE4
  have N37 := open1_any W4 X w.heap.size q n S lo hi 0 0 0 (h.below (hb0.trans (hb4.mono hb0.size))) (hT0.below hb4) (fun hx => Nat.lt_irrefl _ (hxs _ hx)) (by omega) hh (by omega) (by omega) hd rs k hch hrs (w.heap.size + 1) (w.heap.size + 2) ((hb4.block _ (by omega)).trans hB1) ((hb4.block _ (by omega)).trans hB2)
  refine (guarded_any 84 (enters_of Try.func84 (by kernel_rfl) rfl) _ W
    (fun w2 => k = 0 ∧ ∃ v w1, Step (fun k => k = w.heap.size) (fun k => k = w.heap.size) W4 w1 ∧ Recs w1 W4.heap.size v rs ∧ Tp w1 w.heap.size q lo hi (0 + tot rs) (0 + rs.length) 0 ∧ w2 = w1.setCell ⟨w.heap.size + 2, 0, none⟩ v)
    (fun m w2 => (k = 11 ∨ k = 12) ∧ m = (k : Int) ∧ Step (fun k => k = w.heap.size) (fun k => k = w.heap.size) W4 w2) ?_).mono ?_
  · rw [← hW4]
    refine N37.mono ?_
    rintro e w2 (⟨hk, v, w1, rfl, hst, hR, hT, rfl⟩ | ⟨hk, rfl, hst⟩)
    · have e1 : (w1.setCell ⟨w.heap.size + 2, 0, none⟩ v).heap[W.heap.size]? = some (.cells #[.int .i64 0] 32 (0, 0)) := by
        rw [heap_setCell_other _ _ _ _ (by show W.heap.size ≠ w.heap.size + 2; omega), hst.block _ (by omega) (by omega)]; exact hE4
      exact ⟨⟨by rw [cell_of_row _ _ _ _ _ _ e1]; rfl, frozen_of_row _ _ 0 _ _ e1⟩, .inl ⟨rfl, hk, v, w1, hst, hR, hT, rfl⟩⟩
    · have e1 : w2.heap[W.heap.size]? = some (.cells #[.int .i64 0] 32 (0, 0)) := by
        rw [hst.block _ (by omega) (by omega)]; exact hE4
      exact ⟨⟨by rw [cell_of_row _ _ _ _ _ _ e1]; rfl, frozen_of_row _ _ 0 _ _ e1⟩, .inr ⟨_, rfl, hk, rfl, hst⟩⟩
  rintro e w3 (⟨rfl, w2, ⟨hk, v, w1, hst, hR, hT, rfl⟩, rfl⟩ | ⟨m, rfl, w2, ⟨hk, rfl, hst⟩, rfl⟩)
  · have hlt : ∀ j, j < w.heap.size → ((w1.setCell ⟨w.heap.size + 2, 0, none⟩ v).setCell ⟨W.heap.size, 0, none⟩ (.int .i64 0)).heap[j]? = w.heap[j]? := fun j hj => by
      rw [heap_setCell_other _ _ _ _ (by show j ≠ W.heap.size; omega), heap_setCell_other _ _ _ _ (by show j ≠ w.heap.size + 2; omega), hst.block j (by omega) (by omega), hb4.block j (by omega)]
      exact hb0.block j hj
    have f1 : w1.heap[w.heap.size + 1]? = some (.cells #[.pointer (some ⟨w.heap.size, 0, none⟩)] 72 (0, 0)) := by
      rw [hst.block _ (by omega) (by omega), hb4.block _ (by omega)]; exact hB1
    have f2 : w1.heap[w.heap.size + 2]? = some (.cells #[.slice none 0 0] 31 (0, 0)) := by
      rw [hst.block _ (by omega) (by omega), hb4.block _ (by omega)]; exact hB2
    have f3 : w1.heap[W.heap.size]? = some (.cells #[.int .i64 0] 32 (0, 0)) := by
      rw [hst.block _ (by omega) (by omega)]; exact hE4
    obtain ⟨W5, hW5⟩ : ∃ W5, W5 = (w1.setCell ⟨w.heap.size + 2, 0, none⟩ v).setCell ⟨W.heap.size, 0, none⟩ (.int .i64 0) := ⟨_, rfl⟩
    rw [← hW5] at hlt ⊢
    have hkeep : ∀ (j : Nat) (c : Array Value) (e : TypeId), (e = 5 ∨ e = 30 ∨ e = 101) → w1.heap[j]? = some (.cells c e (0, 0)) → W5.heap[j]? = w1.heap[j]? := fun j c e he hj => by
      have n1 : j ≠ w.heap.size + 2 := ne_type hj f2 (by rcases he with rfl | rfl | rfl <;> decide)
      have n2 : j ≠ W.heap.size := ne_type hj f3 (by rcases he with rfl | rfl | rfl <;> decide)
      rw [hW5, heap_setCell_other _ _ _ _ n2, heap_setCell_other _ _ _ _ n1]
    have hR5 : Recs W5 W4.heap.size v rs := hR.on (fun j c e he hj => hkeep j c e (by rcases he with rfl | rfl <;> simp) hj)
    have hR6 : Recs W5 w.heap.size v rs := by
      obtain ⟨vals, ho, hbv, hrr⟩ := hR5
      exact ⟨vals, ho, fun j hj => by have := hbv j hj; omega, fun i r hi => by obtain ⟨u, hu, g, h1, h2, h3⟩ := hrr i r hi; exact ⟨u, hu, g, h1, by omega, h3⟩⟩
    have hT5 : Tp W5 w.heap.size q lo hi (tot rs) rs.length 0 := by rw [Nat.zero_add, Nat.zero_add] at hT; exact hT.on (hkeep _ _ 101 (by simp) hT.b)
    have g1 : W5.heap[w.heap.size + 1]? = some (.cells #[.pointer (some ⟨w.heap.size, 0, none⟩)] 72 (0, 0)) := by
      rw [hW5, heap_setCell_other _ _ _ _ (by show w.heap.size + 1 ≠ W.heap.size; omega), heap_setCell_other _ _ _ _ (by show w.heap.size + 1 ≠ w.heap.size + 2; omega)]; exact f1
    have g2 : W5.heap[w.heap.size + 2]? = some (.cells #[v] 31 (0, 0)) := by
      rw [hW5, heap_setCell_other _ _ _ _ (by show w.heap.size + 2 ≠ W.heap.size; omega)]
      exact heap_setCell_same _ _ _ _ _ _ f2
    have hB : Below w.heap.size w W5 := by
      refine ⟨?_, ?_, ?_, ?_, hlt⟩
      · rw [hW5]; exact (hst.os.trans hb4.os).trans hb0.os
      · rw [hW5]; exact (hst.tape.trans hb4.tape).trans hb0.tape
      · rw [hW5]; exact (hst.output.trans hb4.output).trans hb0.output
      · rw [hW5]; simp; have := hst.size; omega
    have d1 : W5.cell? ⟨w.heap.size + 1, 0, none⟩ = some (.pointer (some ⟨w.heap.size, 0, none⟩)) := by rw [cell_of_row _ _ _ _ _ _ g1]; rfl
    have d2 : W5.cell? ⟨w.heap.size + 2, 0, none⟩ = some v := by rw [cell_of_row _ _ _ _ _ _ g2]; rfl
    have hfin : Hid _ := And.intro hR6 hT5
    obtain ⟨va, vc, rfl⟩ := hR6.shape
    clear hW5 hR hR5 hR6 hT5 hT g1 g2 f1 f2 f3 hkeep hlt hE4 hW4 N37 N35
    go_wp2_with fail
    go_quiet (fail)
    go_wp2
    go_ret3
    exact ⟨hB.trans ⟨rfl, rfl, rfl, Nat.le_refl _, fun _ _ => rfl⟩, .inl ⟨hk, _, w.heap.size, rfl, Nat.le_refl _, hfin.out.1.below ⟨rfl, rfl, rfl, Nat.le_refl _, fun _ _ => rfl⟩, hfin.out.2.on rfl⟩⟩
  · have hB : Below w.heap.size w (w2.setCell ⟨W.heap.size, 0, none⟩ (.int .i64 (k : Int))) := by
      refine ⟨(hst.os.trans hb4.os).trans hb0.os, (hst.tape.trans hb4.tape).trans hb0.tape, (hst.output.trans hb4.output).trans hb0.output, by simp; have := hst.size; omega, fun j hj => ?_⟩
      rw [heap_setCell_other _ _ _ _ (by show j ≠ W.heap.size; omega), hst.block j (by omega) (by omega), hb4.block j (by omega)]
      exact hb0.block j hj
    have hk0 : ¬ (k : Int) = 0 := by omega
    go_wp2_with fail
    go_ret3
    exact ⟨by rw [← hs0]; exact hB, .inr ⟨hk, rfl⟩⟩
end Go.Proofs.Ythgkkmcpmhfehaa
