/- What Off, operate, Flush, Read, New and the law's own full do. -/
import Derived.Test.YthgkkmcpmhfehaaTake
import Derived.Deep.WholeRow
namespace Go.Proofs.Ythgkkmcpmhfehaa
open Go.RowKit Go.Lib
attribute [local go_sem ↓] Go.wp_at_zero Go.wp_at_succ

theorem getD_mem {α : Type} (W : List α) (j : Nat) (d : α) (hj : j < W.length) : W.getD j d ∈ W := by
  rw [List.getD_eq_getElem?_getD, List.getElem?_eq_getElem hj]; exact List.getElem_mem _
theorem undo_length (k n : Nat) (W : List (Nat × List UInt8)) (hW : ∀ x ∈ W, x.1 < n ∧ x.2.length = 256) : ∀ (j : Nat) (P : List UInt8), j ≤ W.length → P.length = n * 256 → (undo k W j P).length = n * 256
  | 0, P, _, h => h
  | j + 1, P, hj, h => by
    have hw := hW _ (getD_mem W j (0, []) (by omega))
    refine undo_length k n W hW j _ (by omega) ?_
    rw [length_splice, h]
    rw [List.length_drop, hw.2, h]
    have : keptAt k j ≤ 256 := Nat.min_le_right _ _
    omega

/-- The power goes. -/
def DS.off (S : DS) (k : Int) : DS := if S.down then S else { P := undo k.toNat S.W S.W.length S.P, W := [], ops := S.ops, down := true, armed := 0, keep := 0 }
theorem DS.Ok.off {S : DS} {n : Nat} (h : S.Ok n) (k : Int) : (S.off k).Ok n := by
  unfold DS.off
  split
  · exact h
  · exact ⟨undo_length _ n S.W h.wait _ _ (Nat.le_refl _) h.len, h.pos, h.top, fun x hx => (by cases hx), (by show 0 < 9223372036854775808; omega), (by show -9223372036854775808 ≤ (0 : Int); omega), (by show (0 : Int) < 9223372036854775808; omega)⟩

theorem off_nil (w : World) (k : Int) : Calls Try.prog 20 #[.pointer none, .int .i64 k] w fun e w' => e = .returned (.tuple #[]) ∧ w' = w := by
  go_enter Try.func20, Try.ntmps20
  go_wp2
  refine bodyPost_ret (results_none rfl _ _ _) rfl ?_
  exact ⟨rfl, rfl⟩
set_option maxHeartbeats 1000000 in
theorem off_any (w : World) (X : Nat → Prop) (q n : Nat) (S : DS) (k : Int) (hk : -9223372036854775808 ≤ k) (hk' : k < 9223372036854775808) (hW : S.W.length ≤ 100000) (h : Drum w X q n S) :
    Calls Try.prog 20 #[.pointer (some ⟨q, 0, none⟩), .int .i64 k] w fun e w' => e = .returned (.tuple #[]) ∧ Drum w' X q n (S.off k) ∧ Step X X w w' := by
  obtain ⟨g, v, hr, ok⟩ := h
  obtain ⟨c0, c1, c2, c3, c4, c5, fz⟩ := hr.cells
  by_cases hd : S.down = true
  · have e : S.off k = S := by unfold DS.off; rw [if_pos hd]
    rw [e]
    go_enter Try.func20, Try.ntmps20
    go_wp2
    refine bodyPost_ret (results_none rfl _ _ _) rfl ?_
    exact ⟨rfl, ⟨g, v, hr, ok⟩, Step.refl X w⟩
  · have hd' : S.down = false := by simpa using hd
    have e : S.off k = { P := undo k.toNat S.W S.W.length S.P, W := [], ops := S.ops, down := true, armed := 0, keep := 0 } := by unfold DS.off; rw [if_neg hd]
    have HE : Hid (S.off k = { P := undo k.toNat S.W S.W.length S.P, W := [], ops := S.ops, down := true, armed := 0, keep := 0 }) := e
    have HO : Hid ((S.off k).Ok n) := ok.off k
    have N31 := take_any w X q g n (S.cells g n v) ⟨_, _, _, _, _, rfl⟩ S.P v S.W k.toNat (by omega) hr ok.len ok.wait hW rfl
    generalize S.off k = S' at *
    clear e
    have t0 : ∀ z : Int, (k.toNat : Int) = z → Calls Try.prog 51 #[.pointer (some ⟨q, 0, none⟩), .int .i64 z] w fun e w' => e = .returned (.tuple #[]) ∧ Raw w' X q g (S.cells g n v) (undo k.toNat S.W S.W.length S.P) v S.W ∧ Step X X w w' := by
      rintro z rfl; exact N31
    clear N31
    go_enter Try.func20, Try.ntmps20
    go_wp2_with (go_at_call 51; refine (t0 _ (by omega)).mono ?_; rintro e w2 ⟨rfl, hr2, hs2⟩; obtain ⟨k0, k1, k2, k3, k4, k5, kz⟩ := hr2.cells)
    all_goals
      go_wp2
      go_end0
      refine ⟨rfl, ⟨g, .slice none 0 0, ?_, HO.out⟩, ?_⟩
      · rw [HE.out]
        exact ((((hr2.set 1 _).set 4 _).set 5 _).set 3 _).free
      · exact (((hs2.set hr.hq _).set hr.hq _).set hr.hq _).set hr.hq _

/-- A raw operation: counted; the power may go in it. -/
def DS.oper (S : DS) : DS × Int :=
  if S.armed = 0 then ({ S with ops := S.ops + 1 }, 0)
  else if S.armed = 1 then (({ S with ops := S.ops + 1, armed := 0 } : DS).off S.keep, 20)
  else ({ S with ops := S.ops + 1, armed := S.armed - 1 }, 0)

set_option maxHeartbeats 1000000 in
theorem oper_any (w : World) (X : Nat → Prop) (q n : Nat) (S : DS) (hW : S.W.length ≤ 100000) (hops : S.ops ≤ 1000000) (h : Drum w X q n S) :
    Calls Try.prog 53 #[.pointer (some ⟨q, 0, none⟩)] w fun e w' => e = .returned (.int .i64 S.oper.2) ∧ Drum w' X q n S.oper.1 ∧ Step X X w w' := by
  obtain ⟨g, v, hr, ok⟩ := h
  obtain ⟨c0, c1, c2, c3, c4, c5, fz⟩ := hr.cells
  by_cases h0 : S.armed = 0
  · have e : S.oper = ({ S with ops := S.ops + 1 }, 0) := by unfold DS.oper; rw [if_pos h0]
    rw [e]
    rw [h0] at c4
    go_enter Try.func53, Try.ntmps53
    go_wp2
    go_ret
    exact ⟨rfl, ⟨g, v, hr.set 2 _, ok.len, ok.pos, ok.top, ok.wait, ok.arm, ok.lo, ok.hi⟩, (Step.refl X w).set hr.hq _⟩
  · have ha := ok.arm
    have ha0 : ¬ (S.armed : Int) = 0 := by omega
    by_cases h1 : S.armed = 1
    · have e : S.oper = (({ S with ops := S.ops + 1, armed := 0 } : DS).off S.keep, 20) := by unfold DS.oper; rw [if_neg h0, if_pos h1]
      rw [e]
      have hS2 : Drum ((w.setCell ⟨q, 2, none⟩ (.int .i64 ((S.ops : Int) + 1))).setCell ⟨q, 4, none⟩ (.int .i64 0)) X q n { S with ops := S.ops + 1, armed := 0 } :=
        ⟨g, v, (hr.set 2 _).set 4 _, ok.len, ok.pos, ok.top, ok.wait, (by show 0 < 9223372036854775808; omega), ok.lo, ok.hi⟩
      have hst : Step X X w ((w.setCell ⟨q, 2, none⟩ (.int .i64 ((S.ops : Int) + 1))).setCell ⟨q, 4, none⟩ (.int .i64 0)) := ((Step.refl X w).set hr.hq _).set hr.hq _
      have N19 := off_any _ X q n { S with ops := S.ops + 1, armed := 0 } S.keep ok.lo ok.hi hW hS2
      generalize ({ S with ops := S.ops + 1, armed := 0 } : DS) = S2 at *
      rw [h1] at c4
      go_enter Try.func53, Try.ntmps53
      go_wp2_with (go_at_call 20; refine N19.mono ?_; rintro e w2 ⟨rfl, hd2, hs2⟩)
      go_wp2
      go_ret
      exact ⟨rfl, hd2, hst.trans hs2⟩
    · have e : S.oper = ({ S with ops := S.ops + 1, armed := S.armed - 1 }, 0) := by unfold DS.oper; rw [if_neg h0, if_neg h1]
      rw [e]
      have e2 : ((S.armed - 1 : Nat) : Int) = (S.armed : Int) - 1 := by omega
      have hS2 : Drum ((w.setCell ⟨q, 2, none⟩ (.int .i64 ((S.ops : Int) + 1))).setCell ⟨q, 4, none⟩ (.int .i64 ((S.armed : Int) - 1))) X q n { S with ops := S.ops + 1, armed := S.armed - 1 } := by
        rw [← e2]
        exact ⟨g, v, (hr.set 2 _).set 4 _, ok.len, ok.pos, ok.top, ok.wait, (by show S.armed - 1 < _; omega), ok.lo, ok.hi⟩
      have hst : Step X X w ((w.setCell ⟨q, 2, none⟩ (.int .i64 ((S.ops : Int) + 1))).setCell ⟨q, 4, none⟩ (.int .i64 ((S.armed : Int) - 1))) := ((Step.refl X w).set hr.hq _).set hr.hq _
      clear e2
      go_enter Try.func53, Try.ntmps53
      go_wp2
      go_ret
      exact ⟨rfl, hS2, hst⟩

/-- Flush. -/
def DS.flush (S : DS) : DS × Int := if S.down then (S, 20) else ({ S.oper.1 with W := [] }, S.oper.2)
theorem flush_nil (w : World) : Calls Try.prog 26 #[.pointer none] w fun e w' => e = .returned (.int .i64 2) ∧ w' = w := by
  go_enter Try.func26, Try.ntmps26
  go_wp2
  go_ret
  exact ⟨rfl, rfl⟩
set_option maxHeartbeats 1000000 in
theorem flush_any (w : World) (X : Nat → Prop) (q n : Nat) (S : DS) (hW : S.W.length ≤ 100000) (hops : S.ops ≤ 1000000) (h : Drum w X q n S) :
    Calls Try.prog 26 #[.pointer (some ⟨q, 0, none⟩)] w fun e w' => e = .returned (.int .i64 S.flush.2) ∧ Drum w' X q n S.flush.1 ∧ Step X X w w' := by
  have N28 := oper_any w X q n S hW hops h
  obtain ⟨g, v, hr, ok⟩ := h
  obtain ⟨c0, c1, c2, c3, c4, c5, fz⟩ := hr.cells
  by_cases hd : S.down = true
  · have e : S.flush = (S, 20) := by unfold DS.flush; rw [if_pos hd]
    rw [e]
    clear N28
    go_enter Try.func26, Try.ntmps26
    go_wp2
    go_ret
    exact ⟨rfl, ⟨g, v, hr, ok⟩, Step.refl X w⟩
  · have e : S.flush = ({ S.oper.1 with W := [] }, S.oper.2) := by unfold DS.flush; rw [if_neg hd]
    rw [e]
    have hd' : S.down = false := by simpa using hd
    rw [hd'] at c3
    generalize S.oper.1 = S1 at *
    generalize S.oper.2 = r1 at *
    go_enter Try.func26, Try.ntmps26
    go_wp2_with (go_at_call 53; refine N28.mono ?_; rintro e w2 ⟨rfl, ⟨g2, v2, hr2, ok2⟩, hs2⟩; obtain ⟨k0, k1, k2, k3, k4, k5, kz⟩ := hr2.cells)
    go_wp2
    go_ret
    exact ⟨rfl, ⟨g2, .slice none 0 0, (hr2.set 1 _).free, ok2.len, ok2.pos, ok2.top, fun x hx => (by cases hx), ok2.arm, ok2.lo, ok2.hi⟩, hs2.set hr.hq _⟩
end Go.Proofs.Ythgkkmcpmhfehaa
