
/- What prop.same and trivetref07.Same answer, what prop.Good answers of any value. -/
import Derived.Test.YtmaaacaifpgpaaaGreatDoorPb
import Derived.BigQuiet
namespace Go.Proofs.YtmaaacaifpgpaaaGreatDoor
open Go.RowKit Go.Lib Ieee

theorem below_drewN {B : Nat} {a w : World} (h : Below B a w) (n : Nat) : Below B a (w.drewN n) := ⟨h.os, h.tape, h.output, h.size, h.block⟩
def sameV (a b : Val) : Bool := a.kind == b.kind && (a.num == b.num && (a.text.toList == b.text.toList && (a.real : Int) == (b.real : Int)))
theorem box1' (w : World) (C D : Array Value) (tc td j : Nat) (v : Value) (h : C[j]? = some v) : ((w.alloc (.cells C tc)).alloc (.cells D td)).cell? ⟨w.heap.size, j, none⟩ = some v := box1 w C D tc td j v h
theorem box2' (w : World) (C D : Array Value) (tc td j : Nat) (v : Value) (h : D[j]? = some v) : ((w.alloc (.cells C tc)).alloc (.cells D td)).cell? ⟨w.heap.size + 1, j, none⟩ = some v := box2 w C D tc td j v h

theorem same7 (w : World) (a b : Val) :
    Calls Tryz.prog 76 #[a.v, b.v] w fun e w' => e = .returned (.bool (sameV a b)) ∧ Below w.heap.size w w' := by
  obtain ⟨k, n, t, r⟩ := a
  obtain ⟨k', n', t', r'⟩ := b
  unfold sameV Val.v
  dsimp only at *
  have HS := fun W : World => rsame_any W r r'
  rw [← eql_dec] at HS
  go_enter Tryz.func76, Tryz.ntmps76
  go_upto_region 1 with fail
  have hb1 : Below w.heap.size w ((w.alloc (Obj.cells #[Value.int IntKind.i64 k, Value.int IntKind.i64 n, Value.string t, Value.float FloatKind.f64 r] 42)).alloc (Obj.cells #[Value.int IntKind.i64 k', Value.int IntKind.i64 n', Value.string t', Value.float FloatKind.f64 r'] 42)) := (Below.refl _ w).alloc (Nat.le_refl _) _ |>.alloc (by simp) _
  have c0 : ((w.alloc (Obj.cells #[Value.int IntKind.i64 k, Value.int IntKind.i64 n, Value.string t, Value.float FloatKind.f64 r] 42)).alloc (Obj.cells #[Value.int IntKind.i64 k', Value.int IntKind.i64 n', Value.string t', Value.float FloatKind.f64 r'] 42)).cell? ⟨w.heap.size, 0, none⟩ = some (.int .i64 k) := box1' w _ _ _ _ 0 _ rfl
  have c1 : ((w.alloc (Obj.cells #[Value.int IntKind.i64 k, Value.int IntKind.i64 n, Value.string t, Value.float FloatKind.f64 r] 42)).alloc (Obj.cells #[Value.int IntKind.i64 k', Value.int IntKind.i64 n', Value.string t', Value.float FloatKind.f64 r'] 42)).cell? ⟨w.heap.size, 1, none⟩ = some (.int .i64 n) := box1' w _ _ _ _ 1 _ rfl
  have c2 : ((w.alloc (Obj.cells #[Value.int IntKind.i64 k, Value.int IntKind.i64 n, Value.string t, Value.float FloatKind.f64 r] 42)).alloc (Obj.cells #[Value.int IntKind.i64 k', Value.int IntKind.i64 n', Value.string t', Value.float FloatKind.f64 r'] 42)).cell? ⟨w.heap.size, 2, none⟩ = some (.string t) := box1' w _ _ _ _ 2 _ rfl
  have c3 : ((w.alloc (Obj.cells #[Value.int IntKind.i64 k, Value.int IntKind.i64 n, Value.string t, Value.float FloatKind.f64 r] 42)).alloc (Obj.cells #[Value.int IntKind.i64 k', Value.int IntKind.i64 n', Value.string t', Value.float FloatKind.f64 r'] 42)).cell? ⟨w.heap.size, 3, none⟩ = some (.float .f64 r) := box1' w _ _ _ _ 3 _ rfl
  have d0 : ((w.alloc (Obj.cells #[Value.int IntKind.i64 k, Value.int IntKind.i64 n, Value.string t, Value.float FloatKind.f64 r] 42)).alloc (Obj.cells #[Value.int IntKind.i64 k', Value.int IntKind.i64 n', Value.string t', Value.float FloatKind.f64 r'] 42)).cell? ⟨w.heap.size + 1, 0, none⟩ = some (.int .i64 k') := box2' w _ _ _ _ 0 _ rfl
  have d1 : ((w.alloc (Obj.cells #[Value.int IntKind.i64 k, Value.int IntKind.i64 n, Value.string t, Value.float FloatKind.f64 r] 42)).alloc (Obj.cells #[Value.int IntKind.i64 k', Value.int IntKind.i64 n', Value.string t', Value.float FloatKind.f64 r'] 42)).cell? ⟨w.heap.size + 1, 1, none⟩ = some (.int .i64 n') := box2' w _ _ _ _ 1 _ rfl
  have d2 : ((w.alloc (Obj.cells #[Value.int IntKind.i64 k, Value.int IntKind.i64 n, Value.string t, Value.float FloatKind.f64 r] 42)).alloc (Obj.cells #[Value.int IntKind.i64 k', Value.int IntKind.i64 n', Value.string t', Value.float FloatKind.f64 r'] 42)).cell? ⟨w.heap.size + 1, 2, none⟩ = some (.string t') := box2' w _ _ _ _ 2 _ rfl
  have d3 : ((w.alloc (Obj.cells #[Value.int IntKind.i64 k, Value.int IntKind.i64 n, Value.string t, Value.float FloatKind.f64 r] 42)).alloc (Obj.cells #[Value.int IntKind.i64 k', Value.int IntKind.i64 n', Value.string t', Value.float FloatKind.f64 r'] 42)).cell? ⟨w.heap.size + 1, 3, none⟩ = some (.float .f64 r') := box2' w _ _ _ _ 3 _ rfl
  generalize ((w.alloc (Obj.cells #[Value.int IntKind.i64 k, Value.int IntKind.i64 n, Value.string t, Value.float FloatKind.f64 r] 42)).alloc (Obj.cells #[Value.int IntKind.i64 k', Value.int IntKind.i64 n', Value.string t', Value.float FloatKind.f64 r'] 42)) = w1 at *
  cases e1 : (k == k') with
  | false =>
    go_quiet (fail)
    go_wp2
    go_ret
    exact ⟨ret_b (by rw [e1]; rfl), below_drewN hb1 _⟩
  | true =>
  cases e2 : (n == n') with
  | false =>
    go_quiet (fail)
    go_wp2
    go_ret
    exact ⟨ret_b (by rw [e1, e2]; rfl), below_drewN hb1 _⟩
  | true =>
  cases e3 : (t.toList == t'.toList) with
  | false =>
    go_quiet (fail)
    go_wp2
    go_ret
    exact ⟨ret_b (by rw [e1, e2, e3]; rfl), below_drewN hb1 _⟩
  | true =>
    go_quiet (fail)
    go_wp2
    go_ret
    exact ⟨ret_b (by rw [e1, e2, e3]; rfl), below_drewN hb1 _⟩

theorem rsame7 (w : World) (a b : Val) :
    Calls Tryz.prog 43 #[a.v, b.v] w fun e w' => e = .returned (.bool (sameV a b)) ∧ Below w.heap.size w w' := by
  obtain ⟨k, n, t, r⟩ := a
  obtain ⟨k', n', t', r'⟩ := b
  unfold sameV Val.v
  dsimp only at *
  have HS := fun W : World => rsame_any W r r'
  rw [← eql_dec] at HS
  go_enter Tryz.func43, Tryz.ntmps43
  go_upto_region 1 with fail
  have hb1 : Below w.heap.size w ((w.alloc (Obj.cells #[Value.int IntKind.i64 k, Value.int IntKind.i64 n, Value.string t, Value.float FloatKind.f64 r] 42)).alloc (Obj.cells #[Value.int IntKind.i64 k', Value.int IntKind.i64 n', Value.string t', Value.float FloatKind.f64 r'] 42)) := (Below.refl _ w).alloc (Nat.le_refl _) _ |>.alloc (by simp) _
  have c0 : ((w.alloc (Obj.cells #[Value.int IntKind.i64 k, Value.int IntKind.i64 n, Value.string t, Value.float FloatKind.f64 r] 42)).alloc (Obj.cells #[Value.int IntKind.i64 k', Value.int IntKind.i64 n', Value.string t', Value.float FloatKind.f64 r'] 42)).cell? ⟨w.heap.size, 0, none⟩ = some (.int .i64 k) := box1' w _ _ _ _ 0 _ rfl
  have c1 : ((w.alloc (Obj.cells #[Value.int IntKind.i64 k, Value.int IntKind.i64 n, Value.string t, Value.float FloatKind.f64 r] 42)).alloc (Obj.cells #[Value.int IntKind.i64 k', Value.int IntKind.i64 n', Value.string t', Value.float FloatKind.f64 r'] 42)).cell? ⟨w.heap.size, 1, none⟩ = some (.int .i64 n) := box1' w _ _ _ _ 1 _ rfl
  have c2 : ((w.alloc (Obj.cells #[Value.int IntKind.i64 k, Value.int IntKind.i64 n, Value.string t, Value.float FloatKind.f64 r] 42)).alloc (Obj.cells #[Value.int IntKind.i64 k', Value.int IntKind.i64 n', Value.string t', Value.float FloatKind.f64 r'] 42)).cell? ⟨w.heap.size, 2, none⟩ = some (.string t) := box1' w _ _ _ _ 2 _ rfl
  have c3 : ((w.alloc (Obj.cells #[Value.int IntKind.i64 k, Value.int IntKind.i64 n, Value.string t, Value.float FloatKind.f64 r] 42)).alloc (Obj.cells #[Value.int IntKind.i64 k', Value.int IntKind.i64 n', Value.string t', Value.float FloatKind.f64 r'] 42)).cell? ⟨w.heap.size, 3, none⟩ = some (.float .f64 r) := box1' w _ _ _ _ 3 _ rfl
  have d0 : ((w.alloc (Obj.cells #[Value.int IntKind.i64 k, Value.int IntKind.i64 n, Value.string t, Value.float FloatKind.f64 r] 42)).alloc (Obj.cells #[Value.int IntKind.i64 k', Value.int IntKind.i64 n', Value.string t', Value.float FloatKind.f64 r'] 42)).cell? ⟨w.heap.size + 1, 0, none⟩ = some (.int .i64 k') := box2' w _ _ _ _ 0 _ rfl
  have d1 : ((w.alloc (Obj.cells #[Value.int IntKind.i64 k, Value.int IntKind.i64 n, Value.string t, Value.float FloatKind.f64 r] 42)).alloc (Obj.cells #[Value.int IntKind.i64 k', Value.int IntKind.i64 n', Value.string t', Value.float FloatKind.f64 r'] 42)).cell? ⟨w.heap.size + 1, 1, none⟩ = some (.int .i64 n') := box2' w _ _ _ _ 1 _ rfl
  have d2 : ((w.alloc (Obj.cells #[Value.int IntKind.i64 k, Value.int IntKind.i64 n, Value.string t, Value.float FloatKind.f64 r] 42)).alloc (Obj.cells #[Value.int IntKind.i64 k', Value.int IntKind.i64 n', Value.string t', Value.float FloatKind.f64 r'] 42)).cell? ⟨w.heap.size + 1, 2, none⟩ = some (.string t') := box2' w _ _ _ _ 2 _ rfl
  have d3 : ((w.alloc (Obj.cells #[Value.int IntKind.i64 k, Value.int IntKind.i64 n, Value.string t, Value.float FloatKind.f64 r] 42)).alloc (Obj.cells #[Value.int IntKind.i64 k', Value.int IntKind.i64 n', Value.string t', Value.float FloatKind.f64 r'] 42)).cell? ⟨w.heap.size + 1, 3, none⟩ = some (.float .f64 r') := box2' w _ _ _ _ 3 _ rfl
  generalize ((w.alloc (Obj.cells #[Value.int IntKind.i64 k, Value.int IntKind.i64 n, Value.string t, Value.float FloatKind.f64 r] 42)).alloc (Obj.cells #[Value.int IntKind.i64 k', Value.int IntKind.i64 n', Value.string t', Value.float FloatKind.f64 r'] 42)) = w1 at *
  cases e1 : (k == k') with
  | false =>
    go_wp2
    go_ret
    exact ⟨ret_b (by rw [e1]; rfl), hb1⟩
  | true =>
  cases e2 : (n == n') with
  | false =>
    go_wp2
    go_ret
    exact ⟨ret_b (by rw [e1, e2]; rfl), hb1⟩
  | true =>
  cases e3 : (t.toList == t'.toList) with
  | false =>
    go_wp2
    go_ret
    exact ⟨ret_b (by rw [e1, e2, e3]; rfl), hb1⟩
  | true =>
    go_wp2_with fail
    refine (HS _).mono ?_
    rintro e w2 ⟨rfl, rfl⟩
    go_wp2
    go_ret
    exact ⟨ret_b (by rw [e1, e2, e3]; rfl), hb1⟩

end Go.Proofs.YtmaaacaifpgpaaaGreatDoor
