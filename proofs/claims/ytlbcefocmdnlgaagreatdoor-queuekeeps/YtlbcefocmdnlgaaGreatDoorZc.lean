/- A call that answers one value and leaves the world as it was may be taken first, in a region that draws its order. What prop.Compare answers of any two values. What prop.same and trivetref07.Same answer, what prop.Good answers of any value. What prop.Good answers of any value. What prop.inName, prop.Name answer of any byte, any text. What prop.canBe and prop.Valid answer. Messages, items and queues as lists; what the calls of package queue answer of them. -/
import Derived.OrdersHeld
import Derived.WalkKit
import Derived.Test.YtlbcefocmdnlgaaGreatDoorZb
import Derived.Deep.QuietTactic
import Derived.Deep.Cut
import Derived.Shelf.RegionOpen
import Derived.BigQuiet
import Derived.Test.YtlbcefocmdnlgaaGreatDoorZa
namespace Go.Proofs.YtlbcefocmdnlgaaGreatDoor
open Go

section
variable {P : Program} {ops : Array Oper} {Q : Exit → Act → World → Prop} {md : Region.Mode} {S : World → Prop}

/-- In every world that meets S the operation is a call that answers v and changes nothing. -/
def CallsIf (P : Program) (ops : Array Oper) (S : World → Prop) (o : Oper) (v : Value) (a : Act) : Prop :=
  Region.wanted o (yielded ops a.tmps) = true ∧ ∀ w, S w → ∃ f args, (execOp a.eval o).run P w = .ok (.enter f args) w ∧ Calls P f args w fun e w' => e = .returned v ∧ w' = w

theorem CallsIf.of_same {o : Oper} {v : Value} {a a' : Act} (hy : CallsIf P ops S o v a) (he : execOp a'.eval o = execOp a.eval o)
    (hw : Region.wanted o (yielded ops a'.tmps) = Region.wanted o (yielded ops a.tmps)) : CallsIf P ops S o v a' := by
  unfold CallsIf at *
  rw [he, hw]
  exact hy

theorem CallsIf.wpOp {i : Nat} {o : Oper} {v : Value} {a : Act} (hi : ops[i]? = some o) (hy : CallsIf P ops S o v a) {K : Act → World → Prop} {w : World} (hS : S w) (h : K (a.put o.dst v) w) : wpOp P ops Q i K a w := by
  obtain ⟨hw, hv⟩ := hy
  obtain ⟨f, args, hr, hc⟩ := hv w hS
  unfold Go.wpOp
  simp only [hi, hw, if_true, Oper.wp, hr, Oper.upon]
  refine .inl (hc.mono ?_)
  rintro e w' ⟨rfl, rfl⟩
  exact h

/-- What an operation leaves alone, looks to another one as it did. -/
theorem wpOp_keep {j : Nat} {oi oj : Oper} (hj : ops[j]? = some oj) (hap : oi.apart ops oj = true) (hsi : ∀ cs b, oi.op ≠ .select cs b) {K : Act → World → Prop} {a : Act} {w : World} (h : wpOp P ops Q j K a w) :
    wpOp P ops Q j (fun a' w' => (execOp a'.eval oi = execOp a.eval oi ∧ Region.wanted oi (yielded ops a'.tmps) = Region.wanted oi (yielded ops a.tmps)) ∧ K a' w') a w := by
  obtain ⟨h1, h2, h3⟩ := Oper.apart_spec hap
  have keep : ∀ (a' : Act), a'.tmps = a.tmps → ∀ u, execOp (a'.put oj.dst u).eval oi = execOp a.eval oi ∧ Region.wanted oi (yielded ops (a'.put oj.dst u).tmps) = Region.wanted oi (yielded ops a.tmps) := fun a' e u => by
    rw [execOp_put oi hsi a' oj.dst u h3, wanted_put oi a' oj.dst u h3]
    have e2 : a'.eval = a.eval := by funext x; cases x <;> simp [Act.eval, e]
    rw [e2, e]
    exact ⟨rfl, rfl⟩
  unfold wpOp at *
  simp only [hj] at *
  split
  · rename_i hw
    simp only [hw, if_true] at h
    rcases h with h | h
    case inr => exact .inr h
    refine .inl ?_
    unfold Oper.wp at *
    generalize (execOp a.eval oj).run P w = r at *
    cases r with
    | ok n w' =>
      cases n <;> simp only [Oper.upon] at h ⊢
      case value u => exact ⟨keep a rfl u, h⟩
      case skip => exact ⟨keep a rfl _, h⟩
      case defer d => exact ⟨keep { tmps := a.tmps, defers := d :: a.defers } rfl _, h⟩
      case enter f args =>
        refine Calls.mono h fun e w'' he => ?_
        cases e with
        | returned u => exact ⟨keep a rfl u, he⟩
        | panicked c => exact he
        | outgrown => exact he
      case row row args => exact Rows.mono h fun u w'' he => ⟨keep a rfl u, he⟩
    | halt x w' =>
      cases x <;> simp only [Oper.upon] at h ⊢
      case panic u => exact h
  · rename_i hw
    simp only [hw] at h
    exact ⟨keep a rfl _, h⟩

theorem wpAnyH_firstC {i : Nat} {oi : Oper} {v : Value} (hi : ops[i]? = some oi) (hsel : ∀ (j : Nat) (o : Oper) cs b, ops[j]? = some o → o.op ≠ .select cs b)
    (hQ : ∀ c a w, Q (.panic c) (a.put oi.dst v) w → Q (.panic c) a w) :
    ∀ (fuel : Nat) (listed : Array Bool) (a : Act) (w : World),
      (∀ j oj, ops[j]? = some oj → j ≠ i → listed.getD j true = false → (∀ e ∈ oj.after, Region.binds md e = true → e.on ≠ i) → oi.apart ops oj = true) →
      i ∈ Region.ready md ops listed → CallsIf P ops S oi v a → S w →
      wpAnyH P md ops Q S fuel (listed.setIfInBounds i true) (a.put oi.dst v) w → wpAnyH P md ops Q S (fuel + 1) listed a w := by
  intro fuel
  induction fuel with
  | zero =>
    intro listed a w _ hr hy hS H
    refine ⟨fun h => (by rw [h] at hr; cases hr), fun j hj => ?_⟩
    by_cases hji : j = i
    · subst hji; exact hy.wpOp hi hS ⟨hS, H⟩
    · have := ready_mono hj hji
      rw [H.1] at this
      cases this
  | succ fuel ih =>
    intro listed a w hfree hr hy hS H
    refine ⟨fun h => (by rw [h] at hr; cases hr), fun j hj => ?_⟩
    by_cases hji : j = i
    · subst hji; exact hy.wpOp hi hS ⟨hS, H⟩
    · have h1 := H.2 j (ready_mono hj hji)
      obtain ⟨hjun, oj, hoj, hall⟩ := mem_ready.1 hj
      have hnot : ∀ e ∈ oj.after, Region.binds md e = true → e.on ≠ i := fun e he hb heq => by
        have h1 := hall e he hb
        have h0 := (mem_ready.1 hr).1
        rw [heq] at h1
        rcases Nat.lt_or_ge i listed.size with h' | h'
        · simp [h'] at h0 h1; rw [h0] at h1; cases h1
        · simp [Array.getElem?_eq_none h'] at h1
      have hap := hfree j oj hoj hji hjun hnot
      have h2 := wpOp_putIf (S := fun _ => False) hoj hap (fun cs b => hsel i oi cs b hi) (fun cs b => hsel j oj cs b hoj) hQ (.inl ⟨hy.1, fun _ h => h.elim⟩) h1
      have h3 := wpOp_keep hoj hap (fun cs b => hsel i oi cs b hi) h2
      refine wpOp_mono (fun a' w' h4 => ⟨h4.2.2.1, ih (listed.setIfInBounds j true) a' w' ?_ (ready_mono hr (Ne.symm hji)) (hy.of_same h4.1.1 h4.1.2) h4.2.2.1 ?_⟩) h3
      · intro k ok hk hki hun hno
        refine hfree k ok hk hki ?_ hno
        by_cases hjk : j = k
        · subst hjk; exact hjun
        · rw [getD_set_ne true hjk] at hun; exact hun
      · rw [Array.setIfInBounds_comm _ _ hji]
        exact h4.2.2.2

/-- Take the call number i first. -/
theorem wpAnyH_call {i : Nat} {oi : Oper} {v : Value} {fuel : Nat} {listed : Array Bool} {a : Act} {w : World} (hi : ops[i]? = some oi)
    (hs : Region.noSelect ops = true) (hf : Region.free md ops listed i = true) (hr : (Region.ready md ops listed).contains i = true)
    (hQ : ∀ c a w, Q (.panic c) (a.put oi.dst v) w → Q (.panic c) a w) (hy : CallsIf P ops S oi v a) (hS : S w)
    (h : wpAnyH P md ops Q S fuel (listed.setIfInBounds i true) (a.put oi.dst v) w) : wpAnyH P md ops Q S (fuel + 1) listed a w :=
  wpAnyH_firstC hi (Region.noSelect_spec hs) hQ fuel listed a w (Region.free_spec hi hf) (by simpa using hr) hy hS h
/-- Only one may come up. -/
theorem wpAnyH_one {i : Nat} {o : Oper} {fuel : Nat} {listed : Array Bool} {a : Act} {w : World} (hr : Region.ready md ops listed = [i]) (ho : ops[i]? = some o) (hw : Region.wanted o (yielded ops a.tmps) = true)
    (h : ∀ K : Act → World → Prop, (∀ a' w', S w' → wpAnyH P md ops Q S fuel (listed.setIfInBounds i true) a' w' → K a' w') → o.wp P a w K Q) : wpAnyH P md ops Q S (fuel + 1) listed a w :=
  wpAnyH_all hr (by simp) (fun j hj => by
    simp only [List.mem_singleton] at hj
    subst hj
    unfold wpOp
    simp only [ho]
    rw [if_pos hw]
    exact .inl (h _ (fun _ _ h1 h2 => ⟨h1, h2⟩)))
end
end Go.Proofs.YtlbcefocmdnlgaaGreatDoor

namespace Go.Proofs.YtlbcefocmdnlgaaGreatDoor
open Go.RowKit Go.Lib Ieee

theorem hmix : Tryz.prog.follows .mixedOrders = true := by kernel_rfl

/-- A value as the program holds it. -/
structure Val where
  kind : Int
  num : Int
  text : ByteArray
  real : Nat
def Val.v (x : Val) : Value := .agg #[.int .i64 x.kind, .int .i64 x.num, .string x.text, .float .f64 x.real]
def cmpV (a b : Val) : Int := or4 (cmpZ a.kind b.kind) (cmpZ a.num b.num) (cmpL a.text.toList b.text.toList) (cmpN (keyB a.real) (keyB b.real))

theorem box1 (w : World) (C D : Array Value) (tc td j : Nat) (v : Value) (h : C[j]? = some v) : (((w.alloc (.cells C tc)).alloc (.cells D td)).drew).cell? ⟨w.heap.size, j, none⟩ = some v := by
  show ((w.alloc (.cells C tc)).alloc (.cells D td)).cell? ⟨w.heap.size, j, none⟩ = some v
  rw [((Below.refl _ (w.alloc (.cells C tc))).alloc (Nat.le_refl _) (.cells D td)).cell (by simp), World.cell?_alloc_new]
  exact h
theorem box2 (w : World) (C D : Array Value) (tc td j : Nat) (v : Value) (h : D[j]? = some v) : (((w.alloc (.cells C tc)).alloc (.cells D td)).drew).cell? ⟨w.heap.size + 1, j, none⟩ = some v := by
  show ((w.alloc (.cells C tc)).alloc (.cells D td)).cell? ⟨w.heap.size + 1, j, none⟩ = some v
  have e : (w.alloc (.cells C tc)).heap.size = w.heap.size + 1 := by simp
  rw [← e, World.cell?_alloc_new]
  exact h

end Go.Proofs.YtlbcefocmdnlgaaGreatDoor

namespace Go.Proofs.YtlbcefocmdnlgaaGreatDoor
open Go.RowKit Go.Lib Ieee

theorem below_drewN {B : Nat} {a w : World} (h : Below B a w) (n : Nat) : Below B a (w.drewN n) := ⟨h.os, h.tape, h.output, h.size, h.block⟩
def sameV (a b : Val) : Bool := a.kind == b.kind && (a.num == b.num && (a.text.toList == b.text.toList && (a.real : Int) == (b.real : Int)))
theorem box1' (w : World) (C D : Array Value) (tc td j : Nat) (v : Value) (h : C[j]? = some v) : ((w.alloc (.cells C tc)).alloc (.cells D td)).cell? ⟨w.heap.size, j, none⟩ = some v := box1 w C D tc td j v h
theorem box2' (w : World) (C D : Array Value) (tc td j : Nat) (v : Value) (h : D[j]? = some v) : ((w.alloc (.cells C tc)).alloc (.cells D td)).cell? ⟨w.heap.size + 1, j, none⟩ = some v := box2 w C D tc td j v h

theorem same7 (w : World) (a b : Val) :
    Calls Tryz.prog 98 #[a.v, b.v] w fun e w' => e = .returned (.bool (sameV a b)) ∧ Below w.heap.size w w' := by
  obtain ⟨k, n, t, r⟩ := a
  obtain ⟨k', n', t', r'⟩ := b
  unfold sameV Val.v
  dsimp only at *
  have HS := fun W : World => rsame_any W r r'
  rw [← eql_dec] at HS
  go_enter Tryz.func98, Tryz.ntmps98
  go_upto_region 1 with fail
  have hb1 : Below w.heap.size w ((w.alloc (Obj.cells #[Value.int IntKind.i64 k, Value.int IntKind.i64 n, Value.string t, Value.float FloatKind.f64 r] 52)).alloc (Obj.cells #[Value.int IntKind.i64 k', Value.int IntKind.i64 n', Value.string t', Value.float FloatKind.f64 r'] 52)) := (Below.refl _ w).alloc (Nat.le_refl _) _ |>.alloc (by simp) _
  have c0 : ((w.alloc (Obj.cells #[Value.int IntKind.i64 k, Value.int IntKind.i64 n, Value.string t, Value.float FloatKind.f64 r] 52)).alloc (Obj.cells #[Value.int IntKind.i64 k', Value.int IntKind.i64 n', Value.string t', Value.float FloatKind.f64 r'] 52)).cell? ⟨w.heap.size, 0, none⟩ = some (.int .i64 k) := box1' w _ _ _ _ 0 _ rfl
  have c1 : ((w.alloc (Obj.cells #[Value.int IntKind.i64 k, Value.int IntKind.i64 n, Value.string t, Value.float FloatKind.f64 r] 52)).alloc (Obj.cells #[Value.int IntKind.i64 k', Value.int IntKind.i64 n', Value.string t', Value.float FloatKind.f64 r'] 52)).cell? ⟨w.heap.size, 1, none⟩ = some (.int .i64 n) := box1' w _ _ _ _ 1 _ rfl
  have c2 : ((w.alloc (Obj.cells #[Value.int IntKind.i64 k, Value.int IntKind.i64 n, Value.string t, Value.float FloatKind.f64 r] 52)).alloc (Obj.cells #[Value.int IntKind.i64 k', Value.int IntKind.i64 n', Value.string t', Value.float FloatKind.f64 r'] 52)).cell? ⟨w.heap.size, 2, none⟩ = some (.string t) := box1' w _ _ _ _ 2 _ rfl
  have c3 : ((w.alloc (Obj.cells #[Value.int IntKind.i64 k, Value.int IntKind.i64 n, Value.string t, Value.float FloatKind.f64 r] 52)).alloc (Obj.cells #[Value.int IntKind.i64 k', Value.int IntKind.i64 n', Value.string t', Value.float FloatKind.f64 r'] 52)).cell? ⟨w.heap.size, 3, none⟩ = some (.float .f64 r) := box1' w _ _ _ _ 3 _ rfl
  have d0 : ((w.alloc (Obj.cells #[Value.int IntKind.i64 k, Value.int IntKind.i64 n, Value.string t, Value.float FloatKind.f64 r] 52)).alloc (Obj.cells #[Value.int IntKind.i64 k', Value.int IntKind.i64 n', Value.string t', Value.float FloatKind.f64 r'] 52)).cell? ⟨w.heap.size + 1, 0, none⟩ = some (.int .i64 k') := box2' w _ _ _ _ 0 _ rfl
  have d1 : ((w.alloc (Obj.cells #[Value.int IntKind.i64 k, Value.int IntKind.i64 n, Value.string t, Value.float FloatKind.f64 r] 52)).alloc (Obj.cells #[Value.int IntKind.i64 k', Value.int IntKind.i64 n', Value.string t', Value.float FloatKind.f64 r'] 52)).cell? ⟨w.heap.size + 1, 1, none⟩ = some (.int .i64 n') := box2' w _ _ _ _ 1 _ rfl
  have d2 : ((w.alloc (Obj.cells #[Value.int IntKind.i64 k, Value.int IntKind.i64 n, Value.string t, Value.float FloatKind.f64 r] 52)).alloc (Obj.cells #[Value.int IntKind.i64 k', Value.int IntKind.i64 n', Value.string t', Value.float FloatKind.f64 r'] 52)).cell? ⟨w.heap.size + 1, 2, none⟩ = some (.string t') := box2' w _ _ _ _ 2 _ rfl
  have d3 : ((w.alloc (Obj.cells #[Value.int IntKind.i64 k, Value.int IntKind.i64 n, Value.string t, Value.float FloatKind.f64 r] 52)).alloc (Obj.cells #[Value.int IntKind.i64 k', Value.int IntKind.i64 n', Value.string t', Value.float FloatKind.f64 r'] 52)).cell? ⟨w.heap.size + 1, 3, none⟩ = some (.float .f64 r') := box2' w _ _ _ _ 3 _ rfl
  generalize ((w.alloc (Obj.cells #[Value.int IntKind.i64 k, Value.int IntKind.i64 n, Value.string t, Value.float FloatKind.f64 r] 52)).alloc (Obj.cells #[Value.int IntKind.i64 k', Value.int IntKind.i64 n', Value.string t', Value.float FloatKind.f64 r'] 52)) = w1 at *
  cases e1 : (k == k') with
  | false =>
    go_quiet (fail)
    go_wp2
    go_ret
    exact ⟨ret_b (by rw [e1]; rfl), below_drewN hb1 _⟩
  | true =>
  cases e2 : (n == n') with
  | false =>
    go_quiet (fail)
    go_wp2
    go_ret
    exact ⟨ret_b (by rw [e1, e2]; rfl), below_drewN hb1 _⟩
  | true =>
  cases e3 : (t.toList == t'.toList) with
  | false =>
    go_quiet (fail)
    go_wp2
    go_ret
    exact ⟨ret_b (by rw [e1, e2, e3]; rfl), below_drewN hb1 _⟩
  | true =>
    go_quiet (fail)
    go_wp2
    go_ret
    exact ⟨ret_b (by rw [e1, e2, e3]; rfl), below_drewN hb1 _⟩

theorem rsame7 (w : World) (a b : Val) :
    Calls Tryz.prog 72 #[a.v, b.v] w fun e w' => e = .returned (.bool (sameV a b)) ∧ Below w.heap.size w w' := by
  obtain ⟨k, n, t, r⟩ := a
  obtain ⟨k', n', t', r'⟩ := b
  unfold sameV Val.v
  dsimp only at *
  have HS := fun W : World => rsame_any W r r'
  rw [← eql_dec] at HS
  go_enter Tryz.func72, Tryz.ntmps72
  go_upto_region 1 with fail
  have hb1 : Below w.heap.size w ((w.alloc (Obj.cells #[Value.int IntKind.i64 k, Value.int IntKind.i64 n, Value.string t, Value.float FloatKind.f64 r] 52)).alloc (Obj.cells #[Value.int IntKind.i64 k', Value.int IntKind.i64 n', Value.string t', Value.float FloatKind.f64 r'] 52)) := (Below.refl _ w).alloc (Nat.le_refl _) _ |>.alloc (by simp) _
  have c0 : ((w.alloc (Obj.cells #[Value.int IntKind.i64 k, Value.int IntKind.i64 n, Value.string t, Value.float FloatKind.f64 r] 52)).alloc (Obj.cells #[Value.int IntKind.i64 k', Value.int IntKind.i64 n', Value.string t', Value.float FloatKind.f64 r'] 52)).cell? ⟨w.heap.size, 0, none⟩ = some (.int .i64 k) := box1' w _ _ _ _ 0 _ rfl
  have c1 : ((w.alloc (Obj.cells #[Value.int IntKind.i64 k, Value.int IntKind.i64 n, Value.string t, Value.float FloatKind.f64 r] 52)).alloc (Obj.cells #[Value.int IntKind.i64 k', Value.int IntKind.i64 n', Value.string t', Value.float FloatKind.f64 r'] 52)).cell? ⟨w.heap.size, 1, none⟩ = some (.int .i64 n) := box1' w _ _ _ _ 1 _ rfl
  have c2 : ((w.alloc (Obj.cells #[Value.int IntKind.i64 k, Value.int IntKind.i64 n, Value.string t, Value.float FloatKind.f64 r] 52)).alloc (Obj.cells #[Value.int IntKind.i64 k', Value.int IntKind.i64 n', Value.string t', Value.float FloatKind.f64 r'] 52)).cell? ⟨w.heap.size, 2, none⟩ = some (.string t) := box1' w _ _ _ _ 2 _ rfl
  have c3 : ((w.alloc (Obj.cells #[Value.int IntKind.i64 k, Value.int IntKind.i64 n, Value.string t, Value.float FloatKind.f64 r] 52)).alloc (Obj.cells #[Value.int IntKind.i64 k', Value.int IntKind.i64 n', Value.string t', Value.float FloatKind.f64 r'] 52)).cell? ⟨w.heap.size, 3, none⟩ = some (.float .f64 r) := box1' w _ _ _ _ 3 _ rfl
  have d0 : ((w.alloc (Obj.cells #[Value.int IntKind.i64 k, Value.int IntKind.i64 n, Value.string t, Value.float FloatKind.f64 r] 52)).alloc (Obj.cells #[Value.int IntKind.i64 k', Value.int IntKind.i64 n', Value.string t', Value.float FloatKind.f64 r'] 52)).cell? ⟨w.heap.size + 1, 0, none⟩ = some (.int .i64 k') := box2' w _ _ _ _ 0 _ rfl
  have d1 : ((w.alloc (Obj.cells #[Value.int IntKind.i64 k, Value.int IntKind.i64 n, Value.string t, Value.float FloatKind.f64 r] 52)).alloc (Obj.cells #[Value.int IntKind.i64 k', Value.int IntKind.i64 n', Value.string t', Value.float FloatKind.f64 r'] 52)).cell? ⟨w.heap.size + 1, 1, none⟩ = some (.int .i64 n') := box2' w _ _ _ _ 1 _ rfl
  have d2 : ((w.alloc (Obj.cells #[Value.int IntKind.i64 k, Value.int IntKind.i64 n, Value.string t, Value.float FloatKind.f64 r] 52)).alloc (Obj.cells #[Value.int IntKind.i64 k', Value.int IntKind.i64 n', Value.string t', Value.float FloatKind.f64 r'] 52)).cell? ⟨w.heap.size + 1, 2, none⟩ = some (.string t') := box2' w _ _ _ _ 2 _ rfl
  have d3 : ((w.alloc (Obj.cells #[Value.int IntKind.i64 k, Value.int IntKind.i64 n, Value.string t, Value.float FloatKind.f64 r] 52)).alloc (Obj.cells #[Value.int IntKind.i64 k', Value.int IntKind.i64 n', Value.string t', Value.float FloatKind.f64 r'] 52)).cell? ⟨w.heap.size + 1, 3, none⟩ = some (.float .f64 r') := box2' w _ _ _ _ 3 _ rfl
  generalize ((w.alloc (Obj.cells #[Value.int IntKind.i64 k, Value.int IntKind.i64 n, Value.string t, Value.float FloatKind.f64 r] 52)).alloc (Obj.cells #[Value.int IntKind.i64 k', Value.int IntKind.i64 n', Value.string t', Value.float FloatKind.f64 r'] 52)) = w1 at *
  cases e1 : (k == k') with
  | false =>
    go_wp2
    go_ret
    exact ⟨ret_b (by rw [e1]; rfl), hb1⟩
  | true =>
  cases e2 : (n == n') with
  | false =>
    go_wp2
    go_ret
    exact ⟨ret_b (by rw [e1, e2]; rfl), hb1⟩
  | true =>
  cases e3 : (t.toList == t'.toList) with
  | false =>
    go_wp2
    go_ret
    exact ⟨ret_b (by rw [e1, e2, e3]; rfl), hb1⟩
  | true =>
    go_wp2_with fail
    refine (HS _).mono ?_
    rintro e w2 ⟨rfl, rfl⟩
    go_wp2
    go_ret
    exact ⟨ret_b (by rw [e1, e2, e3]; rfl), hb1⟩

end Go.Proofs.YtlbcefocmdnlgaaGreatDoor

namespace Go.Proofs.YtlbcefocmdnlgaaGreatDoor
open Go.RowKit Go.Lib Ieee

def goodV (x : Val) : Bool :=
  if x.kind = 1 then sameV x ⟨1, x.num, ⟨#[]⟩, 0⟩
  else if x.kind = 2 then (x.num == 0 || x.num == 1) && sameV x ⟨2, x.num, ⟨#[]⟩, 0⟩
  else if x.kind = 3 then decide ((x.text.size : Int) ≤ 256) && sameV x ⟨3, 0, x.text, 0⟩
  else if x.kind = 4 then sameV x ⟨4, 0, ⟨#[]⟩, canonB x.real⟩
  else false

set_option maxRecDepth 8000 in
set_option maxHeartbeats 400000 in
theorem good7 (w : World) (a : Val) :
    Calls Tryz.prog 82 #[a.v] w fun e w' => e = .returned (.bool (goodV a)) ∧ Below w.heap.size w w' := by
  obtain ⟨k, n, t, r⟩ := a
  unfold goodV
  dsimp only
  have H1 := fun W : World => same7 W ⟨1, n, t, r⟩ ⟨1, n, ⟨#[]⟩, 0⟩
  have H2 := fun W : World => same7 W ⟨2, n, t, r⟩ ⟨2, n, ⟨#[]⟩, 0⟩
  have H3 := fun W : World => same7 W ⟨3, n, t, r⟩ ⟨3, 0, t, 0⟩
  have H4 := fun W : World => same7 W ⟨4, n, t, r⟩ ⟨4, 0, ⟨#[]⟩, canonB r⟩
  have HC := fun W : World => canon_any W r
  have hb1 : Below w.heap.size w (w.alloc (Obj.cells #[Value.int IntKind.i64 k, Value.int IntKind.i64 n, Value.string t, Value.float FloatKind.f64 r] 52)) := (Below.refl _ w).alloc (Nat.le_refl _) _
  have c0 : (w.alloc (Obj.cells #[Value.int IntKind.i64 k, Value.int IntKind.i64 n, Value.string t, Value.float FloatKind.f64 r] 52)).cell? ⟨w.heap.size, 0, none⟩ = some (.int .i64 k) := World.cell?_alloc_new ..
  have c1 : (w.alloc (Obj.cells #[Value.int IntKind.i64 k, Value.int IntKind.i64 n, Value.string t, Value.float FloatKind.f64 r] 52)).cell? ⟨w.heap.size, 1, none⟩ = some (.int .i64 n) := World.cell?_alloc_new ..
  have c2 : (w.alloc (Obj.cells #[Value.int IntKind.i64 k, Value.int IntKind.i64 n, Value.string t, Value.float FloatKind.f64 r] 52)).cell? ⟨w.heap.size, 2, none⟩ = some (.string t) := World.cell?_alloc_new ..
  have c3 : (w.alloc (Obj.cells #[Value.int IntKind.i64 k, Value.int IntKind.i64 n, Value.string t, Value.float FloatKind.f64 r] 52)).cell? ⟨w.heap.size, 3, none⟩ = some (.float .f64 r) := World.cell?_alloc_new ..
  have hs1 : (w.alloc (Obj.cells #[Value.int IntKind.i64 k, Value.int IntKind.i64 n, Value.string t, Value.float FloatKind.f64 r] 52)).heap.size = w.heap.size + 1 := by simp
  unfold Val.v at *
  dsimp only at *
  go_enter Tryz.func82, Tryz.ntmps82
  go_upto_region 1 with fail
  generalize (w.alloc (Obj.cells #[Value.int IntKind.i64 k, Value.int IntKind.i64 n, Value.string t, Value.float FloatKind.f64 r] 52)) = w1 at *
  by_cases h1 : k = 1
  · subst h1
    obtain ⟨g, hg⟩ : ∃ g, g = sameV ⟨1, n, t, r⟩ ⟨1, n, ⟨#[]⟩, 0⟩ := ⟨_, rfl⟩
    simp only [← hg] at H1
    clear H2 H3 H4 HC
    go_wp2_with fail
    refine (H1 _).mono ?_
    rintro e w2 ⟨rfl, hb2⟩
    go_wp2
    go_ret
    exact ⟨ret_b (by first | rfl | (rw [decide_eq_false e0]; rfl) | simp [*]), hb1.trans (hb2.mono (by omega))⟩
  by_cases h2 : k = 2
  · subst h2
    obtain ⟨g, hg⟩ : ∃ g, g = sameV ⟨2, n, t, r⟩ ⟨2, n, ⟨#[]⟩, 0⟩ := ⟨_, rfl⟩
    simp only [← hg] at H2
    clear H1 H3 H4 HC
    cases e0 : (n == 0) with
    | true =>
      go_wp2_with fail
      refine (H2 _).mono ?_
      rintro e w2 ⟨rfl, hb2⟩
      go_wp2
      go_ret
      exact ⟨ret_b (by first | rfl | (rw [decide_eq_false e0]; rfl) | simp [*]), hb1.trans (hb2.mono (by omega))⟩
    | false =>
    cases e1 : (n == 1) with
    | true =>
      go_wp2_with fail
      refine (H2 _).mono ?_
      rintro e w2 ⟨rfl, hb2⟩
      go_wp2
      go_ret
      exact ⟨ret_b (by first | rfl | (rw [decide_eq_false e0]; rfl) | simp [*]), hb1.trans (hb2.mono (by omega))⟩
    | false =>
      go_wp2
      go_ret
      exact ⟨ret_b (by first | rfl | (simp; omega) | (simp; intro h; omega)), hb1⟩
  by_cases h3 : k = 3
  · subst h3
    obtain ⟨g, hg⟩ : ∃ g, g = sameV ⟨3, n, t, r⟩ ⟨3, 0, t, 0⟩ := ⟨_, rfl⟩
    simp only [← hg] at H3
    clear H1 H2 H4 HC
    by_cases e0 : (t.size : Int) ≤ 256
    · go_wp2_with fail
      refine (H3 _).mono ?_
      rintro e w2 ⟨rfl, hb2⟩
      go_wp2
      go_ret
      exact ⟨ret_b (by first | rfl | (rw [decide_eq_false e0]; rfl) | simp [*]), hb1.trans (hb2.mono (by omega))⟩
    · go_wp2
      go_ret
      exact ⟨ret_b (by first | rfl | (simp; omega) | (simp; intro h; omega)), hb1⟩
  by_cases h4 : k = 4
  · subst h4
    obtain ⟨g, hg⟩ : ∃ g, g = sameV ⟨4, n, t, r⟩ ⟨4, 0, ⟨#[]⟩, canonB r⟩ := ⟨_, rfl⟩
    simp only [← hg] at H4
    clear H1 H2 H3
    go_upto_region 9 with fail
    refine wp_region_held (S := fun W => W.cell? ⟨w.heap.size, 0, none⟩ = some (.int .i64 4) ∧ W.cell? ⟨w.heap.size, 1, none⟩ = some (.int .i64 n) ∧ W.cell? ⟨w.heap.size, 2, none⟩ = some (.string t) ∧ W.cell? ⟨w.heap.size, 3, none⟩ = some (.float .f64 r)) hmix ?_
    show wpAnyH _ _ _ _ _ _ _ _ w1.drew
    have hS : (fun W : World => W.cell? ⟨w.heap.size, 0, none⟩ = some (.int .i64 4) ∧ W.cell? ⟨w.heap.size, 1, none⟩ = some (.int .i64 n) ∧ W.cell? ⟨w.heap.size, 2, none⟩ = some (.string t) ∧ W.cell? ⟨w.heap.size, 3, none⟩ = some (.float .f64 r)) w1.drew := ⟨c0, c1, c2, c3⟩
    have hb2 : Below w.heap.size w w1.drew := hb1.drew
    have hs2 : w1.drew.heap.size = w.heap.size + 1 := hs1
    clear c0 c1 c2 c3 hb1 hs1
    generalize w1.drew = w2 at *
    refine wpAnyH_take (i := 0) (v := .agg #[.int .i64 4, .int .i64 n, .string t, .float .f64 r]) rfl (by kernel_rfl) (by kernel_rfl) (by kernel_rfl) (fun _ _ _ h => h) (.inl ⟨by rfl, fun W' hW' => ?_⟩) hS ?_
    · obtain ⟨d0, d1, d2, d3⟩ := hW'
      go_simp
    dsimp only [Act.put]
    refine wpAnyH_take (i := 1) (v := .pointer (some ⟨w.heap.size, 3, none⟩)) rfl (by kernel_rfl) (by kernel_rfl) (by kernel_rfl) (fun _ _ _ h => h) (.inl ⟨by rfl, fun W' hW' => ?_⟩) hS ?_
    · go_simp
    dsimp only [Act.put]
    refine wpAnyH_take (i := 2) (v := .float .f64 r) rfl (by kernel_rfl) (by kernel_rfl) (by kernel_rfl) (fun _ _ _ h => h) (.inl ⟨by rfl, fun W' hW' => ?_⟩) hS ?_
    · obtain ⟨d0, d1, d2, d3⟩ := hW'
      go_simp
    dsimp only [Act.put]
    refine wpAnyH_one (i := 3) (by kernel_rfl) rfl (by rfl) (fun K hK => ?_)
    go_simp
    refine (HC _).mono ?_
    rintro e w' ⟨rfl, rfl⟩
    show K _ _
    refine hK _ _ hS ?_
    clear hK K
    refine wpAnyH_take (i := 4) (v := .agg #[.int .i64 4, .int .i64 0, .string ⟨#[]⟩, .float .f64 (canonB r)]) rfl (by kernel_rfl) (by kernel_rfl) (by kernel_rfl) (fun _ _ _ h => h) (.inl ⟨by rfl, fun W' hW' => ?_⟩) hS ?_
    · go_simp
    dsimp only [Act.put]
    refine wpAnyH_one (i := 5) (by kernel_rfl) rfl (by rfl) (fun K hK => ?_)
    go_simp
    refine (H4 _).mono ?_
    rintro e w3 ⟨rfl, hb3⟩
    obtain ⟨d0, d1, d2, d3⟩ := hS
    have hS3 : (fun W : World => W.cell? ⟨w.heap.size, 0, none⟩ = some (.int .i64 4) ∧ W.cell? ⟨w.heap.size, 1, none⟩ = some (.int .i64 n) ∧ W.cell? ⟨w.heap.size, 2, none⟩ = some (.string t) ∧ W.cell? ⟨w.heap.size, 3, none⟩ = some (.float .f64 r)) w3 := ⟨by rw [hb3.cell (by dsimp only; omega)]; exact d0, by rw [hb3.cell (by dsimp only; omega)]; exact d1, by rw [hb3.cell (by dsimp only; omega)]; exact d2, by rw [hb3.cell (by dsimp only; omega)]; exact d3⟩
    show K _ _
    refine hK _ _ hS3 ?_
    clear hK K
    refine wpAnyH_take (i := 6) (v := .bool g) rfl (by kernel_rfl) (by kernel_rfl) (by kernel_rfl) (fun _ _ _ h => h) (.inl ⟨by rfl, fun W' hW' => ?_⟩) hS3 ?_
    · go_simp
    refine wpAnyH_done (by kernel_rfl) ?_ _
    simp only [Act.put, List.getElem_toArray, List.getElem_cons_succ, List.getElem_cons_zero, List.setIfInBounds_toArray, List.set_cons_succ, List.set_cons_zero]
    go_wp2
    go_ret
    exact ⟨ret_b (by first | rfl | (rw [decide_eq_false e0]; rfl) | simp [*]), hb2.trans (hb3.mono (by omega))⟩
  go_wp2
  go_ret
  exact ⟨ret_b (by first | rfl | (rw [decide_eq_false e0]; rfl) | simp [*]), hb1⟩
end Go.Proofs.YtlbcefocmdnlgaaGreatDoor

namespace Go.Proofs.YtlbcefocmdnlgaaGreatDoor
open Go.RowKit Go.Lib Ieee

def inN (c : Int) : Bool := decide (97 ≤ c) && decide (c ≤ 122) || decide (48 ≤ c) && decide (c ≤ 57) || c == 45 || c == 95

theorem inname7 (w : World) (c : Int) : Calls Tryz.prog 55 #[.int .u8 c] w fun e w' => e = .returned (.bool (inN c)) ∧ w' = w := by
  by_cases h1 : 97 ≤ c
  · by_cases h2 : c ≤ 122
    · have e : inN c = true := by simp [inN, h1, h2]
      rw [e]
      go_enter Tryz.func55, Tryz.ntmps55
      go_wp2
      go_ret
      exact ⟨rfl, rfl⟩
    · have h3 : 48 ≤ c := by omega
      have h4 : ¬ c ≤ 57 := by omega
      have h5 : (c == 45) = false := by simp; omega
      have h6 : (c == 95) = false := by simp; omega
      have e : inN c = false := by simp [inN, h2, h4, h5, h6]
      rw [e]
      go_enter Tryz.func55, Tryz.ntmps55
      go_wp2
      go_ret
      exact ⟨rfl, rfl⟩
  · by_cases h2 : 48 ≤ c
    · by_cases h3 : c ≤ 57
      · have e : inN c = true := by simp [inN, h2, h3]
        rw [e]
        go_enter Tryz.func55, Tryz.ntmps55
        go_wp2
        go_ret
        exact ⟨rfl, rfl⟩
      · have h5 : (c == 45) = false := by simp; omega
        have e : inN c = (c == 95) := by simp [inN, h1, h3, h5]
        rw [e]
        go_enter Tryz.func55, Tryz.ntmps55
        go_wp2
        go_ret
        exact ⟨rfl, rfl⟩
    · cases h5 : (c == 45) with
      | true =>
        have e : inN c = true := by simp [inN, h5]
        rw [e]
        go_enter Tryz.func55, Tryz.ntmps55
        go_wp2
        go_ret
        exact ⟨rfl, rfl⟩
      | false =>
        have e : inN c = (c == 95) := by simp [inN, h1, h2, h5]
        rw [e]
        go_enter Tryz.func55, Tryz.ntmps55
        go_wp2
        go_ret
        exact ⟨rfl, rfl⟩

/-- Whether bytes are a name. -/
def nameL (s : List UInt8) : Bool := decide (1 ≤ s.length) && decide (s.length ≤ 16) && s.all fun c => inN (c.toNat : Int)

theorem all_take {p : UInt8 → Bool} {s : List UInt8} (k : Nat) (h : k < s.length) : (s.take (k + 1)).all p = ((s.take k).all p && p s[k]) := by
  rw [List.take_succ_eq_append_getElem h, List.all_append]
  simp

theorem toList_len (s : ByteArray) : s.toList.length = s.size := by rw [ByteArray.toList_eq]; rfl
theorem toList_at (s : ByteArray) (k : Nat) (h : k < s.size) (h' : k < s.toList.length) : s.toList[k] = s[k] := by
  simp only [ByteArray.toList_eq]
  rfl

set_option maxRecDepth 4000 in
theorem name7 (w : World) (s : ByteArray) : Calls Tryz.prog 29 #[.string s] w fun e w' => e = .returned (.bool (nameL s.toList)) ∧ w' = w := by
  have hsz := toList_len s
  by_cases h1 : (s.size : Int) < 1
  · have e : nameL s.toList = false := by simp [nameL]; omega
    rw [e]
    go_enter Tryz.func29, Tryz.ntmps29
    go_wp2
    go_ret
    exact ⟨rfl, rfl⟩
  by_cases h2 : (s.size : Int) > 16
  · have e : nameL s.toList = false := by simp [nameL]; omega
    rw [e]
    go_enter Tryz.func29, Tryz.ntmps29
    go_wp2
    go_ret
    exact ⟨rfl, rfl⟩
  have e : nameL s.toList = s.toList.all fun c => inN (c.toNat : Int) := by
    unfold nameL
    rw [decide_eq_true (by omega), decide_eq_true (by omega)]
    rfl
  rw [e]
  clear e
  have H : Hid (∀ (k : Nat) (h : k < s.size), (s.toList.take (k + 1)).all (fun c => inN (c.toNat : Int)) = ((s.toList.take k).all (fun c => inN (c.toNat : Int)) && inN ((s[k]'h).toNat : Int))) := fun k h => by
    rw [all_take k (by omega), toList_at s k h]
  have H2 : Hid (∀ k, s.size ≤ k → (s.toList.take k).all (fun c => inN (c.toNat : Int)) = s.toList.all fun c => inN (c.toNat : Int)) := fun k h => by
    rw [List.take_of_length_le (by omega)]
  have H3 : Hid (∀ k, (s.toList.take k).all (fun c => inN (c.toNat : Int)) = false → (s.toList.all fun c => inN (c.toNat : Int)) = false) := fun k h => by
    rw [← List.take_append_drop k s.toList, List.all_append, h]; rfl
  have H0 : (s.toList.take 0).all (fun c => inN (c.toNat : Int)) = true := rfl
  obtain ⟨g, hg⟩ : ∃ g : Nat → Bool, ∀ k, g k = (s.toList.take k).all (fun c => inN (c.toNat : Int)) := ⟨_, fun _ => rfl⟩
  simp only [← hg] at H H2 H3 H0
  have HI := fun (W : World) (c : Int) => inname7 W c
  clear hg hsz
  generalize (s.toList.all fun c => inN (c.toNat : Int)) = r at *
  go_enter Tryz.func29, Tryz.ntmps29
  go_wp2_with fail
  go_loopw [14] (fun i wr => ∃ k : Nat, k ≤ s.size ∧ i = .int .i64 k ∧ wr = w ∧ Hid (g k = true)) (fun i _ => s.size - (RowKit.intOf i).toNat)
  case atStart => exact ⟨0, by omega, rfl, rfl, H0⟩
  case round =>
    obtain ⟨k, hk, rfl, rfl, hz⟩ := hrel
    by_cases hlt : k < s.size
    · have h3 := H.out k hlt
      rw [hz.out, Bool.true_and] at h3
      cases e : inN ((s[k]'hlt).toNat : Int) with
      | true =>
        have hI := HI wr ((s[k]'hlt).toNat : Int)
        rw [e] at hI h3
        go_wp2_with fail
        refine hI.mono ?_
        rintro e w2 ⟨rfl, rfl⟩
        go_wp2
        go_roundw
        case rel => exact ⟨k + 1, by omega, by go_num, trivial, h3⟩
        case measure => simp [RowKit.intOf]; omega
      | false =>
        have hI := HI wr ((s[k]'hlt).toNat : Int)
        rw [e] at hI h3
        have h4 := H3.out _ h3
        go_wp2_with fail
        refine hI.mono ?_
        rintro e w2 ⟨rfl, rfl⟩
        go_wp2
        go_ret
        exact ⟨ret_b h4.symm, rfl⟩
    · have h4 := H2.out k (by omega)
      rw [hz.out] at h4
      go_wp2
      go_ret
      exact ⟨ret_b h4, rfl⟩
end Go.Proofs.YtlbcefocmdnlgaaGreatDoor

namespace Go.Proofs.YtlbcefocmdnlgaaGreatDoor
open Go.RowKit Go.Lib Ieee

/-- A property as the program holds it. -/
structure Pr where
  name : ByteArray
  val : Val
def Pr.v (p : Pr) : Value := .agg #[.string p.name, .int .i64 p.val.kind, .int .i64 p.val.num, .string p.val.text, .float .f64 p.val.real]
def canB (p : Pr) : Bool := nameL p.name.toList && goodV p.val

set_option maxRecDepth 4000 in
theorem canbe7 (w : World) (p : Pr) : Calls Tryz.prog 58 #[p.v] w fun e w' => e = .returned (.bool (canB p)) ∧ Below w.heap.size w w' := by
  obtain ⟨nm, k, n, t, r⟩ := p
  have HN := fun W : World => name7 W nm
  have HG := fun W : World => good7 W ⟨k, n, t, r⟩
  have hb1 : Below w.heap.size w (w.alloc (.cells #[.string nm, .int .i64 k, .int .i64 n, .string t, .float .f64 r] 54)) := (Below.refl _ w).alloc (Nat.le_refl _) _
  have c0 : (w.alloc (.cells #[.string nm, .int .i64 k, .int .i64 n, .string t, .float .f64 r] 54)).cell? ⟨w.heap.size, 0, none⟩ = some (.string nm) := World.cell?_alloc_new ..
  have c1 : (w.alloc (.cells #[.string nm, .int .i64 k, .int .i64 n, .string t, .float .f64 r] 54)).cell? ⟨w.heap.size, 1, none⟩ = some (.int .i64 k) := World.cell?_alloc_new ..
  have c2 : (w.alloc (.cells #[.string nm, .int .i64 k, .int .i64 n, .string t, .float .f64 r] 54)).cell? ⟨w.heap.size, 2, none⟩ = some (.int .i64 n) := World.cell?_alloc_new ..
  have c3 : (w.alloc (.cells #[.string nm, .int .i64 k, .int .i64 n, .string t, .float .f64 r] 54)).cell? ⟨w.heap.size, 3, none⟩ = some (.string t) := World.cell?_alloc_new ..
  have c4 : (w.alloc (.cells #[.string nm, .int .i64 k, .int .i64 n, .string t, .float .f64 r] 54)).cell? ⟨w.heap.size, 4, none⟩ = some (.float .f64 r) := World.cell?_alloc_new ..
  have hs1 : (w.alloc (.cells #[.string nm, .int .i64 k, .int .i64 n, .string t, .float .f64 r] 54)).heap.size = w.heap.size + 1 := by simp
  unfold canB Pr.v
  unfold Val.v at *
  dsimp only at *
  generalize goodV ⟨k, n, t, r⟩ = g at *
  cases e : nameL nm.toList with
  | false =>
    rw [e] at HN
    go_enter Tryz.func58, Tryz.ntmps58
    go_upto_region 1 with fail
    generalize (w.alloc (.cells #[.string nm, .int .i64 k, .int .i64 n, .string t, .float .f64 r] 54)) = w1 at *
    go_wp2_with fail
    refine (HN _).mono ?_
    rintro e w2 ⟨rfl, rfl⟩
    go_wp2
    go_ret
    exact ⟨rfl, hb1⟩
  | true =>
    rw [e] at HN
    go_enter Tryz.func58, Tryz.ntmps58
    go_upto_region 1 with fail
    generalize (w.alloc (.cells #[.string nm, .int .i64 k, .int .i64 n, .string t, .float .f64 r] 54)) = w1 at *
    go_wp2_with fail
    refine (HN _).mono ?_
    rintro e w2 ⟨rfl, rfl⟩
    go_wp2_with fail
    refine (HG _).mono ?_
    rintro e w3 ⟨rfl, hb3⟩
    go_wp2
    go_ret
    exact ⟨ret_b (by simp), hb1.trans (hb3.mono (by omega))⟩

/-- A slice of properties that can be read: of none wherever it points, or so many cells. -/
def PrAt (w : World) (b o : Nat) (p : Pr) : Prop :=
  w.cell? ⟨b, o, none⟩ = some (.string p.name) ∧ w.cell? ⟨b, o + 1, none⟩ = some (.int .i64 p.val.kind) ∧ w.cell? ⟨b, o + 2, none⟩ = some (.int .i64 p.val.num) ∧ w.cell? ⟨b, o + 3, none⟩ = some (.string p.val.text) ∧ w.cell? ⟨b, o + 4, none⟩ = some (.float .f64 p.val.real)
def RdP (w : World) (v : Value) (l : List Pr) : Prop :=
  ((∃ a c, v = .slice a 0 c) ∧ l = []) ∨ ∃ (b o c : Nat), v = .slice (some ⟨b, o, none⟩) l.length c ∧ l.length ≤ c ∧ ∀ i (h : i < l.length), PrAt w b (o + i * 5) l[i]

theorem PrAt.on {w w' : World} {b o : Nat} {p : Pr} (h : PrAt w b o p) (hb : Below w.heap.size w w') : PrAt w' b o p := by
  obtain ⟨h0, h1, h2, h3, h4⟩ := h
  have hl : b < w.heap.size := World.block_lt_of_cell? w _ h0
  exact ⟨by rw [hb.cell hl]; exact h0, by rw [hb.cell hl]; exact h1, by rw [hb.cell hl]; exact h2, by rw [hb.cell hl]; exact h3, by rw [hb.cell hl]; exact h4⟩
theorem RdP.on {w w' : World} {v : Value} {l : List Pr} (h : RdP w v l) (hb : Below w.heap.size w w') : RdP w' v l := by
  rcases h with h | ⟨b, o, c, rfl, hc, h⟩
  · exact .inl h
  · exact .inr ⟨b, o, c, rfl, hc, fun i hi => (h i hi).on hb⟩

/-- Whether each stands behind the one ahead of it. -/
def rising : List Pr → Bool
  | [] => true
  | [_] => true
  | a :: b :: l => Op.bytesLess a.name.toList b.name.toList && rising (b :: l)
def validL (l : List Pr) : Bool := decide (l.length ≤ 16) && (l.all canB && rising l)
end Go.Proofs.YtlbcefocmdnlgaaGreatDoor

namespace Go.Proofs.YtlbcefocmdnlgaaGreatDoor
open Go.RowKit Go.Lib

structure Msg where
  topic : List UInt8
  body : List UInt8
  props : List Pr
  dur : Bool
  til : Int
structure Itm where
  seq : Int
  again : Bool
  msg : Msg
structure Hld where
  tag : Int
  conn : Int
  sub : Int
  itm : Itm
structure Que where
  name : List UInt8
  dur : Bool
  depth : Int
  seq : Int
  tag : Int
  items : List Itm
  held : List Hld

def numB (n : Int) : Bool := decide (0 ≤ n) && decide (n ≤ 1099511627776)
def depB (n : Int) : Bool := decide (1 ≤ n) && decide (n ≤ 64)
def conB (n : Int) : Bool := decide (0 ≤ n) && decide (n < 8)
def givB (n last : Int) : Bool := decide (1 ≤ n) && decide (n ≤ last)
def msgB (m : Msg) : Bool := good m.topic && decide (m.body.length ≤ 1024) && validL m.props && numB m.til
def itmB (s : Int) (x : Itm) : Bool := givB x.seq s && msgB x.msg
/-- What waits: the numbers rise. -/
def itmsB (s : Int) : Int → List Itm → Bool
  | _, [] => true
  | a, x :: l => decide (a < x.seq) && itmB s x && itmsB s x.seq l
def hldB (s t : Int) (h : Hld) : Bool := givB h.tag t && conB h.conn && numB h.sub && itmB s h.itm
def hldsB (s t : Int) : Int → List Hld → Bool
  | _, [] => true
  | a, h :: l => decide (a < h.tag) && hldB s t h && hldsB s t h.tag l
/-- All numbers of a queue's items. -/
def seqs (q : Que) : List Int := q.items.map (·.seq) ++ q.held.map (·.itm.seq)
def lenQ (q : Que) : Nat := q.items.length + q.held.length
def goodQ (q : Que) : Bool := nameL q.name && depB q.depth && numB q.seq && numB q.tag && decide ((lenQ q : Int) ≤ q.depth) && itmsB q.seq 0 q.items && hldsB q.seq q.tag 0 q.held && decide (seqs q).Nodup
def zeroQ : Que := ⟨[], false, 0, 0, 0, [], []⟩
def zeroM : Msg := ⟨[], [], [], false, 0⟩
def zeroI : Itm := ⟨0, false, zeroM⟩

def pushC (q : Que) (m : Msg) : Int := if !goodQ q || decide (q.seq = 1099511627776) then 1 else if !msgB m then 36 else if (lenQ q : Int) = q.depth then 35 else 0
def pushQ (q : Que) (m : Msg) : Que := { q with seq := q.seq + 1, items := q.items ++ [⟨q.seq + 1, false, m⟩] }
def takeC (q : Que) (conn sub : Int) : Int := if !goodQ q || (!conB conn || (!numB sub || decide (q.tag = 1099511627776))) then 1 else if q.items.length = 0 then 33 else 0
def takeQ (q : Que) (conn sub : Int) (hold : Bool) : Que :=
  if hold then { q with tag := q.tag + 1, items := q.items.drop 1, held := q.held ++ [⟨q.tag + 1, conn, sub, q.items.headD zeroI⟩] } else { q with items := q.items.drop 1 }
def isH (conn tag : Int) (h : Hld) : Bool := decide (h.conn = conn) && decide (h.tag = tag)
def putB (l : List Itm) (x : Itm) : List Itm := l.takeWhile (fun y => decide (y.seq < x.seq)) ++ { x with again := true } :: l.dropWhile (fun y => decide (y.seq < x.seq))
def zeroH : Hld := ⟨0, 0, 0, zeroI⟩
def settleC (q : Que) (conn tag : Int) : Int := if !goodQ q then 1 else if q.held.findIdx (isH conn tag) < q.held.length then 0 else 33
def settleQ (q : Que) (conn tag : Int) (again : Bool) : Que :=
  { q with held := q.held.eraseIdx (q.held.findIdx (isH conn tag)), items := if again then putB q.items (q.held.getD (q.held.findIdx (isH conn tag)) zeroH).itm else q.items }
def isR (conn sub : Int) (h : Hld) : Bool := decide (h.conn = conn) && (decide (h.sub = sub) || decide (sub = -1))
def backs (l : List Itm) (hs : List Hld) : List Itm := hs.foldl (fun a h => putB a h.itm) l
def releaseQ (q : Que) (conn sub : Int) : Que := { q with items := backs q.items (q.held.filter (isR conn sub)), held := q.held.filter (fun h => !isR conn sub h) }
def oldB (now : Int) (x : Itm) : Bool := decide (0 < x.msg.til) && decide (x.msg.til ≤ now)
def expireQ (q : Que) (now : Int) : Que := { q with items := q.items.filter (fun x => !oldB now x) }
def holdsQ (q : Que) (conn sub : Int) : Nat := q.held.countP (fun h => decide (h.conn = conn) && decide (h.sub = sub))
end Go.Proofs.YtlbcefocmdnlgaaGreatDoor
