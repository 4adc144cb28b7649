
/- Several operations of a region that may be taken first, at once. -/
import Derived.OrdersHeld
import Derived.WalkKit
namespace Go.Proofs.YtmaaacaifpgpaaaGreatDoor
open Go

def tkOk (md : Region.Mode) (ops : Array Oper) : List Nat → Array Bool → Bool
  | [], _ => true
  | i :: l, b => (ops[i]?).isSome && Region.free md ops b i && (Region.ready md ops b).contains i && tkOk md ops l (b.setIfInBounds i true)
def tkL : List Nat → Array Bool → Array Bool
  | [], b => b
  | i :: l, b => tkL l (b.setIfInBounds i true)
def tkA (ops : Array Oper) : List Nat → List Value → Act → Act
  | i :: l, v :: vs, a => tkA ops l vs (a.put ((ops[i]?).bind Oper.dst) v)
  | _, _, a => a
def tkY (P : Program) (ops : Array Oper) (S : World → Prop) : List Nat → List Value → Act → Prop
  | i :: l, v :: vs, a => (match ops[i]? with
    | some o => YieldsIf P ops S o v a
    | none => False) ∧ tkY P ops S l vs (a.put ((ops[i]?).bind Oper.dst) v)
  | [], [], _ => True
  | _, _, _ => False
theorem takes {P : Program} {md : Region.Mode} {ops : Array Oper} {Q : Exit → Act → World → Prop} {S : World → Prop} (hs : Region.noSelect ops = true) (hQ : ∀ c (a : Act) t w, Q (.panic c) ⟨t, a.defers⟩ w → Q (.panic c) a w) :
    ∀ (l : List Nat) (vs : List Value) (n : Nat) (b : Array Bool) (a : Act) (w : World), tkOk md ops l b = true → tkY P ops S l vs a → S w → wpAnyH P md ops Q S n (tkL l b) (tkA ops l vs a) w → wpAnyH P md ops Q S (n + l.length) b a w
  | [], vs, n, b, a, w, _, hy, _, h => by
    cases vs with
    | nil => exact h
    | cons v vs => exact absurd hy (by simp [tkY])
  | i :: l, [], n, b, a, w, _, hy, _, h => absurd hy (by simp [tkY])
  | i :: l, v :: vs, n, b, a, w, hk, hy, hS, h => by
    simp only [tkOk, Bool.and_eq_true] at hk
    obtain ⟨⟨⟨h1, h2⟩, h3⟩, h4⟩ := hk
    unfold tkY at hy
    obtain ⟨h5, h6⟩ := hy
    unfold tkL tkA at h
    cases ho : ops[i]? with
    | none =>
      rw [ho] at h1
      cases h1
    | some o =>
      rw [ho] at h5 h6 h
      have h7 := takes hs hQ l vs n (b.setIfInBounds i true) (a.put o.dst v) w h4 h6 hS h
      refine wpAnyH_take ho hs h2 h3 (fun c a' w' hq => ?_) h5 hS h7
      cases hd : o.dst with
      | none =>
        rw [hd] at hq
        exact hq
      | some d =>
        rw [hd] at hq
        exact hQ c a' _ w' hq
theorem tks {P : Program} {md : Region.Mode} {ops : Array Oper} {Q : Exit → Act → World → Prop} {S : World → Prop} {b : Array Bool} {a : Act} {w : World} {m : Nat} (l : List Nat) (vs : List Value) (n : Nat)
    (hy : tkY P ops S l vs a) (hS : S w) (h : wpAnyH P md ops Q S n (tkL l b) (tkA ops l vs a) w) (hk : tkOk md ops l b = true := by kernel_rfl) (hn : m = n + l.length := by kernel_rfl) (hs : Region.noSelect ops = true := by kernel_rfl) (hQ : ∀ c (a : Act) t w, Q (.panic c) ⟨t, a.defers⟩ w → Q (.panic c) a w := by exact fun _ _ _ _ h => h) :
    wpAnyH P md ops Q S m b a w := by
  subst hn
  exact takes hs hQ l vs n b a w hk hy hS h
theorem tkf : (∀ (α : Type) (l : List α) (i : Nat), l.toArray[i]? = l[i]?) ∧ (∀ (α : Type) (a : α) (l : List α) (n : Nat), (a :: l)[n + 1]? = l[n]?) ∧ (∀ (α : Type) (a : α) (l : List α), (a :: l)[0]? = some a) ∧ (∀ (α : Type) (l : List α) (i : Nat) (h : i < l.toArray.size), l.toArray[i] = l[i]'(by simpa using h)) ∧ (∀ (α : Type) (a : α) (l : List α) (n : Nat) (h : n + 1 < (a :: l).length), (a :: l)[n + 1] = l[n]'(by simpa using h)) ∧ (∀ (α : Type) (a : α) (l : List α) (h : 0 < (a :: l).length), (a :: l)[0] = a) ∧ (∀ (α : Type) (l : List α) (i : Nat) (v : α), l.toArray.setIfInBounds i v = (l.set i v).toArray) ∧ (∀ (α : Type) (a : α) (l : List α) (n : Nat) (v : α), (a :: l).set (n + 1) v = a :: l.set n v) ∧ (∀ (α : Type) (a : α) (l : List α) (v : α), (a :: l).set 0 v = v :: l) ∧ (∀ (α β : Type) (x : α) (f : α → Option β), (some x).bind f = f x) ∧ (∀ (a : Act) (d : Tmp) (v : Value), a.put (some d) v = ⟨a.tmps.setIfInBounds d v, a.defers⟩) ∧ (∀ (a : Act) (v : Value), a.put none v = a) :=
  ⟨fun _ _ _ => List.getElem?_toArray .., fun _ _ _ _ => List.getElem?_cons_succ .., fun _ _ _ => List.getElem?_cons_zero .., fun _ _ _ _ => List.getElem_toArray .., fun _ _ _ _ _ => List.getElem_cons_succ .., fun _ _ _ _ => List.getElem_cons_zero .., fun _ _ _ _ => List.setIfInBounds_toArray .., fun _ _ _ _ _ => List.set_cons_succ .., fun _ _ _ _ => List.set_cons_zero .., fun _ _ _ _ => rfl, fun _ _ _ => rfl, fun _ _ => rfl⟩
theorem ak {P : Program} {md : Region.Mode} {ops : Array Oper} {Q : Exit → Act → World → Prop} {S : World → Prop} (i : Nat) {o : Oper} {fuel : Nat} {listed : Array Bool} {a : Act} {w : World}
    (h : ∀ K : Act → World → Prop, (∀ a' w', S w' → wpAnyH P md ops Q S fuel (listed.setIfInBounds i true) a' w' → K a' w') → o.wp P a w K Q) (hr : Region.ready md ops listed = [i] := by kernel_rfl) (ho : ops[i]? = some o := by exact rfl) (hw : Region.wanted o (yielded ops a.tmps) = true := by rfl) : wpAnyH P md ops Q S (fuel + 1) listed a w :=
  wpAnyH_all hr (by simp) (fun j hj => by
    simp only [List.mem_singleton] at hj
    subst hj
    unfold wpOp
    simp only [ho]
    rw [if_pos hw]
    exact .inl (h _ (fun _ _ h1 h2 => ⟨h1, h2⟩)))
theorem _root_.Go.YieldsIf.no {P : Program} {ops : Array Oper} {S : World → Prop} {o : Oper} {a : Act} (h : Region.wanted o (yielded ops a.tmps) = false := by rfl) : YieldsIf P ops S o undef a := .inr ⟨h, rfl⟩
theorem _root_.Go.YieldsIf.yes {P : Program} {ops : Array Oper} {S : World → Prop} {o : Oper} {v : Value} {a : Act} (h : ∀ w, S w → (execOp a.eval o).run P w = .ok (.value v) w) (hw : Region.wanted o (yielded ops a.tmps) = true := by rfl) : YieldsIf P ops S o v a := .inl ⟨hw, h⟩
end Go.Proofs.YtmaaacaifpgpaaaGreatDoor
