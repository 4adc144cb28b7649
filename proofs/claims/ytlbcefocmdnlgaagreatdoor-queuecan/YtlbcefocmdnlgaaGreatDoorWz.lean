/- A region that draws its order and ends with a store: what holds behind every operation but that one is enough to take a load first. Conditions: those that each row states. -/
import Derived.OrdersHeld
import Derived.WalkKit
namespace Go.Proofs.YtlbcefocmdnlgaaGreatDoor
open Go

section
variable {P : Program} {md : Region.Mode} {ops : Array Oper} {Q : Exit → Act → World → Prop} {S : World → Prop}

/-- Whatever order is picked: S holds behind every operation but number z. -/
def wpTo (P : Program) (md : Region.Mode) (ops : Array Oper) (Q : Exit → Act → World → Prop) (S : World → Prop) (z : Nat) : Nat → Array Bool → Act → World → Prop
  | 0, l, a, w => Region.ready md ops l = [] ∧ Q .normal a w
  | n + 1, l, a, w => (Region.ready md ops l = [] → Q .normal a w) ∧ ∀ i ∈ Region.ready md ops l, wpOp P ops Q i (fun a' w' => (i ≠ z → S w') ∧ wpTo P md ops Q S z n (l.setIfInBounds i true) a' w') a w

theorem wpTo.any {z : Nat} : ∀ {n : Nat} {l : Array Bool} {a : Act} {w : World}, wpTo P md ops Q S z n l a w → wpAny P md ops Q n l a w
  | 0, _, _, _, h => h
  | _ + 1, _, _, _, h => ⟨h.1, fun i hi => wpOp_mono (fun _ _ k => k.2.any) (h.2 i hi)⟩

/-- Whether one operation waits for another. -/
def waitsFor (md : Region.Mode) (ops : Array Oper) (z i : Nat) : Bool := match ops[z]? with
  | some o => o.after.any fun e => Region.binds md e && e.on == i
  | none => false
theorem not_ready {z i : Nat} {l : Array Bool} (hw : waitsFor md ops z i = true) (hi : i ∈ Region.ready md ops l) : z ∉ Region.ready md ops l := fun hz => by
  obtain ⟨_, o, ho, hall⟩ := mem_ready.1 hz
  unfold waitsFor at hw
  rw [ho] at hw
  obtain ⟨e, he, hb⟩ := Array.any_eq_true'.1 hw
  rw [Bool.and_eq_true, beq_iff_eq] at hb
  have h1 := hall e he hb.1
  have h2 := (mem_ready.1 hi).1
  rw [hb.2] at h1
  rcases Nat.lt_or_ge i l.size with h | h
  · simp [h] at h1 h2
    rw [h1] at h2
    cases h2
  · simp [Array.getElem?_eq_none h] at h1

theorem wpTo.take_at {z i : Nat} {oi : Oper} {v : Value} (hi : ops[i]? = some oi) (hsel : Region.noSelect ops = true) (hw : waitsFor md ops z i = true)
    (hQ : ∀ c a w, Q (.panic c) (a.put oi.dst v) w → Q (.panic c) a w) (n : Nat) : ∀ (l : Array Bool) (a : Act) (w : World),
    (∀ j oj, ops[j]? = some oj → j ≠ i → l.getD j true = false → (∀ e ∈ oj.after, Region.binds md e = true → e.on ≠ i) → oi.apart ops oj = true) →
    i ∈ Region.ready md ops l → YieldsIf P ops S oi v a → S w → wpTo P md ops Q S z n (l.setIfInBounds i true) (a.put oi.dst v) w → wpTo P md ops Q S z (n + 1) l a w := by
  have hsel := Region.noSelect_spec hsel
  induction n with
  | zero =>
    intro l a w _ hr hy hS H
    refine ⟨fun h => absurd (h ▸ hr) (by simp), fun j hj => ?_⟩
    by_cases e : j = i
    · subst e
      exact hy.wpOp hi hS ⟨fun _ => hS, H⟩
    · exact absurd (H.1 ▸ ready_mono hj e) (by simp)
  | succ n ih =>
    intro l a w hf hr hy hS H
    refine ⟨fun h => absurd (h ▸ hr) (by simp), fun j hj => ?_⟩
    by_cases e : j = i
    · subst e
      exact hy.wpOp hi hS ⟨fun _ => hS, H⟩
    · have hjz : j ≠ z := fun h => not_ready hw hr (h ▸ hj)
      obtain ⟨hun, oj, hoj, hall⟩ := mem_ready.1 hj
      have hnot : ∀ e ∈ oj.after, Region.binds md e = true → e.on ≠ i := fun e' he hb heq => by
        refine not_ready (z := j) (i := i) ?_ hr hj
        unfold waitsFor
        rw [hoj]
        exact Array.any_eq_true'.2 ⟨e', he, by rw [hb, heq]; simp⟩
      refine wpOp_mono ?_ (wpOp_putIf hoj (hf j oj hoj e hun hnot) (fun cs b => hsel i oi cs b hi) (fun cs b => hsel j oj cs b hoj) hQ hy (H.2 j (ready_mono hj e)))
      intro a' w' h3
      refine ⟨h3.2.1, ih (l.setIfInBounds j true) a' w' (fun k ok hk hki hu hn => ?_) (ready_mono hr (Ne.symm e)) h3.1 (h3.2.1 hjz) ?_⟩
      · by_cases hjk : j = k
        · subst hjk
          exact hf j ok hk hki hun hn
        · rw [getD_set_ne true hjk] at hu
          exact hf k ok hk hki hu hn
      · rw [Array.setIfInBounds_comm _ _ e]
        exact h3.2.2
theorem wpTo.take {z i : Nat} {oi : Oper} {v : Value} {n : Nat} {l : Array Bool} {a : Act} {w : World} (hi : ops[i]? = some oi) (hsel : Region.noSelect ops = true) (hw : waitsFor md ops z i = true)
    (hf : Region.free md ops l i = true) (hr : (Region.ready md ops l).contains i = true) (hQ : ∀ c a w, Q (.panic c) (a.put oi.dst v) w → Q (.panic c) a w)
    (hy : YieldsIf P ops S oi v a) (hS : S w) (h : wpTo P md ops Q S z n (l.setIfInBounds i true) (a.put oi.dst v) w) : wpTo P md ops Q S z (n + 1) l a w :=
  wpTo.take_at hi hsel hw hQ n l a w (Region.free_spec hi hf) (by simpa using hr) hy hS h
theorem wpTo.all {z : Nat} {rs : List Nat} {n : Nat} {l : Array Bool} {a : Act} {w : World} (hr : Region.ready md ops l = rs) (hne : rs ≠ [])
    (h : ∀ i ∈ rs, wpOp P ops Q i (fun a' w' => (i ≠ z → S w') ∧ wpTo P md ops Q S z n (l.setIfInBounds i true) a' w') a w) : wpTo P md ops Q S z (n + 1) l a w :=
  ⟨fun h0 => absurd (hr ▸ h0) hne, hr ▸ h⟩
theorem wpTo.done {z : Nat} {l : Array Bool} {a : Act} {w : World} (hr : Region.ready md ops l = []) (h : Q .normal a w) (n : Nat) : wpTo P md ops Q S z n l a w := by
  cases n with
  | zero => exact ⟨hr, h⟩
  | succ n => exact ⟨fun _ => h, by rw [hr]; simp⟩
/-- Only one may come up. -/
theorem wpTo.one {z i : Nat} {o : Oper} {n : Nat} {l : Array Bool} {a : Act} {w : World} (hr : Region.ready md ops l = [i]) (ho : ops[i]? = some o) (hw : Region.wanted o (yielded ops a.tmps) = true)
    (h : ∀ K : Act → World → Prop, (∀ a' w', (i ≠ z → S w') → wpTo P md ops Q S z n (l.setIfInBounds i true) a' w' → K a' w') → o.wp P a w K Q) : wpTo P md ops Q S z (n + 1) l a w :=
  wpTo.all hr (by simp) (fun j hj => by
    simp only [List.mem_singleton] at hj
    subst hj
    unfold wpOp
    simp only [ho]
    rw [if_pos hw]
    exact .inl (h _ (fun _ _ h1 h2 => ⟨h1, h2⟩)))
/-- Either of two may come up. -/
theorem wpTo.two {z i j : Nat} {o p : Oper} {n : Nat} {l : Array Bool} {a : Act} {w : World} (hr : Region.ready md ops l = [i, j]) (ho : ops[i]? = some o) (hp : ops[j]? = some p) (hwo : Region.wanted o (yielded ops a.tmps) = true) (hwp : Region.wanted p (yielded ops a.tmps) = true)
    (h1 : ∀ K : Act → World → Prop, (∀ a' w', (i ≠ z → S w') → wpTo P md ops Q S z n (l.setIfInBounds i true) a' w' → K a' w') → o.wp P a w K Q)
    (h2 : ∀ K : Act → World → Prop, (∀ a' w', (j ≠ z → S w') → wpTo P md ops Q S z n (l.setIfInBounds j true) a' w' → K a' w') → p.wp P a w K Q) : wpTo P md ops Q S z (n + 1) l a w :=
  wpTo.all hr (by simp) (fun k hk => by
    rcases List.mem_cons.1 hk with rfl | hk
    · unfold wpOp
      simp only [ho]
      rw [if_pos hwo]
      exact .inl (h1 _ (fun _ _ h1 h2 => ⟨h1, h2⟩))
    · simp only [List.mem_singleton] at hk
      subst hk
      unfold wpOp
      simp only [hp]
      rw [if_pos hwp]
      exact .inl (h2 _ (fun _ _ h1 h2 => ⟨h1, h2⟩)))
theorem wp_region_to {id z : Nat} {a : Act} {w : World} (hm : P.follows .mixedOrders = true) (h : wpTo P .any ops Q S z ops.size (Array.replicate ops.size false) a w.drew) : (Code.region id ops true).wp P Q a w :=
  wp_region_any hm h.any
end
end Go.Proofs.YtlbcefocmdnlgaaGreatDoor
