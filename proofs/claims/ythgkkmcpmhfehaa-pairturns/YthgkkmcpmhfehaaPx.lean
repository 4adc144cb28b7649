/- Two operations that may come in either order; appends to a list in such a region; a copy of a list with one element more. -/
import Derived.Test.YthgkkmcpmhfehaaPl
namespace Go.Proofs.Ythgkkmcpmhfehaa
open Go.RowKit Go.Lib Go.Shelf
set_option maxRecDepth 100000

theorem wpAnyH_two {P : Program} {md : Region.Mode} {ops : Array Oper} {Q : Exit → Act → World → Prop} {S : World → Prop} {i j : Nat} {o o' : Oper} {fuel : Nat} {listed : Array Bool} {a : Act} {w : World} (hr : Region.ready md ops listed = [i, j]) (ho : ops[i]? = some o) (hw : Region.wanted o (yielded ops a.tmps) = true) (ho' : ops[j]? = some o') (hw' : Region.wanted o' (yielded ops a.tmps) = true)
    (h : ∀ K : Act → World → Prop, (∀ a' w', S w' → wpAnyH P md ops Q S fuel (listed.setIfInBounds i true) a' w' → K a' w') → o.wp P a w K Q)
    (h' : ∀ K : Act → World → Prop, (∀ a' w', S w' → wpAnyH P md ops Q S fuel (listed.setIfInBounds j true) a' w' → K a' w') → o'.wp P a w K Q) : wpAnyH P md ops Q S (fuel + 1) listed a w :=
  wpAnyH_all hr (by simp) (fun k hk => by
    simp only [List.mem_cons, List.not_mem_nil, or_false] at hk
    rcases hk with rfl | rfl
    · unfold wpOp
      simp only [ho]
      rw [if_pos hw]
      exact .inl (h _ (fun _ _ h1 h2 => ⟨h1, h2⟩))
    · unfold wpOp
      simp only [ho']
      rw [if_pos hw']
      exact .inl (h' _ (fun _ _ h1 h2 => ⟨h1, h2⟩)))

theorem wp_appL {o : Oper} {a : Act} {K : Act → World → Prop} {Q : Exit → Act → World → Prop} (s x : Operand)
    (ho : o.op = .call { callee := .builtin .append, args := #[s, x], argTypes := #[31, 31] }) (B : Nat) (v vx : Value) (xs lx : List Value) (n m : Nat) (w : World)
    (hs : a.eval s = v) (hown : w.ownsRow B 30 1 v n xs) (hx : a.eval x = vx) (hsrc : w.ownsRow 0 30 1 vx m lx) (hone : ∀ u ∈ lx, u.oneCell' = true) (hn : n ≤ 5000) (hm : m ≤ 5000) (hB : B ≤ w.heap.size)
    (h : ∀ v' w', w'.ownsRow B 30 1 v' (n + m) (xs ++ lx) → Below B w w' → (∀ k, k < w.heap.size → v.ownBlock ≠ some k → w'.heap[k]? = w.heap[k]?) → K (a.put o.dst v') w') : o.wp Try.prog a w K Q := by
  obtain ⟨i0, hi, hz0, hz1, hz2⟩ := info_parts info22
  rcases hsrc with ⟨hl, ⟨rfl, rfl⟩ | ⟨g, cap, cur, rfl, _, hg, hc, hmx, hsz, ht⟩⟩
  · obtain rfl : lx = [] := List.length_eq_zero_iff.1 (by omega)
    have hrun := run_append_owned_none (P := Try.prog) (w := w) B 31 o.type 30 i0 1 Try.underlying31 hi v n xs hown
    unfold Oper.wp
    simp [execOp, ho, resolve, invoke, builtin, hs, hx, hrun, Result.andThen]
    exact h v w (by simpa using hown) (Below.refl _ _) (fun _ _ _ => rfl)
  · refine wp_append_own w s x 31 ho B 30 i0 (.slice none 0 0) 1 24 Try.underlying31 hi hz0 hz1 hz2 rfl (by decide) v n xs hs hown ⟨g, 0, none⟩ m cap lx hx (by omega) ?_ hone (by unfold maxLen; omega) (by omega) hB ?_
    · intro j u hj
      have hjl := (List.getElem?_eq_some_iff.1 hj).1
      have e : (cur.toList.take (m * 1))[j]? = lx[j]? := by rw [ht]
      rw [List.getElem?_take_of_lt (by omega), hj] at e
      rw [Addr.add_lit, Nat.zero_add]
      simp only [World.cell?, hg]
      simpa using e
    · intro v' w' h1 h2 _
      exact h v' w' h1 ((Below.refl B w).grown h2 hB (fun k hk => (World.ownsRow.lt hown k hk).1)) (fun k hk hne => h2.block k hk (fun e' => hne e'.symm))
/-- A row with one element, just built. -/
theorem own_one {w : World} {g : Nat} {u : Value} (hg : w.heap[g]? = some (.cells #[u] 30 (0, 0))) : w.ownsRow 0 30 1 (.slice (some ⟨g, 0, none⟩) 1 1) 1 [u] :=
  ⟨rfl, .inr ⟨g, 1, _, rfl, Nat.zero_le _, hg, Nat.le_refl _, by decide, rfl, rfl⟩⟩
theorem own_no {w : World} {B g : Nat} (hB : B ≤ g) (hg : w.heap[g]? = some (.cells #[] 30 (0, 0))) : w.ownsRow B 30 1 (.slice (some ⟨g, 0, none⟩) 0 0) 0 [] :=
  ⟨rfl, .inr ⟨g, 0, _, rfl, hB, hg, Nat.le_refl _, by decide, rfl, rfl⟩⟩
theorem own_on {w w' : World} {B : Nat} {v : Value} {n : Nat} {xs : List Value} (h : w.ownsRow B 30 1 v n xs) (hb : Below w.heap.size w w') : w'.ownsRow B 30 1 v n xs :=
  ownsRow_block h (fun k hk => hb.block k (by
    obtain ⟨c, hc⟩ := own_ne (ownsRow_base h (Nat.zero_le _)) hk
    exact (Array.getElem?_eq_some_iff.1 hc).1))

/-- A fresh copy of a list of records, with one more. -/
theorem LZ.copied {w w3 wc : World} {Z : Nat → Prop} {v' u : Value} {rs : List (List UInt8)} {y : List UInt8} {vals : List Value} (hw : w.heap.size ≤ w3.heap.size) (hZ : ∀ k, Z k → k < w3.heap.size)
    (hlen : vals.length = rs.length) (hr : ∀ (i : Nat) (r : List UInt8), rs[i]? = some r → ∃ u, vals[i]? = some u ∧ BV w w3 Z u r) (hu : Sl.RdA w u y)
    (ho : wc.ownsRow w3.heap.size 30 1 v' (rs.length + 1) (vals ++ [u])) (hb : Below w3.heap.size w3 wc) : LZ w wc Z v' (rs ++ [y]) := by
  refine ⟨vals ++ [u], by rw [List.length_append]; exact ownsRow_base ho (Nat.zero_le _), fun k hk => ?_, fun i r hi => ?_⟩
  · rcases ho.2 with ⟨rfl, h0⟩ | ⟨g, cap, cur, rfl, hB, _⟩
    · cases hk
    · have e : k = g := by cases hk; rfl
      subst e
      exact ⟨by omega, fun hz => by have := hZ _ hz; omega⟩
  · by_cases hlt : i < rs.length
    · rw [List.getElem?_append_left hlt] at hi
      obtain ⟨u', h1, h2⟩ := hr i r hi
      exact ⟨u', by rw [List.getElem?_append_left (by omega)]; exact h1, h2.on (Y := fun _ => False) (Y' := fun _ => False) (Step.of_below hb) (fun _ h => h.elim) (fun _ h => .inl h)⟩
    · have hi' : i = rs.length := by
        have := (List.getElem?_eq_some_iff.1 hi).1
        simp at this; omega
      subst hi'
      rw [List.getElem?_append_right (Nat.le_refl _), Nat.sub_self] at hi
      cases hi
      exact ⟨u, by rw [List.getElem?_append_right (by omega), hlen, Nat.sub_self]; rfl, .inl hu⟩
end Go.Proofs.Ythgkkmcpmhfehaa
