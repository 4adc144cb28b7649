/- Appends to the lists of the document's drum. -/
import Derived.Test.YthgkkmcpmhfehaaSteps
import Derived.Deep.RegionLaw
namespace Go.Proofs.Ythgkkmcpmhfehaa
open Go.RowKit Go.Lib
set_option maxRecDepth 100000

theorem info3 : (Try.prog.info? 3).map (fun i => (i.zero, i.size, i.bytes)) = some (some (.int .i64 0), 1, 8) := by kernel_rfl
theorem info22 : (Try.prog.info? 30).map (fun i => (i.zero, i.size, i.bytes)) = some (some (.slice none 0 0), 1, 24) := by kernel_rfl

/-- What one append of one element makes. -/
structure Pushed (w w1 : World) (e : TypeId) (v v1 : Value) (N : Nat) (xs : List Value) (u : Value) (g1 : Nat) : Prop where
  own : w1.ownsRow 0 e 1 v1 (N + 1) (xs ++ [u])
  at1 : v1.ownBlock = some g1
  old : v.ownBlock = some g1 ∨ w.heap.size ≤ g1
  lt : g1 < w1.heap.size
  step : Step (fun k => v.ownBlock = some k) (fun k => v.ownBlock = some k ∨ k = g1) w w1

theorem wp_push1 {o : Oper} {a : Act} {K : Act → World → Prop} {Q : Exit → Act → World → Prop} (s x : Operand) (t e : TypeId) (zv : Value) (by' : Nat)
    (ho : o.op = .call { callee := .builtin .append, args := #[s, x], argTypes := #[t, t] }) (hu : Try.prog.underlying t = some (.slice e)) (hin : (Try.prog.info? e).map (fun i => (i.zero, i.size, i.bytes)) = some (some zv, 1, by')) (hzv : zv.cells.size = 1) (hby : by' ≤ 24)
    (w : World) (v : Value) (N : Nat) (xs : List Value) (hown : w.ownsRow 0 e 1 v N xs) (u : Value) (hu1 : u.oneCell' = true) (hN : N ≤ 5000)
    (hs : a.eval s = v) (hx : a.eval x = .slice (some ⟨w.heap.size, 0, none⟩) 1 1)
    (h : ∀ g1 cap w1, Hid (Pushed w w1 e v (.slice (some ⟨g1, 0, none⟩) (N + 1) cap) N xs u g1) → K (a.put o.dst (.slice (some ⟨g1, 0, none⟩) (N + 1) cap)) w1) :
    o.wp Try.prog a (w.alloc (.cells #[u] e)) K Q := by
  obtain ⟨i0, hi, hz0, hz1, hz2⟩ := info_parts hin
  have hb0 : Below w.heap.size w (w.alloc (.cells #[u] e)) := (Below.refl _ _).alloc (Nat.le_refl _) _
  have hvl : ∀ k, v.ownBlock = some k → k < w.heap.size := fun k hk => by
    obtain ⟨c, hc⟩ := own_ne hown hk
    exact (Array.getElem?_eq_some_iff.1 hc).1
  have hown0 : (w.alloc (.cells #[u] e)).ownsRow 0 e 1 v N xs := ownsRow_block hown (fun k hk => hb0.block k (hvl k hk))
  refine wp_append_lies _ s x t ho 0 e i0 zv 1 by' hu hi hz0 hz1 hz2 hzv (by omega) v N xs hs hown0 ⟨w.heap.size, 0, none⟩ 1 1 [u] hx rfl (World.news_of_block (cs := #[u]) (fr := (0, 0)) (t := e) (heap_alloc_new w _)) (fun y hy => by obtain rfl := List.mem_singleton.1 hy; exact hu1) (by omega) (by unfold maxLen; omega) ?_ (Nat.zero_le _) _ rfl ?_
  · have : (N + 1) * by' ≤ 5001 * 24 := Nat.mul_le_mul (by omega) hby
    omega
  · intro g1 cap w1 hown1 hgrow hat hlt
    refine h g1 cap w1 ⟨hown1, rfl, ?_, hlt, ⟨hgrow.os, hgrow.tape, hgrow.output, Nat.le_trans hb0.size hgrow.size, ?_, ?_⟩⟩
    · rcases hat with hat | hat
      · exact .inl hat
      · exact .inr (by rw [hat]; exact hb0.size)
    · intro k hk hne
      rw [hgrow.block k (Nat.lt_of_lt_of_le hk hb0.size) (fun e' => hne e'.symm)]
      exact hb0.block k hk
    · rintro k (hk | rfl)
      · exact .inl hk
      · rcases hat with hat | hat
        · exact .inl hat
        · exact .inr (by rw [hat]; exact hb0.size)
theorem step_push1 {ops : Array Oper} {o : Oper} {a : Act} {K : Act → World → Prop} {Q : Exit → Act → World → Prop} {Ex : Prop} (hgd : o.guard = none) (s x : Operand) (t e : TypeId) (zv : Value) (by' : Nat)
    (ho : o.op = .call { callee := .builtin .append, args := #[s, x], argTypes := #[t, t] }) (hu : Try.prog.underlying t = some (.slice e)) (hin : (Try.prog.info? e).map (fun i => (i.zero, i.size, i.bytes)) = some (some zv, 1, by')) (hzv : zv.cells.size = 1) (hby : by' ≤ 24)
    (w : World) (v : Value) (N : Nat) (xs : List Value) (hown : w.ownsRow 0 e 1 v N xs) (u : Value) (hu1 : u.oneCell' = true) (hN : N ≤ 5000)
    (hs : a.eval s = v) (hx : a.eval x = .slice (some ⟨w.heap.size, 0, none⟩) 1 1)
    (h : ∀ g1 cap w1, Hid (Pushed w w1 e v (.slice (some ⟨g1, 0, none⟩) (N + 1) cap) N xs u g1) → K (a.put o.dst (.slice (some ⟨g1, 0, none⟩) (N + 1) cap)) w1) :
    if Region.wanted o (yielded ops a.tmps) = true then o.wp Try.prog a (w.alloc (.cells #[u] e)) K Q else Ex := by
  have hw : Region.wanted o (yielded ops a.tmps) = true := by simp [Region.wanted, hgd]
  rw [if_pos hw]
  exact wp_push1 s x t e zv by' ho hu hin hzv hby w v N xs hown u hu1 hN hs hx h

end Go.Proofs.Ythgkkmcpmhfehaa
