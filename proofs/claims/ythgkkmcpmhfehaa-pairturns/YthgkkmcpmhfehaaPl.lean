/- Bytes and lists of records that were handed in, or stand in memory of their own; a slice of steps that came in. -/
import Derived.Test.YthgkkmcpmhfehaaPv
import Derived.Test.YthgkkmcpmhfehaaOd
namespace Go.Proofs.Ythgkkmcpmhfehaa
open Go.RowKit Go.Lib Go.Shelf
set_option maxRecDepth 100000

/-- Bytes that were handed in, or of their own, apart from what moves. -/
def BV (w wr : World) (Z : Nat → Prop) (u : Value) (r : List UInt8) : Prop :=
  Sl.RdA w u r ∨ ∃ g o c full, u = .slice (some ⟨g, o, none⟩) r.length c ∧ w.heap.size ≤ g ∧ ¬ Z g ∧ r.length ≤ c ∧ wr.heap[g]? = some (.cells full 5 (0, 0)) ∧ wr.rangeAt g o (byteCells r)
theorem BV.on {w wr wr' : World} {Z Z' Y Y' : Nat → Prop} {u : Value} {r : List UInt8} (h : BV w wr Z u r) (hs : Step Y Y' wr wr') (hy : ∀ k, Y k → Z k) (hz : ∀ k, Z' k → Z k ∨ wr.heap.size ≤ k) : BV w wr' Z' u r := by
  rcases h with h | ⟨g, o, c, full, h1, h2, h3, h4, h5, h6⟩
  · exact .inl h
  · have hlt : g < wr.heap.size := (Array.getElem?_eq_some_iff.1 h5).1
    have hb := hs.block g hlt (fun hyg => h3 (hy g hyg))
    refine .inr ⟨g, o, c, full, h1, h2, fun hx' => ?_, h4, hb.trans h5, fun j x hj => ?_⟩
    · rcases hz g hx' with h' | h'
      · exact h3 h'
      · omega
    · rw [← h6 j x hj]
      simp only [World.cell?, hb]
theorem BV.rd {w wr : World} {Z : Nat → Prop} {u : Value} {r : List UInt8} (h : BV w wr Z u r) (hb : Below w.heap.size w wr) : Sl.RdA wr u r := by
  rcases h with h | ⟨g, o, c, full, rfl, _, _, h4, _, h6⟩
  · exact Sl.RdA.on h hb
  · exact sl_range h6 h4
theorem BV.shape {w wr : World} {Z : Nat → Prop} {u : Value} {r : List UInt8} (h : BV w wr Z u r) : ∃ a c, u = .slice a r.length c := by
  rcases h with h | ⟨g, o, c, full, rfl, _⟩
  · exact h.len
  · exact ⟨_, _, rfl⟩
/-- A list of such. -/
def LZ (w wr : World) (Z : Nat → Prop) (v : Value) (rs : List (List UInt8)) : Prop :=
  ∃ vals : List Value, wr.ownsRow 0 30 1 v rs.length vals ∧ (∀ k, v.ownBlock = some k → w.heap.size ≤ k ∧ ¬ Z k) ∧ ∀ (i : Nat) (r : List UInt8), rs[i]? = some r → ∃ u, vals[i]? = some u ∧ BV w wr Z u r
theorem LZ.nil (w wr : World) (Z : Nat → Prop) : LZ w wr Z (.slice none 0 0) [] := ⟨[], World.ownsRow_nil _ _ _ _, ⟨(fun k hk => by cases hk), fun i r h => by simp at h⟩⟩
theorem LZ.lt {w wr : World} {Z : Nat → Prop} {v : Value} {rs : List (List UInt8)} (h : LZ w wr Z v rs) : ∀ k, v.ownBlock = some k → k < wr.heap.size := fun k hk => by
  obtain ⟨vals, ho, _⟩ := h
  obtain ⟨c, hc⟩ := own_ne ho hk
  exact (Array.getElem?_eq_some_iff.1 hc).1
theorem LZ.shape {w wr : World} {Z : Nat → Prop} {v : Value} {rs : List (List UInt8)} (h : LZ w wr Z v rs) : ∃ a c, v = .slice a rs.length c := by
  obtain ⟨vals, ho, _⟩ := h
  rcases ho.2 with ⟨rfl, h0⟩ | ⟨g, cap, cur, rfl, _⟩
  · rw [h0]; exact ⟨_, _, rfl⟩
  · exact ⟨_, _, rfl⟩
theorem LZ.on {w wr wr' : World} {Z Z' Y Y' : Nat → Prop} {v : Value} {rs : List (List UInt8)} (h : LZ w wr Z v rs) (hs : Step Y Y' wr wr') (hy : ∀ k, Y k → Z k) (hz : ∀ k, Z' k → Z k ∨ wr.heap.size ≤ k) : LZ w wr' Z' v rs := by
  have hlt := h.lt
  obtain ⟨vals, ho, hb, hr⟩ := h
  refine ⟨vals, ownsRow_block ho (fun k hk => hs.block k (hlt k hk) (fun hyk => (hb k hk).2 (hy k hyk))), fun k hk => ⟨(hb k hk).1, fun hx' => ?_⟩, fun i r hi => ?_⟩
  · rcases hz k hx' with h' | h'
    · exact (hb k hk).2 h'
    · have := hlt k hk; omega
  · obtain ⟨u, h1, h2⟩ := hr i r hi
    exact ⟨u, h1, h2.on hs hy hz⟩
theorem own_cell' {w : World} {v : Value} {n : Nat} {xs : List Value} {i : Nat} {u : Value} (ho : w.ownsRow 0 30 1 v n xs) (hu : xs[i]? = some u) (hi : i < n) : ∃ g c, v = .slice (some ⟨g, 0, none⟩) n c ∧ w.cell? ⟨g, i, none⟩ = some u := by
  rcases ho.2 with ⟨_, h0⟩ | ⟨g, cap, cur, rfl, _, hg, _, _, _, ht⟩
  · omega
  · refine ⟨g, cap, rfl, ?_⟩
    have e : (cur.toList.take (n * 1))[i]? = xs[i]? := by rw [ht]
    rw [List.getElem?_take_of_lt (by omega), hu] at e
    simp only [World.cell?, hg]
    simpa using e
theorem LZ.rdl {w wr : World} {Z : Nat → Prop} {v : Value} {rs : List (List UInt8)} (h : LZ w wr Z v rs) (hb : Below w.heap.size w wr) : RdL wr v rs := by
  obtain ⟨a, c, rfl⟩ := h.shape
  obtain ⟨vals, ho, _, hr⟩ := h
  refine ⟨a, c, rfl, fun i r hi => ?_⟩
  obtain ⟨u, hu, he⟩ := hr i r hi
  obtain ⟨g, c', h1, h2⟩ := own_cell' ho hu (List.getElem?_eq_some_iff.1 hi).1
  cases h1
  exact ⟨g, 0, u, rfl, by rw [Nat.zero_add]; exact h2, he.rd hb⟩
theorem Recs.lz {w wr : World} {Z : Nat → Prop} {B : Nat} {v : Value} {rs : List (List UInt8)} (h : Recs wr B v rs) (hB : w.heap.size ≤ B) (hZ : ∀ (k : Nat) (c : Array Value) (e : TypeId), B ≤ k → (e = 5 ∨ e = 30) → wr.heap[k]? = some (.cells c e (0, 0)) → ¬ Z k) : LZ w wr Z v rs := by
  obtain ⟨vals, ho, hb, hr⟩ := h
  refine ⟨vals, ho, fun k hk => ⟨Nat.le_trans hB (hb k hk), ?_⟩, fun i r hi => ?_⟩
  · obtain ⟨c, hc⟩ := own_ne ho hk
    exact hZ k c 30 (hb k hk) (.inr rfl) hc
  · obtain ⟨u, hu, g, rfl, h1, h2⟩ := hr i r hi
    exact ⟨_, hu, .inr ⟨g, 0, r.length, _, rfl, by omega, hZ g _ 5 h1 (.inl rfl) h2, Nat.le_refl _, h2, range_of_block h2⟩⟩
theorem SnV.bv {w wr : World} {Z : Nat → Prop} {B : Nat} {v : Value} {b : List UInt8} (h : SnV wr B v b) (hB : w.heap.size ≤ B) (hZ : ∀ (k : Nat) (c : Array Value) (e : TypeId), B ≤ k → (e = 5 ∨ e = 30) → wr.heap[k]? = some (.cells c e (0, 0)) → ¬ Z k) : BV w wr Z v b := by
  rcases h with ⟨rfl, rfl⟩ | ⟨g, c, full, rfl, h1, h2, h3, h4⟩
  · exact .inl (.inl (.inl ⟨rfl, rfl⟩))
  · exact .inr ⟨g, 12, c, full, rfl, by omega, hZ g _ 5 h1 (.inl rfl) h3, h2, h3, h4⟩
theorem BV.one {w wr : World} {Z : Nat → Prop} {u : Value} {r : List UInt8} (h : BV w wr Z u r) : u.oneCell' = true := by
  obtain ⟨a, c, rfl⟩ := h.shape; rfl
theorem LZ.push {w w1 w2 : World} {Z : Nat → Prop} {v v1 u : Value} {rs : List (List UInt8)} {r : List UInt8} {g1 : Nat} {xs : List Value} (hw : w.heap.size ≤ w1.heap.size) (hZ : ∀ k, Z k → k < w1.heap.size)
    (ho : w1.ownsRow 0 30 1 v rs.length xs) (hb : ∀ k, v.ownBlock = some k → w.heap.size ≤ k ∧ ¬ Z k) (hr : ∀ (i : Nat) (r : List UInt8), rs[i]? = some r → ∃ u, xs[i]? = some u ∧ BV w w1 Z u r) (hu : BV w w1 Z u r)
    (hp : Pushed w1 w2 30 v v1 rs.length xs u g1) : LZ w w2 Z v1 (rs ++ [r]) := by
  have hxl : xs.length = rs.length := by have := ho.1; omega
  have hst : ∀ {u r}, BV w w1 Z u r → BV w w2 Z u r := fun {u r} h => by
    rcases h with h2 | ⟨g, o, c, full, e1, e2, e3, e4, e5, e6⟩
    · exact .inl h2
    · have hb := hp.step.block g (Array.getElem?_eq_some_iff.1 e5).1 (fun hk => by
        obtain ⟨c, hc⟩ := own_ne ho hk
        exact ne_type hc e5 (by decide) rfl)
      refine .inr ⟨g, o, c, full, e1, e2, e3, e4, hb.trans e5, fun j x hj => ?_⟩
      rw [← e6 j x hj]
      simp only [World.cell?, hb]
  refine ⟨xs ++ [u], by rw [List.length_append]; exact hp.own, fun k hk => ?_, fun i r' hi => ?_⟩
  · rw [hp.at1] at hk
    cases hk
    rcases hp.old with h | h
    · exact hb _ h
    · exact ⟨by omega, fun hx => by have := hZ _ hx; omega⟩
  · by_cases hlt : i < rs.length
    · rw [List.getElem?_append_left hlt] at hi
      obtain ⟨u', h1, h2⟩ := hr i r' hi
      exact ⟨u', by rw [List.getElem?_append_left (by omega)]; exact h1, hst h2⟩
    · have hi' : i = rs.length := by
        have := (List.getElem?_eq_some_iff.1 hi).1
        simp at this; omega
      subst hi'
      rw [List.getElem?_append_right (Nat.le_refl _), Nat.sub_self] at hi
      cases hi
      exact ⟨u, by rw [List.getElem?_append_right (by omega), hxl, Nat.sub_self]; rfl, hst hu⟩

/-- All of a list behind a list of the call's own. -/
theorem appL {ops : Array Oper} {rest : List Oper} {o : Oper} {a : Act} {Q : Exit → Act → World → Prop} (hgd : o.guard = none) (s x : Operand)
    (ho : o.op = .call { callee := .builtin .append, args := #[s, x], argTypes := #[31, 31] }) (B : Nat) (v vx : Value) (xs lx : List Value) (n m : Nat) (w : World)
    (hs : a.eval s = v) (hown : w.ownsRow B 30 1 v n xs) (hx : a.eval x = vx) (hsrc : w.ownsRow 0 30 1 vx m lx) (hone : ∀ u ∈ lx, u.oneCell' = true) (hn : n ≤ 5000) (hm : m ≤ 5000) (hB : B ≤ w.heap.size)
    (h : ∀ v' w', w'.ownsRow B 30 1 v' (n + m) (xs ++ lx) → Below B w w' → wpList Try.prog ops Q rest (a.put o.dst v') w') :
    wpList Try.prog ops Q (o :: rest) a w := by
  obtain ⟨i0, hi, hz0, hz1, hz2⟩ := info_parts info22
  rcases hsrc with ⟨hl, ⟨rfl, rfl⟩ | ⟨g, cap, cur, rfl, _, hg, hc, hmx, hsz, ht⟩⟩
  · obtain rfl : lx = [] := List.length_eq_zero_iff.1 (by omega)
    refine wpList_append_own_none hgd s x 31 ho B 30 i0 1 Try.underlying31 hi v n xs hs hown hx ?_
    exact h v w (by simpa using hown) (Below.refl _ _)
  · refine wpList_append_own _ hgd s x 31 ho B 30 i0 (.slice none 0 0) 1 24 Try.underlying31 hi hz0 hz1 hz2 rfl (by decide) v n xs hs hown ⟨g, 0, none⟩ m cap lx hx (by omega) ?_ hone (by unfold maxLen; omega) (by omega) hB ?_
    · intro j u hj
      have hjl := (List.getElem?_eq_some_iff.1 hj).1
      have e : (cur.toList.take (m * 1))[j]? = lx[j]? := by rw [ht]
      rw [List.getElem?_take_of_lt (by omega), hj] at e
      rw [Addr.add_lit, Nat.zero_add]
      simp only [World.cell?, hg]
      simpa using e
    · intro v' w' h1 h2 _
      exact h v' w' h1 ((Below.refl B w).grown h2 hB (fun k hk => (World.ownsRow.lt hown k hk).1))

/-- A slice of steps that came in. -/
def RdSt (w : World) (v : Value) (n : Nat) : Prop := ∃ (a : Option Addr) (c : Nat), v = .slice a n c ∧ ∀ k, k < n → ∃ (b o : Nat) (s : Bool) (u : Value) (r : List UInt8) (x y : Int), a = some ⟨b, o, none⟩ ∧ w.cell? ⟨b, o + k * 4, none⟩ = some (.bool s) ∧ w.cell? ⟨b, o + k * 4 + 1, none⟩ = some u ∧ Sl.RdA w u r ∧ w.cell? ⟨b, o + k * 4 + 2, none⟩ = some (.int .i64 x) ∧ w.cell? ⟨b, o + k * 4 + 3, none⟩ = some (.int .i64 y) ∧ (-9223372036854775808 ≤ x ∧ x < 9223372036854775808) ∧ (-9223372036854775808 ≤ y ∧ y < 9223372036854775808)
end Go.Proofs.Ythgkkmcpmhfehaa
