/- The document's trie in memory; what its place, and the law's same, answer. Conditions: those that each row states. -/
import Derived.Test.YtcicnbbnkeellaaGreatDoorTn
import Derived.Test.YtcicnbbnkeellaaGreatDoorGv
import Derived.Test.YtcicnbbnkeellaaGreatDoorWa
import Derived.Deep.LoopGhost
import Derived.Deep.QuietTactic
import Derived.BigQuiet
namespace Go.Proofs.YtcicnbbnkeellaaGreatDoor.To
open Go.RowKit Go.Lib
set_option maxRecDepth 10000

def strs (l : List Pr) : List Value := l.map fun p => str p.1
def ints (l : List Pr) : List Value := l.map fun p => .int .i64 p.2
/-- The document's trie at block q: its two lists. -/
structure RTq (w : World) (B q : Nat) (T : TypeId) (vp vi : Value) (xs ys : List Value) : Prop where
  blk : w.heap[q]? = some (.cells #[vp, vi] T (0, 0))
  up : B ≤ q
  ps : OwnV 9 w B vp xs
  is : OwnV 3 w B vi ys
  ty : T ≠ 9 ∧ T ≠ 3
abbrev RTr (w : World) (B q : Nat) (T : TypeId) (vp vi : Value) (l : List Pr) : Prop := RTq w B q T vp vi (strs l) (ints l)
theorem RTq.c0 {w : World} {B q : Nat} {T : TypeId} {vp vi : Value} {xs ys : List Value} (h : RTq w B q T vp vi xs ys) : w.cell? ⟨q, 0, none⟩ = some vp := by unfold World.cell?; rw [h.blk]; rfl
theorem RTq.c1 {w : World} {B q : Nat} {T : TypeId} {vp vi : Value} {xs ys : List Value} (h : RTq w B q T vp vi xs ys) : w.cell? ⟨q, 1, none⟩ = some vi := by unfold World.cell?; rw [h.blk]; rfl
theorem RTq.fr {w : World} {B q : Nat} {T : TypeId} {vp vi : Value} {xs ys : List Value} (h : RTq w B q T vp vi xs ys) (k : Nat) : w.frozen? ⟨q, k, none⟩ = false := by unfold World.frozen?; rw [h.blk]; simp
theorem RTq.lt {w : World} {B q : Nat} {T : TypeId} {vp vi : Value} {xs ys : List Value} (h : RTq w B q T vp vi xs ys) : q < w.heap.size := (Array.getElem?_eq_some_iff.1 h.blk).1
theorem RTq.on {w w' : World} {B q : Nat} {T : TypeId} {vp vi : Value} {xs ys : List Value} (h : RTq w B q T vp vi xs ys) (hb : Below w.heap.size w w') : RTq w' B q T vp vi xs ys :=
  ⟨(hb.block q h.lt).trans h.blk, h.up, h.ps.on hb, h.is.on hb, h.ty⟩
theorem OwnV.base {e : TypeId} {w : World} {B B' : Nat} {v : Value} {xs : List Value} (h : OwnV e w B v xs) (hB : B' ≤ B) : OwnV e w B' v xs := by
  obtain ⟨h1, h2 | ⟨g, cap, cur, e1, e2, e3⟩⟩ := h
  · exact ⟨h1, .inl h2⟩
  · exact ⟨h1, .inr ⟨g, cap, cur, e1, Nat.le_trans hB e2, e3⟩⟩
/-- A store into another block. -/
theorem OwnV.set {e T : TypeId} {w : World} {B q i : Nat} {v u : Value} {xs : List Value} {cs : Array Value} (h : OwnV e w B v xs) (hq : w.heap[q]? = some (.cells cs T (0, 0))) (hT : T ≠ e) : OwnV e (w.setCell ⟨q, i, none⟩ u) B v xs := by
  obtain ⟨h1, h2 | ⟨g, cap, cur, e1, e2, e3, e4⟩⟩ := h
  · exact ⟨h1, .inl h2⟩
  · refine ⟨h1, .inr ⟨g, cap, cur, e1, e2, ?_, e4⟩⟩
    rw [Below.heap_setCell _ _ _ _ (fun e => by
      have e : g = q := e
      rw [e, hq] at e3
      injection e3 with e3
      injection e3 with _ e3 _
      exact hT e3)]
    exact e3
theorem set_blk {w : World} {q : Nat} {T : TypeId} {a b u : Value} (h : w.heap[q]? = some (.cells #[a, b] T (0, 0))) : (w.setCell ⟨q, 0, none⟩ u).heap[q]? = some (.cells #[u, b] T (0, 0)) ∧ (w.setCell ⟨q, 1, none⟩ u).heap[q]? = some (.cells #[a, u] T (0, 0)) := by
  constructor
  all_goals (simp only [World.setCell, Array.getElem?_modify, if_pos, h]; simp)
theorem RTq.put0 {w : World} {B q : Nat} {T : TypeId} {vp vi u : Value} {xs ys us : List Value} (h : RTq w B q T vp vi xs ys) (hu : OwnV 9 w B u us) : RTq (w.setCell ⟨q, 0, none⟩ u) B q T u vi us ys :=
  ⟨(set_blk h.blk).1, h.up, hu.set h.blk h.ty.1, h.is.set h.blk h.ty.2, h.ty⟩
theorem RTq.put1 {w : World} {B q : Nat} {T : TypeId} {vp vi u : Value} {xs ys us : List Value} (h : RTq w B q T vp vi xs ys) (hu : OwnV 3 w B u us) : RTq (w.setCell ⟨q, 1, none⟩ u) B q T vp u xs us :=
  ⟨(set_blk h.blk).2, h.up, h.ps.set h.blk h.ty.1, hu.set h.blk h.ty.2, h.ty⟩
theorem RTq.at {w : World} {B q : Nat} {T : TypeId} {a0 a1 : Option Addr} {n0 n1 c0 c1 : Nat} {l : List Pr} (h : RTr w B q T (.slice a0 n0 c0) (.slice a1 n1 c1) l) {j : Nat} (hj : j < l.length) :
    ∃ g0 o0 g1 o1, a0 = some ⟨g0, o0, none⟩ ∧ w.cell? ⟨g0, o0 + j, none⟩ = some (str l[j].1) ∧ a1 = some ⟨g1, o1, none⟩ ∧ w.cell? ⟨g1, o1 + j, none⟩ = some (.int .i64 l[j].2) := by
  have hp : j < (strs l).length := by unfold strs; rw [List.length_map]; exact hj
  have hi : j < (ints l).length := by unfold ints; rw [List.length_map]; exact hj
  obtain ⟨g0, o0, e0, h0⟩ := h.ps.rd.at hp
  obtain ⟨g1, o1, e1, h1⟩ := h.is.rd.at hi
  refine ⟨g0, o0, g1, o1, e0, ?_, e1, ?_⟩
  · rw [h0]; simp [strs]
  · rw [h1]; simp [ints]

/-- Nothing is changed but in block q. -/
structure Fq (q : Nat) (w w' : World) : Prop where
  os : w'.os = w.os
  tape : w'.tape = w.tape
  output : w'.output = w.output
  size : w.heap.size ≤ w'.heap.size
  block : ∀ k, k < w.heap.size → k ≠ q → w'.heap[k]? = w.heap[k]?
theorem Fq.refl (q : Nat) (w : World) : Fq q w w := ⟨rfl, rfl, rfl, Nat.le_refl _, fun _ _ _ => rfl⟩
theorem Fq.of_below {q : Nat} {w w' : World} (h : Below w.heap.size w w') : Fq q w w' := ⟨h.os, h.tape, h.output, h.size, fun k hk _ => h.block k hk⟩
theorem Fq.trans {q : Nat} {a b c : World} (h : Fq q a b) (k : Fq q b c) : Fq q a c :=
  ⟨k.os.trans h.os, k.tape.trans h.tape, k.output.trans h.output, Nat.le_trans h.size k.size, fun i hi hq => (k.block i (Nat.lt_of_lt_of_le hi h.size) hq).trans (h.block i hi hq)⟩
theorem Fq.set {q : Nat} (w : World) (i : Nat) (u : Value) : Fq q w (w.setCell ⟨q, i, none⟩ u) :=
  ⟨rfl, rfl, rfl, by simp [World.setCell], fun _ _ hk => Below.heap_setCell _ _ _ _ hk⟩

set_option maxHeartbeats 2000000 in
theorem place_any (w : World) (B q : Nat) (T : TypeId) (vp vi : Value) (l : List Pr) (h : RTr w B q T vp vi l) (hl : l.length ≤ 100) (p : List UInt8) (z : Int) :
    Calls Tryz.prog 27 #[.pointer (some ⟨q, 0, none⟩), str p, .int .i64 z] w fun e w' => ((∃ k : Nat, e = .returned (.int .i64 k) ∧ ∃ hk : k < l.length, l[k] = (p, z) ∧ ∀ j (hj : j < l.length), j < k → l[j] ≠ (p, z)) ∨ (e = .returned (.int .i64 (-1)) ∧ (p, z) ∉ l)) ∧ w' = w := by
  have c0 := h.c0
  have c1 := h.c1
  obtain ⟨a0, cp0, rfl, _⟩ := h.ps.len
  obtain ⟨a1, cp1, rfl, _⟩ := h.is.len
  have e0 : (strs l).length = l.length := by unfold strs; rw [List.length_map]
  have e1 : (ints l).length = l.length := by unfold ints; rw [List.length_map]
  rw [e0] at c0 h
  rw [e1] at c1 h
  have HR : Hid _ := h
  obtain ⟨n, hn⟩ : ∃ n, l.length = n := ⟨_, rfl⟩
  have HN : Hid (l.length = n) := hn
  rw [hn] at c0 c1 hl
  have hn63 : (n : Int) ≤ 9223372036854775807 := by omega
  clear h e0 e1 hn hl
  go_enter Tryz.func27, Tryz.ntmps27
  go_wp2_with fail
  go_loopg [7, 13] n (fun gg _ s13 wr => ∃ kk : Nat, kk ≤ n ∧ n - kk ≤ gg ∧ s13 = .int .i64 kk ∧ wr = w ∧ Hid (∀ j (hj : j < l.length), j < kk → l[j] ≠ (p, z)))
  case atStart => exact ⟨0, Nat.zero_le _, by omega, rfl, rfl, fun j _ hj => absurd hj (Nat.not_lt_zero _)⟩
  case round =>
    obtain ⟨kk, hkk, hg, rfl, rfl, A⟩ := hrel
    by_cases hlt : kk < n
    · have hltz : (kk : Int) < (n : Int) := by omega
      have hkl : kk < l.length := by have := HN.out; omega
      obtain ⟨g0, o0, g1, o1, rfl, d0, rfl, d1⟩ := HR.out.at hkl
      obtain ⟨y, hy⟩ : ∃ y, l[kk].1 = y := ⟨_, rfl⟩
      obtain ⟨x, hx⟩ : ∃ x, l[kk].2 = x := ⟨_, rfl⟩
      have HY : Hid (l[kk] = (y, x)) := by show l[kk] = (y, x); rw [← hy, ← hx]
      rw [hy] at d0
      rw [hx] at d1
      clear hy hx
      cases hyp : (y == p) with
      | false =>
        have A2 : Hid (∀ j (hj : j < l.length), j < kk + 1 → l[j] ≠ (p, z)) := fun j hj hjk => by
          by_cases e : j = kk
          · subst e
            rw [HY.out]
            intro h
            injection h with h1 _
            rw [beq_eq_false_iff_ne] at hyp
            exact hyp h1
          · exact A.out j hj (by omega)
        clear A d1 HR
        go_wp2
        go_roundg (n - (kk + 1))
        case measure => omega
        case rel => exact ⟨kk + 1, by omega, by omega, by go_num, rfl, A2.out⟩
      | true =>
        cases hxz : (x == z) with
        | false =>
          have A2 : Hid (∀ j (hj : j < l.length), j < kk + 1 → l[j] ≠ (p, z)) := fun j hj hjk => by
            by_cases e : j = kk
            · subst e
              rw [HY.out]
              intro h
              injection h with _ h2
              rw [beq_eq_false_iff_ne] at hxz
              exact hxz h2
            · exact A.out j hj (by omega)
          clear A HR
          go_wp2
          go_roundg (n - (kk + 1))
          case measure => omega
          case rel => exact ⟨kk + 1, by omega, by omega, by go_num, rfl, A2.out⟩
        | true =>
          have HE : Hid (l[kk] = (p, z)) := by show l[kk] = (p, z); rw [HY.out, beq_iff_eq.1 hyp, beq_iff_eq.1 hxz]
          clear HR
          go_wp2
          go_ret
          exact ⟨.inl ⟨kk, rfl, hkl, HE.out, A.out⟩, rfl⟩
    · have hltz : ¬ (kk : Int) < (n : Int) := by omega
      have hm : Hid ((p, z) ∉ l) := not_mem_all l (p, z) (fun j hj => A.out j hj (by have := HN.out; omega))
      clear A HR
      go_wp2
      go_ret
      exact ⟨.inr ⟨rfl, hm.out⟩, rfl⟩
end Go.Proofs.YtcicnbbnkeellaaGreatDoor.To
