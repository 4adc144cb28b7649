/- Bytes in memory, a drum in memory, and what its state is. -/
import Derived.Test.YthgkkmcpmhfehaaChecked
import Derived.WalkKit
import Derived.Laws.OwnMore
import Derived.Laws.CopyOwn
import Derived.Laws.MakeOwn
import Derived.Laws.BytesArg
import Derived.Lib.SlBytesConst
import Derived.Lib.SliceRun
import Derived.Lib.UnsafeStr
import Derived.Deep.AppendLies
import Derived.Deep.MidRow
namespace Go.Proofs.Ythgkkmcpmhfehaa
open Go.RowKit Go.Lib

theorem info5 : (Try.prog.info? 5).map (fun i => (i.zero, i.size, i.bytes)) = some (some (.int .u8 0), 1, 1) := by kernel_rfl
theorem info60 : (Try.prog.info? 85).map (fun i => (i.zero, i.size, i.bytes)) = some (some (.agg (Array.replicate 256 (.int .u8 0))), 256, 256) := by kernel_rfl
theorem info62 : (Try.prog.info? 87).map (fun i => (i.zero, i.size, i.bytes)) = some (some (.agg (Array.replicate 257 (.int .u8 0) |>.set! 0 (.int .i64 0))), 257, 264) := by kernel_rfl


/-- A drum's state: its pages one behind the other, as they were written last; what waits (which page, and what stood there); the rest. -/
structure DS where
  P : List UInt8
  W : List (Nat × List UInt8)
  ops : Nat
  down : Bool
  armed : Nat
  keep : Int

/-- A page's bytes. -/
def pageOf (P : List UInt8) (i : Nat) : List UInt8 := (P.drop (i * 256)).take 256
/-- What waits, as cells. -/
def waitCells (W : List (Nat × List UInt8)) : List Value := W.flatMap fun x => Value.int .i64 (x.1 : Int) :: byteCells x.2

structure DS.Ok (S : DS) (n : Nat) : Prop where
  len : S.P.length = n * 256
  pos : 1 ≤ n
  top : n ≤ 4096
  wait : ∀ x ∈ S.W, x.1 < n ∧ x.2.length = 256
  arm : S.armed < 9223372036854775808
  lo : -9223372036854775808 ≤ S.keep
  hi : S.keep < 9223372036854775808

/-- A drum's blocks: its own at q with the cells C, the pages' at g, what waits at v; all lie in X. -/
structure Raw (w : World) (X : Nat → Prop) (q g : Nat) (C : Array Value) (P : List UInt8) (v : Value) (W : List (Nat × List UInt8)) : Prop where
  hq : X q
  hg : X g
  hv : ∀ k, v.ownBlock = some k → X k
  lt : ∀ k, X k → k < w.heap.size
  b1 : w.heap[q]? = some (.cells C 71 (0, 0))
  b2 : w.heap[g]? = some (.cells (byteCells P).toArray 85 (0, 0))
  b3 : w.ownsRow 0 87 257 v W.length (waitCells W)

/-- The cells of a drum's own block. -/
def DS.cells (S : DS) (g n : Nat) (v : Value) : Array Value := #[.slice (some ⟨g, 0, none⟩) n n, v, .int .i64 S.ops, .bool S.down, .int .i64 S.armed, .int .i64 S.keep]

/-- A drum of n pages at block q, whose blocks all lie in X. -/
def Drum (w : World) (X : Nat → Prop) (q n : Nat) (S : DS) : Prop := ∃ g v, Raw w X q g (S.cells g n v) S.P v S.W ∧ S.Ok n

/-- From one world to another: nothing is changed but in X; what is behind it is in X, or new. -/
structure Step (X X' : Nat → Prop) (w w' : World) : Prop where
  os : w'.os = w.os
  tape : w'.tape = w.tape
  output : w'.output = w.output
  size : w.heap.size ≤ w'.heap.size
  block : ∀ k, k < w.heap.size → ¬ X k → w'.heap[k]? = w.heap[k]?
  grow : ∀ k, X' k → X k ∨ w.heap.size ≤ k

theorem Step.refl (X : Nat → Prop) (w : World) : Step X X w w := ⟨rfl, rfl, rfl, Nat.le_refl _, fun _ _ _ => rfl, fun _ h => .inl h⟩
theorem Step.trans {X Y Z : Nat → Prop} {a b c : World} (h : Step X Y a b) (k : Step Y Z b c) : Step X Z a c :=
  ⟨k.os.trans h.os, k.tape.trans h.tape, k.output.trans h.output, Nat.le_trans h.size k.size,
   fun i hi hx => (k.block i (Nat.lt_of_lt_of_le hi h.size) (fun hy => (h.grow i hy).elim hx (fun hg => absurd hi (Nat.not_lt.2 hg)))).trans (h.block i hi hx),
   fun i hz => (k.grow i hz).elim (h.grow i) (fun hg => .inr (Nat.le_trans h.size hg))⟩
theorem Step.below {X X' : Nat → Prop} {w w' : World} {B : Nat} (h : Step X X' w w') (hX : ∀ k, X k → B ≤ k) (hB : B ≤ w.heap.size) : Below B w w' :=
  ⟨h.os, h.tape, h.output, h.size, fun k hk => h.block k (Nat.lt_of_lt_of_le hk hB) (fun hx => absurd hk (Nat.not_lt.2 (hX k hx)))⟩
theorem Step.above {X X' : Nat → Prop} {w w' : World} {B : Nat} (h : Step X X' w w') (hX : ∀ k, X k → B ≤ k) (hB : B ≤ w.heap.size) : ∀ k, X' k → B ≤ k :=
  fun k hk => (h.grow k hk).elim (hX k) (Nat.le_trans hB)
theorem Step.of_below {X : Nat → Prop} {w w' : World} (h : Below w.heap.size w w') : Step X X w w' := ⟨h.os, h.tape, h.output, h.size, fun k hk _ => h.block k hk, fun _ h => .inl h⟩
theorem Step.set {X X' : Nat → Prop} {w w' : World} (h : Step X X' w w') {a : Addr} (ha : X' a.block) (v : Value) : Step X X' w (w'.setCell a v) :=
  h.trans ⟨rfl, rfl, rfl, by simp, fun k _ hk => heap_setCell_other _ _ _ _ (fun e => hk (e ▸ ha)), fun _ h => .inl h⟩
theorem Step.drew {X X' : Nat → Prop} {w w' : World} (h : Step X X' w w') : Step X X' w w'.drew := ⟨h.os, h.tape, h.output, h.size, h.block, h.grow⟩

theorem ne_type {w : World} {a b : Nat} {c d : Array Value} {s t : TypeId} {f f' : Nat × Nat} (ha : w.heap[a]? = some (.cells c s f)) (hb : w.heap[b]? = some (.cells d t f')) (hst : s ≠ t) : a ≠ b := by
  rintro rfl
  rw [ha] at hb
  cases hb
  exact hst rfl

theorem ownsRow_block {w w' : World} {B : Nat} {e : TypeId} {size : Nat} {v : Value} {n : Nat} {xs : List Value} (h : w.ownsRow B e size v n xs) (hk : ∀ k, v.ownBlock = some k → w'.heap[k]? = w.heap[k]?) : w'.ownsRow B e size v n xs := by
  refine ⟨h.1, ?_⟩
  rcases h.2 with hn | ⟨g, cap, cur, rfl, hb, hg, rest⟩
  · exact .inl hn
  · exact .inr ⟨g, cap, cur, rfl, hb, (hk g rfl).trans hg, rest⟩

theorem Raw.on {w w' : World} {X Y Y' : Nat → Prop} {q g : Nat} {C : Array Value} {P : List UInt8} {v : Value} {W : List (Nat × List UInt8)} (h : Raw w X q g C P v W) (hs : Step Y Y' w w') (hd : ∀ k, X k → ¬ Y k) : Raw w' X q g C P v W := by
  have hb : ∀ k, X k → w'.heap[k]? = w.heap[k]? := fun k hk => hs.block k (h.lt k hk) (hd k hk)
  exact ⟨h.hq, h.hg, h.hv, fun k hk => Nat.lt_of_lt_of_le (h.lt k hk) hs.size, (hb q h.hq).trans h.b1, (hb g h.hg).trans h.b2, ownsRow_block h.b3 (fun k hk => hb k (h.hv k hk))⟩
theorem Drum.on {w w' : World} {X Y Y' : Nat → Prop} {q n : Nat} {S : DS} (h : Drum w X q n S) (hs : Step Y Y' w w') (hd : ∀ k, X k → ¬ Y k) : Drum w' X q n S := by
  obtain ⟨g, v, hr, ok⟩ := h
  exact ⟨g, v, hr.on hs hd, ok⟩
theorem Drum.below {w w' : World} {X : Nat → Prop} {q n : Nat} {S : DS} (h : Drum w X q n S) (hb : Below w.heap.size w w') : Drum w' X q n S :=
  h.on (Step.of_below (X := fun _ => False) hb) (fun _ _ h => h)
theorem Raw.drew {w : World} {X : Nat → Prop} {q g : Nat} {C : Array Value} {P : List UInt8} {v : Value} {W : List (Nat × List UInt8)} (h : Raw w X q g C P v W) : Raw w.drew X q g C P v W := ⟨h.hq, h.hg, h.hv, h.lt, h.b1, h.b2, h.b3⟩
theorem Drum.drew {w : World} {X : Nat → Prop} {q n : Nat} {S : DS} (h : Drum w X q n S) : Drum w.drew X q n S := by
  obtain ⟨g, v, hr, ok⟩ := h
  exact ⟨g, v, hr.drew, ok⟩
theorem own_ne {w : World} {v : Value} {n size k : Nat} {e : TypeId} {xs : List Value} (h : w.ownsRow 0 e size v n xs) (hk : v.ownBlock = some k) : ∃ c, w.heap[k]? = some (.cells c e (0, 0)) := by
  rcases h.2 with ⟨rfl, _⟩ | ⟨g, cap, cur, rfl, hb, hg, rest⟩
  · cases hk
  · cases hk; exact ⟨_, hg⟩
theorem Raw.set {w : World} {X : Nat → Prop} {q g : Nat} {C : Array Value} {P : List UInt8} {v : Value} {W : List (Nat × List UInt8)} (h : Raw w X q g C P v W) (i : Nat) (x : Value) : Raw (w.setCell ⟨q, i, none⟩ x) X q g (C.setIfInBounds i x) P v W := by
  have ng : g ≠ q := ne_type h.b2 h.b1 (by decide)
  refine ⟨h.hq, h.hg, h.hv, fun k hk => by simpa using h.lt k hk, heap_setCell_same _ _ _ _ _ _ h.b1, ?_, ownsRow_block h.b3 (fun k hk => ?_)⟩
  · rw [heap_setCell_other _ _ _ _ ng]; exact h.b2
  · obtain ⟨c, hc⟩ := own_ne h.b3 hk
    exact heap_setCell_other _ _ _ _ (ne_type hc h.b1 (by decide))
/-- What waited is let go. -/
theorem Raw.free {w : World} {X : Nat → Prop} {q g : Nat} {C : Array Value} {P : List UInt8} {v : Value} {W : List (Nat × List UInt8)} (h : Raw w X q g C P v W) : Raw w X q g C P (.slice none 0 0) [] :=
  ⟨h.hq, h.hg, fun k hk => (by cases hk), h.lt, h.b1, h.b2, World.ownsRow_nil _ _ _ _⟩

/-- What the walk asks of a drum's own block. -/
theorem Raw.cells {w : World} {X : Nat → Prop} {q g : Nat} {a b c d e f : Value} {P : List UInt8} {v : Value} {W : List (Nat × List UInt8)} (h' : Raw w X q g #[a, b, c, d, e, f] P v W) :
    w.cell? ⟨q, 0, none⟩ = some a ∧ w.cell? ⟨q, 1, none⟩ = some b ∧ w.cell? ⟨q, 2, none⟩ = some c ∧ w.cell? ⟨q, 3, none⟩ = some d ∧ w.cell? ⟨q, 4, none⟩ = some e ∧ w.cell? ⟨q, 5, none⟩ = some f ∧ ∀ i, w.frozen? ⟨q, i, none⟩ = false := by
  have h := h'.b1
  exact ⟨by rw [cell_of_row _ _ _ _ _ _ h]; rfl, by rw [cell_of_row _ _ _ _ _ _ h]; rfl, by rw [cell_of_row _ _ _ _ _ _ h]; rfl, by rw [cell_of_row _ _ _ _ _ _ h]; rfl, by rw [cell_of_row _ _ _ _ _ _ h]; rfl, by rw [cell_of_row _ _ _ _ _ _ h]; rfl, fun i => frozen_of_row _ _ i _ _ h⟩

/-! ### On, Arm, Ops, Down, Pages, has -/
theorem on_any (w : World) (X : Nat → Prop) (q n : Nat) (S : DS) (h : Drum w X q n S) :
    Calls Try.prog 22 #[.pointer (some ⟨q, 0, none⟩)] w fun e w' => e = .returned (.tuple #[]) ∧ Drum w' X q n { S with down := false } ∧ Step X X w w' := by
  obtain ⟨g, v, hr, ok⟩ := h
  obtain ⟨c0, c1, c2, c3, c4, c5, fz⟩ := hr.cells
  go_enter Try.func22, Try.ntmps22
  go_wp2
  go_end0
  exact ⟨rfl, ⟨g, v, hr.set 3 _, ok.len, ok.pos, ok.top, ok.wait, ok.arm, ok.lo, ok.hi⟩, (Step.refl X w).set hr.hq _⟩
theorem on_nil (w : World) : Calls Try.prog 22 #[.pointer none] w fun e w' => e = .returned (.tuple #[]) ∧ w' = w := by
  go_enter Try.func22, Try.ntmps22
  go_wp2
  go_end0
  exact ⟨rfl, rfl⟩

theorem arm_any (w : World) (X : Nat → Prop) (q n : Nat) (S : DS) (a k : Int) (ha : -9223372036854775808 ≤ a) (ha' : a < 9223372036854775808) (hk : -9223372036854775808 ≤ k) (hk' : k < 9223372036854775808) (h : Drum w X q n S) :
    Calls Try.prog 18 #[.pointer (some ⟨q, 0, none⟩), .int .i64 a, .int .i64 k] w fun e w' => e = .returned (.tuple #[]) ∧ Drum w' X q n { S with armed := a.toNat, keep := k } ∧ Step X X w w' := by
  obtain ⟨g, v, hr, ok⟩ := h
  obtain ⟨c0, c1, c2, c3, c4, c5, fz⟩ := hr.cells
  have sh : ∀ z : Int, (a.toNat : Int) = z → Drum ((w.setCell ⟨q, 4, none⟩ (.int .i64 z)).setCell ⟨q, 5, none⟩ (.int .i64 k)) X q n { S with armed := a.toNat, keep := k } := by
    rintro z rfl
    exact ⟨g, v, (hr.set 4 _).set 5 _, ok.len, ok.pos, ok.top, ok.wait, by show a.toNat < _; omega, hk, hk'⟩
  go_enter Try.func18, Try.ntmps18
  go_wp2
  all_goals
    go_end0
    exact ⟨rfl, sh _ (by omega), ((Step.refl X w).set hr.hq _).set hr.hq _⟩
theorem arm_nil (w : World) (a k : Int) : Calls Try.prog 18 #[.pointer none, .int .i64 a, .int .i64 k] w fun e w' => e = .returned (.tuple #[]) ∧ w' = w := by
  go_enter Try.func18, Try.ntmps18
  go_wp2
  go_end0
  exact ⟨rfl, rfl⟩

theorem ops_any (w : World) (X : Nat → Prop) (q n : Nat) (S : DS) (h : Drum w X q n S) :
    Calls Try.prog 31 #[.pointer (some ⟨q, 0, none⟩)] w fun e w' => e = .returned (.int .i64 S.ops) ∧ w' = w := by
  obtain ⟨g, v, hr, ok⟩ := h
  obtain ⟨c0, c1, c2, c3, c4, c5, fz⟩ := hr.cells
  go_enter Try.func31, Try.ntmps31
  go_wp2
  go_ret
  exact ⟨rfl, rfl⟩
theorem ops_nil (w : World) : Calls Try.prog 31 #[.pointer none] w fun e w' => e = .returned (.int .i64 0) ∧ w' = w := by
  go_enter Try.func31, Try.ntmps31
  go_wp2
  go_ret
  exact ⟨rfl, rfl⟩

theorem down_any (w : World) (X : Nat → Prop) (q n : Nat) (S : DS) (h : Drum w X q n S) :
    Calls Try.prog 30 #[.pointer (some ⟨q, 0, none⟩)] w fun e w' => e = .returned (.bool S.down) ∧ w' = w := by
  obtain ⟨g, v, hr, ok⟩ := h
  obtain ⟨c0, c1, c2, c3, c4, c5, fz⟩ := hr.cells
  go_enter Try.func30, Try.ntmps30
  go_wp2
  go_ret
  exact ⟨rfl, rfl⟩
theorem down_nil (w : World) : Calls Try.prog 30 #[.pointer none] w fun e w' => e = .returned (.bool false) ∧ w' = w := by
  go_enter Try.func30, Try.ntmps30
  go_wp2
  go_ret
  exact ⟨rfl, rfl⟩

theorem pages_any (w : World) (X : Nat → Prop) (q n : Nat) (S : DS) (h : Drum w X q n S) :
    Calls Try.prog 34 #[.pointer (some ⟨q, 0, none⟩)] w fun e w' => e = .returned (.int .i64 n) ∧ w' = w := by
  obtain ⟨g, v, hr, ok⟩ := h
  obtain ⟨c0, c1, c2, c3, c4, c5, fz⟩ := hr.cells
  go_enter Try.func34, Try.ntmps34
  go_wp2
  go_ret
  exact ⟨rfl, rfl⟩
theorem pages_nil (w : World) : Calls Try.prog 34 #[.pointer none] w fun e w' => e = .returned (.int .i64 0) ∧ w' = w := by
  go_enter Try.func34, Try.ntmps34
  go_wp2
  go_ret
  exact ⟨rfl, rfl⟩

theorem has_any (w : World) (X : Nat → Prop) (q n : Nat) (S : DS) (a : Int) (h : Drum w X q n S) :
    Calls Try.prog 52 #[.pointer (some ⟨q, 0, none⟩), .int .i64 a] w fun e w' => e = .returned (.bool (decide (0 ≤ a ∧ a < n))) ∧ w' = w := by
  obtain ⟨g, v, hr, ok⟩ := h
  obtain ⟨c0, c1, c2, c3, c4, c5, fz⟩ := hr.cells
  by_cases h0 : 0 ≤ a
  · by_cases h1 : a < n
    · rw [decide_eq_true (⟨h0, h1⟩ : 0 ≤ a ∧ a < n)]
      go_enter Try.func52, Try.ntmps52
      go_wp2
      go_ret
      exact ⟨rfl, rfl⟩
    · rw [decide_eq_false (fun h : 0 ≤ a ∧ a < n => h1 h.2)]
      go_enter Try.func52, Try.ntmps52
      go_wp2
      go_ret
      exact ⟨rfl, rfl⟩
  · rw [decide_eq_false (fun h : 0 ≤ a ∧ a < n => h0 h.1)]
    go_enter Try.func52, Try.ntmps52
    go_wp2
    go_ret
    exact ⟨rfl, rfl⟩
end Go.Proofs.Ythgkkmcpmhfehaa
