/- TapeTwice walked. -/
import Derived.Test.YtpbpcefcnkfbpaaKq
namespace Go.Proofs.Ytpbpcefcnkfbpaa
open Go.RowKit Go.Lib Go.Shelf
set_option maxRecDepth 100000

/-- A page of marks, in a block of its own. -/
structure Mk (wr : World) (X : Nat → Prop) (g : Nat) (M : List UInt8) : Prop where
  blk : wr.heap[g]? = some (.cells (byteCells M).toArray 5 (0, 0))
  len : M.length = 256
  nx : ¬ X g
theorem Mk.lt {w : World} {X : Nat → Prop} {g : Nat} {M : List UInt8} (h : Mk w X g M) : g < w.heap.size := (Array.getElem?_eq_some_iff.1 h.blk).1
theorem Mk.on {w w' : World} {X X' Y Y' : Nat → Prop} {g : Nat} {M : List UInt8} (h : Mk w X g M) (hs : Step Y Y' w w') (hy : ¬ Y g) (hx : X' g → X g ∨ w.heap.size ≤ g) : Mk w' X' g M :=
  ⟨(hs.block g h.lt hy).trans h.blk, h.len, fun hx' => by
    rcases hx hx' with h' | h'
    · exact h.nx h'
    · have := h.lt; omega⟩
theorem Mk.rd {w : World} {X : Nat → Prop} {g : Nat} {M : List UInt8} (h : Mk w X g M) : RdB w (.slice (some ⟨g, 0, none⟩) 256 256) M :=
  ⟨_, _, by rw [h.len], fun _ => ⟨_, _, rfl, range_of_block h.blk⟩⟩
theorem Mk.conv {w : World} {X : Nat → Prop} {g : Nat} {M : List UInt8} (h : Mk w X g M) : (convert 22 9 (.slice (some ⟨g, 0, none⟩) 256 256)).run Try.prog w = .ok (.string ⟨M.toArray⟩) w := conv37 h.len (range_of_block h.blk)
theorem Mk.set {w : World} {X : Nat → Prop} {g : Nat} {M : List UInt8} (h : Mk w X g M) (k : Nat) (z : Int) (hz : 0 ≤ z) (hz' : z < 256) : Mk (w.setCell ⟨g, k, none⟩ (.int .u8 z)) X g (M.set k (UInt8.ofNat z.toNat)) := by
  refine ⟨?_, by rw [List.length_set]; exact h.len, h.nx⟩
  rw [heap_setCell_same _ _ _ _ _ _ h.blk]
  congr 2
  apply Array.ext'
  simp only [Array.toList_setIfInBounds, byteCells, List.map_set]
  congr 1
  rw [UInt8.toNat_ofNat', Nat.mod_eq_of_lt (by omega)]
  congr 1
  omega

/-- The pages outside a stretch, up to one. -/
def Outs (P M : List UInt8) (lo hi i : Nat) : Prop := ∀ j, j < i → (j < lo ∨ hi ≤ j) → pageOf P j = M
theorem Outs.put {P M : List UInt8} {n lo hi i : Nat} (h : Outs P M lo hi i) (hP : P.length = n * 256) (hM : M.length = 256) (hi' : i < n) : Outs (splice P (i * 256) M) M lo hi (i + 1) := by
  intro j hj ho
  rw [pageOf_splice P n i j M hP hi' (by omega) (by omega)]
  by_cases e : j = i
  · subst e
    rw [if_pos rfl, hM]
    simp [pageOf_length P n j hP hi', List.drop_of_length_le]
  · rw [if_neg (by omega)]
    exact h j (by omega) ho
theorem Outs.skip {P M : List UInt8} {lo hi i : Nat} (h : Outs P M lo hi i) (h1 : ¬ (i < lo ∨ hi ≤ i)) : Outs P M lo hi (i + 1) := by
  intro j hj ho
  by_cases e : j = i
  · subst e; exact absurd ho h1
  · exact h j (by omega) ho
theorem Outs.keep {P P' M : List UInt8} {n lo hi i : Nat} (h : Outs P M lo hi i) (hP : P.length = n * 256) (hP' : P'.length = n * 256) (hin : i ≤ n) (hk : ∀ k, k < lo * 256 ∨ hi * 256 ≤ k → P'[k]? = P[k]?) : Outs P' M lo hi i := by
  intro j hj ho
  rw [← h j hj ho]
  apply list_get_eq
  · rw [pageOf_length _ n j hP' (by omega), pageOf_length _ n j hP (by omega)]
  · intro k hk'
    rw [pageOf_length _ n j hP (by omega)] at hk'
    rw [pageOf_get _ _ _ hk', pageOf_get _ _ _ hk']
    apply hk
    rcases ho with ho | ho
    · left; omega
    · right; omega

theorem write_ts (w : World) (X : Nat → Prop) (q n : Nat) (S : DS) (i : Nat) (b : Value) (l : List UInt8) (hi : i < n) (ha : S.armed = 0) (hd : S.down = false) (hW : S.W.length < 9999) (hops : S.ops ≤ 100000) (h : Drum w X q n S) (hl : l.length = 256) (hb : RdB w b l) (hout : ∀ k, b.ownBlock = some k → ¬ X k) :
    Calls Try.prog 27 #[.pointer (some ⟨q, 0, none⟩), .int .i64 i, b] w fun e w' => e = .returned (.int .i64 0) ∧ ∃ X' S', Drum w' X' q n S' ∧ Step X X' w w' ∧ S'.P = splice S.P (i * 256) l ∧ S'.armed = 0 ∧ S'.down = false ∧ S'.W.length = S.W.length + 1 ∧ S'.ops = S.ops + 1 := by
  have ho : (S.put i l).oper = ({ S.put i l with ops := S.ops + 1 }, 0) := by
    unfold DS.oper; rw [if_pos (show (S.put i l).armed = 0 from ha)]; rfl
  have N := write_ok w X q n S i b l hi hd (by omega) (by omega) h hl hb hout
  rw [ho] at N
  refine N.mono ?_
  rintro e w' ⟨X', rfl, h1, h2⟩
  refine ⟨rfl, X', _, h1, h2, rfl, ha, hd, ?_, rfl⟩
  show (_ ++ [_]).length = _
  rw [List.length_append]; rfl
theorem bits_u8_or (a b : Int) : 0 ≤ bits .or .u8 a b ∧ bits .or .u8 a b < 256 := by
  show 0 ≤ IntKind.u8.wrap _ ∧ IntKind.u8.wrap _ < 256
  rw [IntKind.wrap_u8]; omega
end Go.Proofs.Ytpbpcefcnkfbpaa
