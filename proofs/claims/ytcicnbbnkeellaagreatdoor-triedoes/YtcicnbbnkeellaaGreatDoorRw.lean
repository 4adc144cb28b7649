/- Rows in memory behind the library's calls: what stands where. Conditions: those that each row states. -/
import Derived.Test.YtcicnbbnkeellaaGreatDoorSk
import Derived.Test.YtcicnbbnkeellaaGreatDoorShelf
namespace Go.Proofs.YtcicnbbnkeellaaGreatDoor
open Go.RowKit Go.Sort Go.Lib

/-- Nothing is changed but in one row; what is behind is that row or new. -/
structure Fr1 (v v' : Value) (w w' : World) : Prop where
  os : w'.os = w.os
  tape : w'.tape = w.tape
  output : w'.output = w.output
  size : w.heap.size ≤ w'.heap.size
  keep : ∀ b, b < w.heap.size → v.ownBlock ≠ some b → w'.heap[b]? = w.heap[b]?
  new : ∀ b, v'.ownBlock = some b → v.ownBlock = some b ∨ w.heap.size ≤ b

def setL : List Value → Nat → List Value → List Value
  | cur, _, [] => cur
  | cur, o, v :: r => setL (cur.set o v) (o + 1) r
theorem setL_len (vs : List Value) : ∀ (cur : List Value) (o : Nat), (setL cur o vs).length = cur.length := by
  induction vs with
  | nil => intro cur o; rfl
  | cons v r ih => intro cur o; rw [setL, ih]; simp
theorem setL_eq (vs : List Value) : ∀ (cur : List Value) (o : Nat), o + vs.length ≤ cur.length → setL cur o vs = cur.take o ++ vs ++ cur.drop (o + vs.length) := by
  induction vs with
  | nil => intro cur o h; simp [setL]
  | cons v r ih =>
    intro cur o h
    simp only [List.length_cons] at h
    rw [setL, ih _ _ (by simp; omega)]
    rw [List.take_set, List.drop_set_of_lt (by omega)]
    rw [List.take_succ_eq_append_getElem (by omega)]
    have e : (cur.take o ++ [cur[o]'(by omega)]).set o v = cur.take o ++ [v] := by
      have hl : (cur.take o).length = o := by simp; omega
      rw [List.set_append, if_neg (by omega), hl]
      simp
    rw [e]
    simp
    congr 1
    omega
theorem setCells_heap (b t : Nat) (vs : List Value) : ∀ (w : World) (cur : Array Value) (o : Nat), w.heap[b]? = some (.cells cur t (0, 0)) → (w.setCells b o vs).heap[b]? = some (.cells (setL cur.toList o vs).toArray t (0, 0)) := by
  induction vs with
  | nil => intro w cur o h; simpa [World.setCells, setL] using h
  | cons v r ih =>
    intro w cur o h
    have h1 : (w.setCell ⟨b, o, none⟩ v).heap[b]? = some (.cells (cur.setIfInBounds o v) t (0, 0)) := by
      simp only [World.setCell, Array.getElem?_modify, if_pos, h]
      simp
    rw [World.setCells, ih _ _ _ h1, setL]
    simp
theorem setCells_other (b : Nat) (vs : List Value) : ∀ (w : World) (o : Nat) (k : Nat), k ≠ b → (w.setCells b o vs).heap[k]? = w.heap[k]? := by
  induction vs with
  | nil => intro w o k _; rfl
  | cons v r ih =>
    intro w o k hk
    rw [World.setCells, ih _ _ k hk, RowKit.Below.heap_setCell _ _ _ _ hk]
theorem setCells_rest (b : Nat) (vs : List Value) : ∀ (w : World) (o : Nat), (w.setCells b o vs).os = w.os ∧ (w.setCells b o vs).tape = w.tape ∧ (w.setCells b o vs).output = w.output ∧ (w.setCells b o vs).heap.size = w.heap.size := by
  induction vs with
  | nil => intro w o; exact ⟨rfl, rfl, rfl, rfl⟩
  | cons v r ih =>
    intro w o
    obtain ⟨h1, h2, h3, h4⟩ := ih (w.setCell ⟨b, o, none⟩ v) (o + 1)
    rw [World.setCells]
    exact ⟨h1.trans rfl, h2.trans rfl, h3.trans rfl, h4.trans (by simp)⟩

section
variable {α : Type} [Inhabited α]
/-- A row that is put anew. -/
theorem put_row (enc : α → Value) (w : World) (q b t : Nat) (cur : Array Value) (h : w.heap[b]? = some (.cells cur t (0, 0))) (d : List α) (hs : d.length ≤ cur.size) :
    ∃ cur' : Array Value, (putRow enc (Sort.ahead w q) b 0 d.toArray).heap[b]? = some (.cells cur' t (0, 0)) ∧ cur'.size = cur.size ∧ cur'.toList.take d.length = d.map enc ∧ (∀ k, k ≠ b → (putRow enc (Sort.ahead w q) b 0 d.toArray).heap[k]? = w.heap[k]?) ∧ (putRow enc (Sort.ahead w q) b 0 d.toArray).heap.size = w.heap.size ∧
      (putRow enc (Sort.ahead w q) b 0 d.toArray).os = w.os ∧ (putRow enc (Sort.ahead w q) b 0 d.toArray).tape = w.tape ∧ (putRow enc (Sort.ahead w q) b 0 d.toArray).output = w.output := by
  refine ⟨putCells enc 0 d.toArray cur, ?_, ?_, ?_, ?_, ?_, rfl, rfl, rfl⟩
  · simp only [putRow, mapBlock, Array.getElem?_modify, if_pos, Sort.ahead, h]
    rfl
  · simp [putCells]
  · apply List.ext_getElem?
    intro j
    by_cases hj : j < d.length
    · rw [List.getElem?_take_of_lt hj]
      have hjc : j < cur.size := by omega
      simp [putCells, hj, hjc]
    · rw [List.getElem?_eq_none (by simp; omega), List.getElem?_eq_none (by simp; omega)]
  · intro k hk
    simp only [putRow, mapBlock, Array.getElem?_modify, Sort.ahead]
    rw [if_neg (fun e => hk e.symm)]
  · simp [putRow, mapBlock, Sort.ahead]
end

theorem idx_dot : IdxDot := fun l w => by
  have h := Tryz.strings_Index_one ⟨l.toArray⟩ 46 w
  have e : ∀ l : List UInt8, Lib.indexByte l 46 = dotAt l := by
    intro l
    induction l with
    | nil => rfl
    | cons c l ih =>
      unfold Lib.indexByte dotAt
      rw [ih]
      by_cases hc : c = 46
      · simp [hc]
      · have : (c == 46) = false := by simp [hc]
        rw [this, if_neg hc]
        rcases dot_cases l with ⟨h1, _⟩ | ⟨i, h1, _⟩
        · rw [h1]; rfl
        · rw [h1]
          have h2 : ((i : Int) == -1) = false := by simp
          have h3 : ¬ ((i : Int) < 0) := by omega
          rw [h2, if_neg h3]
          rfl
  rw [show (⟨l.toArray⟩ : ByteArray).data.toList = l from rfl, e l] at h
  exact h
end Go.Proofs.YtcicnbbnkeellaaGreatDoor
