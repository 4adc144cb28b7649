/- strings.SplitSeq at a dot: a text's words, gone over in order. Conditions: those that each row states. -/
import Derived.Test.YtcicnbbnkeellaaGreatDoorRf
import Derived.Test.YtcicnbbnkeellaaGreatDoorTw
import Derived.Shelf.Abstract
import Derived.WalkKit
import Derived.OwnWalkIn
import Derived.TacticsInMore
import Derived.LoopNIn
import Derived.LoopIn
namespace Go.Proofs.YtcicnbbnkeellaaGreatDoor
open Go.RowKit Go.Shelf
attribute [local go_sem] Oper.semAt_some

/-- Where the first dot stands; -1: nowhere. -/
def dotAt : List UInt8 → Int
  | [] => -1
  | c :: l => if c = 46 then 0 else if dotAt l < 0 then -1 else dotAt l + 1
theorem dot_cases (l : List UInt8) : (dotAt l = -1 ∧ wordsL l = [l]) ∨ ∃ i : Nat, dotAt l = i ∧ i < l.length ∧ wordsL l = l.take i :: wordsL (l.drop (i + 1)) := by
  induction l with
  | nil => exact .inl ⟨rfl, rfl⟩
  | cons c l ih =>
    unfold dotAt
    by_cases hc : c = 46
    · subst hc
      rw [if_pos rfl]
      exact .inr ⟨0, rfl, by simp, by rw [wordsL_dot]; simp⟩
    · rw [if_neg hc]
      obtain ⟨w, ws, h1, h2⟩ := wordsL_other c l hc
      rcases ih with ⟨h3, h4⟩ | ⟨i, h3, h4, h5⟩
      · left
        rw [h3, h2]
        rw [h4] at h1
        injection h1 with h1 h6
        rw [← h1, ← h6]
        exact ⟨rfl, rfl⟩
      · right
        refine ⟨i + 1, ?_, by simp; omega, ?_⟩
        · rw [h3, if_neg (by omega)]
          omega
        · rw [h2]
          rw [h5] at h1
          injection h1 with h1 h6
          rw [← h1, ← h6]
          simp
/-- What is left of a text behind k words. -/
def restL (l : List UInt8) : Nat → List UInt8
  | 0 => l
  | k + 1 => (restL l k).drop ((dotAt (restL l k)).toNat + 1)
theorem rest_words (l : List UInt8) : ∀ k, k < (wordsL l).length → wordsL (restL l k) = (wordsL l).drop k
  | 0, _ => rfl
  | k + 1, h => by
    have ih := rest_words l k (by omega)
    unfold restL
    rcases dot_cases (restL l k) with ⟨h1, h2⟩ | ⟨i, h1, h2, h3⟩
    · rw [h2] at ih
      have := congrArg List.length ih
      simp at this
      omega
    · rw [h1, show ((i : Int)).toNat = i from rfl]
      rw [h3] at ih
      have := congrArg List.tail ih
      simpa using this
/-- The text in a box. -/
def txtLen (w : World) (b : Nat) : Nat := match w.cell? ⟨b, 0, none⟩ with | some (.string s) => s.size | _ => 0

structure SqC (l : List UInt8) (bp bs bv : Nat) (k : Nat) (W : World) : Prop where
  s : W.heap[bs]? = some (.cells #[str (restL l k)] 9 (0, 0))
  p : W.heap[bp]? = some (.cells #[str [46]] 9 (0, 0))
  v : W.heap[bv]? = some (.cells #[.int .i64 0] 3 (0, 0))
theorem cell_1 {w : World} {b t : Nat} {v : Value} (h : w.heap[b]? = some (.cells #[v] t (0, 0))) : w.cell? ⟨b, 0, none⟩ = some v ∧ w.frozen? ⟨b, 0, none⟩ = false := by
  unfold World.cell? World.frozen?
  rw [h]
  exact ⟨rfl, rfl⟩
/-- strings.Index at a dot. -/
def IdxDot : Prop := ∀ (l : List UInt8) (w : World), Calls Tryz.prog 79 #[str l, str [46]] w fun e w' => e = .returned (.int .i64 (dotAt l)) ∧ w' = w

theorem split_w (w : World) (l : List UInt8) : Calls Tryz.prog 31 #[str l, str [46]] w fun e w' =>
    e = .returned (.func (.func 77) #[] #[.pointer (some ⟨w.heap.size + 1, 0, none⟩), .pointer (some ⟨w.heap.size, 0, none⟩), .pointer (some ⟨w.heap.size + 2, 0, none⟩)]) ∧
    w' = ((w.alloc (.cells #[str l] 9)).alloc (.cells #[str [46]] 9)).alloc (.cells #[.int .i64 0] 3) := by
  have hmf : ∀ (fn : Fn) (first cap : Array Value) (w : World), (Instr.makeFunc fn first cap).run Tryz.prog w = .ok (.func fn first cap) w := fun _ _ _ _ => rfl
  simp only [str]
  go_enter Tryz.func31, Tryz.ntmps31
  go_wp2
  go_ret
  exact ⟨rfl, rfl⟩
end Go.Proofs.YtcicnbbnkeellaaGreatDoor
