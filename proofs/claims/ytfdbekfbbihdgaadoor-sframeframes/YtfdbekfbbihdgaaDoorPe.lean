
/- What Encode answers, as a function on lists of bytes. No memory in this text. -/
import Derived.Test.YtfdbekfbbihdgaaDoorPu
namespace Go.Proofs.YtfdbekfbbihdgaaDoor
open Go.Lib
set_option linter.unusedSimpArgs false

/-- The letter that a byte is written by. -/
def mk (c : UInt8) : Option UInt8 := if c = 92 then some 92 else if c = 13 then some 114 else if c = 10 then some 110 else if c = 58 then some 99 else none
def put1 (c : UInt8) : Bs := match mk c with
  | some d => [92, d]
  | none => [c]
def putL (b : Bool) (s : Bs) : Bs := if b then s else s.flatMap put1
def hdP (b : Bool) (h : Hd) : Bs := putL b h.1 ++ ([58] ++ (putL b h.2 ++ [10]))
def hdsP (b : Bool) : List Hd → Bs
  | [] => []
  | h :: H => hdP b h ++ hdsP b H
theorem hdsP_snoc (b : Bool) : ∀ (H : List Hd) (k : Nat) (h : k < H.length), hdsP b (H.take (k + 1)) = hdsP b (H.take k) ++ hdP b H[k]
  | x :: H, 0, _ => by simp [hdsP]
  | x :: H, k + 1, h => by
    have := hdsP_snoc b H k (by simpa using h)
    simp only [List.take_succ_cons, hdsP, List.getElem_cons_succ]
    rw [this, List.append_assoc]
def writeL (f : Fr) : Bs := f.cmd ++ [10] ++ hdsP (bare f.cmd) f.hs ++ [10] ++ f.body ++ [0]
def anyC (s ch : Bs) : Bool := s.any fun c => ch.contains c
def stN (b : Bool) (h : Hd) : Bool := !decide (h.1 = []) && (decide (h.1.length + h.2.length ≤ 16384) && (!b || (!anyC h.1 [58, 13, 10] && !anyC h.2 [13, 10])))
def clN (f : Fr) : Bool := match getL CL f.hs with
  | some t => decide (t = itoa (f.body.length : Int))
  | none => (cutN 0 f.body).isNone
def canL (f : Fr) : Bool := isCmd f.cmd && (decide (f.hs.length ≤ 32) && (decide (f.body.length ≤ 1024) && (f.hs.all (stN (bare f.cmd)) && clN f)))
def encL (f : Fr) : Option Bs := if canL f = true ∧ (writeL f).length ≤ 16384 then some (writeL f) else none
theorem put1_len (c : UInt8) : (put1 c).length ≤ 2 := by unfold put1; split <;> simp
theorem putL_len (b : Bool) (s : Bs) : (putL b s).length ≤ 2 * s.length := by
  unfold putL
  split
  · omega
  · induction s with
    | nil => simp
    | cons c s ih =>
      have := put1_len c
      simp only [List.flatMap_cons, List.length_append, List.length_cons]
      omega
theorem putL_snoc (s : Bs) (j : Nat) (h : j < s.length) : putL false (s.take (j + 1)) = putL false (s.take j) ++ put1 s[j] := by
  unfold putL
  rw [if_neg (by decide), if_neg (by decide), List.take_succ_eq_append_getElem h, List.flatMap_append]
  simp only [List.flatMap_cons, List.flatMap_nil, List.append_nil]
/-- A byte's letter, and its place. -/
theorem marks (c : UInt8) : (c = 92 ∧ mk c = some 92) ∨ (c = 13 ∧ mk c = some 114) ∨ (c = 10 ∧ mk c = some 110) ∨ (c = 58 ∧ mk c = some 99) ∨ (mk c = none ∧ cutN c [92, 13, 10, 58] = none) := by
  by_cases h1 : c = 92
  · exact .inl ⟨h1, by rw [h1]; rfl⟩
  by_cases h2 : c = 13
  · exact .inr (.inl ⟨h2, by rw [h2]; rfl⟩)
  by_cases h3 : c = 10
  · exact .inr (.inr (.inl ⟨h3, by rw [h3]; rfl⟩))
  by_cases h4 : c = 58
  · exact .inr (.inr (.inr (.inl ⟨h4, by rw [h4]; rfl⟩)))
  refine .inr (.inr (.inr (.inr ⟨by simp [mk, h1, h2, h3, h4], ?_⟩)))
  rw [cutN_none]
  simp [h1, h2, h3, h4]
end Go.Proofs.YtfdbekfbbihdgaaDoor
