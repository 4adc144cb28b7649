/- What cord.New and the reader's calls answer, and what they leave of the reader, for any bytes that can be read, where the library's table of powers of ten and its two errors' variables read as they were laid. -/
import Derived.Test.YtbdfhmffdnlbfaaDoorDigits
namespace Go.Proofs.YtbdfhmffdnlbfaaDoor
open Go.RowKit Go.Lib

/-- The block of a reader. -/
def RdrAt (w : World) (R : Nat) (v : Value) (bad : Bool) : Prop := w.heap[R]? = some (.cells #[v, .bool bad] 50 (0, 0))
section
variable {w : World} {R : Nat} {v : Value} {bad : Bool}
theorem RdrAt.lt (h : RdrAt w R v bad) : R < w.heap.size := (Array.getElem?_eq_some_iff.1 h).1
theorem RdrAt.c0 (h : RdrAt w R v bad) : w.cell? ⟨R, 0, none⟩ = some v := by unfold RdrAt at h; simp [World.cell?, h]
theorem RdrAt.c1 (h : RdrAt w R v bad) : w.cell? ⟨R, 1, none⟩ = some (.bool bad) := by unfold RdrAt at h; simp [World.cell?, h]
theorem RdrAt.f0 (h : RdrAt w R v bad) : w.frozen? ⟨R, 0, none⟩ = false := by unfold RdrAt at h; simp [World.frozen?, h]
theorem RdrAt.f1 (h : RdrAt w R v bad) : w.frozen? ⟨R, 1, none⟩ = false := by unfold RdrAt at h; simp [World.frozen?, h]
theorem RdrAt.set0 (h : RdrAt w R v bad) (x : Value) : RdrAt (w.setCell ⟨R, 0, none⟩ x) R x bad := by
  unfold RdrAt at h ⊢
  simp [World.setCell, Array.getElem?_modify, h]
theorem RdrAt.set1 (h : RdrAt w R v bad) (x : Bool) : RdrAt (w.setCell ⟨R, 1, none⟩ (.bool x)) R v x := by
  unfold RdrAt at h ⊢
  simp [World.setCell, Array.getElem?_modify, h]
theorem RdrAt.on (h : RdrAt w R v bad) {w' : World} {B : Nat} (hb : Below B w w') (hR : R < B) : RdrAt w' R v bad := (hb.block R hR).trans h
end

/-- A reader of bytes: whether it is bad, and what is left. -/
def Rdr (w : World) (R : Nat) (bad : Bool) (l : List UInt8) : Prop := ∃ v, RdrAt w R v bad ∧ RdB w v l

theorem grownBy_trans {a b c : World} {row : Option Nat} (h : a.grownBy b row) (k : b.grownBy c row) : a.grownBy c row :=
  ⟨k.os.trans h.os, k.tape.trans h.tape, k.output.trans h.output, Nat.le_trans h.size k.size, fun i hi hr => (k.block i (Nat.lt_of_lt_of_le hi h.size) hr).trans (h.block i hi hr)⟩
theorem grownBy_of_below {a b : World} {row : Option Nat} (h : Below a.heap.size a b) : a.grownBy b row := ⟨h.os, h.tape, h.output, h.size, fun k hk _ => h.block k hk⟩
theorem grownBy_setCell (w : World) (R o : Nat) (x : Value) : w.grownBy (w.setCell ⟨R, o, none⟩ x) (some R) :=
  ⟨rfl, rfl, rfl, by simp [World.setCell], fun k _ hr => Below.heap_setCell _ _ _ _ (fun e => hr (by rw [e]))⟩

/-- What a reader's bytes are behind a store into the reader's own block: they don't lie there. -/
theorem RdB.grown {w w' : World} {R : Nat} {v : Value} {a : Option Addr} {n c : Nat} {bad : Bool} {l : List UInt8} (h : RdB w v l) (hr : RdrAt w R (.slice a n c) bad) (hg : w.grownBy w' (some R)) : RdB w' v l := by
  rcases h with h | ⟨b, o, c, rfl, hlc, hc⟩
  · exact .inl h
  · refine .inr ⟨b, o, c, rfl, hlc, fun i hi => ?_⟩
    refine hg.cell (hc i hi) ?_
    intro e
    have eb : b = R := Option.some.inj e
    have h1 := hc i hi
    unfold RdrAt at hr
    rw [eb] at h1
    simp only [World.cell?, hr] at h1
    revert h1
    match o + i with
    | 0 => simp
    | 1 => simp
    | k + 2 => simp

theorem RdB.shape {w : World} {v : Value} {l : List UInt8} (h : RdB w v l) : ∃ a n c, v = .slice a n c := by
  rcases h with ⟨rfl, _⟩ | ⟨b, o, c, rfl, _⟩
  · exact ⟨_, _, _, rfl⟩
  · exact ⟨_, _, _, rfl⟩

set_option maxHeartbeats 400000 in
theorem new_any (w : World) (v : Value) (l : List UInt8) (h : RdA w v l) (hl : l.length ≤ 140737488355328) :
    Calls Tryd.prog 14 #[v] w fun e w' => ∃ R, e = .returned (.pointer (some ⟨R, 0, none⟩)) ∧ w.heap.size ≤ R ∧ Rdr w' R false l ∧ Below w.heap.size w w' := by
  go_enter Tryd.func14, Tryd.ntmps14
  go_wp2_with fail
  refine (clone_any w v l h hl).mono ?_
  rintro e w1 ⟨v1, rfl, ho1, hb1⟩
  obtain ⟨ad, n1, c1, rfl⟩ := ho1.rd.shape
  go_wp2
  go_ret
  have hs := hb1.size
  refine ⟨w1.heap.size, rfl, hs, ⟨_, ?_, ho1.rd.on ((Below.refl _ _).alloc (Nat.le_refl _) _)⟩, hb1.alloc hs _⟩
  exact heap_alloc_new _ _

set_option maxHeartbeats 400000 in
theorem bad_any (w : World) (R : Nat) (bad : Bool) (l : List UInt8) (h : Rdr w R bad l) :
    Calls Tryd.prog 21 #[.pointer (some ⟨R, 0, none⟩)] w fun e w' => e = .returned (.bool bad) ∧ w' = w := by
  obtain ⟨v, h, _⟩ := h
  have h1 := h.c1
  clear h
  go_enter Tryd.func21, Tryd.ntmps21
  go_wp2
  go_ret
  exact ⟨rfl, rfl⟩

set_option maxHeartbeats 400000 in
theorem left_any (w : World) (R : Nat) (bad : Bool) (l : List UInt8) (h : Rdr w R bad l) :
    Calls Tryd.prog 22 #[.pointer (some ⟨R, 0, none⟩)] w fun e w' => e = .returned (.int .i64 l.length) ∧ w' = w := by
  obtain ⟨v, h, hv⟩ := h
  have h1 := h.c0
  clear h
  rcases hv with ⟨rfl, rfl⟩ | ⟨b, o, c, rfl, _, _⟩
  all_goals
    go_enter Tryd.func22, Tryd.ntmps22
    go_wp2
    go_ret
    exact ⟨rfl, rfl⟩

set_option maxHeartbeats 400000 in
theorem spoil_any (w : World) (R : Nat) (v : Value) (bad : Bool) (h : RdrAt w R v bad) :
    Calls Tryd.prog 32 #[.pointer (some ⟨R, 0, none⟩)] w fun e w' => e = .returned (.tuple #[]) ∧ Rdr w' R true [] ∧ w.grownBy w' (some R) := by
  have h0 := h.c0
  have h1 := h.c1
  have f0 := h.f0
  have f1 := h.f1
  have hf : Hid (RdrAt w R v bad) := h
  clear h
  go_enter Tryd.func32, Tryd.ntmps32
  go_wp2
  go_end0
  refine ⟨rfl, ⟨.slice none 0 0, (hf.out.set0 _).set1 true, .inl ⟨rfl, rfl⟩⟩, ?_⟩
  exact grownBy_trans (grownBy_setCell _ _ _ _) (grownBy_setCell _ _ _ _)
end Go.Proofs.YtbdfhmffdnlbfaaDoor
