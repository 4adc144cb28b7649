
/- What aframe.num answers of a text: its bytes as a number; the types of frames. Conditions: those that each row states. -/
import Derived.Test.YtmaaacaifpgpaaaGreatDoorBa
import Derived.Test.YtmaaacaifpgpaaaGreatDoorMa
import Derived.Test.YtmaaacaifpgpaaaGreatDoorShelf
import Derived.Laws.BitsAllLaws
namespace Go.Proofs.YtmaaacaifpgpaaaGreatDoor
open Go.RowKit Go.Lib
set_option maxRecDepth 100000

theorem bytes_of (w : World) (l : List UInt8) : ∃ c W, (convert 9 31 (str l)).run Tryz.prog w = .ok (.slice (some ⟨w.heap.size, 0, none⟩) l.length c) W ∧ (∀ j (h : j < l.length), W.cell? ⟨w.heap.size, j, none⟩ = some (.int .u8 (l[j].toNat : Int))) ∧ Below w.heap.size w W := by
  refine ⟨_, _, run_bytes_of_string (P := Tryz.prog) w 9 31 5 ⟨l.toArray⟩ Tryz.underlying9 Tryz.underlying31 Tryz.underlying5, ?_, (Below.refl _ _).drew.alloc (Nat.le_refl _) _⟩
  intro j h
  have := bytesRow_at ⟨l.toArray⟩ (grownCap w (⟨l.toArray⟩ : ByteArray).size 0 5) j (by simpa using h)
  have hsz : w.drew.heap.size = w.heap.size := rfl
  have hat : ∀ (C : Obj), (w.drew.alloc C).heap[w.heap.size]? = some C := fun C => by
    show (w.heap.push C)[w.heap.size]? = _
    simp
  simp only [World.cell?, hat, this]
  simp
theorem or_byte (a c : Nat) (hc : c < 256) : (a * 256) ||| c = a * 256 + c := by
  have := Nat.two_pow_add_eq_or_of_lt (b := c) (i := 8) (by simpa using hc) a
  rw [Nat.mul_comm a 256]
  exact this.symm
theorem or_z (a c : Nat) (ha : a < 72057594037927936) (hc : c < 256) : bits .or .u64 ((a : Int) * 256) (c : Int) = ((a * 256 + c : Nat) : Int) := by
  have := u64_or_nat (a * 256) c (by omega) (by omega)
  rw [or_byte a c hc] at this
  rw [← this]; rfl
set_option maxHeartbeats 4000000 in
theorem clone_any (w : World) (l : List UInt8) (hl : l.length ≤ 140737488355328) : Calls Tryz.prog 68 #[str l] w fun e w' => e = .returned (str l) ∧ Below w.heap.size w w' := by
  have h := Tryz.stringslite_Clone ⟨l.toArray⟩ w (by simp [ByteArray.size]; omega)
  go_enter Tryz.func68, Tryz.ntmps68
  go_wp2_with (go_at_call 79; refine h.mono ?_; rintro e w' ⟨rfl, hb⟩)
  go_ret
  exact ⟨rfl, hb⟩

end Go.Proofs.YtmaaacaifpgpaaaGreatDoor
