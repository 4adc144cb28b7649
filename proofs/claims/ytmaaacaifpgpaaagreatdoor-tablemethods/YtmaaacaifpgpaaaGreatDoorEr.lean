
/- What the document's own answer makes of frames. Conditions: those that each row states. -/
import Derived.Test.YtmaaacaifpgpaaaGreatDoorEn
namespace Go.Proofs.YtmaaacaifpgpaaaGreatDoor
open Go.RowKit Go.Lib
set_option maxRecDepth 100000

theorem own_lit (w : World) (B : Nat) (hB : B ≤ w.heap.size) (c : UInt8) (cv : Int) (hcv : cv = (c.toNat : Int)) : Own (w.alloc (.cells #[.int .u8 cv] 5)) B (.slice (some ⟨w.heap.size, 0, none⟩) 1 1) [c] := by
  subst hcv
  exact World.ownsRow_lit w #[.int .u8 (c.toNat : Int)] 1 hB (by unfold maxLen; omega) rfl

end Go.Proofs.YtmaaacaifpgpaaaGreatDoor
