/- The pinned table of powers, as the row's list lays it. -/
import Derived.Test.YtklgemnmihpkcaaGreatDoorLa
import Derived.Test.YtklgemnmihpkcaaGreatDoorUf
set_option maxRecDepth 100000
namespace Go.Proofs.YtklgemnmihpkcaaGreatDoor
open Go.RowKit Go.Lib
theorem pow_of_laid {W : World} (h : laidMetH Tryz.prog laidL W) : Pow W := by
  rw [MakeChecks.laidMetH_plain _ _ _ (by kernel_rfl)] at h
  intro i hi
  have := la_p10 h i (ph i) (pl i) hi (row_at hi)
  rw [Nat.mul_comm i 2]
  exact this
end Go.Proofs.YtklgemnmihpkcaaGreatDoor
