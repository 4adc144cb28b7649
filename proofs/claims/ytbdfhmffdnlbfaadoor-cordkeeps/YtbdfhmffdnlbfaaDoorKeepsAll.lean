/- The statement CordKeeps, walked whole: the two ways of its guard joined. -/
import Derived.Test.YtbdfhmffdnlbfaaDoorKeepsWalk
namespace Go.Proofs.YtbdfhmffdnlbfaaDoor
open Go.RowKit Go.Lib
theorem keeps_any (w : World) (v u : Value) (l : List UInt8) (zs : List Int) (h : RdA w v l) (hz : RdN w u zs) (hV : Vars w.heap.size w) :
    Calls Tryd.prog 8 #[v, u] w fun e w' => e = .returned (.bool true) ∧ Below w.heap.size w w' := by
  by_cases h1 : l.length ≤ 4096
  · by_cases h2 : zs.length ≤ 200
    · exact keeps_small w v u l zs h hz hV h1 h2
    · exact keeps_big w v u l zs h hz hV (.inr (by omega))
  · exact keeps_big w v u l zs h hz hV (.inl (by omega))
end Go.Proofs.YtbdfhmffdnlbfaaDoor
