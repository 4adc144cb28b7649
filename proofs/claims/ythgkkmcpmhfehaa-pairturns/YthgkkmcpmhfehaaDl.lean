/- A drum's numbers. -/
import Derived.Test.YthgkkmcpmhfehaaBase
namespace Go.Proofs.Ythgkkmcpmhfehaa
open Go.RowKit Go.Lib

theorem Drum.len {w : World} {X : Nat → Prop} {q n : Nat} {S : DS} (h : Drum w X q n S) : S.P.length = n * 256 := by obtain ⟨g, v, hr, ok⟩ := h; exact ok.len
theorem Drum.top {w : World} {X : Nat → Prop} {q n : Nat} {S : DS} (h : Drum w X q n S) : n ≤ 4096 := by obtain ⟨g, v, hr, ok⟩ := h; exact ok.top
theorem Drum.xlt {w : World} {X : Nat → Prop} {q n : Nat} {S : DS} (h : Drum w X q n S) : ∀ k, X k → k < w.heap.size := by obtain ⟨g, v, hr, ok⟩ := h; exact hr.lt
end Go.Proofs.Ythgkkmcpmhfehaa
