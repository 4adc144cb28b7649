
/- trivetlaw18's wakes and heavy, the document's Same. Conditions: those that each row states. -/
import Derived.Test.YtfdbekfbbihdgaaDoorSm
namespace Go.Proofs.YtfdbekfbbihdgaaDoor
open Go.RowKit Go.Lib
set_option maxRecDepth 100000
set_option linter.unusedSimpArgs false

def K1 : Bs := [10, 83, 69, 78, 68, 10, 100, 101, 115, 116, 105, 110, 97, 116, 105, 111, 110, 58, 47, 113, 117, 101, 117, 101, 47, 97, 10, 120, 58, 97, 92, 99, 98, 10, 10, 104, 105, 0, 109, 111, 114, 101]
def K2 : Bs := [83, 69, 78, 68, 10, 120, 58, 97, 92, 98, 10, 10, 0]
def DST : Bs := [100, 101, 115, 116, 105, 110, 97, 116, 105, 111, 110]
theorem next_K1 : nextL K1 = (⟨[83, 69, 78, 68], [(DST, [47, 113, 117, 101, 117, 101, 47, 97]), ([120], [97, 58, 98])], [104, 105]⟩, 38, 0) := by kernel_rfl
theorem next_K2 : nextL K2 = (⟨[], [], []⟩, 0, 40) := by kernel_rfl
set_option maxHeartbeats 2000000 in
theorem wakes_any (w : World) (hV : Vars w.heap.size w) : Calls Tryd.prog 8 #[] w fun e w' => e = .returned (.bool true) ∧ Below w.heap.size w w' := by
  have N1 := next_any w K1 (by decide) hV
  unfold NextP at N1
  rw [next_K1] at N1
  have N2 := fun w (hV : Vars w.heap.size w) => next_any w K2 (by decide) hV
  unfold NextP at N2
  rw [next_K2] at N2
  go_enter Tryd.func8, Tryd.ntmps8
  go_wp2_with fail
  refine N1.mono ?_
  rintro e w1 ⟨b1, hv, rfl, ho⟩
  obtain ⟨ha, hn, hc, rfl⟩ := ho.shape
  have hr := ho.rd
  have V1 := (hV.on b1).mono b1.size
  have b2 := b1.trans ((below_new w1 (.cells #[str [83, 69, 78, 68], .slice ha hn hc, str [104, 105]] 24)).mono b1.size)
  have k2 := Blk.new w1 #[str [83, 69, 78, 68], .slice ha hn hc, str [104, 105]] 24
  have hr2 := hr.on (below_new w1 (.cells #[str [83, 69, 78, 68], .slice ha hn hc, str [104, 105]] 24))
  have V2 := (hV.on b2).mono b2.size
  clear N1 ho hr V1
  go_upto_region 2 with fail
  generalize w1.alloc (.cells #[str [83, 69, 78, 68], .slice ha hn hc, str [104, 105]] 24) = w2 at *
  have s2 := b2.size
  have G1 := get_any w2 [83, 69, 78, 68] [104, 105] DST _ _ hr2 (by decide)
  have G2 := fun w (h : RdH w (.slice ha hn hc) [(DST, [47, 113, 117, 101, 117, 101, 47, 97]), ([120], [97, 58, 98])]) => get_any w [83, 69, 78, 68] [104, 105] [120] _ _ h (by decide)
  have g1 : getV DST [(DST, [47, 113, 117, 101, 117, 101, 47, 97]), ([120], [97, 58, 98])] = .tuple #[str [47, 113, 117, 101, 117, 101, 47, 97], .bool true] := rfl
  have g2 : getV [120] [(DST, [47, 113, 117, 101, 117, 101, 47, 97]), ([120], [97, 58, 98])] = .tuple #[str [97, 58, 98], .bool true] := rfl
  rw [g1] at G1
  rw [g2] at G2
  clear g1 g2
  have d0 := k2.cell 0
  have d1 := k2.cell 1
  have d2 := k2.cell 2
  simp only [List.getElem?_toArray, List.getElem?_cons_zero, List.getElem?_cons_succ] at d0 d1 d2
  go_wp2_with fail
  refine G1.mono ?_
  rintro e w3 ⟨rfl, b3⟩
  have k3 := k2.on b3
  have hr3 := hr2.on b3
  have B3 := b2.trans (b3.mono s2)
  have GG := G2 w3 hr3
  clear G1 G2 d0 d1 d2 k2 hr2 b3
  have d0 := k3.cell 0
  have d1 := k3.cell 1
  have d2 := k3.cell 2
  simp only [List.getElem?_toArray, List.getElem?_cons_zero, List.getElem?_cons_succ] at d0 d1 d2
  go_wp2_with fail
  refine GG.mono ?_
  rintro e w4 ⟨rfl, b4⟩
  have k4 := k3.on b4
  have B4 := B3.trans (b4.mono B3.size)
  have NN := N2 w4 ((hV.on B4).mono B4.size)
  clear GG N2 d0 d1 d2 k3 hr3 b4
  go_wp2_with fail
  refine NN.mono ?_
  rintro e w5 ⟨b5, hv5, rfl, ho5⟩
  obtain ⟨ha5, hn5, hc5, rfl⟩ := ho5.shape
  have k5 := k4.on b5
  have B5 := B4.trans (b5.mono B4.size)
  have k6 := k5.alloc (.cells #[str [], .slice ha5 hn5 hc5, str []] 24)
  have B6 := B5.trans ((below_new w5 (.cells #[str [], .slice ha5 hn5 hc5, str []] 24)).mono B5.size)
  have d0 := k6.cell 0
  have d1 := k6.cell 1
  have d2 := k6.cell 2
  simp only [List.getElem?_toArray, List.getElem?_cons_zero, List.getElem?_cons_succ] at d0 d1 d2
  clear NN ho5 k4 k5 b5 B4
  go_upto_region 5 with fail
  generalize w5.alloc (.cells #[str [], .slice ha5 hn5 hc5, str []] 24) = w6 at *
  go_wp2
  go_ret
  exact ⟨rfl, B6⟩
end Go.Proofs.YtfdbekfbbihdgaaDoor
