/- The law of TableMethods: it answers true at any method and any text. Conditions: those that each row states. -/
import Derived.Test.YtmaaacaifpgpaaaGreatDoorMethDe
import Derived.Test.YtmaaacaifpgpaaaGreatDoorXc
namespace Go.Proofs.YtmaaacaifpgpaaaGreatDoor
open Go.RowKit Go.Lib
set_option maxRecDepth 100000
set_option linter.unusedSimpArgs false

set_option maxHeartbeats 8000000 in
theorem methods_law (w : World) (ca cb : Int) (vn vt vp : Value) (ns : List Int) (ts : List (List UInt8)) (ps : List Pr) (s : List UInt8) (hv : Mv w) (h : RdM w w.heap.size vn vt vp ns ts ps) (hf : ∀ q ∈ ps, Fits q) :
    Calls Tryz.prog 3 #[.agg (mtA ca cb vn vt vp), str s] w fun e w' => e = .returned (.bool true) ∧ Below w.heap.size w w' := by
  obtain ⟨na, nc, e1⟩ := h.n.shape
  obtain ⟨ta, tc, e2⟩ := h.t.shape
  obtain ⟨pa, pc, e3⟩ := h.p.shape
  subst e1 e2 e3
  have b1 := below_new w (.cells (mtA ca cb (.slice na ns.length nc) (.slice ta ts.length tc) (.slice pa ps.length pc)) 26)
  have k1 := Blk.new w (mtA ca cb (.slice na ns.length nc) (.slice ta ts.length tc) (.slice pa ps.length pc)) 26
  generalize hw1 : w.alloc (.cells (mtA ca cb (.slice na ns.length nc) (.slice ta ts.length tc) (.slice pa ps.length pc)) 26) = w1 at *
  have W := wakes_any w1 (hv.on b1)
  have HF : Hid (∀ q ∈ ps, Fits q) := hf
  have F2 := fun w => rform_any w ca cb
  have D1 := fun w hv (hz : ¬ 16384 < s.length) => decode_any w s hv (by omega)
  have D2 := fun w => rdecode_any w s
  have HMF : Hid ((dO (metD s)).ns.length + (dO (metD s)).ts.length ≤ 4000000000000000000 ∧ (dO (metD s)).ps.length ≤ 4000000000000000000) := metD_few s
  have HEQ : Hid (rmet s = metD s) := rmet_eq s
  have D2 : ∀ w, Calls Tryz.prog 11 #[str s] w fun e w' => DcP w' w.heap.size (metD s) e ∧ Below w.heap.size w w' := fun w => by rw [← HEQ.out]; exact D2 w
  have F1 := fun w hv => form_any w ca cb hv
  have E1 := fun w hv (hm : RdM w w.heap.size (.slice na ns.length nc) (.slice ta ts.length tc) (.slice pa ps.length pc) ns ts ps) => encode_any w ca cb _ _ _ ns ts ps hv hm
  have E2 := fun w (hm : RdM w w.heap.size (.slice na ns.length nc) (.slice ta ts.length tc) (.slice pa ps.length pc) ns ts ps) => rencode_any w ca cb _ _ _ ns ts ps hm HF.out
  clear HEQ
  generalize metD s = MD at *
  generalize payP ca cb ns ts ps = PP at *
  generalize (formL ca cb mL).1 = fl at *
  generalize (formL ca cb mL).2 = ok at *
  have hc1 := b1.size
  clear hf
  by_cases hz : 16384 < s.length
  · have hzz : (16384 : Int) < (s.length : Int) := by omega
    go_enter Tryz.func3, Tryz.ntmps3
    go_wp2_with fail
    refine W.mono ?_
    rintro e w3 ⟨rfl, b3⟩
    have B3 := b1.trans (b3.mono hc1)
    have K3 := k1.on b3
    have m3 : RdM w3 w3.heap.size _ _ _ ns ts ps := (h.on B3).up B3.size
    have M3 : Mv w3 := hv.on B3
    have H1 := heavy_any w3 ca cb _ _ _ ns ts ps m3
    clear W b1 b3 k1 h hv hw1 hc1
    have c0 := K3.cell 0
    have c1 := K3.cell 1
    have c2 := K3.cell 2
    have c3 := K3.cell 3
    have c4 := K3.cell 4
    simp only [List.getElem?_toArray, List.getElem?_cons_zero, List.getElem?_cons_succ] at c0 c1 c2 c3 c4
    go_wp2_with fail
    refine H1.mono ?_
    rintro e w4 ⟨⟨r1, rfl⟩, b4⟩
    have B4 := B3.trans (b4.mono B3.size)
    have K4 := K3.on b4
    have m4 : RdM w4 w4.heap.size _ _ _ ns ts ps := (m3.on b4).up b4.size
    have M4 := M3.on b4
    clear H1 K3 m3 M3 b4 B3 c0 c1 c2 c3 c4
    cases r1 with
    | true =>
      go_wp2_with fail
      go_ret
      exact ⟨rfl, B4⟩
    | false =>
      go_wp2_with fail
      go_ret
      exact ⟨rfl, B4⟩
  · have hzz : ¬ (16384 : Int) < (s.length : Int) := by omega
    go_enter Tryz.func3, Tryz.ntmps3
    go_wp2_with fail
    refine W.mono ?_
    rintro e w3 ⟨rfl, b3⟩
    have B3 := b1.trans (b3.mono hc1)
    have K3 := k1.on b3
    have m3 : RdM w3 w3.heap.size _ _ _ ns ts ps := (h.on B3).up B3.size
    have M3 : Mv w3 := hv.on B3
    have H1 := heavy_any w3 ca cb _ _ _ ns ts ps m3
    clear W b1 b3 k1 h hv hw1 hc1
    have c0 := K3.cell 0
    have c1 := K3.cell 1
    have c2 := K3.cell 2
    have c3 := K3.cell 3
    have c4 := K3.cell 4
    simp only [List.getElem?_toArray, List.getElem?_cons_zero, List.getElem?_cons_succ] at c0 c1 c2 c3 c4
    go_wp2_with fail
    refine H1.mono ?_
    rintro e w4 ⟨⟨r1, rfl⟩, b4⟩
    have B4 := B3.trans (b4.mono B3.size)
    have K4 := K3.on b4
    have m4 : RdM w4 w4.heap.size _ _ _ ns ts ps := (m3.on b4).up b4.size
    have M4 := M3.on b4
    clear H1 K3 m3 M3 b4 B3 c0 c1 c2 c3 c4
    cases r1 with
    | true =>
      go_wp2_with fail
      go_ret
      exact ⟨rfl, B4⟩
    | false =>
      have c0 := K4.cell 0
      have c1 := K4.cell 1
      have c2 := K4.cell 2
      have c3 := K4.cell 3
      have c4 := K4.cell 4
      simp only [List.getElem?_toArray, List.getElem?_cons_zero, List.getElem?_cons_succ] at c0 c1 c2 c3 c4
      go_upto_region 6 with (go_at_call 6; refine (F1 _ M4).mono ?_; rintro e w5 ⟨rfl, b5⟩)
      have B5 := B4.trans (b5.mono B4.size)
      have K5 := K4.on b5
      have m5 : RdM w5 w5.heap.size _ _ _ ns ts ps := (m4.on b5).up b5.size
      have M5 := M4.on b5
      clear F1 b5
      clear c0 c1 c2 c3 c4 K4 m4 M4 B4
      have c0 := K5.cell 0
      have c1 := K5.cell 1
      have c2 := K5.cell 2
      have c3 := K5.cell 3
      have c4 := K5.cell 4
      simp only [List.getElem?_toArray, List.getElem?_cons_zero, List.getElem?_cons_succ] at c0 c1 c2 c3 c4
      go_upto_region 7 with (go_at_call 7; refine (F2 _).mono ?_; rintro e w6 ⟨rfl, b6⟩)
      have B6 := B5.trans (b6.mono B5.size)
      have K6 := K5.on b6
      have m6 : RdM w6 w6.heap.size _ _ _ ns ts ps := (m5.on b6).up b6.size
      have M6 := M5.on b6
      clear F2 b6
      clear c0 c1 c2 c3 c4 K5 m5 M5 B5
      have c0 := K6.cell 0
      have c1 := K6.cell 1
      have c2 := K6.cell 2
      have c3 := K6.cell 3
      have c4 := K6.cell 4
      simp only [List.getElem?_toArray, List.getElem?_cons_zero, List.getElem?_cons_succ] at c0 c1 c2 c3 c4
      go_upto_region 8 with (go_at_call 8; refine (E1 _ M6 m6).mono ?_; rintro e w7 ⟨hE, b7⟩; obtain ⟨x7, rfl, o7⟩ := hE.un)
      have B7 := B6.trans (b7.mono B6.size)
      have K7 := K6.on b7
      have m7 : RdM w7 w7.heap.size _ _ _ ns ts ps := (m6.on b7).up b7.size
      have M7 := M6.on b7
      clear E1 b7 hE
      clear c0 c1 c2 c3 c4 K6 m6 M6 B6
      have c0 := K7.cell 0
      have c1 := K7.cell 1
      have c2 := K7.cell 2
      have c3 := K7.cell 3
      have c4 := K7.cell 4
      simp only [List.getElem?_toArray, List.getElem?_cons_zero, List.getElem?_cons_succ] at c0 c1 c2 c3 c4
      go_upto_region 9 with (go_at_call 9; refine (E2 _ m7).mono ?_; rintro e w8 ⟨hE, b8⟩; obtain ⟨x8, rfl, o8⟩ := hE.un)
      have B8 := B7.trans (b8.mono B7.size)
      have K8 := K7.on b8
      have m8 : RdM w8 w8.heap.size _ _ _ ns ts ps := (m7.on b8).up b8.size
      have M8 := M7.on b8
      have o78 := o7.on b8
      clear E2 b8 hE o7
      clear c0 c1 c2 c3 c4 K7 m7 M7 B7
      have E1 := D1 w8 M8 hz
      go_upto_region 10 with (first | (go_at_call 10; refine E1.mono ?_; rintro e w9 ⟨hD, b9⟩; obtain ⟨na', ta', pa', nc', tc', pc', rfl, md9⟩ := hD.un) | (refine wpl_fresh rfl (.tmp 13) (.tmp 55) rfl _ _ rfl rfl (by kernel_rfl) rfl (by kernel_rfl) ?_))
      intro w10 k10 b10 s10
      have b810 := b9.trans (b10.mono b9.size)
      have B10 := B8.trans (b810.mono B8.size)
      have o710 := o78.on b810
      have o810 := o8.on b810
      have md10 := md9.on b10
      clear D1 E1 hD b9 b10 b810 o78 o8 md9 K8 m8 M8 B8
      have E2 := D2 w10
      go_upto_region 11 with (first | (go_at_call 11; refine E2.mono ?_; rintro e w11 ⟨hD, b11⟩; obtain ⟨na2, ta2, pa2, nc2, tc2, pc2, rfl, md11⟩ := hD.un) | (refine wpl_fresh rfl (.tmp 15) (.tmp 60) rfl _ _ rfl rfl (by kernel_rfl) rfl (by kernel_rfl) ?_))
      intro w12 k12 b12 s12
      have b1012 := b11.trans (b12.mono b11.size)
      have B12 := B10.trans (b1012.mono B10.size)
      have o712 := o710.on b1012
      have o812 := o810.on b1012
      have md12 := md10.on b1012
      have me12 := md11.on b12
      have k10' := k10.on b1012
      clear D2 E2 hD b11 b12 b1012 o710 o810 md10 md11 k10 B10 s10 s12
      have SM := same15_eq w12 (dO MD) _ _ _ _ _ _ _ _ _ _ _ _ md12 me12 HMF.out.1 HMF.out.2
      have cv1 := conv_any o712
      have cv2 := conv_any o812
      have d0 := k10'.cell 0
      have d1 := k10'.cell 1
      have d2 := k10'.cell 2
      have d3 := k10'.cell 3
      have d4 := k10'.cell 4
      have e0 := k12.cell 0
      have e1 := k12.cell 1
      have e2 := k12.cell 2
      have e3 := k12.cell 3
      have e4 := k12.cell 4
      simp only [List.getElem?_toArray, List.getElem?_cons_zero, List.getElem?_cons_succ] at d0 d1 d2 d3 d4 e0 e1 e2 e3 e4
      clear k10' k12 md12 me12 o712 o812
      generalize eO PP = xs at *
      generalize dO MD = dd at *
      go_wp2_with (go_at_call 12; refine SM.mono ?_; rintro e w13 ⟨rfl, b13⟩)
      go_ret
      exact ⟨by first | rfl | simp, B12.trans (b13.mono B12.size)⟩
end Go.Proofs.YtmaaacaifpgpaaaGreatDoor
