
/- The law of SframeFrames: it answers true at any frame and any two texts. Conditions: those that each row states. -/
import Derived.Test.YtfdbekfbbihdgaaDoorRn
import Derived.Test.YtfdbekfbbihdgaaDoorLo
namespace Go.Proofs.YtfdbekfbbihdgaaDoor
open Go.RowKit Go.Lib
set_option maxRecDepth 100000
set_option linter.unusedSimpArgs false

theorem renc_any (w : World) (c b : Bs) (hv : Value) (H : List Hd) (hr : RdH w hv H) (hwt : c.length + b.length + wtL H ≤ 32768) :
    Calls Tryd.prog 11 #[frV c hv b] w fun e w' => EncQ w w' ⟨c, H, b⟩ e ∧ Below w.heap.size w w' := by
  rcases hr with ⟨⟨a, cp, rfl⟩, rfl⟩ | ⟨g, o, cp, rfl, hcp, h⟩
  · exact renc_nil w c b [] a cp rfl hwt
  · exact renc_some w c b H g o cp hcp h hwt
def encX (f : Fr) : Bs := if canL f = true ∧ (writeL f).length ≤ 16384 then writeL f else []
def encN (f : Fr) : Int := if canL f = true ∧ (writeL f).length ≤ 16384 then 0 else 1
theorem encQ_out {w w' : World} {f : Fr} {e : Ending} (h : EncQ w w' f e) : ∃ v, e = .returned (.tuple #[v, .int .i64 (encN f)]) ∧ RdB w' v (encX f) := by
  unfold encN encX
  rcases h with ⟨h1, h2, a, c, rfl, ho⟩ | ⟨h, rfl⟩
  · rw [if_pos ⟨h1, h2⟩, if_pos ⟨h1, h2⟩]
    exact ⟨_, rfl, ho.rd⟩
  · have hn : ¬ (canL f = true ∧ (writeL f).length ≤ 16384) := fun h2 => by
      rcases h with h | h
      · rw [h] at h2; cases h2.1
      · omega
    rw [if_neg hn, if_neg hn]
    exact ⟨_, rfl, .inl ⟨rfl, rfl⟩⟩
theorem getV_out (n : Bs) (l : List Hd) : ∃ (x : Bs) (b : Bool), getV n l = .tuple #[str x, .bool b] := by
  unfold getV
  split
  · exact ⟨_, _, rfl⟩
  · exact ⟨_, _, rfl⟩
theorem rdb_on {w w' : World} {v : Value} {l : Bs} (h : RdB w v l) (hb : Below w.heap.size w w') : RdB w' v l := h.on hb
set_option maxHeartbeats 8000000 in
theorem frames_law (w : World) (c b s n : Bs) (hv : Value) (H : List Hd) (hr : RdH w hv H) (hl : H.length ≤ 9000000000000000000) (hcb : c.length + b.length ≤ 1000000000000000000) (hw : ∀ h ∈ H, h.1.length + h.2.length ≤ 1000000000000000000) (hV : Vars w.heap.size w) :
    Calls Tryd.prog 3 #[frV c hv b, str s, str n] w fun e w' => e = .returned (.bool true) ∧ Below w.heap.size w w' := by
  obtain ⟨ha, hn, hc, rfl⟩ : ∃ a n c, hv = .slice a n c := by
    rcases hr with ⟨⟨a, cp, rfl⟩, rfl⟩ | ⟨g, o, cp, rfl, _⟩
    · exact ⟨_, _, _, rfl⟩
    · exact ⟨_, _, _, rfl⟩
  have b2 := below_new w (.cells #[str c, .slice ha hn hc, str b] 24)
  have k1 := Blk.new w #[str c, .slice ha hn hc, str b] 24
  generalize hw1 : w.alloc (.cells #[str c, .slice ha hn hc, str b] 24) = w2 at *
  have W := wakes_any w2 ((hV.on b2).mono b2.size)
  have hr2 := hr.on b2
  clear hr
  go_enter Tryd.func3, Tryd.ntmps3
  go_wp2_with fail
  refine W.mono ?_
  rintro e w3 ⟨rfl, b3⟩
  have B3 := b2.trans (b3.mono b2.size)
  have k3 := k1.on b3
  have hr3 := hr2.on b3
  have HV := heavy_any w3 c b _ H hr3 hl hcb hw
  have d0 := k3.cell 0
  have d1 := k3.cell 1
  have d2 := k3.cell 2
  simp only [List.getElem?_toArray, List.getElem?_cons_zero, List.getElem?_cons_succ] at d0 d1 d2
  clear W b3 k1 hr2 hw1
  go_wp2_with fail
  refine HV.mono ?_
  rintro e w4 ⟨rfl | ⟨rfl, hwt⟩, b4⟩
  · go_wp2
    go_ret
    exact ⟨rfl, B3.trans (b4.mono B3.size)⟩
  have B4 := B3.trans (b4.mono B3.size)
  have k4 := k3.on b4
  have hr4 := hr3.on b4
  have hHl := (wtL_mem H).1
  have hHl2 : H.length ≤ 32768 := by omega
  clear HV d0 d1 d2 k3 hr3 b4 hcb hw hl hHl
  by_cases hs1 : 65536 < s.length
  · have z4 : decide ((65536 : Int) < (s.length : Int)) = true := decide_eq_true (by omega)
    go_wp2
    go_ret
    exact ⟨rfl, B4⟩
  have z4 : decide ((65536 : Int) < (s.length : Int)) = false := decide_eq_false (by omega)
  have hs2 : s.length ≤ 65536 := by omega
  clear hs1
  have EN := encode_full w4 w4.heap.size c b _ H hr4 hwt ((hV.on B4).mono B4.size) (Nat.le_refl _)
  have d0 := k4.cell 0
  have d1 := k4.cell 1
  have d2 := k4.cell 2
  simp only [List.getElem?_toArray, List.getElem?_cons_zero, List.getElem?_cons_succ] at d0 d1 d2
  go_wp2_with fail
  refine EN.mono ?_
  rintro e w5 ⟨hq, b5⟩
  obtain ⟨v1, rfl, r1⟩ := encQ_out hq
  have B5 := B4.trans (b5.mono B4.size)
  have k5 := k4.on b5
  have hr5 := hr4.on b5
  have RN := renc_any w5 c b _ H hr5 hwt
  have d0 := k5.cell 0
  have d1 := k5.cell 1
  have d2 := k5.cell 2
  simp only [List.getElem?_toArray, List.getElem?_cons_zero, List.getElem?_cons_succ] at d0 d1 d2
  clear EN hq b5 k4 hr4
  go_wp2_with fail
  refine RN.mono ?_
  rintro e w6 ⟨hq, b6⟩
  obtain ⟨v2, rfl, r2⟩ := encQ_out hq
  have B6 := B5.trans (b6.mono B5.size)
  have k6 := k5.on b6
  have hr6 := hr5.on b6
  have r16 := r1.on b6
  have NX := next_any w6 s (by omega) ((hV.on B6).mono B6.size)
  unfold NextP at NX
  clear RN hq b6 k5 hr5 r1 d0 d1 d2
  generalize encX ⟨c, H, b⟩ = X at *
  generalize encN ⟨c, H, b⟩ = xn at *
  go_wp2_with fail
  refine NX.mono ?_
  rintro e w7 ⟨b7, h1v, rfl, o1⟩
  have RX := fun w => rnext_any w s (by omega)
  unfold NextP at RX
  have hnl := nextL_hs s
  generalize nextL s = N at *
  obtain ⟨⟨fc, fh, fb⟩, nn, ne⟩ := N
  dsimp only at o1 RX hnl ⊢
  obtain ⟨ha1, hn1, hc1, rfl⟩ := o1.shape
  have kN := Blk.new w7 #[str fc, .slice ha1 hn1 hc1, str fb] 24
  have b8 := below_new w7 (.cells #[str fc, .slice ha1 hn1 hc1, str fb] 24)
  have b78 := b7.trans (b8.mono b7.size)
  have B8 := B6.trans (b78.mono B6.size)
  have k8 := k6.on b78
  have hr8 := hr6.on b78
  have r18 := r16.on b78
  have r28 := r2.on b78
  have p1 := o1.rd.on b8
  clear NX b7 b8 b78 k6 hr6 r16 r2 o1
  go_upto_region 8 with fail
  generalize w7.alloc (.cells #[str fc, .slice ha1 hn1 hc1, str fb] 24) = w8 at *
  go_wp2_with fail
  refine (RX _).mono ?_
  rintro e w9 ⟨b9, h2v, rfl, o2⟩
  obtain ⟨ha2, hn2, hc2, rfl⟩ := o2.shape
  have kM := Blk.new w9 #[str fc, .slice ha2 hn2 hc2, str fb] 24
  have b10 := below_new w9 (.cells #[str fc, .slice ha2 hn2 hc2, str fb] 24)
  have b90 := b9.trans (b10.mono b9.size)
  have B10 := B8.trans (b90.mono B8.size)
  have k10 := k8.on b90
  have kN10 := kN.on b90
  have hr10 := hr8.on b90
  have r110 := r18.on b90
  have r210 := r28.on b90
  have p110 := p1.on b90
  have p210 := o2.rd.on b10
  clear RX b9 b10 b90 k8 kN hr8 r18 r28 p1 o2
  go_upto_region 9 with fail
  generalize w9.alloc (.cells #[str fc, .slice ha2 hn2 hc2, str fb] 24) = w10 at *
  have d0 := k10.cell 0
  have d1 := k10.cell 1
  have d2 := k10.cell 2
  simp only [List.getElem?_toArray, List.getElem?_cons_zero, List.getElem?_cons_succ] at d0 d1 d2
  have GT := get_any w10 c b n _ H hr10 (by omega)
  have GR := fun w (hb : Below w10.heap.size w10 w) => rget_any w c b n _ H (hr10.on hb) (by omega)
  obtain ⟨gx, gb, hg⟩ := getV_out n H
  rw [hg] at GT GR
  clear hg
  go_wp2_with fail
  refine GT.mono ?_
  rintro e w11 ⟨rfl, b11⟩
  have k11 := k10.on b11
  have GR1 := GR w11 b11
  have d0 := k11.cell 0
  have d1 := k11.cell 1
  have d2 := k11.cell 2
  simp only [List.getElem?_toArray, List.getElem?_cons_zero, List.getElem?_cons_succ] at d0 d1 d2
  clear GT GR k10
  go_wp2_with fail
  refine GR1.mono ?_
  rintro e w12 ⟨rfl, b12⟩
  have b1012 := b11.trans (b12.mono b11.size)
  have B12 := B10.trans (b1012.mono B10.size)
  have kN12 := kN10.on b1012
  have kM12 := kM.on b1012
  have p112 := p110.on b1012
  have p212 := p210.on b1012
  have hcv1 := conv_any (r110.on b1012)
  have hcv2 := conv_any (r210.on b1012)
  have e0 := kN12.cell 0
  have e1 := kN12.cell 1
  have e2 := kN12.cell 2
  have f0 := kM12.cell 0
  have f1 := kM12.cell 1
  have f2 := kM12.cell 2
  simp only [List.getElem?_toArray, List.getElem?_cons_zero, List.getElem?_cons_succ] at e0 e1 e2 f0 f1 f2
  have SA := same_any w12 fc fb fc fb _ _ fh fh p112 p212 (by omega)
  have hsb : sameB fc fb fh fc fb fh = true := by unfold sameB; simp
  rw [hsb] at SA
  have BK := fun w => blanks_any w s (by omega)
  have RK := fun w => rblanks_any w s (by omega)
  clear GR1 k11 kN10 kM hr10 r110 r210 p110 p210 b11 b12 d0 d1 d2 hsb b1012 p112 p212 kN12 kM12
  go_wp2_with (first | (go_at_call 16; refine SA.mono ?_; rintro e w13 ⟨rfl, b13⟩) | (go_at_call 17; refine (BK _).mono ?_; rintro e w14 ⟨rfl, b14⟩) | (go_at_call 18; refine (RK _).mono ?_; rintro e w15 ⟨rfl, rfl⟩))
  go_ret
  exact ⟨rfl, (B12.trans (b13.mono B12.size)).trans (b14.mono (B12.trans (b13.mono B12.size)).size)⟩
end Go.Proofs.YtfdbekfbbihdgaaDoor
