/- What Message and goodItem answer. Condition: To.Vars, what the library's variables hold. -/
import Derived.Test.YtlbcefocmdnlgaaGreatDoorGs
import Derived.Test.YtlbcefocmdnlgaaGreatDoorWb
namespace Go.Proofs.YtlbcefocmdnlgaaGreatDoor
open Go.RowKit Go.Lib
set_option maxRecDepth 100000
set_option linter.unusedSimpArgs false

theorem message_any (w : World) (hv : To.Vars w) (m : Msg) (pv : Value) (h : RdP w pv m.props) :
    Calls Tryz.prog 10 #[.agg (msgV m pv).toArray] w fun e w' => e = .returned (.bool (msgB m)) ∧ Below w.heap.size w w' := by
  obtain ⟨tp, bd, ps, du, ti⟩ := m
  unfold msgV msgB
  dsimp only at *
  have hb1 : Below w.heap.size w (w.alloc (.cells #[tx tp, tx bd, pv, .bool du, .int .i64 ti] 28)) := (Below.refl _ w).alloc (Nat.le_refl _) _
  have hN := Blk.new w #[tx tp, tx bd, pv, .bool du, .int .i64 ti] 28
  have hG := To.good_any _ (hv.below hb1) tp
  have HV : Hid (To.Vars w) := hv
  have HP : Hid (RdP w pv ps) := h
  clear hv h
  go_enter Tryz.func10, Tryz.ntmps10
  go_wp2_with fail
  refine hG.mono ?_
  rintro e w1 ⟨rfl, b1⟩
  have hN1 := hN.on b1
  have b01 := nxt hb1 b1
  clear hN hb1 hG b1
  obtain ⟨c0, c1, c2, c3, c4⟩ := hN1.c5
  cases hg : good tp with
  | false =>
    go_wp2
    go_ret
    exact ⟨ret_b (by simp [hg]), b01⟩
  | true =>
    by_cases hl : (bd.length : Int) ≤ 1024
    · have hl' : bd.length ≤ 1024 := by omega
      have hV := valid7 w1 pv ps (HP.out.on b01)
      go_wp2_with fail
      refine hV.mono ?_
      rintro e w2 ⟨rfl, b2⟩
      have b02 := nxt b01 b2
      obtain ⟨d0, d1, d2, d3, d4⟩ := (hN1.on b2).c5
      have hM := num_any w2 ti
      clear hV c0 c1 c2 c3 c4
      cases hva : validL ps with
      | false =>
        go_wp2
        go_ret
        exact ⟨ret_b (by simp [hva]), b02⟩
      | true =>
        go_wp2_with fail
        refine hM.mono ?_
        rintro e w3 ⟨rfl, rfl⟩
        go_wp2
        go_ret
        exact ⟨ret_b (by simp [hl', hg, hva]), b02⟩
    · have hl' : ¬ bd.length ≤ 1024 := by omega
      go_wp2
      go_ret
      exact ⟨ret_b (by simp [hl']), b01⟩

theorem goodItem_any (w : World) (hv : To.Vars w) (q : Que) (iv hv' : Value) (x : Itm) (pv : Value) (h : RdP w pv x.msg.props) :
    Calls Tryz.prog 63 #[queV q iv hv', .agg (itmV x pv).toArray] w fun e w' => e = .returned (.bool (itmB q.seq x)) ∧ Below w.heap.size w w' := by
  obtain ⟨sq, ag, m⟩ := x
  unfold itmB itmV queV
  dsimp only at *
  have hb1 : Below w.heap.size w ((w.alloc (.cells #[tx q.name, .bool q.dur, .int .i64 q.depth, .int .i64 q.seq, .int .i64 q.tag, iv, hv'] 25)).alloc (.cells #[.int .i64 sq, .bool ag, tx m.topic, tx m.body, pv, .bool m.dur, .int .i64 m.til] 43)) := ((Below.refl _ w).alloc (Nat.le_refl _) _).alloc (by simp) _
  have hG := giv_any ((w.alloc (.cells #[tx q.name, .bool q.dur, .int .i64 q.depth, .int .i64 q.seq, .int .i64 q.tag, iv, hv'] 25)).alloc (.cells #[.int .i64 sq, .bool ag, tx m.topic, tx m.body, pv, .bool m.dur, .int .i64 m.til] 43)) sq q.seq
  have hM := message_any _ (hv.below hb1) m pv (h.on hb1)
  unfold msgV at hM
  clear hv h
  go_enter Tryz.func63, Tryz.ntmps63
  go_wp2_with fail
  refine hG.mono ?_
  rintro e w1 ⟨rfl, rfl⟩
  clear hG
  cases hg : givB sq q.seq with
  | false =>
    go_wp2
    go_ret
    exact ⟨ret_b (by simp [hg]), hb1⟩
  | true =>
    go_wp2_with fail
    refine hM.mono ?_
    rintro e w2 ⟨rfl, b2⟩
    go_wp2
    go_ret
    exact ⟨ret_b (by simp [hg]), nxt hb1 b2⟩
end Go.Proofs.YtlbcefocmdnlgaaGreatDoor
