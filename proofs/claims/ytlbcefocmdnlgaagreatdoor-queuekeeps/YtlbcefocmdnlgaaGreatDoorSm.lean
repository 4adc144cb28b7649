
/- What the document's SameMsg, SameItem and Same answer of two that are the same: true. Conditions: those that each row states. -/
import Derived.Test.YtlbcefocmdnlgaaGreatDoorPrg
import Derived.Test.YtlbcefocmdnlgaaGreatDoorZe
namespace Go.Proofs.YtlbcefocmdnlgaaGreatDoor
open Go.RowKit Go.Lib
set_option maxRecDepth 100000
set_option linter.unusedSimpArgs false

theorem sameL_self (l : List Pr) : sameL l l = true := (sameL_eq l l).2 rfl
theorem sameMsg_same (w : World) (m : Msg) (pv pv' : Value) (h : RdP w pv m.props) (h' : RdP w pv' m.props) (h63 : m.props.length ≤ 9223372036854775806) :
    Calls Tryz.prog 24 #[.agg (msgV m pv).toArray, .agg (msgV m pv').toArray] w fun e w' => e = .returned (.bool true) ∧ Below w.heap.size w w' := by
  have hA := fun (W : World) (b : Below w.heap.size w W) => all7 W pv pv' m.props m.props (h.on b) (h'.on b) h63
  simp only [sameL_self] at hA
  unfold msgV
  have k1 := (Blk.new w #[tx m.topic, tx m.body, pv, .bool m.dur, .int .i64 m.til] 28).alloc (.cells #[tx m.topic, tx m.body, pv', .bool m.dur, .int .i64 m.til] 28)
  have k2 := Blk.new (w.alloc (.cells #[tx m.topic, tx m.body, pv, .bool m.dur, .int .i64 m.til] 28)) #[tx m.topic, tx m.body, pv', .bool m.dur, .int .i64 m.til] 28
  rw [World.size_alloc] at k2
  have b2 := ((Below.refl w.heap.size w).alloc (Nat.le_refl _) (.cells #[tx m.topic, tx m.body, pv, .bool m.dur, .int .i64 m.til] 28)).alloc (by simp) (.cells #[tx m.topic, tx m.body, pv', .bool m.dur, .int .i64 m.til] 28)
  go_enter Tryz.func24, Tryz.ntmps24
  go_upto_region 1 with fail
  generalize (w.alloc (.cells #[tx m.topic, tx m.body, pv, .bool m.dur, .int .i64 m.til] 28)).alloc (.cells #[tx m.topic, tx m.body, pv', .bool m.dur, .int .i64 m.til] 28) = w2 at *
  obtain ⟨c0, c1, c2, c3, c4⟩ := k1.c5
  obtain ⟨d0, d1, d2, d3, d4⟩ := k2.c5
  clear k1 k2 h h'
  go_wp2_with fail
  refine (hA _ b2).mono ?_
  rintro e w3 ⟨rfl, b3⟩
  go_wp2
  go_ret
  exact ⟨rfl, nxt b2 b3⟩
theorem sameItem_same (w : World) (x : Itm) (pv pv' : Value) (h : RdP w pv x.msg.props) (h' : RdP w pv' x.msg.props) (h63 : x.msg.props.length ≤ 9223372036854775806) :
    Calls Tryz.prog 21 #[.agg (itmV x pv).toArray, .agg (itmV x pv').toArray] w fun e w' => e = .returned (.bool true) ∧ Below w.heap.size w w' := by
  have hA := fun (W : World) (b : Below w.heap.size w W) => sameMsg_same W x.msg pv pv' (h.on b) (h'.on b) h63
  unfold itmV
  unfold msgV at hA
  have k1 := (Blk.new w #[.int .i64 x.seq, .bool x.again, tx x.msg.topic, tx x.msg.body, pv, .bool x.msg.dur, .int .i64 x.msg.til] 43).alloc (.cells #[.int .i64 x.seq, .bool x.again, tx x.msg.topic, tx x.msg.body, pv', .bool x.msg.dur, .int .i64 x.msg.til] 43)
  have k2 := Blk.new (w.alloc (.cells #[.int .i64 x.seq, .bool x.again, tx x.msg.topic, tx x.msg.body, pv, .bool x.msg.dur, .int .i64 x.msg.til] 43)) #[.int .i64 x.seq, .bool x.again, tx x.msg.topic, tx x.msg.body, pv', .bool x.msg.dur, .int .i64 x.msg.til] 43
  rw [World.size_alloc] at k2
  have b2 := ((Below.refl w.heap.size w).alloc (Nat.le_refl _) (.cells #[.int .i64 x.seq, .bool x.again, tx x.msg.topic, tx x.msg.body, pv, .bool x.msg.dur, .int .i64 x.msg.til] 43)).alloc (by simp) (.cells #[.int .i64 x.seq, .bool x.again, tx x.msg.topic, tx x.msg.body, pv', .bool x.msg.dur, .int .i64 x.msg.til] 43)
  go_enter Tryz.func21, Tryz.ntmps21
  go_upto_region 1 with fail
  generalize (w.alloc (.cells #[.int .i64 x.seq, .bool x.again, tx x.msg.topic, tx x.msg.body, pv, .bool x.msg.dur, .int .i64 x.msg.til] 43)).alloc (.cells #[.int .i64 x.seq, .bool x.again, tx x.msg.topic, tx x.msg.body, pv', .bool x.msg.dur, .int .i64 x.msg.til] 43) = w2 at *
  obtain ⟨c0, c1, c2, c3, c4, c5, c6⟩ := k1.c7
  obtain ⟨d0, d1, d2, d3, d4, d5, d6⟩ := k2.c7
  clear k1 k2 h h'
  go_wp2_with fail
  refine (hA _ b2).mono ?_
  rintro e w3 ⟨rfl, b3⟩
  go_wp2
  go_ret
  exact ⟨rfl, nxt b2 b3⟩
end Go.Proofs.YtlbcefocmdnlgaaGreatDoor
