/- The document's Good of a queue that fails ahead of its lists. Conditions: those that each row states. -/
import Derived.Test.YtlbcefocmdnlgaaGreatDoorZh
import Derived.Test.YtlbcefocmdnlgaaGreatDoorRm
import Derived.Test.YtlbcefocmdnlgaaGreatDoorZe
import Derived.Deep.DeepCutAuto
import Derived.BigQuiet
namespace Go.Proofs.YtlbcefocmdnlgaaGreatDoor
open Go.RowKit Go.Lib
set_option maxRecDepth 100000
set_option linter.unusedSimpArgs false

/-- What is told of a message: its sizes fit. -/
def FitM (m : Msg) : Prop := (∀ p ∈ m.props, Fits p) ∧ m.props.length ≤ 9223372036854775806
structure FitQ (q : Que) : Prop where
  name : q.name.length ≤ 9223372036854775807
  items : ∀ x ∈ q.items, FitM x.msg
  held : ∀ x ∈ q.held, FitM x.itm.msg
/-- The queue's block, one more block, and a cell that is read. -/
structure RgS (w u W : World) (t : TypeId) (Q X : Array Value) (V b2 c2 : Nat) (kb : Bool) (py : Int) : Prop where
  a : Blk W w.heap.size Q 25
  b : Blk W V X t
  p : kb = true → W.cell? ⟨b2, c2, none⟩ = some (.int .i64 py)
  l : Below w.heap.size w W
  n : Below u.heap.size u W
theorem RgS.on {w u W W' : World} {t : TypeId} {Q X : Array Value} {V b2 c2 : Nat} {kb : Bool} {py : Int} (h : RgS w u W t Q X V b2 c2 kb py) (hb : Below W.heap.size W W') : RgS w u W' t Q X V b2 c2 kb py := ⟨h.a.on hb, h.b.on hb, fun e => (hb.cell (World.block_lt_of_cell? W _ (h.p e))).trans (h.p e), nxt h.l hb, nxt h.n hb⟩

set_option maxHeartbeats 8000000 in
theorem rgoodq_bad (w : World) (v : Value) (q : Que) (h : RdQ w v q) (hf : FitQ q) (hs : lenQ q ≤ 1000) (hbad : ¬ (nameL q.name = true ∧ ¬ q.depth < 1 ∧ ¬ q.depth > 64 ∧ ¬ ((lenQ q : Nat) : Int) > q.depth ∧ ¬ q.seq < 0 ∧ ¬ q.seq > 1099511627776 ∧ ¬ q.tag < 0 ∧ ¬ q.tag > 1099511627776)) :
    Calls Tryz.prog 14 #[v] w fun e w' => e = .returned (.bool (goodQ q)) ∧ Below w.heap.size w w' := by
  have HBD : Hid (¬ (nameL q.name = true ∧ ¬ q.depth < 1 ∧ ¬ q.depth > 64 ∧ ¬ ((lenQ q : Nat) : Int) > q.depth ∧ ¬ q.seq < 0 ∧ ¬ q.seq > 1099511627776 ∧ ¬ q.tag < 0 ∧ ¬ q.tag > 1099511627776)) := hbad
  clear hbad
  obtain ⟨iv, hv, rfl, ⟨zi, ei, hi⟩, ⟨zh, eh, hh⟩⟩ := h
  obtain ⟨ai, ci, rfl⟩ := hi.len
  obtain ⟨ah, ch, rfl⟩ := hh.len
  obtain ⟨ni, hni⟩ : ∃ n, zi.length = n := ⟨_, rfl⟩
  obtain ⟨nh, hnh⟩ : ∃ n, zh.length = n := ⟨_, rfl⟩
  rw [hni] at hi ⊢
  rw [hnh] at hh ⊢
  have li : q.items.length = ni := by rw [← hni, ← ei, List.length_map]
  have lh : q.held.length = nh := by rw [← hnh, ← eh, List.length_map]
  have lq : lenQ q = ni + nh := by unfold lenQ; rw [li, lh]
  have hsum : ni + nh ≤ 1000 := by omega
  have HI : Hid (RdZ 7 (ItR (RdP w)) w (.slice ai ni ci) zi ∧ zi.map (·.2) = q.items ∧ zi.length = ni) := ⟨hi, ei, hni⟩
  have HH : Hid (RdZ 10 (HeR (RdP w)) w (.slice ah nh ch) zh ∧ zh.map (·.2) = q.held ∧ zh.length = nh) := ⟨hh, eh, hnh⟩
  have LQ : Hid (q.items.length = ni ∧ q.held.length = nh ∧ lenQ q = ni + nh) := ⟨li, lh, lq⟩
  have HF : Hid (FitQ q) := hf
  have H1 : ∀ W, Calls Tryz.prog 31 #[tx q.name] W fun e w' => e = .returned (.bool (nameL q.name)) ∧ w' = W := fun W => (rname7 W ⟨q.name.toArray⟩ hf.name).mono fun e w' ⟨h1, h2⟩ => ⟨by rw [h1, Go.ByteArray.toList_mk], h2⟩
  have hmix : Tryz.prog.follows .mixedOrders = true := by kernel_rfl
  clear hi ei hni hh eh hnh hs hf li lh lq
  have b0 := (Below.refl w.heap.size w).alloc (Nat.le_refl _) (.cells #[tx q.name, .bool q.dur, .int .i64 q.depth, .int .i64 q.seq, .int .i64 q.tag, .slice ai ni ci, .slice ah nh ch] 25)
  have k0 := Blk.new w #[tx q.name, .bool q.dur, .int .i64 q.depth, .int .i64 q.seq, .int .i64 q.tag, .slice ai ni ci, .slice ah nh ch] 25
  unfold queV
  go_enter Tryz.func14, Tryz.ntmps14
  go_upto_region 1 with fail
  generalize w.alloc (.cells #[tx q.name, .bool q.dur, .int .i64 q.depth, .int .i64 q.seq, .int .i64 q.tag, .slice ai ni ci, .slice ah nh ch] 25) = w1 at *
  obtain ⟨c0, c1, c2, c3, c4, c5, c6⟩ := k0.c7
  have KB : Hid (Blk w1 w.heap.size #[tx q.name, .bool q.dur, .int .i64 q.depth, .int .i64 q.seq, .int .i64 q.tag, .slice ai ni ci, .slice ah nh ch] 25 ∧ Below w.heap.size w w1) := ⟨k0, b0⟩
  clear k0 b0
  go_wp2_with fail
  refine (H1 _).mono ?_
  rintro e w2 ⟨rfl, rfl⟩
  clear H1
  cases h1 : nameL q.name with
  | false =>
    have hg : goodQ q = false := by simp [goodQ, h1]

    go_wp2
    go_ret
    exact ⟨by first | rfl | (rw [hg]; done) | (rw [hg]; rfl), KB.out.2⟩
  | true =>
  have HN1 : Hid (nameL q.name = true) := h1
  clear h1
  by_cases h2 : q.depth < 1
  · have hg : goodQ q = false := by
      cases hq : goodQ q with
      | false => rfl
      | true =>
        have hp := (goodQ_iff q).1 hq
        have d1 := hp.dep
        have d2 := hp.seq
        have d3 := hp.tag
        have d4 := hp.len
        rw [LQ.out.2.2] at d4
        simp only [depB, numB, Bool.and_eq_true, decide_eq_true_eq] at d1 d2 d3
        omega

    go_wp2
    go_ret
    exact ⟨by first | rfl | (rw [hg]; done) | (rw [hg]; rfl), KB.out.2⟩
  by_cases h3 : q.depth > 64
  · have hg : goodQ q = false := by
      cases hq : goodQ q with
      | false => rfl
      | true =>
        have hp := (goodQ_iff q).1 hq
        have d1 := hp.dep
        have d2 := hp.seq
        have d3 := hp.tag
        have d4 := hp.len
        rw [LQ.out.2.2] at d4
        simp only [depB, numB, Bool.and_eq_true, decide_eq_true_eq] at d1 d2 d3
        omega

    go_wp2
    go_ret
    exact ⟨by first | rfl | (rw [hg]; done) | (rw [hg]; rfl), KB.out.2⟩
  by_cases h4 : ((ni : Int) + (nh : Int)) > q.depth
  · have hg : goodQ q = false := by
      cases hq : goodQ q with
      | false => rfl
      | true =>
        have hp := (goodQ_iff q).1 hq
        have d1 := hp.dep
        have d2 := hp.seq
        have d3 := hp.tag
        have d4 := hp.len
        rw [LQ.out.2.2] at d4
        simp only [depB, numB, Bool.and_eq_true, decide_eq_true_eq] at d1 d2 d3
        omega

    go_wp2
    go_ret
    exact ⟨by first | rfl | (rw [hg]; done) | (rw [hg]; rfl), KB.out.2⟩
  by_cases h5 : q.seq < 0
  · have hg : goodQ q = false := by
      cases hq : goodQ q with
      | false => rfl
      | true =>
        have hp := (goodQ_iff q).1 hq
        have d1 := hp.dep
        have d2 := hp.seq
        have d3 := hp.tag
        have d4 := hp.len
        rw [LQ.out.2.2] at d4
        simp only [depB, numB, Bool.and_eq_true, decide_eq_true_eq] at d1 d2 d3
        omega

    go_wp2
    go_ret
    exact ⟨by first | rfl | (rw [hg]; done) | (rw [hg]; rfl), KB.out.2⟩
  by_cases h6 : q.seq > 1099511627776
  · have hg : goodQ q = false := by
      cases hq : goodQ q with
      | false => rfl
      | true =>
        have hp := (goodQ_iff q).1 hq
        have d1 := hp.dep
        have d2 := hp.seq
        have d3 := hp.tag
        have d4 := hp.len
        rw [LQ.out.2.2] at d4
        simp only [depB, numB, Bool.and_eq_true, decide_eq_true_eq] at d1 d2 d3
        omega

    go_wp2
    go_ret
    exact ⟨by first | rfl | (rw [hg]; done) | (rw [hg]; rfl), KB.out.2⟩
  by_cases h7 : q.tag < 0
  · have hg : goodQ q = false := by
      cases hq : goodQ q with
      | false => rfl
      | true =>
        have hp := (goodQ_iff q).1 hq
        have d1 := hp.dep
        have d2 := hp.seq
        have d3 := hp.tag
        have d4 := hp.len
        rw [LQ.out.2.2] at d4
        simp only [depB, numB, Bool.and_eq_true, decide_eq_true_eq] at d1 d2 d3
        omega

    go_wp2
    go_ret
    exact ⟨by first | rfl | (rw [hg]; done) | (rw [hg]; rfl), KB.out.2⟩
  by_cases h8 : q.tag > 1099511627776
  · have hg : goodQ q = false := by
      cases hq : goodQ q with
      | false => rfl
      | true =>
        have hp := (goodQ_iff q).1 hq
        have d1 := hp.dep
        have d2 := hp.seq
        have d3 := hp.tag
        have d4 := hp.len
        rw [LQ.out.2.2] at d4
        simp only [depB, numB, Bool.and_eq_true, decide_eq_true_eq] at d1 d2 d3
        omega

    go_wp2
    go_ret
    exact ⟨by first | rfl | (rw [hg]; done) | (rw [hg]; rfl), KB.out.2⟩
  have lq : ((lenQ q : Nat) : Int) = (ni : Int) + (nh : Int) := by rw [LQ.out.2.2]; simp
  refine absurd ?_ HBD.out
  refine ⟨HN1.out, ?_, ?_, ?_, ?_, ?_, ?_, ?_⟩ <;> omega
end Go.Proofs.YtlbcefocmdnlgaaGreatDoor
