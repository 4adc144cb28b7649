/- QueueDoes: the law's walk. Conditions: To.Vars, what the library's variables hold, and sizes as Go knows them. -/
import Derived.Test.YtlbcefocmdnlgaaGreatDoorVj
import Derived.Test.YtlbcefocmdnlgaaGreatDoorSa
import Derived.Test.YtlbcefocmdnlgaaGreatDoorLo
import Derived.Test.YtlbcefocmdnlgaaGreatDoorWk
namespace Go.Proofs.YtlbcefocmdnlgaaGreatDoor
open Go.RowKit Go.Lib
set_option maxRecDepth 100000
set_option linter.unusedSimpArgs false

theorem small_zero : Small zeroQ := ⟨by simp [zeroQ], by simp [zeroQ], by simp [zeroQ], by simp [zeroQ]⟩
theorem small_good {q : Que} (h : GoodP q) : Small q := (goodQ_small ((goodQ_iff q).2 h)).1
theorem small_does {q : Que} (hs : Small q) (o : Opn) : Small (doesQ q o) := by
  unfold doesQ
  split
  · rename_i hc
    unfold doesC at hc
    unfold doesN
    split
    · rename_i h0
      rw [if_pos h0] at hc
      have hg : goodQ q = true := by
        cases hg : goodQ q with
        | true => rfl
        | false => simp [pushC, hg] at hc
      exact small_good (good_push ((goodQ_iff q).1 hg) hc)
    · rename_i h0
      rw [if_neg h0] at hc
      split
      · rename_i h1
        rw [if_pos h1] at hc
        exact small_good (good_take ((goodQ_iff q).1 (takeC_zero hc).1) hc o.flag)
      · rename_i h1
        rw [if_neg h1] at hc
        split
        · rename_i h2
          rw [if_pos h2] at hc
          exact small_good (good_settle ((goodQ_iff q).1 (settleC_zero hc).1) hc o.flag)
        · rename_i h2
          rw [if_neg h2] at hc
          have hrel : relC q = 0 → goodQ q = true := fun h => by
            cases hg : goodQ q with
            | true => rfl
            | false => simp [relC, hg] at h
          split
          · rename_i h3
            rw [if_pos h3] at hc
            exact small_good (good_release ((goodQ_iff q).1 (hrel hc)) o.conn o.n)
          · rename_i h3
            rw [if_neg h3] at hc
            split
            · rename_i h4
              rw [if_pos h4] at hc
              exact small_good (good_expire ((goodQ_iff q).1 (hrel hc)) o.n)
            · exact hs
  · exact small_zero
theorem itm_does {q : Que} (hs : Small q) (o : Opn) : (doesI q o).msg.props.length ≤ 2513169434916 := by
  have hz : zeroI.msg.props.length ≤ 2513169434916 := by simp [zeroI, zeroM]
  unfold doesI
  split
  · split
    · cases hq : q.items with
      | nil => exact hz
      | cons y l => exact hs.ip y (by rw [hq]; simp)
    · exact hz
  · exact hz
structure Qx2 (w W : World) (Q O : Array Value) : Prop where
  q : Blk W w.heap.size Q 25
  o : Blk W (w.heap.size + 1) O 30
  l : Below w.heap.size w W
theorem Qx2.on {w W W' : World} {Q O : Array Value} (h : Qx2 w W Q O) (hb : Below W.heap.size W W') : Qx2 w W' Q O := ⟨h.q.on hb, h.o.on hb, nxt h.l hb⟩
theorem Qx2.start (w : World) (Q O : Array Value) : Qx2 w ((w.alloc (.cells Q 25)).alloc (.cells O 30)) Q O := by
  refine ⟨(Blk.new _ _ _).alloc _, ?_, ((Below.refl _ w).alloc (Nat.le_refl _) _).alloc (by simp) _⟩
  have := Blk.new (w.alloc (.cells Q 25)) O 30
  rwa [World.size_alloc] at this
theorem load30 {ops : Array Oper} {rest : List Oper} {o : Oper} {a : Act} {w : World} {Q : Exit → Act → World → Prop} (hgd : o.guard = none) (x : Operand) (ho : o.op = .load 30 x) (g : Nat) (cs : Array Value) (hx : a.eval x = .pointer (some ⟨g, 0, none⟩)) (hg : Blk w g cs 30) (hs : cs.size = 9)
    (h : wpList Tryz.prog ops Q rest (a.put o.dst (.agg cs)) w) : wpList Tryz.prog ops Q (o :: rest) a w :=
  wpList_load_row hgd 30 x ho g hx 30 cs (0, 0) _ hg.h Tryz.underlying30 rfl (by rw [hs]; kernel_rfl) h
/-- Two blocks made one behind the other. -/
structure Two (w W : World) : Prop where
  a : Blk W w.heap.size #[.string ⟨#[]⟩, .bool false, .int .i64 0, .int .i64 0, .int .i64 0, .slice none 0 0, .slice none 0 0] 25
  b : Blk W (w.heap.size + 1) #[.int .i64 0, .bool false, .string ⟨#[]⟩, .string ⟨#[]⟩, .slice none 0 0, .bool false, .int .i64 0] 43
  l : Below w.heap.size w W
theorem Two.start (w : World) : Two w ((w.alloc (.cells #[.string ⟨#[]⟩, .bool false, .int .i64 0, .int .i64 0, .int .i64 0, .slice none 0 0, .slice none 0 0] 25)).alloc (.cells #[.int .i64 0, .bool false, .string ⟨#[]⟩, .string ⟨#[]⟩, .slice none 0 0, .bool false, .int .i64 0] 43)) := by
  refine ⟨(Blk.new _ _ _).alloc _, ?_, ((Below.refl _ w).alloc (Nat.le_refl _) _).alloc (by simp) _⟩
  have := Blk.new (w.alloc (.cells #[.string ⟨#[]⟩, .bool false, .int .i64 0, .int .i64 0, .int .i64 0, .slice none 0 0, .slice none 0 0] 25)) #[.int .i64 0, .bool false, .string ⟨#[]⟩, .string ⟨#[]⟩, .slice none 0 0, .bool false, .int .i64 0] 43
  rwa [World.size_alloc] at this

set_option maxHeartbeats 8000000 in
theorem does_law (w : World) (hva : To.Vars w) (v : Value) (q : Que) (h : RdQ w v q) (hf : FitQ q) (hpi : ∀ y ∈ q.items, y.msg.props.length ≤ 2513169434916) (hph : ∀ y ∈ q.held, y.itm.msg.props.length ≤ 2513169434916) (hbig : lenQ q ≤ 9223372036854775806)
    (o : Opn) (ov : Value) (hp : RdP w ov o.m.props) (hfm : FitM o.m) :
    Calls Tryz.prog 4 #[v, .agg (opV o ov).toArray] w fun e w' => e = .returned (.bool true) ∧ Below w.heap.size w w' := by
  have hR := h
  obtain ⟨iv, hv, rfl, hi, hh⟩ := h
  obtain ⟨ai, ci, rfl⟩ := hi.len
  obtain ⟨ah, ch, rfl⟩ := hh.len
  obtain ⟨ni, hni⟩ : ∃ n, q.items.length = n := ⟨_, rfl⟩
  obtain ⟨nh, hnh⟩ : ∃ n, q.held.length = n := ⟨_, rfl⟩
  rw [hni, hnh] at hR ⊢
  have NQ : Hid (q.items.length = ni ∧ q.held.length = nh) := ⟨hni, hnh⟩
  have RQ : Hid (RdQ w (queV q (.slice ai ni ci) (.slice ah nh ch)) q) := hR
  obtain ⟨pa, pc, rfl⟩ := hp.shape
  obtain ⟨np, hnp⟩ : ∃ n, o.m.props.length = n := ⟨_, rfl⟩
  rw [hnp] at hp ⊢
  have HP : Hid (RdP w (.slice pa np pc) o.m.props ∧ FitM o.m) := ⟨hp, hfm⟩
  have HF : Hid (FitQ q ∧ (∀ y ∈ q.items, y.msg.props.length ≤ 2513169434916) ∧ ∀ y ∈ q.held, y.itm.msg.props.length ≤ 2513169434916) := ⟨hf, hpi, hph⟩
  clear hi hh hni hnh hnp hp hfm hf hpi hph hR
  have S1 : Hid (Qx2 w ((w.alloc (.cells #[tx q.name, .bool q.dur, .int .i64 q.depth, .int .i64 q.seq, .int .i64 q.tag, .slice ai ni ci, .slice ah nh ch] 25)).alloc (.cells #[.int .i64 o.kind, .int .i64 o.conn, .int .i64 o.n, .bool o.flag, tx o.m.topic, tx o.m.body, .slice pa np pc, .bool o.m.dur, .int .i64 o.m.til] 30)) #[tx q.name, .bool q.dur, .int .i64 q.depth, .int .i64 q.seq, .int .i64 q.tag, .slice ai ni ci, .slice ah nh ch] #[.int .i64 o.kind, .int .i64 o.conn, .int .i64 o.n, .bool o.flag, tx o.m.topic, tx o.m.body, .slice pa np pc, .bool o.m.dur, .int .i64 o.m.til]) := Qx2.start w #[tx q.name, .bool q.dur, .int .i64 q.depth, .int .i64 q.seq, .int .i64 q.tag, .slice ai ni ci, .slice ah nh ch] #[.int .i64 o.kind, .int .i64 o.conn, .int .i64 o.n, .bool o.flag, tx o.m.topic, tx o.m.body, .slice pa np pc, .bool o.m.dur, .int .i64 o.m.til]
  unfold queV opV at *
  go_enter Tryz.func4, Tryz.ntmps4
  go_upto_region 1 with fail
  generalize (w.alloc (.cells #[tx q.name, .bool q.dur, .int .i64 q.depth, .int .i64 q.seq, .int .i64 q.tag, .slice ai ni ci, .slice ah nh ch] 25)).alloc (.cells #[.int .i64 o.kind, .int .i64 o.conn, .int .i64 o.n, .bool o.flag, tx o.m.topic, tx o.m.body, .slice pa np pc, .bool o.m.dur, .int .i64 o.m.til] 30) = w1 at *
  go_wp2_with fail
  refine (wakes_any w1 (hva.below S1.out.l)).mono ?_
  rintro e w2 ⟨rfl, b2⟩
  have S2 : Hid (Qx2 w w2 #[tx q.name, .bool q.dur, .int .i64 q.depth, .int .i64 q.seq, .int .i64 q.tag, .slice ai ni ci, .slice ah nh ch] #[.int .i64 o.kind, .int .i64 o.conn, .int .i64 o.n, .bool o.flag, tx o.m.topic, tx o.m.body, .slice pa np pc, .bool o.m.dur, .int .i64 o.m.til]) := S1.out.on b2
  have HL := long_any w2 _ q (RQ.out.on S2.out.l) hbig
  clear S1 b2
  go_wp2_with (refine wpl_load25 rfl (.tmp 2) rfl _ _ rfl S2.out.q rfl ?_)
  refine HL.mono ?_
  rintro e w3 ⟨⟨bl, rfl, hbl⟩, b3⟩
  have S3 : Hid (Qx2 w w3 #[tx q.name, .bool q.dur, .int .i64 q.depth, .int .i64 q.seq, .int .i64 q.tag, .slice ai ni ci, .slice ah nh ch] #[.int .i64 o.kind, .int .i64 o.conn, .int .i64 o.n, .bool o.flag, tx o.m.topic, tx o.m.body, .slice pa np pc, .bool o.m.dur, .int .i64 o.m.til]) := S2.out.on b3
  clear HL S2 b3
  have o6 : w3.cell? ⟨w.heap.size + 1, 6, none⟩ = some (.slice pa np pc) := S3.out.o.cell 6
  cases bl with
  | true =>
    go_wp2_with fail
    go_ret
    exact ⟨rfl, S3.out.l⟩
  | false =>
    have hl200 : lenQ q ≤ 200 := hbl rfl
    by_cases hpl : (np : Int) > 1000
    · go_wp2_with fail
      go_ret
      exact ⟨rfl, S3.out.l⟩
    · have hsq : Small q := ⟨by unfold lenQ at hl200; omega, by unfold lenQ at hl200; omega, HF.out.2.1, HF.out.2.2⟩
      have HD : ∀ W, Below w.heap.size w W → _ := fun W b => does_any W (hva.below b) _ q (RQ.out.on b) o _ (HP.out.1.on b) (by omega)
      have HS : ∀ W, Below w.heap.size w W → _ := fun W b => says_any W _ q (RQ.out.on b) HF.out.1 o _ (HP.out.1.on b) HP.out.2 (by omega)
      have hsm := small_does hsq o
      have him := itm_does hsq o
      unfold opV at HD HS
      generalize doesQ q o = dq at *
      generalize doesC q o = dc at *
      generalize doesT q o = dt at *
      generalize doesI q o = di at *
      have HIM : Hid (∀ l, l = di.msg.props → l.length ≤ 9223372036854775806) := fun l e => by rw [e]; omega
      clear hbl hl200 hsq him
      go_wp2_with (first | (refine wpl_load25 rfl (.tmp 2) rfl _ _ rfl S3.out.q rfl ?_) | (refine load30 rfl (.tmp 3) rfl _ _ rfl S3.out.o rfl ?_))
      refine (HD _ S3.out.l).mono ?_
      rintro e w4 ⟨v4, pv4, rfl, ⟨iv4, hv4, rfl, ri4, rh4⟩, _, op4, b4⟩
      obtain ⟨ai4, ci4, rfl⟩ := ri4.len
      obtain ⟨ah4, ch4, rfl⟩ := rh4.len
      obtain ⟨pa4, pc4, rfl⟩ := op4.shape
      have S4 := S3.out.on b4
      have RA : Hid (RdQ w4 (queV dq (.slice ai4 dq.items.length ci4) (.slice ah4 dq.held.length ch4)) dq) := ⟨_, _, rfl, ri4, rh4⟩
      have RI : Hid (RdP w4 (.slice pa4 di.msg.props.length pc4) di.msg.props) := op4.rd
      clear S3 b4 ri4 rh4 op4 HD o6
      have T4 := Two.start w4
      unfold queV at *
      unfold itmV
      generalize dq.items.length = n1 at *
      generalize dq.held.length = n2 at *
      generalize di.msg.props.length = n3 at *
      go_wp2_with (refine wpl_put rfl (.tmp 5) (.tmp 28) rfl _ _ rfl rfl T4.a (by kernel_rfl) rfl (by simp [Value.oneCell']) ?_)
      intro w5 k5 g5 s5
      have i5 := T4.b.grown g5 (fun e => by injection e with e; omega)
      have b5 := T4.l.grown g5 T4.l.size (fun k hk => by injection hk with hk; omega)
      clear T4 g5 s5
      go_wp2_with (refine wpl_put rfl (.tmp 7) (.tmp 30) rfl _ _ rfl rfl i5 (by kernel_rfl) rfl (by simp [Value.oneCell']) ?_)
      intro w6 k6 g6 s6
      have k56 := k5.grown g6 (fun e => by injection e with e; omega)
      have b6 := b5.grown g6 b5.size (fun k hk => by injection hk with hk; omega)
      have S6 := S4.on b6
      have RA6 : Hid (RdQ w6 (queV dq (.slice ai4 n1 ci4) (.slice ah4 n2 ch4)) dq) := RA.out.on b6
      have RI6 : Hid (RdP w6 (.slice pa4 n3 pc4) di.msg.props) := RI.out.on b6
      clear S4 RA RI k5 i5 b5 g6 s6 b6
      generalize w4.heap.size = g4 at *
      go_wp2_with (first | (refine wpl_load25 rfl (.tmp 2) rfl _ _ rfl S6.q rfl ?_) | (refine load30 rfl (.tmp 3) rfl _ _ rfl S6.o rfl ?_))
      refine (HS _ S6.l).mono ?_
      rintro e w7 ⟨v7, pv7, rfl, ⟨iv7, hv7, rfl, ri7, rh7⟩, _, op7, b7⟩
      obtain ⟨ai7, ci7, rfl⟩ := ri7.len
      obtain ⟨ah7, ch7, rfl⟩ := rh7.len
      obtain ⟨pa7, pc7, rfl⟩ := op7.shape
      have S7 := S6.on b7
      have RA7 : Hid (RdQ w7 (queV dq (.slice ai4 n1 ci4) (.slice ah4 n2 ch4)) dq) := RA6.out.on b7
      have RI7 : Hid (RdP w7 (.slice pa4 n3 pc4) di.msg.props) := RI6.out.on b7
      have RB7 : Hid (RdQ w7 (queV dq (.slice ai7 dq.items.length ci7) (.slice ah7 dq.held.length ch7)) dq) := ⟨_, _, rfl, ri7, rh7⟩
      have RJ7 : Hid (RdP w7 (.slice pa7 di.msg.props.length pc7) di.msg.props) := op7.rd
      have ka7 := k56.on b7
      have kb7 := k6.on b7
      clear S6 RA6 RI6 b7 ri7 rh7 op7 HS k56 k6
      have T7 := Two.start w7
      unfold queV at *
      unfold itmV
      generalize dq.items.length = m1 at *
      generalize dq.held.length = m2 at *
      generalize di.msg.props.length = m3 at *
      have hlt7 : g4 + 1 < w7.heap.size := kb7.lt
      go_wp2_with (refine wpl_put rfl (.tmp 9) (.tmp 36) rfl _ _ rfl rfl T7.a (by kernel_rfl) rfl (by simp [Value.oneCell']) ?_)
      intro w8 k8 g8 s8
      have i8 := T7.b.grown g8 (fun e => by injection e with e; omega)
      have b8 := T7.l.grown g8 T7.l.size (fun k hk => by injection hk with hk; omega)
      clear T7 g8 s8
      go_wp2_with (refine wpl_put rfl (.tmp 11) (.tmp 38) rfl _ _ rfl rfl i8 (by kernel_rfl) rfl (by simp [Value.oneCell']) ?_)
      intro w9 k9 g9 s9
      have k89 := k8.grown g9 (fun e => by injection e with e; omega)
      have b9 := b8.grown g9 b8.size (fun k hk => by injection hk with hk; omega)
      have S9 := S7.on b9
      have ka9 := ka7.on b9
      have kb9 := kb7.on b9
      have HSAME := same_same w9 _ _ dq (RA7.out.on b9) (RB7.out.on b9) hsm
      have RI9 : Hid (RdP w9 (.slice pa4 n3 pc4) di.msg.props) := RI7.out.on b9
      have RJ9 : Hid (RdP w9 (.slice pa7 m3 pc7) di.msg.props) := RJ7.out.on b9
      have L9 : Hid (Below w.heap.size w w9) := S9.l
      unfold queV at HSAME
      clear S7 RA7 RI7 RB7 RJ7 k8 i8 b8 g9 s9 b9 ka7 kb7 S9
      generalize w7.heap.size = g7 at *
      go_wp2_with (first | (refine wpl_load25 rfl (.tmp 5) rfl _ _ rfl ka9 rfl ?_) | (refine wpl_load25 rfl (.tmp 9) rfl _ _ rfl k89 rfl ?_))
      refine HSAME.mono ?_
      rintro e w10 ⟨rfl, b10⟩
      have HITM := sameItem_same w10 di _ _ (RI9.out.on b10) (RJ9.out.on b10) (HIM.out _ rfl)
      unfold itmV at HITM
      have kb10 := kb9.on b10
      have kc10 := k9.on b10
      have L10 : Hid (Below w.heap.size w w10) := nxt L9.out b10
      clear HSAME RI9 RJ9 ka9 k89 kb9 k9 L9 b10
      obtain ⟨x0, x1, x2, x3, x4, x5, x6⟩ := kb10.c7
      obtain ⟨y0, y1, y2, y3, y4, y5, y6⟩ := kc10.c7
      clear kb10 kc10
      go_wp2_with fail
      refine HITM.mono ?_
      rintro e w11 ⟨rfl, b11⟩
      go_wp2_with fail
      go_ret
      exact ⟨rfl, nxt L10.out b11⟩
end Go.Proofs.YtlbcefocmdnlgaaGreatDoor
