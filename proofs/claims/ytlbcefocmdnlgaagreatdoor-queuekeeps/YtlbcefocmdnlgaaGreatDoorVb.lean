/- The document's CopyMsg and Copy: a message, a queue in new memory. Conditions: those that each row states. -/
import Derived.Test.YtlbcefocmdnlgaaGreatDoorZf
namespace Go.Proofs.YtlbcefocmdnlgaaGreatDoor
open Go.RowKit Go.Lib
set_option maxRecDepth 100000

theorem ownP_empty (w : World) (B : Nat) (hB : B ≤ w.heap.size) : OwnP (w.alloc (.cells #[] 54)) B (.slice (some ⟨w.heap.size, 0, none⟩) 0 0) [] := World.ownsRow_lit w #[] 0 hB (by decide) rfl
theorem ret28 {fn : Func} {p : Tmp} {tmps : Array Value} {W : World} {g : Nat} {cs : Array Value} {R : Ending → World → Prop} (hf : fn.results = #[.cell p 28]) (h : Blk W g cs 28) (hs : cs.size = 5) (hp : tmps.getD p undef = .pointer (some ⟨g, 0, none⟩)) (hR : R (.returned (.agg cs)) W) :
    bodyPost Tryz.prog fn R .ret { tmps := tmps, defers := [] } W :=
  bodyPost_ret (results_cell_row hf tmps W g 28 cs (0, 0) _ hp h.h Tryz.underlying28 rfl (by rw [hs]; kernel_rfl)) rfl hR
theorem rcopyMsg_any (w : World) (m : Msg) (pv : Value) (h : RdP w pv m.props) (hn : m.props.length ≤ 2513169434916) :
    Calls Tryz.prog 23 #[.agg (msgV m pv).toArray] w fun e w' => ∃ pv', e = .returned (.agg (msgV m pv').toArray) ∧ OwnP w' w.heap.size pv' m.props ∧ Below w.heap.size w w' := by
  obtain ⟨tp, bd, l, du, ti⟩ := m
  unfold msgV
  dsimp only at *
  have hb1 : Below w.heap.size w ((w.alloc (.cells #[tx tp, tx bd, pv, .bool du, .int .i64 ti] 28)).alloc (.cells #[.string ⟨#[]⟩, .string ⟨#[]⟩, .slice none 0 0, .bool false, .int .i64 0] 28)) := ((Below.refl _ w).alloc (Nat.le_refl _) _).alloc (by simp) _
  have hA := (Blk.new w #[tx tp, tx bd, pv, .bool du, .int .i64 ti] 28).alloc (.cells #[.string ⟨#[]⟩, .string ⟨#[]⟩, .slice none 0 0, .bool false, .int .i64 0] 28)
  have hC := Blk.new (w.alloc (.cells #[tx tp, tx bd, pv, .bool du, .int .i64 ti] 28)) #[.string ⟨#[]⟩, .string ⟨#[]⟩, .slice none 0 0, .bool false, .int .i64 0] 28
  rw [World.size_alloc] at hC
  go_enter Tryz.func23, Tryz.ntmps23
  go_upto_region 1 with fail
  generalize (w.alloc (.cells #[tx tp, tx bd, pv, .bool du, .int .i64 ti] 28)).alloc (.cells #[.string ⟨#[]⟩, .string ⟨#[]⟩, .slice none 0 0, .bool false, .int .i64 0] 28) = w1 at *
  have hlt := hC.lt
  have hA1 := hA.alloc (.cells #[] 54)
  have hC1 := hC.alloc (.cells #[] 54)
  have hb2 := hb1.alloc hb1.size (.cells #[] 54)
  have e2 : (w1.alloc (.cells #[] 54)).cell? ⟨w.heap.size, 2, none⟩ = some pv := hA1.cell 2
  clear hA hC
  go_wp2_with (at_builtin; refine wpl_appP rfl (.tmp 3) (.tmp 5) rfl w.heap.size _ _ [] l _ rfl (ownP_empty w1 _ hb1.size) rfl (h.on hb2) (by simp; omega) hb2.size ?_)
  intro v' w2 ho hg
  have hA2 := hA1.grown hg (by simp [Value.ownBlock]; omega)
  have hC2 := hC1.grown hg (by simp [Value.ownBlock]; omega)
  have hb3 := hb2.grown hg hb2.size (fun k hk => by simp [Value.ownBlock] at hk; omega)
  clear hA1 hC1 hg h hb1 hb2 hlt e2
  obtain ⟨a', c', rfl⟩ := ho.shape
  obtain ⟨n, hn'⟩ : ∃ n, l.length = n := ⟨_, rfl⟩
  rw [hn'] at ho hn ⊢
  clear hn'
  obtain ⟨c0, c1, c2, c3, c4⟩ := hA2.c5
  have f2 := hA2.frozen 2
  have hC3 := hC2.setO (j := 2) (g' := w.heap.size) (by omega) (.slice a' n c')
  have hb4 := hb3.setCell (p := ⟨w.heap.size, 2, none⟩) (Nat.le_refl _) (.slice a' n c')
  have ho3 := ho.keep (kt_setCell (j := 2) hA2 (by decide) (.slice a' n c'))
  clear ho hC2 hA2 hb3
  go_wp2_with (refine wpl_store rfl (.tmp 2) (.tmp 8) rfl (w.heap.size + 1) _ rfl rfl hC3 (by kernel_rfl) rfl (by simp [Value.oneCell']) ?_)
  refine ret28 rfl (hC3.row _) rfl rfl ⟨.slice a' n c', rfl, ho3.keep (kt_setRow hC3 (by decide) _), below_setRow hb4 (by omega) _⟩

set_option maxHeartbeats 4000000 in
theorem rcopy_any (w : World) (v : Value) (q : Que) (h : RdQ w v q) (hq : Small q) :
    Calls Tryz.prog 22 #[v] w fun e w' => ∃ v', e = .returned v' ∧ OwnQ w' w.heap.size v' q ∧ Below w.heap.size w w' := by
  obtain ⟨iv, hv, rfl, hi, hh⟩ := h
  obtain ⟨zi, ei, hi⟩ := hi
  obtain ⟨zh, eh, hh⟩ := hh
  obtain ⟨ai, ci, rfl⟩ := hi.len
  obtain ⟨ah, ch, rfl⟩ := hh.len
  obtain ⟨ni, hni⟩ : ∃ n, zi.length = n := ⟨_, rfl⟩
  obtain ⟨nh, hnh⟩ : ∃ n, zh.length = n := ⟨_, rfl⟩
  have hqi : ni ≤ 1000 := by have := hq.items; rw [← ei, List.length_map, hni] at this; exact this
  have hqh : nh ≤ 1000 := by have := hq.held; rw [← eh, List.length_map, hnh] at this; exact this
  rw [hni] at hi ⊢
  rw [hnh] at hh ⊢
  have HI : Hid (RdZ 7 (ItR (RdP w)) w (.slice ai ni ci) zi) := hi
  have HH : Hid (RdZ 10 (HeR (RdP w)) w (.slice ah nh ch) zh) := hh
  have EI : Hid (zi.map (·.2) = q.items) := ei
  have EH : Hid (zh.map (·.2) = q.held) := eh
  have NI : Hid (zi.length = ni) := hni
  have NH : Hid (zh.length = nh) := hnh
  clear hi hh ei eh hni hnh
  have H0 : Hid (CpI w ((w.alloc (.cells (queV q (.slice ai ni ci) (.slice ah nh ch)).cells 25)).alloc (.cells #[.string ⟨#[]⟩, .bool false, .int .i64 0, .int .i64 0, .int .i64 0, .slice none 0 0, .slice none 0 0] 25)) q (.slice ai ni ci) (.slice ah nh ch) (.slice none 0 0) 0) := by
    refine ⟨⟨[], by simp, World.ownsRow_nil .., by simp⟩, ((Below.refl _ w).alloc (Nat.le_refl _) _).alloc (by simp) _, (Blk.new _ _ _).alloc _, ?_⟩
    have := Blk.new (w.alloc (.cells (queV q (.slice ai ni ci) (.slice ah nh ch)).cells 25)) #[.string ⟨#[]⟩, .bool false, .int .i64 0, .int .i64 0, .int .i64 0, .slice none 0 0, .slice none 0 0] 25
    rwa [World.size_alloc] at this
  unfold queV at *
  go_enter Tryz.func22, Tryz.ntmps22
  go_wp2_with fail
  go_loopg [3, 6, 12] ni (fun gg s3 _ s12 wr => ∃ kk : Nat, kk ≤ ni ∧ ni - kk ≤ gg ∧ s12 = .int .i64 kk ∧ Hid (CpI w wr q (.slice ai ni ci) (.slice ah nh ch) s3 kk))
  case atStart => exact ⟨0, Nat.zero_le _, by omega, rfl, H0.out⟩
  case round =>
    obtain ⟨kk, hkk, hg, rfl, HS⟩ := hrel
    clear H0
    by_cases hlt : kk < ni
    · have hltz : (kk : Int) < (ni : Int) := by omega
      obtain ⟨b, o, pv, rfl, hz1, hp, c0, c1, c2, c3, c4, c5, c6⟩ := itm_at HI.out HS.out.below (i := kk) (by rw [NI.out]; exact hlt)
      have HX : Hid (q.items.take (kk + 1) = q.items.take kk ++ [(zi[kk]'(by rw [NI.out]; exact hlt)).2]) := by
        show q.items.take (kk + 1) = _
        rw [← EI.out, List.take_succ_eq_append_getElem (by rw [List.length_map, NI.out]; exact hlt), List.getElem_map]
      have HPL : Hid ((zi[kk]'(by rw [NI.out]; exact hlt)).2.msg.props.length ≤ 2513169434916) := hq.ip _ (by rw [← EI.out]; exact List.mem_map_of_mem (List.getElem_mem _))
      generalize (zi[kk]'(by rw [NI.out]; exact hlt)).2 = x at *
      clear hz1
      obtain ⟨wr, hwr⟩ : ∃ W, W = wr := ⟨_, rfl⟩
      subst hwr
      obtain ⟨pa, pc, rfl⟩ := hp.shape
      go_wp2_with (refine wpl_fresh rfl (.tmp 6) (.tmp 15) rfl _ _ rfl rfl (by kernel_rfl) rfl (by simp [Value.oneCell']) ?_)
      intro w1 k1 b1 s1
      have hc := rcopyMsg_any w1 x.msg _ (hp.on b1) HPL.out
      unfold msgV at hc
      clear hp c0 c1 c2 c3 c4 c5 c6
      obtain ⟨d0, d1, d2, d3, d4, d5, d6⟩ := k1.c7
      go_wp2_with fail
      refine hc.mono ?_
      rintro e w2 ⟨pv2, rfl, ho2, b2⟩
      have bb2 := nxt b1 b2
      have ho3 : OwnP w2 w.heap.size pv2 x.msg.props := ho2.low (Nat.le_trans HS.out.below.size b1.size)
      have k2' := k1.on b2
      clear hc k1 s1 ho2 b2 HPL d0 d1 d2 d3 d4 d5 d6
      go_wp2_with (refine wpl_putAt rfl (.tmp 19) (.tmp 18) rfl _ 2 _ rfl rfl k2' (by kernel_rfl) (by simp) (by have := ho3.rd.one; simp [Value.oneCell'] at this ⊢; exact this) ?_)
      intro w3 k3 g3 s3
      have HS3 := HS.out.on (bb2.grown g3 bb2.size (fun k hk => by injection hk with hk; omega))
      have ho4 := ho3.keep (kt_grown k2' g3 (by decide))
      have k4 : Blk w3 wr.heap.size #[.int .i64 x.seq, .bool x.again, tx x.msg.topic, tx x.msg.body, pv2, .bool x.msg.dur, .int .i64 x.msg.til] 43 := k3
      clear HS ho3 k2' k3 g3 b1 bb2 s3
      go_wp2_with (first | (refine wpl_load43 rfl (.tmp 6) rfl _ _ rfl k4 rfl ?_) | (at_builtin; refine wpl_halt ?_))
      intro _
      refine HS3.app rfl (.tmp 20) (.tmp 22) rfl rfl rfl x HX.out pv2 ho4 (by omega) ?_
      intro v' w4 HS4
      clear HS3 ho4 HX k4
      go_wp2_with fail
      go_roundg (ni - (kk + 1))
      case measure => omega
      case rel => exact ⟨kk + 1, by omega, by omega, by go_num, HS4⟩
    · have hltz : ¬ (kk : Int) < (ni : Int) := by omega
      have H2 : Hid (CpH w wr q (.slice ai ni ci) (.slice ah nh ch) u3 (.slice none 0 0) 0) := HS.out.turn (by rw [← EI.out, List.length_map, NI.out]; omega)
      have k0 := HS.out.blk
      obtain ⟨wr, hwr⟩ : ∃ W, W = wr := ⟨_, rfl⟩
      subst hwr
      obtain ⟨d0, d1, d2, d3, d4, d5, d6⟩ := k0.c7
      clear HS k0 HI
      go_wp2_with fail
      clear d0 d1 d2 d3 d4 d5 d6
      go_loopg [4, 8, 28] nh (fun gg s4 _ s28 wy => ∃ k2 : Nat, k2 ≤ nh ∧ nh - k2 ≤ gg ∧ s28 = .int .i64 k2 ∧ Hid (CpH w wy q (.slice ai ni ci) (.slice ah nh ch) u3 s4 k2))
      case atStart => exact ⟨0, Nat.zero_le _, by omega, rfl, H2.out⟩
      case round =>
        obtain ⟨k2, hk2, hg2, rfl, HS⟩ := hrel
        clear H2
        by_cases hl2 : k2 < nh
        · have hl2z : (k2 : Int) < (nh : Int) := by omega
          obtain ⟨b, o, pv, rfl, hz1, hp, c0, c1, c2, c3, c4, c5, c6, c7, c8, c9⟩ := hld_at HH.out HS.out.below (i := k2) (by rw [NH.out]; exact hl2)
          have HX : Hid (q.held.take (k2 + 1) = q.held.take k2 ++ [(zh[k2]'(by rw [NH.out]; exact hl2)).2]) := by
            show q.held.take (k2 + 1) = _
            rw [← EH.out, List.take_succ_eq_append_getElem (by rw [List.length_map, NH.out]; exact hl2), List.getElem_map]
          have HPL : Hid ((zh[k2]'(by rw [NH.out]; exact hl2)).2.itm.msg.props.length ≤ 2513169434916) := hq.hp _ (by rw [← EH.out]; exact List.mem_map_of_mem (List.getElem_mem _))
          generalize (zh[k2]'(by rw [NH.out]; exact hl2)).2 = x at *
          clear hz1
          obtain ⟨wt, hwt⟩ : ∃ W, W = wr := ⟨_, rfl⟩
          subst hwt
          obtain ⟨pa, pc, rfl⟩ := hp.shape
          go_wp2_with (refine wpl_fresh rfl (.tmp 8) (.tmp 31) rfl _ _ rfl rfl (by kernel_rfl) rfl (by simp [Value.oneCell']) ?_)
          intro w1 k1 b1 s1
          have hc := rcopyMsg_any w1 x.itm.msg _ (hp.on b1) HPL.out
          unfold msgV at hc
          clear hp c0 c1 c2 c3 c4 c5 c6 c7 c8 c9
          obtain ⟨d0, d1, d2, d3, d4, d5, d6, d7, d8, d9⟩ := k1.c10
          go_wp2_with fail
          refine hc.mono ?_
          rintro e w2 ⟨pv2, rfl, ho2, b2⟩
          have bb2 := nxt b1 b2
          have ho3 : OwnP w2 w.heap.size pv2 x.itm.msg.props := ho2.low (Nat.le_trans HS.out.below.size b1.size)
          have k2' := k1.on b2
          clear hc k1 s1 ho2 b2 HPL d0 d1 d2 d3 d4 d5 d6 d7 d8 d9
          go_wp2_with (refine wpl_putAt rfl (.tmp 37) (.tmp 35) rfl _ 5 _ rfl rfl k2' (by kernel_rfl) (by simp) (by have := ho3.rd.one; simp [Value.oneCell'] at this ⊢; exact this) ?_)
          intro w3 k3 g3 s3
          have HS3 := HS.out.on (bb2.grown g3 bb2.size (fun k hk => by injection hk with hk; omega))
          have ho4 := ho3.keep (kt_grown k2' g3 (by decide))
          have k4 : Blk w3 wt.heap.size #[.int .i64 x.tag, .int .i64 x.conn, .int .i64 x.sub, .int .i64 x.itm.seq, .bool x.itm.again, tx x.itm.msg.topic, tx x.itm.msg.body, pv2, .bool x.itm.msg.dur, .int .i64 x.itm.msg.til] 61 := k3
          clear HS ho3 k2' k3 g3 b1 bb2 s3
          go_wp2_with (first | (refine wpl_load61 rfl (.tmp 8) rfl _ _ rfl k4 rfl ?_) | (at_builtin; refine wpl_halt ?_))
          intro _
          refine HS3.app rfl (.tmp 38) (.tmp 40) rfl rfl rfl x HX.out pv2 ho4 (by omega) ?_
          intro v' w4 HS4
          clear HS3 ho4 HX k4
          go_wp2_with fail
          go_roundg (nh - (k2 + 1))
          case measure => omega
          case rel => exact ⟨k2 + 1, by omega, by omega, by go_num, HS4⟩
        · have hl2z : ¬ (k2 : Int) < (nh : Int) := by omega
          obtain ⟨hi3, ⟨zs, h1, h2⟩, h3, h4, h5⟩ := HS.out
          have hh3 : OwnH wr w.heap.size u4 q.held := ⟨zs, by rw [h1, List.take_of_length_le (by rw [← EH.out, List.length_map, NH.out]; omega)], h2⟩
          obtain ⟨a3, c3, rfl⟩ := hi3.rd.len
          obtain ⟨a6, c6, rfl⟩ := hh3.rd.len
          obtain ⟨wt, hwt⟩ : ∃ W, W = wr := ⟨_, rfl⟩
          subst hwt
          obtain ⟨n3, hn3⟩ : ∃ n, q.items.length = n := ⟨_, rfl⟩
          obtain ⟨n6, hn6⟩ : ∃ n, q.held.length = n := ⟨_, rfl⟩
          rw [hn3] at hi3 ⊢
          rw [hn6] at hh3 ⊢
          have k1 := h4.set 5 (.slice a3 n3 c3)
          have k2' := k1.set 6 (.slice a6 n6 c6)
          have e5 := h4.cell 5
          have e6 := h4.cell 6
          have f5 := h4.frozen 5
          have f6 := h4.frozen 6
          have kR := (h5.setO (g' := w.heap.size) (j := 5) (by omega) (.slice a3 n3 c3)).setO (g' := w.heap.size) (j := 6) (by omega) (.slice a6 n6 c6)
          have b2 := (h3.setCell (p := ⟨w.heap.size, 5, none⟩) (Nat.le_refl _) (.slice a3 n3 c3)).setCell (p := ⟨w.heap.size, 6, none⟩) (Nat.le_refl _) (.slice a6 n6 c6)
          have k43 : Kt 43 wt ((wt.setCell ⟨w.heap.size, 5, none⟩ (.slice a3 n3 c3)).setCell ⟨w.heap.size, 6, none⟩ (.slice a6 n6 c6)) := (kt_setCell h4 (by decide) _).trans (kt_setCell k1 (by decide) _)
          have k61 : Kt 61 wt ((wt.setCell ⟨w.heap.size, 5, none⟩ (.slice a3 n3 c3)).setCell ⟨w.heap.size, 6, none⟩ (.slice a6 n6 c6)) := (kt_setCell h4 (by decide) _).trans (kt_setCell k1 (by decide) _)
          have k54 : Kt 54 wt ((wt.setCell ⟨w.heap.size, 5, none⟩ (.slice a3 n3 c3)).setCell ⟨w.heap.size, 6, none⟩ (.slice a6 n6 c6)) := (kt_setCell h4 (by decide) _).trans (kt_setCell k1 (by decide) _)
          have hi4 := hi3.keep k43 k54
          have hh4 := hh3.keep k61 k54
          have k3 : Blk ((wt.setCell ⟨w.heap.size, 5, none⟩ (.slice a3 n3 c3)).setCell ⟨w.heap.size, 6, none⟩ (.slice a6 n6 c6)) w.heap.size #[tx q.name, .bool q.dur, .int .i64 q.depth, .int .i64 q.seq, .int .i64 q.tag, .slice a3 n3 c3, .slice a6 n6 c6] 25 := k2'
          clear HS hi3 hh3 h1 h2 h3 h4 h5 k1 k2' k43 k61 k54 HH EI EH NI NH hq
          go_wp2_with (first | (refine wpl_load25 rfl (.tmp 1) rfl _ _ rfl k3 rfl ?_) | (refine wpl_put rfl (.tmp 2) (.tmp 47) rfl _ _ rfl rfl kR (by kernel_rfl) rfl (by simp [Value.oneCell']) ?_))
          intro W' r1 g1 s1
          have j43 : Kt 43 _ W' := kt_grown kR g1 (by decide)
          have j61 : Kt 61 _ W' := kt_grown kR g1 (by decide)
          have j54 : Kt 54 _ W' := kt_grown kR g1 (by decide)
          have b4 := b2.grown g1 b2.size (fun k hk => by injection hk with hk; omega)
          clear k3 kR e5 e6 f5 f6 g1
          go_wp2_with fail
          refine ret25 rfl r1 rfl rfl ⟨_, rfl, ⟨_, _, rfl, ?_, ?_⟩, b4⟩
          · exact hi4.keep j43 j54
          · exact hh4.keep j61 j54
end Go.Proofs.YtlbcefocmdnlgaaGreatDoor
