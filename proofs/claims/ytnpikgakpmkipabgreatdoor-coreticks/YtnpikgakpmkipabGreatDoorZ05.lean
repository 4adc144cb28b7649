/- What Copy answers of any queue: the same one in new memory. Conditions: those that each row states. -/
import Derived.Test.YtnpikgakpmkipabGreatDoorZ04
import Derived.Deep.LoopGhost
import Derived.Test.YtnpikgakpmkipabGreatDoorZ02
namespace Go.Proofs.YtnpikgakpmkipabGreatDoor
open Go.RowKit Go.Lib
set_option maxRecDepth 100000
structure Small (q : Que) : Prop where
 items : q.items.length ≤ 1000
 held : q.held.length ≤ 1000
 ip : ∀ x ∈ q.items, x.msg.props.length ≤ 2513169434916
 hp : ∀ h ∈ q.held, h.itm.msg.props.length ≤ 2513169434916
structure CpI (w W : World) (q : Que) (iv hv v3 : Value) (k : Nat) : Prop where
 own : ∃ zs : Zs Itm, zs.map (·.2) = q.items.take k ∧ OwnZ 131 7 (ItR (OwnP W w.heap.size)) W w.heap.size v3 zs
 below : Bw w W
 blk : Blk W w.heap.size (queV q iv hv).cells 82
 res : Blk W (w.heap.size + 1) quZ 82
theorem CpI.on {w W W' : World} {q : Que} {iv hv v3 : Value} {k : Nat} (h : CpI w W q iv hv v3 k) (hb : Bw W W') : CpI w W' q iv hv v3 k := by
 obtain ⟨⟨zs, h1, h2⟩, h3, h4, h5⟩ := h
 exact ⟨⟨zs, h1, (h2.keep (.of_below hb)).imp fun _ _ h => h.keep (.of_below hb)⟩, nxt h3 hb, h4.on hb, h5.on hb⟩
structure CpH (w W : World) (q : Que) (iv hv v3 v6 : Value) (k : Nat) : Prop where
 items : OwnI W w.heap.size v3 q.items
 own : ∃ zs : Zs Hld, zs.map (·.2) = q.held.take k ∧ OwnZ 133 10 (HeR (OwnP W w.heap.size)) W w.heap.size v6 zs
 below : Bw w W
 blk : Blk W w.heap.size (queV q iv hv).cells 82
 res : Blk W (w.heap.size + 1) quZ 82
theorem CpH.on {w W W' : World} {q : Que} {iv hv v3 v6 : Value} {k : Nat} (h : CpH w W q iv hv v3 v6 k) (hb : Bw W W') : CpH w W' q iv hv v3 v6 k := by
 obtain ⟨h0, ⟨zs, h1, h2⟩, h3, h4, h5⟩ := h
 exact ⟨h0.keep (.of_below hb) (.of_below hb), ⟨zs, h1, (h2.keep (.of_below hb)).imp fun _ _ h => h.keep (.of_below hb)⟩, nxt h3 hb, h4.on hb, h5.on hb⟩
theorem CpI.turn {w W : World} {q : Que} {iv hv v3 : Value} {k : Nat} (h : CpI w W q iv hv v3 k) (hk : q.items.length ≤ k) : CpH w W q iv hv v3 (.slice none 0 0) 0 := by
 obtain ⟨⟨zs, h1, h2⟩, h3, h4, h5⟩ := h
 exact ⟨⟨zs, by rw [h1, List.take_of_length_le hk], h2⟩, ⟨[], by simp, World.ownsRow_nil .., by simp⟩, h3, h4, h5⟩
theorem itmV_one (x : Itm) {pv : Value} (h : pv.oneCell' = true) : (itmV x pv).length = 7 ∧ ∀ u ∈ itmV x pv, u.oneCell' = true := by
 refine ⟨rfl, fun u hu => ?_⟩
 simp only [itmV, List.mem_cons, List.not_mem_nil, or_false] at hu
 rcases hu with rfl | rfl | rfl | rfl | rfl | rfl | rfl <;> first | rfl | exact h
theorem hldV_one (x : Hld) {pv : Value} (h : pv.oneCell' = true) : (hldV x pv).length = 10 ∧ ∀ u ∈ hldV x pv, u.oneCell' = true := by
 refine ⟨rfl, fun u hu => ?_⟩
 simp only [hldV, List.mem_cons, List.not_mem_nil, or_false] at hu
 rcases hu with rfl | rfl | rfl | rfl | rfl | rfl | rfl | rfl | rfl | rfl <;> first | rfl | exact h
theorem CpI.app {w W : World} {q : Que} {iv hv v3 : Value} {k : Nat} (h : CpI w W q iv hv v3 k) {ops : Array Oper} {rest : List Oper} {o : Oper} {a : Act} {Q : Exit → Act → World → Prop} (hgd : o.guard = none) (s x : Operand)
  (ho : o.op = .call { callee := .builtin .append, args := #[s, x], argTypes := #[79, 79] }) (hs : a.eval s = v3) (hx : a.eval x = .slice (some ⟨W.heap.size, 0, none⟩) 1 1) (it : Itm) (hit : q.items.take (k + 1) = q.items.take k ++ [it]) (pv : Value) (hp : OwnP W w.heap.size pv it.msg.props) (hk : k ≤ 1000)
  (cont : ∀ v' w', CpI w w' q iv hv v' (k + 1) → wpList Tryz.prog ops Q rest (a.put o.dst v') w') : wpList Tryz.prog ops Q (o :: rest) a (W.alloc (.cells (itmV it pv).toArray 131)) := by
 have hb := (Below.refl W.heap.size W).alloc (Nat.le_refl _) (.cells (itmV it pv).toArray 131)
 have hn := Blk.new W (itmV it pv).toArray 131
 obtain ⟨⟨zs, h1, h2⟩, h3, h4, h5⟩ := h.on hb
 have hlen : zs.length ≤ 1000 := by
  have := congrArg List.length h1
  rw [List.length_map, List.length_take] at this
  omega
 have hp2 := hp.up hb
 have hone : pv.oneCell' = true := hp.rd.one
 refine wpl_appI hgd s x ho w.heap.size v3 zs _ _ hs h2 W.heap.size 1 (itmV it pv, it) hx ⟨itmV_one it hone, pv, rfl, hp2⟩ (fun j u hu => ?_) (by omega) h3.size ?_
 ·rw [hn.cell j]
  simpa using hu
 ·intro v' w' h6 h7
  have k54 : Kt 66 _ w' := Kt.of_grown h2.1 h7 (by decide)
  have k25 : Kt 82 _ w' := Kt.of_grown h2.1 h7 (by decide)
  exact cont v' w' ⟨⟨zs ++ [(itmV it pv, it)], by rw [List.map_append, h1, hit]; rfl, h6.imp fun _ _ h => h.keep k54⟩, h3.grown h7 h3.size (fun k hk => (World.ownsRow.lt h2.1 k hk).1), h4.kt k25, h5.kt k25⟩
theorem CpH.app {w W : World} {q : Que} {iv hv v3 v6 : Value} {k : Nat} (h : CpH w W q iv hv v3 v6 k) {ops : Array Oper} {rest : List Oper} {o : Oper} {a : Act} {Q : Exit → Act → World → Prop} (hgd : o.guard = none) (s x : Operand)
  (ho : o.op = .call { callee := .builtin .append, args := #[s, x], argTypes := #[80, 80] }) (hs : a.eval s = v6) (hx : a.eval x = .slice (some ⟨W.heap.size, 0, none⟩) 1 1) (it : Hld) (hit : q.held.take (k + 1) = q.held.take k ++ [it]) (pv : Value) (hp : OwnP W w.heap.size pv it.itm.msg.props) (hk : k ≤ 1000)
  (cont : ∀ v' w', CpH w w' q iv hv v3 v' (k + 1) → wpList Tryz.prog ops Q rest (a.put o.dst v') w') : wpList Tryz.prog ops Q (o :: rest) a (W.alloc (.cells (hldV it pv).toArray 133)) := by
 have hb := (Below.refl W.heap.size W).alloc (Nat.le_refl _) (.cells (hldV it pv).toArray 133)
 have hn := Blk.new W (hldV it pv).toArray 133
 obtain ⟨h0, ⟨zs, h1, h2⟩, h3, h4, h5⟩ := h.on hb
 have hlen : zs.length ≤ 1000 := by
  have := congrArg List.length h1
  rw [List.length_map, List.length_take] at this
  omega
 have hp2 := hp.up hb
 have hone : pv.oneCell' = true := hp.rd.one
 refine wpl_appH hgd s x ho w.heap.size v6 zs _ _ hs h2 W.heap.size 1 (hldV it pv, it) hx ⟨hldV_one it hone, pv, rfl, hp2⟩ (fun j u hu => ?_) (by omega) h3.size ?_
 ·rw [hn.cell j]
  simpa using hu
 ·intro v' w' h6 h7
  have k54 : Kt 66 _ w' := Kt.of_grown h2.1 h7 (by decide)
  have k25 : Kt 82 _ w' := Kt.of_grown h2.1 h7 (by decide)
  have k43 : Kt 131 _ w' := Kt.of_grown h2.1 h7 (by decide)
  exact cont v' w' ⟨h0.keep k43 k54, ⟨zs ++ [(hldV it pv, it)], by rw [List.map_append, h1, hit]; rfl, h6.imp fun _ _ h => h.keep k54⟩, h3.grown h7 h3.size (fun k hk => (World.ownsRow.lt h2.1 k hk).1), h4.kt k25, h5.kt k25⟩
set_option maxHeartbeats 4000000 in
theorem copy_any (w : World) (v : Value) (q : Que) (h : RdQ w v q) (hq : Small q) :
  Calls Tryz.prog 82 #[v] w fun e w' => ∃ v', e = .returned v' ∧ OwnQ w' w.heap.size v' q ∧ Bw w w' := by
 obtain ⟨iv, hv, rfl, hi, hh⟩ := h
 obtain ⟨zi, ei, hi⟩ := hi
 obtain ⟨zh, eh, hh⟩ := hh
 obtain ⟨ai, ci, rfl⟩ := hi.len
 obtain ⟨ah, ch, rfl⟩ := hh.len
 obtain ⟨ni, hni⟩ : ∃ n, zi.length = n := ⟨_, rfl⟩
 obtain ⟨nh, hnh⟩ : ∃ n, zh.length = n := ⟨_, rfl⟩
 have hqi : ni ≤ 1000 := by have := hq.items; rw [← ei, List.length_map, hni] at this; exact this
 have hqh : nh ≤ 1000 := by have := hq.held; rw [← eh, List.length_map, hnh] at this; exact this
 rw [hni] at hi ⊢
 rw [hnh] at hh ⊢
 have HI : Hid (RdZ 7 (ItR (RdP w)) w (.slice ai ni ci) zi) := hi
 have HH : Hid (RdZ 10 (HeR (RdP w)) w (.slice ah nh ch) zh) := hh
 have EI : Hid (zi.map (·.2) = q.items) := ei
 have EH : Hid (zh.map (·.2) = q.held) := eh
 have NI : Hid (zi.length = ni) := hni
 have NH : Hid (zh.length = nh) := hnh
 clear hi hh ei eh hni hnh
 have H0 : Hid (CpI w ((w.alloc (.cells (queV q (.slice ai ni ci) (.slice ah nh ch)).cells 82)).alloc (.cells quZ 82)) q (.slice ai ni ci) (.slice ah nh ch) (.slice none 0 0) 0) := by
  refine ⟨⟨[], by simp, World.ownsRow_nil .., by simp⟩, ((Below.refl _ w).alloc (Nat.le_refl _) _).alloc (by simp) _, (Blk.new _ _ _).alloc _, ?_⟩
  have := Blk.new (w.alloc (.cells (queV q (.slice ai ni ci) (.slice ah nh ch)).cells 82)) quZ 82
  rwa [World.size_alloc] at this
 unfold queV at *
 go_enter Tryz.func82, Tryz.ntmps82
 go_wp2_with fail
 go_loopg [3, 5, 12] ni (fun gg s3 _ s12 wr => ∃ kk : Nat, kk ≤ ni ∧ ni - kk ≤ gg ∧ s12 = .int .i64 kk ∧ Hid (CpI w wr q (.slice ai ni ci) (.slice ah nh ch) s3 kk))
 case atStart => exact ⟨0, Nat.zero_le _, by omega, rfl, H0.out⟩
 case round =>
  obtain ⟨kk, hkk, hg, rfl, HS⟩ := hrel
  clear H0
  by_cases hlt : kk < ni
  ·have hltz : (kk : Int) < (ni : Int) := by omega
   obtain ⟨b, o, pv, rfl, hz1, hp, c0, c1, c2, c3, c4, c5, c6⟩ := itm_at HI.out HS.out.below (i := kk) (by rw [NI.out]; exact hlt)
   have HX : Hid (q.items.take (kk + 1) = q.items.take kk ++ [(zi[kk]'(by rw [NI.out]; exact hlt)).2]) := by
    show q.items.take (kk + 1) = _
    rw [← EI.out, List.take_succ_eq_append_getElem (by rw [List.length_map, NI.out]; exact hlt), List.getElem_map]
   have HPL : Hid ((zi[kk]'(by rw [NI.out]; exact hlt)).2.msg.props.length ≤ 2513169434916) := hq.ip _ (by rw [← EI.out]; exact List.mem_map_of_mem (List.getElem_mem _))
   generalize (zi[kk]'(by rw [NI.out]; exact hlt)).2 = x at *
   clear hz1
   obtain ⟨wr, hwr⟩ : ∃ W, W = wr := ⟨_, rfl⟩
   subst hwr
   obtain ⟨pa, pc, rfl⟩ := hp.shape
   go_wp2_with (refine wpl_fresh rfl (.tmp 5) (.tmp 15) rfl _ _ rfl rfl (by kernel_rfl) rfl (by simp [Value.oneCell']) ?_)
   intro w1 k1 b1 s1
   have HS1 := HS.out.on b1
   have hc := copyItem_any w1 x _ (hp.on b1) HPL.out
   unfold itmV at hc
   clear HS hp c0 c1 c2 c3 c4 c5 c6 b1
   go_wp2_with (refine wpl_load43 rfl (.tmp 5) rfl _ _ rfl k1 rfl ?_)
   refine hc.mono ?_
   rintro e w2 ⟨pv2, rfl, ho2, b2⟩
   have HS2 := HS1.on b2
   have ho3 : OwnP w2 w.heap.size pv2 x.msg.props := ho2.low HS1.below.size
   clear hc k1 s1 HS1 ho2 b2 HPL
   go_wp2_with (at_builtin; refine HS2.app rfl (.tmp 16) (.tmp 19) rfl rfl rfl x HX.out pv2 ho3 (by omega) ?_)
   intro v' w3 HS3
   clear HS2 ho3 HX
   go_wp2_with fail
   go_roundg (ni - (kk + 1))
   case measure => omega
   case rel => exact ⟨kk + 1, by omega, by omega, by go_num, HS3⟩
  ·have hltz : ¬ (kk : Int) < (ni : Int) := by omega
   have H2 : Hid (CpH w wr q (.slice ai ni ci) (.slice ah nh ch) u3 (.slice none 0 0) 0) := HS.out.turn (by rw [← EI.out, List.length_map, NI.out]; omega)
   have k0 := HS.out.blk
   obtain ⟨wr, hwr⟩ : ∃ W, W = wr := ⟨_, rfl⟩
   subst hwr
   obtain ⟨d0, d1, d2, d3, d4, d5, d6⟩ := k0.c7
   clear HS k0 HI
   go_wp2_with fail
   clear d0 d1 d2 d3 d4 d5 d6
   go_loopg [6, 8, 25] nh (fun gg s6 _ s25 wy => ∃ k2 : Nat, k2 ≤ nh ∧ nh - k2 ≤ gg ∧ s25 = .int .i64 k2 ∧ Hid (CpH w wy q (.slice ai ni ci) (.slice ah nh ch) u3 s6 k2))
   case atStart => exact ⟨0, Nat.zero_le _, by omega, rfl, H2.out⟩
   case round =>
    obtain ⟨k2, hk2, hg2, rfl, HS⟩ := hrel
    clear H2
    by_cases hl2 : k2 < nh
    ·have hl2z : (k2 : Int) < (nh : Int) := by omega
     obtain ⟨b, o, pv, rfl, hz1, hp, c0, c1, c2, c3, c4, c5, c6, c7, c8, c9⟩ := hld_at HH.out HS.out.below (i := k2) (by rw [NH.out]; exact hl2)
     have HX : Hid (q.held.take (k2 + 1) = q.held.take k2 ++ [(zh[k2]'(by rw [NH.out]; exact hl2)).2]) := by
      show q.held.take (k2 + 1) = _
      rw [← EH.out, List.take_succ_eq_append_getElem (by rw [List.length_map, NH.out]; exact hl2), List.getElem_map]
     have HPL : Hid ((zh[k2]'(by rw [NH.out]; exact hl2)).2.itm.msg.props.length ≤ 2513169434916) := hq.hp _ (by rw [← EH.out]; exact List.mem_map_of_mem (List.getElem_mem _))
     generalize (zh[k2]'(by rw [NH.out]; exact hl2)).2 = x at *
     clear hz1
     obtain ⟨wt, hwt⟩ : ∃ W, W = wr := ⟨_, rfl⟩
     subst hwt
     obtain ⟨pa, pc, rfl⟩ := hp.shape
     go_wp2_with (refine wpl_fresh rfl (.tmp 8) (.tmp 28) rfl _ _ rfl rfl (by kernel_rfl) rfl (by simp [Value.oneCell']) ?_)
     intro w1 k1 b1 s1
     have hc := copyItem_any w1 x.itm _ (hp.on b1) HPL.out
     unfold itmV at hc
     clear hp c0 c1 c2 c3 c4 c5 c6 c7 c8 c9
     obtain ⟨d0, d1, d2, d3, d4, d5, d6, d7, d8, d9⟩ := k1.c10
     go_wp2_with fail
     refine hc.mono ?_
     rintro e w2 ⟨pv2, rfl, ho2, b2⟩
     have bb2 := nxt b1 b2
     have ho3 : OwnP w2 w.heap.size pv2 x.itm.msg.props := ho2.low (Nat.le_trans HS.out.below.size b1.size)
     have k2' := k1.on b2
     clear hc k1 s1 ho2 b2 HPL d0 d1 d2 d3 d4 d5 d6 d7 d8 d9
     go_wp2_with (refine wpl_putAt rfl (.tmp 32) (.tmp 31) rfl _ 3 _ rfl rfl k2' (by kernel_rfl) (by simp) (by have := ho3.rd.one; simp [Value.oneCell'] at this ⊢; exact this) ?_)
     intro w3 k3 g3 s3
     have HS3 := HS.out.on (bb2.grown g3 bb2.size (fun k hk => by injection hk with hk; omega))
     have ho4 := ho3.keep (kt_grown k2' g3 (by decide))
     have k4 : Blk w3 wt.heap.size (hlA x pv2) 133 := k3
     clear HS ho3 k2' k3 g3 b1 bb2 s3
     go_wp2_with (first | (refine wpl_load61 rfl (.tmp 8) rfl _ _ rfl k4 rfl ?_) | (at_builtin; refine wpl_halt ?_))
     intro _
     refine HS3.app rfl (.tmp 33) (.tmp 35) rfl rfl rfl x HX.out pv2 ho4 (by omega) ?_
     intro v' w4 HS4
     clear HS3 ho4 HX k4
     go_wp2_with fail
     go_roundg (nh - (k2 + 1))
     case measure => omega
     case rel => exact ⟨k2 + 1, by omega, by omega, by go_num, HS4⟩
    ·have hl2z : ¬ (k2 : Int) < (nh : Int) := by omega
     obtain ⟨hi3, ⟨zs, h1, h2⟩, h3, h4, h5⟩ := HS.out
     have hh3 : OwnH wr w.heap.size u6 q.held := ⟨zs, by rw [h1, List.take_of_length_le (by rw [← EH.out, List.length_map, NH.out]; omega)], h2⟩
     obtain ⟨a3, c3, rfl⟩ := hi3.rd.len
     obtain ⟨a6, c6, rfl⟩ := hh3.rd.len
     obtain ⟨wt, hwt⟩ : ∃ W, W = wr := ⟨_, rfl⟩
     subst hwt
     obtain ⟨n3, hn3⟩ : ∃ n, q.items.length = n := ⟨_, rfl⟩
     obtain ⟨n6, hn6⟩ : ∃ n, q.held.length = n := ⟨_, rfl⟩
     rw [hn3] at hi3 ⊢
     rw [hn6] at hh3 ⊢
     have k1 := h4.set 5 (.slice a3 n3 c3)
     have k2' := k1.set 6 (.slice a6 n6 c6)
     have e5 := h4.cell 5
     have e6 := h4.cell 6
     have f5 := h4.frozen 5
     have f6 := h4.frozen 6
     have kR := (h5.setO (g' := w.heap.size) (j := 5) (by omega) (.slice a3 n3 c3)).setO (g' := w.heap.size) (j := 6) (by omega) (.slice a6 n6 c6)
     have b2 := (h3.setCell (p := ⟨w.heap.size, 5, none⟩) (Nat.le_refl _) (.slice a3 n3 c3)).setCell (p := ⟨w.heap.size, 6, none⟩) (Nat.le_refl _) (.slice a6 n6 c6)
     have k43 : Kt 131 wt ((wt.setCell ⟨w.heap.size, 5, none⟩ (.slice a3 n3 c3)).setCell ⟨w.heap.size, 6, none⟩ (.slice a6 n6 c6)) := (kt_setCell h4 (by decide) _).trans (kt_setCell k1 (by decide) _)
     have k61 : Kt 133 wt ((wt.setCell ⟨w.heap.size, 5, none⟩ (.slice a3 n3 c3)).setCell ⟨w.heap.size, 6, none⟩ (.slice a6 n6 c6)) := (kt_setCell h4 (by decide) _).trans (kt_setCell k1 (by decide) _)
     have k54 : Kt 66 wt ((wt.setCell ⟨w.heap.size, 5, none⟩ (.slice a3 n3 c3)).setCell ⟨w.heap.size, 6, none⟩ (.slice a6 n6 c6)) := (kt_setCell h4 (by decide) _).trans (kt_setCell k1 (by decide) _)
     have hi4 := hi3.keep k43 k54
     have hh4 := hh3.keep k61 k54
     have k3 : Blk ((wt.setCell ⟨w.heap.size, 5, none⟩ (.slice a3 n3 c3)).setCell ⟨w.heap.size, 6, none⟩ (.slice a6 n6 c6)) w.heap.size (quA q (.slice a3 n3 c3) (.slice a6 n6 c6)) 82 := k2'
     clear HS hi3 hh3 h1 h2 h3 h4 h5 k1 k2' k43 k61 k54 HH EI EH NI NH hq
     go_wp2_with (first | (refine wpl_load25 rfl (.tmp 1) rfl _ _ rfl k3 rfl ?_) | (refine wpl_put rfl (.tmp 2) (.tmp 42) rfl _ _ rfl rfl kR (by kernel_rfl) rfl (by simp [Value.oneCell']) ?_))
     intro W' r1 g1 s1
     have j43 : Kt 131 _ W' := kt_grown kR g1 (by decide)
     have j61 : Kt 133 _ W' := kt_grown kR g1 (by decide)
     have j54 : Kt 66 _ W' := kt_grown kR g1 (by decide)
     have b4 := b2.grown g1 b2.size (fun k hk => by injection hk with hk; omega)
     clear k3 kR e5 e6 f5 f6 g1
     go_wp2_with fail
     refine ret25 rfl r1 rfl rfl ⟨_, rfl, ⟨_, _, rfl, ?_, ?_⟩, b4⟩
     ·exact hi4.keep j43 j54
     ·exact hh4.keep j61 j54
theorem num_any (w : World) (n : Int) : Calls Tryz.prog 145 #[.int .i64 n] w fun e w' => e = .returned (.bool (numB n)) ∧ w' = w := by
 unfold numB
 by_cases h1 : (0 : Int) ≤ n <;> by_cases h2 : n ≤ (1099511627776 : Int)
 all_goals
  go_enter Tryz.func145, Tryz.ntmps145
  go_wp2
  go_ret
  exact ⟨ret_b (by simp [h1, h2]), rfl⟩
theorem dep_any (w : World) (n : Int) : Calls Tryz.prog 144 #[.int .i64 n] w fun e w' => e = .returned (.bool (depB n)) ∧ w' = w := by
 unfold depB
 by_cases h1 : (1 : Int) ≤ n <;> by_cases h2 : n ≤ (64 : Int)
 all_goals
  go_enter Tryz.func144, Tryz.ntmps144
  go_wp2
  go_ret
  exact ⟨ret_b (by simp [h1, h2]), rfl⟩
theorem con_any (w : World) (n : Int) : Calls Tryz.prog 222 #[.int .i64 n] w fun e w' => e = .returned (.bool (conB n)) ∧ w' = w := by
 unfold conB
 by_cases h1 : (0 : Int) ≤ n <;> by_cases h2 : n < (8 : Int)
 all_goals
  go_enter Tryz.func222, Tryz.ntmps222
  go_wp2
  go_ret
  exact ⟨ret_b (by simp [h1, h2]), rfl⟩
theorem giv_any (w : World) (n l : Int) : Calls Tryz.prog 221 #[.int .i64 n, .int .i64 l] w fun e w' => e = .returned (.bool (givB n l)) ∧ w' = w := by
 unfold givB
 by_cases h1 : (1 : Int) ≤ n <;> by_cases h2 : n ≤ l
 all_goals
  go_enter Tryz.func221, Tryz.ntmps221
  go_wp2
  go_ret
  exact ⟨ret_b (by simp [h1, h2]), rfl⟩
theorem len_any (w : World) (v : Value) (q : Que) (h : RdQ w v q) (hs : lenQ q ≤ 9223372036854775807) : Calls Tryz.prog 146 #[v] w fun e w' => e = .returned (.int .i64 (lenQ q)) ∧ Bw w w' := by
 obtain ⟨iv, hv, rfl, hi, hh⟩ := h
 obtain ⟨ai, ci, rfl⟩ := hi.len
 obtain ⟨ah, ch, rfl⟩ := hh.len
 unfold lenQ at *
 unfold queV
 generalize q.items.length = ni at *
 generalize q.held.length = nh at *
 clear hi hh
 go_enter Tryz.func146, Tryz.ntmps146
 go_wp2
 go_ret
 refine ⟨ret_i ?_, (Below.refl _ w).alloc (Nat.le_refl _) _⟩
 go_num
set_option linter.unusedSimpArgs false
theorem message_any (w : World) (hv : To.Vars w) (m : Msg) (pv : Value) (h : RdP w pv m.props) :
  Calls Tryz.prog 77 #[.agg (msgV m pv).toArray] w fun e w' => e = .returned (.bool (msgB m)) ∧ Bw w w' := by
 obtain ⟨tp, bd, ps, du, ti⟩ := m
 unfold msgV msgB
 dsimp only at *
 have hb1 : Bw w (w.alloc (.cells #[tx tp, tx bd, pv, .bool du, .int .i64 ti] 33)) := (Below.refl _ w).alloc (Nat.le_refl _) _
 have hN := Blk.new w #[tx tp, tx bd, pv, .bool du, .int .i64 ti] 33
 have hG := To.good_any _ (hv.below hb1) tp
 have HV : Hid (To.Vars w) := hv
 have HP : Hid (RdP w pv ps) := h
 clear hv h
 go_enter Tryz.func77, Tryz.ntmps77
 go_wp2_with fail
 refine hG.mono ?_
 rintro e w1 ⟨rfl, b1⟩
 have hN1 := hN.on b1
 have b01 := nxt hb1 b1
 clear hN hb1 hG b1
 obtain ⟨c0, c1, c2, c3, c4⟩ := hN1.c5
 cases hg : good tp with
 | false =>
  go_wp2
  go_ret
  exact ⟨ret_b (by simp [hg]), b01⟩
 | true =>
  by_cases hl : (bd.length : Int) ≤ 1024
  ·have hl' : bd.length ≤ 1024 := by omega
   have hV := valid7 w1 pv ps (HP.out.on b01)
   go_wp2_with fail
   refine hV.mono ?_
   rintro e w2 ⟨rfl, b2⟩
   have b02 := nxt b01 b2
   obtain ⟨d0, d1, d2, d3, d4⟩ := (hN1.on b2).c5
   have hM := num_any w2 ti
   clear hV c0 c1 c2 c3 c4
   cases hva : validL ps with
   | false =>
    go_wp2
    go_ret
    exact ⟨ret_b (by simp [hva]), b02⟩
   | true =>
    go_wp2_with fail
    refine hM.mono ?_
    rintro e w3 ⟨rfl, rfl⟩
    go_wp2
    go_ret
    exact ⟨ret_b (by simp [hl', hg, hva]), b02⟩
  ·have hl' : ¬ bd.length ≤ 1024 := by omega
   go_wp2
   go_ret
   exact ⟨ret_b (by simp [hl']), b01⟩
theorem goodItem_any (w : World) (hv : To.Vars w) (q : Que) (iv hv' : Value) (x : Itm) (pv : Value) (h : RdP w pv x.msg.props) :
  Calls Tryz.prog 218 #[queV q iv hv', .agg (itmV x pv).toArray] w fun e w' => e = .returned (.bool (itmB q.seq x)) ∧ Bw w w' := by
 obtain ⟨sq, ag, m⟩ := x
 unfold itmB itmV queV
 dsimp only at *
 have hb1 : Bw w ((w.alloc (.cells (quA q iv hv') 82)).alloc (.cells #[.int .i64 sq, .bool ag, tx m.topic, tx m.body, pv, .bool m.dur, .int .i64 m.til] 131)) := ((Below.refl _ w).alloc (Nat.le_refl _) _).alloc (by simp) _
 have hG := giv_any ((w.alloc (.cells (quA q iv hv') 82)).alloc (.cells #[.int .i64 sq, .bool ag, tx m.topic, tx m.body, pv, .bool m.dur, .int .i64 m.til] 131)) sq q.seq
 have hM := message_any _ (hv.below hb1) m pv (h.on hb1)
 unfold msgV at hM
 clear hv h
 go_enter Tryz.func218, Tryz.ntmps218
 go_wp2_with fail
 refine hG.mono ?_
 rintro e w1 ⟨rfl, rfl⟩
 clear hG
 cases hg : givB sq q.seq with
 | false =>
  go_wp2
  go_ret
  exact ⟨ret_b (by simp [hg]), hb1⟩
 | true =>
  go_wp2_with fail
  refine hM.mono ?_
  rintro e w2 ⟨rfl, b2⟩
  go_wp2
  go_ret
  exact ⟨ret_b (by simp [hg]), nxt hb1 b2⟩
theorem itm_at0 {w W : World} {a : Option Addr} {n c : Nat} {zs : Zs Itm} (h : RdZ 7 (ItR (RdP w)) w (.slice a n c) zs) (hb : Bw w W) {i : Nat} (hi : i < zs.length) :
  ∃ b o pv, a = some ⟨b, o, none⟩ ∧ (zs[i]).1 = itmV (zs[i]).2 pv ∧ RdP w pv (zs[i]).2.msg.props ∧ W.cell? ⟨b, o + i * 7, none⟩ = some (.int .i64 (zs[i]).2.seq) ∧ W.cell? ⟨b, o + i * 7 + 1, none⟩ = some (.bool (zs[i]).2.again) ∧ W.cell? ⟨b, o + i * 7 + 2, none⟩ = some (tx (zs[i]).2.msg.topic) ∧ W.cell? ⟨b, o + i * 7 + 3, none⟩ = some (tx (zs[i]).2.msg.body) ∧ W.cell? ⟨b, o + i * 7 + 4, none⟩ = some (pv) ∧ W.cell? ⟨b, o + i * 7 + 5, none⟩ = some (.bool (zs[i]).2.msg.dur) ∧ W.cell? ⟨b, o + i * 7 + 6, none⟩ = some (.int .i64 (zs[i]).2.msg.til) := by
 obtain ⟨b, o, c', e, hc⟩ := h.some (by omega)
 obtain ⟨rfl, _, _⟩ : a = some ⟨b, o, none⟩ ∧ n = zs.length ∧ c = c' := by
  injection e with e1 e2 e3
  exact ⟨e1, e2, e3⟩
 obtain ⟨hk, pv, hv, hp⟩ := h.2 _ (List.getElem_mem hi)
 have h1 := h.cells hi
 have key : ∀ j (hj : j < 7), W.cell? ⟨b, o + i * 7 + j, none⟩ = (itmV (zs[i]).2 pv)[j]? := fun j hj => by
  have e2 : ((zs[i]).1)[j]? = some (((zs[i]).1)[j]'(by rw [hk.1]; exact hj)) := List.getElem?_eq_getElem _
  have h2 := h1 j _ e2
  rw [hb.cell (World.block_lt_of_cell? w _ h2), h2, ← e2, hv]
 exact ⟨b, o, pv, rfl, hv, hp, key 0 (by omega), key 1 (by omega), key 2 (by omega), key 3 (by omega), key 4 (by omega), key 5 (by omega), key 6 (by omega)⟩
theorem hld_at0 {w W : World} {a : Option Addr} {n c : Nat} {zs : Zs Hld} (h : RdZ 10 (HeR (RdP w)) w (.slice a n c) zs) (hb : Bw w W) {i : Nat} (hi : i < zs.length) :
  ∃ b o pv, a = some ⟨b, o, none⟩ ∧ (zs[i]).1 = hldV (zs[i]).2 pv ∧ RdP w pv (zs[i]).2.itm.msg.props ∧ W.cell? ⟨b, o + i * 10, none⟩ = some (.int .i64 (zs[i]).2.tag) ∧ W.cell? ⟨b, o + i * 10 + 1, none⟩ = some (.int .i64 (zs[i]).2.conn) ∧ W.cell? ⟨b, o + i * 10 + 2, none⟩ = some (.int .i64 (zs[i]).2.sub) ∧ W.cell? ⟨b, o + i * 10 + 3, none⟩ = some (.int .i64 (zs[i]).2.itm.seq) ∧ W.cell? ⟨b, o + i * 10 + 4, none⟩ = some (.bool (zs[i]).2.itm.again) ∧ W.cell? ⟨b, o + i * 10 + 5, none⟩ = some (tx (zs[i]).2.itm.msg.topic) ∧ W.cell? ⟨b, o + i * 10 + 6, none⟩ = some (tx (zs[i]).2.itm.msg.body) ∧ W.cell? ⟨b, o + i * 10 + 7, none⟩ = some (pv) ∧ W.cell? ⟨b, o + i * 10 + 8, none⟩ = some (.bool (zs[i]).2.itm.msg.dur) ∧ W.cell? ⟨b, o + i * 10 + 9, none⟩ = some (.int .i64 (zs[i]).2.itm.msg.til) := by
 obtain ⟨b, o, c', e, hc⟩ := h.some (by omega)
 obtain ⟨rfl, _, _⟩ : a = some ⟨b, o, none⟩ ∧ n = zs.length ∧ c = c' := by
  injection e with e1 e2 e3
  exact ⟨e1, e2, e3⟩
 obtain ⟨hk, pv, hv, hp⟩ := h.2 _ (List.getElem_mem hi)
 have h1 := h.cells hi
 have key : ∀ j (hj : j < 10), W.cell? ⟨b, o + i * 10 + j, none⟩ = (hldV (zs[i]).2 pv)[j]? := fun j hj => by
  have e2 : ((zs[i]).1)[j]? = some (((zs[i]).1)[j]'(by rw [hk.1]; exact hj)) := List.getElem?_eq_getElem _
  have h2 := h1 j _ e2
  rw [hb.cell (World.block_lt_of_cell? w _ h2), h2, ← e2, hv]
 exact ⟨b, o, pv, rfl, hv, hp, key 0 (by omega), key 1 (by omega), key 2 (by omega), key 3 (by omega), key 4 (by omega), key 5 (by omega), key 6 (by omega), key 7 (by omega), key 8 (by omega), key 9 (by omega)⟩
theorem indexI_any (w0 w : World) (a : Option Addr) (n c : Nat) (zs : Zs Itm) (h : RdZ 7 (ItR (RdP w0)) w0 (.slice a n c) zs) (hn : zs.length = n) (hbig : n ≤ 1000000) (g : Nat) (lb : Array Value) (eg : ∀ args w, (callFunc g args).run Tryz.prog w = .ok (.enter g args) w)
  (p : Nat → Bool) (Inv : Nat → World → Prop) (hI : ∀ i W, Inv i W → Bw w0 W) (h0 : Inv 0 w)
  (hcall : ∀ i (hi : i < zs.length) pv W, Inv i W → RdP w0 pv (zs[i]).2.msg.props → Calls Tryz.prog g (#[.agg (itmV (zs[i]).2 pv).toArray] ++ lb) W fun e W' => e = .returned (.bool (p i)) ∧ Inv (i + 1) W') :
  Calls Tryz.prog 225 #[.slice a n c, .func (.func g) #[] lb] w fun e w' => (∃ k, k < n ∧ e = .returned (.int .i64 (k : Nat)) ∧ p k = true ∧ (∀ j, j < k → p j = false) ∧ Inv (k + 1) w') ∨ (e = .returned (.int .i64 (-1)) ∧ (∀ j, j < n → p j = false) ∧ Inv n w') := by
 have HI : Hid (RdZ 7 (ItR (RdP w0)) w0 (.slice a n c) zs) := h
 have NI : Hid (zs.length = n) := hn
 have HC : Hid (∀ i (hi : i < zs.length) pv W, Inv i W → RdP w0 pv (zs[i]).2.msg.props → Calls Tryz.prog g (#[.agg (itmV (zs[i]).2 pv).toArray] ++ lb) W fun e W' => e = .returned (.bool (p i)) ∧ Inv (i + 1) W') := hcall
 have H0 : Hid (Inv 0 w) := h0
 have HB : Hid (∀ i W, Inv i W → Bw w0 W) := hI
 clear h hn hcall h0 hI
 go_enter Tryz.func225, Tryz.ntmps225
 go_wp2_with fail
 go_loopg [5, 8] n (fun gg _ s8 wr => ∃ kk : Nat, kk ≤ n ∧ n - kk ≤ gg ∧ s8 = .int .i64 kk ∧ Hid (Inv kk wr) ∧ Hid (∀ j, j < kk → p j = false))
 case atStart => exact ⟨0, Nat.zero_le _, by omega, rfl, H0.out, fun j hj => absurd hj (Nat.not_lt_zero _)⟩
 case round =>
  obtain ⟨kk, hkk, hg, rfl, HS, A⟩ := hrel
  clear H0
  by_cases hlt : kk < n
  ·have hltz : (kk : Int) < (n : Int) := by omega
   obtain ⟨b, o, pv, rfl, hz1, hp, c0, c1, c2, c3, c4, c5, c6⟩ := itm_at0 HI.out (HB.out _ _ HS.out) (i := kk) (by rw [NI.out]; exact hlt)
   have hcl := HC.out kk (by rw [NI.out]; exact hlt) pv wr HS.out hp
   generalize (zs[kk]'(by rw [NI.out]; exact hlt)).2 = x at *
   obtain ⟨pa, pc, rfl⟩ := hp.shape
   generalize x.msg.props.length = pn at *
   clear hz1 hp
   unfold itmV at hcl
   cases hq : p kk with
   | true =>
    go_wp2_with fail
    refine hcl.mono ?_
    rintro e w' ⟨rfl, hin⟩
    rw [hq]
    clear hcl c0 c1 c2 c3 c4 c5 c6
    go_wp2
    go_ret
    exact .inl ⟨kk, hlt, rfl, hq, A.out, hin⟩
   | false =>
    go_wp2_with fail
    refine hcl.mono ?_
    rintro e w' ⟨rfl, hin⟩
    rw [hq]
    have HN : Hid (Inv (kk + 1) w') := hin
    clear hcl hin c0 c1 c2 c3 c4 c5 c6
    go_wp2
    go_roundg (n - (kk + 1))
    case measure => omega
    case rel =>
     refine ⟨kk + 1, by omega, by omega, by go_num, HN.out, (show Hid _ from fun j hj => ?_)⟩
     by_cases e : j = kk
     ·subst e
      exact hq
     ·exact A.out j (by omega)
  ·have hltz : ¬ (kk : Int) < (n : Int) := by omega
   have : kk = n := by omega
   subst this
   go_wp2
   go_ret
   exact .inr ⟨rfl, A.out, HS.out⟩
theorem indexH_any (w0 w : World) (a : Option Addr) (n c : Nat) (zs : Zs Hld) (h : RdZ 10 (HeR (RdP w0)) w0 (.slice a n c) zs) (hn : zs.length = n) (hbig : n ≤ 1000000) (g : Nat) (lb : Array Value) (eg : ∀ args w, (callFunc g args).run Tryz.prog w = .ok (.enter g args) w)
  (p : Nat → Bool) (Inv : Nat → World → Prop) (hI : ∀ i W, Inv i W → Bw w0 W) (h0 : Inv 0 w)
  (hcall : ∀ i (hi : i < zs.length) pv W, Inv i W → RdP w0 pv (zs[i]).2.itm.msg.props → Calls Tryz.prog g (#[.agg (hldV (zs[i]).2 pv).toArray] ++ lb) W fun e W' => e = .returned (.bool (p i)) ∧ Inv (i + 1) W') :
  Calls Tryz.prog 212 #[.slice a n c, .func (.func g) #[] lb] w fun e w' => (∃ k, k < n ∧ e = .returned (.int .i64 (k : Nat)) ∧ p k = true ∧ (∀ j, j < k → p j = false) ∧ Inv (k + 1) w') ∨ (e = .returned (.int .i64 (-1)) ∧ (∀ j, j < n → p j = false) ∧ Inv n w') := by
 have HI : Hid (RdZ 10 (HeR (RdP w0)) w0 (.slice a n c) zs) := h
 have NI : Hid (zs.length = n) := hn
 have HC : Hid (∀ i (hi : i < zs.length) pv W, Inv i W → RdP w0 pv (zs[i]).2.itm.msg.props → Calls Tryz.prog g (#[.agg (hldV (zs[i]).2 pv).toArray] ++ lb) W fun e W' => e = .returned (.bool (p i)) ∧ Inv (i + 1) W') := hcall
 have H0 : Hid (Inv 0 w) := h0
 have HB : Hid (∀ i W, Inv i W → Bw w0 W) := hI
 clear h hn hcall h0 hI
 go_enter Tryz.func212, Tryz.ntmps212
 go_wp2_with fail
 go_loopg [5, 8] n (fun gg _ s8 wr => ∃ kk : Nat, kk ≤ n ∧ n - kk ≤ gg ∧ s8 = .int .i64 kk ∧ Hid (Inv kk wr) ∧ Hid (∀ j, j < kk → p j = false))
 case atStart => exact ⟨0, Nat.zero_le _, by omega, rfl, H0.out, fun j hj => absurd hj (Nat.not_lt_zero _)⟩
 case round =>
  obtain ⟨kk, hkk, hg, rfl, HS, A⟩ := hrel
  clear H0
  by_cases hlt : kk < n
  ·have hltz : (kk : Int) < (n : Int) := by omega
   obtain ⟨b, o, pv, rfl, hz1, hp, c0, c1, c2, c3, c4, c5, c6, c7, c8, c9⟩ := hld_at0 HI.out (HB.out _ _ HS.out) (i := kk) (by rw [NI.out]; exact hlt)
   have hcl := HC.out kk (by rw [NI.out]; exact hlt) pv wr HS.out hp
   generalize (zs[kk]'(by rw [NI.out]; exact hlt)).2 = x at *
   obtain ⟨pa, pc, rfl⟩ := hp.shape
   generalize x.itm.msg.props.length = pn at *
   clear hz1 hp
   unfold hldV at hcl
   cases hq : p kk with
   | true =>
    go_wp2_with fail
    refine hcl.mono ?_
    rintro e w' ⟨rfl, hin⟩
    rw [hq]
    clear hcl c0 c1 c2 c3 c4 c5 c6 c7 c8 c9
    go_wp2
    go_ret
    exact .inl ⟨kk, hlt, rfl, hq, A.out, hin⟩
   | false =>
    go_wp2_with fail
    refine hcl.mono ?_
    rintro e w' ⟨rfl, hin⟩
    rw [hq]
    have HN : Hid (Inv (kk + 1) w') := hin
    clear hcl hin c0 c1 c2 c3 c4 c5 c6 c7 c8 c9
    go_wp2
    go_roundg (n - (kk + 1))
    case measure => omega
    case rel =>
     refine ⟨kk + 1, by omega, by omega, by go_num, HN.out, (show Hid _ from fun j hj => ?_)⟩
     by_cases e : j = kk
     ·subst e
      exact hq
     ·exact A.out j (by omega)
  ·have hltz : ¬ (kk : Int) < (n : Int) := by omega
   have : kk = n := by omega
   subst this
   go_wp2
   go_ret
   exact .inr ⟨rfl, A.out, HS.out⟩
theorem gb_below {w w' : World} (h : Bw w w') (row : Option Nat) : w.grownBy w' row := ⟨h.os, h.tape, h.output, h.size, fun k hk _ => h.block k hk⟩
theorem gb_trans {a b c : World} {row : Option Nat} (h : a.grownBy b row) (k : b.grownBy c row) : a.grownBy c row :=
 ⟨k.os.trans h.os, k.tape.trans h.tape, k.output.trans h.output, Nat.le_trans h.size k.size, fun i hi hne => (k.block i (Nat.lt_of_lt_of_le hi h.size) hne).trans (h.block i hi hne)⟩
theorem gb_setCell (w : World) (g j : Nat) (u : Value) : w.grownBy (w.setCell ⟨g, j, none⟩ u) (some g) :=
 ⟨rfl, rfl, rfl, by simp [World.setCell], fun k _ hne => Below.heap_setCell w ⟨g, j, none⟩ u k (fun e => hne (by rw [e]))⟩
theorem vars_gb {w w' : World} {g : Nat} (hv : To.Vars w) (h : w.grownBy w' (some g)) (hg : g ≠ 1) : To.Vars w' := by
 obtain ⟨m, hm⟩ := hv.max
 exact ⟨⟨m, by rw [World.cell?_of_block (h.block 1 (World.block_lt_of_cell? w _ hm) (fun e => hg (by injection e with e; exact e.symm)))]; exact hm⟩⟩
theorem containsI_any (w0 w : World) (a : Option Addr) (n c : Nat) (zs : Zs Itm) (h : RdZ 7 (ItR (RdP w0)) w0 (.slice a n c) zs) (hn : zs.length = n) (hbig : n ≤ 1000000) (g : Nat) (lb : Array Value) (eg : ∀ args w, (callFunc g args).run Tryz.prog w = .ok (.enter g args) w)
  (p : Nat → Bool) (Inv : Nat → World → Prop) (hI : ∀ i W, Inv i W → Bw w0 W) (h0 : Inv 0 w)
  (hcall : ∀ i (hi : i < zs.length) pv W, Inv i W → RdP w0 pv (zs[i]).2.msg.props → Calls Tryz.prog g (#[.agg (itmV (zs[i]).2 pv).toArray] ++ lb) W fun e W' => e = .returned (.bool (p i)) ∧ Inv (i + 1) W') (r : Bool) (hr : r = true ↔ ∃ k, k < n ∧ p k = true) :
  Calls Tryz.prog 216 #[.slice a n c, .func (.func g) #[] lb] w fun e w' => e = .returned (.bool r) ∧ Bw w0 w' := by
 have hx := indexI_any w0 w a n c zs h hn hbig g lb eg p Inv hI h0 hcall
 clear h hcall eg
 go_enter Tryz.func216, Tryz.ntmps216
 go_wp2_with fail
 refine hx.mono ?_
 rintro e w1 (⟨k, hk, rfl, hp, _, hi⟩ | ⟨rfl, hp, hi⟩)
 ·have hz : (0 : Int) ≤ (k : Int) := by omega
  go_wp2
  go_ret
  exact ⟨ret_b (hr.2 ⟨k, hk, hp⟩).symm, hI _ _ hi⟩
 ·go_wp2
  go_ret
  refine ⟨ret_b ?_, hI _ _ hi⟩
  cases r with
  | false => rfl
  | true =>
   obtain ⟨k, hk, h1⟩ := hr.1 rfl
   rw [hp k hk] at h1
   cases h1
theorem containsH_any (w0 w : World) (a : Option Addr) (n c : Nat) (zs : Zs Hld) (h : RdZ 10 (HeR (RdP w0)) w0 (.slice a n c) zs) (hn : zs.length = n) (hbig : n ≤ 1000000) (g : Nat) (lb : Array Value) (eg : ∀ args w, (callFunc g args).run Tryz.prog w = .ok (.enter g args) w)
  (p : Nat → Bool) (Inv : Nat → World → Prop) (hI : ∀ i W, Inv i W → Bw w0 W) (h0 : Inv 0 w)
  (hcall : ∀ i (hi : i < zs.length) pv W, Inv i W → RdP w0 pv (zs[i]).2.itm.msg.props → Calls Tryz.prog g (#[.agg (hldV (zs[i]).2 pv).toArray] ++ lb) W fun e W' => e = .returned (.bool (p i)) ∧ Inv (i + 1) W') (r : Bool) (hr : r = true ↔ ∃ k, k < n ∧ p k = true) :
  Calls Tryz.prog 219 #[.slice a n c, .func (.func g) #[] lb] w fun e w' => e = .returned (.bool r) ∧ Bw w0 w' := by
 have hx := indexH_any w0 w a n c zs h hn hbig g lb eg p Inv hI h0 hcall
 clear h hcall eg
 go_enter Tryz.func219, Tryz.ntmps219
 go_wp2_with fail
 refine hx.mono ?_
 rintro e w1 (⟨k, hk, rfl, hp, _, hi⟩ | ⟨rfl, hp, hi⟩)
 ·have hz : (0 : Int) ≤ (k : Int) := by omega
  go_wp2
  go_ret
  exact ⟨ret_b (hr.2 ⟨k, hk, hp⟩).symm, hI _ _ hi⟩
 ·go_wp2
  go_ret
  refine ⟨ret_b ?_, hI _ _ hi⟩
  cases r with
  | false => rfl
  | true =>
   obtain ⟨k, hk, h1⟩ := hr.1 rfl
   rw [hp k hk] at h1
   cases h1
theorem e62 : ∀ args w, (callFunc 217 args).run Tryz.prog w = .ok (.enter 217 args) w := fun args w => by go_simp
set_option maxHeartbeats 1000000 in
theorem clos62 (W : World) (hv : To.Vars W) (q : Que) (iv hv' : Value) (g1 g2 : Nat) (a : Int) (x : Itm) (pv : Value) (k1 : Blk W g1 #[.int .i64 a] 3) (k2 : Blk W g2 (queV q iv hv').cells 82) (hg : g1 ≠ 1) (hP : ∀ W2, W.grownBy W2 (some g1) → RdP W2 pv x.msg.props) :
  Calls Tryz.prog 217 #[.agg (itmV x pv).toArray, .pointer (some ⟨g1, 0, none⟩), .pointer (some ⟨g2, 0, none⟩)] W fun e W' => e = .returned (.bool (!(decide (a < x.seq) && itmB q.seq x))) ∧ Blk W' g1 #[.int .i64 x.seq] 3 ∧ W.grownBy W' (some g1) := by
 unfold itmV queV at *
 have hne : g1 ≠ g2 := fun e => by
  subst e
  have h1 := k1.h
  rw [k2.h] at h1
  injection h1 with h1
  injection h1 with _ h1 _
  exact absurd h1 (by decide)
 have b1 : Bw W (W.alloc (.cells (itA x pv) 131)) := (Below.refl _ W).alloc (Nat.le_refl _) _
 have kx := Blk.new W (itA x pv) 131
 have k1' := k1.on b1
 have k2' := k2.on b1
 have hgx : g1 ≠ W.heap.size := fun e => by have := k1.lt; omega
 go_enter Tryz.func217, Tryz.ntmps217
 go_upto_region 1 with fail
 generalize W.alloc (.cells (itA x pv) 131) = W1 at *
 obtain ⟨m, hm⟩ : ∃ m, W.heap.size = m := ⟨_, rfl⟩
 have HM : Hid (W.heap.size = m) := hm
 rw [hm] at kx hgx ⊢
 clear hm
 have c0 := kx.cell 0
 have d0 := k1'.cell 0
 simp only [List.getElem?_toArray, List.getElem?_cons_zero] at c0 d0
 go_wp2_with (refine wpl_set rfl (.tmp 1) (.tmp 11) rfl g1 0 _ rfl rfl k1' (by kernel_rfl) rfl rfl (by simp) ?_)
 intro W2 k12 g12 s12
 have k1x : Blk W2 g1 #[.int .i64 x.seq] 3 := k12
 have k2x : Blk W2 g2 (quA q iv hv') 82 := k2'.grown g12 (fun e => hne (by injection e with e; exact e.symm))
 have kxx := kx.grown g12 (fun e => hgx (by injection e with e; exact e.symm))
 have b02 : W.grownBy W2 (some g1) := gb_trans (gb_below b1 _) g12
 have hgi := goodItem_any W2 (vars_gb hv b02 hg) q iv hv' x pv (hP W2 b02)
 unfold itmV queV at hgi
 clear hP kx k1 k2 k1' k2' b1 g12 s12 c0 d0 k12
 by_cases hlt : a < x.seq
 ·obtain ⟨e0, e1, e2, e3, e4, e5, e6⟩ := k2x.c7
  obtain ⟨f0, f1, f2, f3, f4, f5, f6⟩ := kxx.c7
  go_wp2_with fail
  refine hgi.mono ?_
  rintro e W3 ⟨rfl, b3⟩
  have k13 := k1x.on b3
  have b03 := gb_trans b02 (gb_below b3 _)
  clear e0 e1 e2 e3 e4 e5 e6 f0 f1 f2 f3 f4 f5 f6 k2x kxx k1x b02 hgi
  go_wp2
  go_ret
  exact ⟨ret_b (by simp [hlt]), k13, b03⟩
 ·go_wp2
  go_ret
  exact ⟨ret_b (by simp [hlt]), k1x, b02⟩
theorem getD_at {α : Type} {l : List α} {i : Nat} {d : α} (h : i < l.length) : l.getD i d = l[i] := by simp [List.getD, h]
def aheadI (l : List Itm) (i : Nat) : Int := if i = 0 then 0 else (l.getD (i - 1) zeroI).seq
theorem itmsB_iff (s : Int) : ∀ (l : List Itm) (a : Int), itmsB s a l = true ↔ ∀ i (h : i < l.length), (if i = 0 then a else (l.getD (i - 1) zeroI).seq) < l[i].seq ∧ itmB s l[i] = true
 | [], a => by simp [itmsB]
 | x :: l, a => by
  have ih := itmsB_iff s l x.seq
  simp only [itmsB, Bool.and_eq_true, decide_eq_true_eq]
  rw [ih]
  constructor
  ·rintro ⟨⟨h1, h2⟩, h3⟩ i hi
   cases i with
   | zero => exact ⟨h1, h2⟩
   | succ i =>
    have := h3 i (by simpa using hi)
    cases i with
    | zero => simpa using this
    | succ i => simpa using this
  ·intro h
   refine ⟨h 0 (by simp), fun i hi => ?_⟩
   have := h (i + 1) (by simpa using hi)
   cases i with
   | zero => simpa using this
   | succ i => simpa using this
theorem itmsB_not (q : Que) (n : Nat) (hn : n = q.items.length) : (!itmsB q.seq 0 q.items) = true ↔ ∃ k, k < n ∧ (!(decide (aheadI q.items k < (q.items.getD k zeroI).seq) && itmB q.seq (q.items.getD k zeroI))) = true := by
 subst hn
 have key := itmsB_iff q.seq q.items 0
 rw [Bool.not_eq_true', ← Bool.not_eq_true, key]
 constructor
 ·intro hne
  simp only [Classical.not_forall] at hne
  obtain ⟨i, hi1, hi2⟩ := hne
  refine ⟨i, hi1, ?_⟩
  rw [getD_at hi1]
  cases e : (decide (aheadI q.items i < q.items[i].seq) && itmB q.seq q.items[i]) with
  | false => rfl
  | true =>
   simp only [Bool.and_eq_true, decide_eq_true_eq] at e
   exact absurd e hi2
 ·rintro ⟨k, hk, hp⟩ hall
  have h1 := hall k hk
  rw [getD_at hk] at hp
  have e : (decide (aheadI q.items k < q.items[k].seq) && itmB q.seq q.items[k]) = true := by
   simp only [Bool.and_eq_true, decide_eq_true_eq]
   exact h1
  rw [e] at hp
  cases hp
set_option maxHeartbeats 1000000 in
theorem goodItems_any (w : World) (hv : To.Vars w) (v : Value) (q : Que) (h : RdQ w v q) (hs : q.items.length ≤ 1000000) :
  Calls Tryz.prog 147 #[v] w fun e w' => e = .returned (.bool (itmsB q.seq 0 q.items)) ∧ Bw w w' := by
 obtain ⟨iv, hv', rfl, hi, hh⟩ := h
 obtain ⟨zi, ei, hi⟩ := hi
 obtain ⟨ai, ci, rfl⟩ := hi.len
 have hnz : zi.length = q.items.length := by rw [← ei, List.length_map]
 clear hh
 have hlt1 : 1 < w.heap.size := by
  obtain ⟨m, hm⟩ := hv.max
  exact World.block_lt_of_cell? w _ hm
 have hC : ∀ W2, Blk W2 (w.heap.size + 1) #[.int .i64 0] 3 → Blk W2 w.heap.size (queV q (.slice ai zi.length ci) hv').cells 82 → Bw w W2 → Calls Tryz.prog 216 #[.slice ai zi.length ci, .func (.func 217) #[] #[.pointer (some ⟨w.heap.size + 1, 0, none⟩), .pointer (some ⟨w.heap.size, 0, none⟩)]] W2 fun e w' => e = .returned (.bool (!itmsB q.seq 0 q.items)) ∧ Bw w w' := fun W2 kA kQ bA => containsI_any w W2 ai zi.length ci zi hi rfl (by omega) 217 #[.pointer (some ⟨w.heap.size + 1, 0, none⟩), .pointer (some ⟨w.heap.size, 0, none⟩)] e62
  (fun i => !(decide (aheadI q.items i < (q.items.getD i zeroI).seq) && itmB q.seq (q.items.getD i zeroI)))
  (fun i W => Blk W (w.heap.size + 1) #[.int .i64 (aheadI q.items i)] 3 ∧ Blk W w.heap.size (queV q (.slice ai zi.length ci) hv').cells 82 ∧ Bw w W)
  (fun i W h => h.2.2) ⟨kA, kQ, bA⟩
  (fun i hi' pv W ⟨h1, h2, h3⟩ hp => by
   have hx : q.items.getD i zeroI = (zi[i]).2 := by
    rw [← ei, getD_at (by rw [List.length_map]; exact hi'), List.getElem_map]
   refine (clos62 W (hv.below h3) q _ _ (w.heap.size + 1) w.heap.size _ (zi[i]).2 pv h1 h2 (by omega) (fun W2 hg => ?_)).mono ?_
   ·exact hp.on (h3.grown hg h3.size (fun k hk => by injection hk with hk; omega))
   ·rintro e W' ⟨rfl, k1, hg⟩
    refine ⟨by simp only [hx], ?_, h2.grown hg (fun e => by injection e with e; omega), h3.grown hg h3.size (fun k hk => by injection hk with hk; omega)⟩
    have e1 : aheadI q.items (i + 1) = (zi[i]).2.seq := by rw [← hx]; simp [aheadI]
    rw [e1]
    exact k1)
  (!itmsB q.seq 0 q.items) (itmsB_not q zi.length hnz)
 obtain ⟨n, hn⟩ : ∃ n, zi.length = n := ⟨_, rfl⟩
 have b2 : Bw w ((w.alloc (.cells (queV q (.slice ai zi.length ci) hv').cells 82)).alloc (.cells #[.int .i64 0] 3)) := ((Below.refl _ w).alloc (Nat.le_refl _) _).alloc (by simp) _
 have kq := (Blk.new w (queV q (.slice ai zi.length ci) hv').cells 82).alloc (.cells #[.int .i64 0] 3)
 have ka := Blk.new (w.alloc (.cells (queV q (.slice ai zi.length ci) hv').cells 82)) #[.int .i64 0] 3
 rw [World.size_alloc] at ka
 rw [hn] at hC b2 kq ka ⊢
 clear hi ei hnz hn
 unfold queV at *
 go_enter Tryz.func147, Tryz.ntmps147
 go_wp2_with fail
 refine (hC _ ?_ ?_ ?_).mono ?_
 ·exact ka
 ·exact kq
 ·exact b2
 rintro e w1 ⟨rfl, b1⟩
 clear hC ka kq b2
 go_wp2
 go_ret
 exact ⟨ret_b (by simp), b1⟩
theorem e65 : ∀ args w, (callFunc 220 args).run Tryz.prog w = .ok (.enter 220 args) w := fun args w => by go_simp
set_option maxHeartbeats 2000000 in
theorem clos65 (W : World) (hv : To.Vars W) (q : Que) (iv hv' : Value) (g1 g2 : Nat) (a : Int) (x : Hld) (pv : Value) (k1 : Blk W g1 #[.int .i64 a] 3) (k2 : Blk W g2 (queV q iv hv').cells 82) (hg : g1 ≠ 1) (hP : ∀ W2, W.grownBy W2 (some g1) → RdP W2 pv x.itm.msg.props) :
  Calls Tryz.prog 220 #[.agg (hldV x pv).toArray, .pointer (some ⟨g1, 0, none⟩), .pointer (some ⟨g2, 0, none⟩)] W fun e W' => e = .returned (.bool (!(decide (a < x.tag) && hldB q.seq q.tag x))) ∧ Blk W' g1 #[.int .i64 x.tag] 3 ∧ W.grownBy W' (some g1) := by
 unfold hldV queV hldB at *
 have hne : g1 ≠ g2 := fun e => by
  subst e
  have h1 := k1.h
  rw [k2.h] at h1
  injection h1 with h1
  injection h1 with _ h1 _
  exact absurd h1 (by decide)
 have b1 : Bw W (W.alloc (.cells (hlA x pv) 133)) := (Below.refl _ W).alloc (Nat.le_refl _) _
 have kx := Blk.new W (hlA x pv) 133
 have k1' := k1.on b1
 have k2' := k2.on b1
 have hgx : g1 ≠ W.heap.size := fun e => by have := k1.lt; omega
 go_enter Tryz.func220, Tryz.ntmps220
 go_upto_region 1 with fail
 generalize W.alloc (.cells (hlA x pv) 133) = W1 at *
 obtain ⟨m, hm⟩ : ∃ m, W.heap.size = m := ⟨_, rfl⟩
 have HM : Hid (W.heap.size = m) := hm
 rw [hm] at kx hgx ⊢
 clear hm
 have c0 := kx.cell 0
 have d0 := k1'.cell 0
 simp only [List.getElem?_toArray, List.getElem?_cons_zero] at c0 d0
 go_wp2_with (refine wpl_set rfl (.tmp 1) (.tmp 11) rfl g1 0 _ rfl rfl k1' (by kernel_rfl) rfl rfl (by simp) ?_)
 intro W2 k12 g12 s12
 have k1x : Blk W2 g1 #[.int .i64 x.tag] 3 := k12
 have k2x : Blk W2 g2 (quA q iv hv') 82 := k2'.grown g12 (fun e => hne (by injection e with e; exact e.symm))
 have kxx := kx.grown g12 (fun e => hgx (by injection e with e; exact e.symm))
 have b02 : W.grownBy W2 (some g1) := gb_trans (gb_below b1 _) g12
 have hgi := goodItem_any W2 (vars_gb hv b02 hg) q iv hv' x.itm pv (hP W2 b02)
 have hn1 := giv_any W2 x.tag q.tag
 have hn2 := con_any W2 x.conn
 have hn3 := num_any W2 x.sub
 unfold itmV queV at hgi
 clear hP kx k1 k2 k1' k2' b1 g12 s12 c0 d0 k12
 obtain ⟨e0, e1, e2, e3, e4, e5, e6⟩ := k2x.c7
 obtain ⟨f0, f1, f2, f3, f4, f5, f6, f7, f8, f9⟩ := kxx.c10
 by_cases hlt : a < x.tag
 ·go_wp2_with fail
  refine hn1.mono ?_
  rintro e W3 ⟨rfl, rfl⟩
  cases h1 : givB x.tag q.tag with
  | false =>
   go_wp2
   go_ret
   exact ⟨ret_b (by simp [hlt, h1]), k1x, b02⟩
  | true =>
   go_wp2_with fail
   refine hn2.mono ?_
   rintro e W4 ⟨rfl, rfl⟩
   cases h2 : conB x.conn with
   | false =>
    go_wp2
    go_ret
    exact ⟨ret_b (by simp [hlt, h1, h2]), k1x, b02⟩
   | true =>
    go_wp2_with fail
    refine hn3.mono ?_
    rintro e W5 ⟨rfl, rfl⟩
    cases h3 : numB x.sub with
    | false =>
     go_wp2
     go_ret
     exact ⟨ret_b (by simp [hlt, h1, h2, h3]), k1x, b02⟩
    | true =>
     go_wp2_with fail
     refine hgi.mono ?_
     rintro e W6 ⟨rfl, b3⟩
     have k13 := k1x.on b3
     have b03 := gb_trans b02 (gb_below b3 _)
     clear e0 e1 e2 e3 e4 e5 e6 f0 f1 f2 f3 f4 f5 f6 f7 f8 f9 k2x kxx k1x b02 hgi hn1 hn2 hn3
     go_wp2
     go_ret
     exact ⟨ret_b (by simp [hlt, h1, h2, h3]), k13, b03⟩
 ·go_wp2
  go_ret
  exact ⟨ret_b (by simp [hlt]), k1x, b02⟩
def aheadH (l : List Hld) (i : Nat) : Int := if i = 0 then 0 else (l.getD (i - 1) zeroH).tag
theorem hldsB_iff (s t : Int) : ∀ (l : List Hld) (a : Int), hldsB s t a l = true ↔ ∀ i (h : i < l.length), (if i = 0 then a else (l.getD (i - 1) zeroH).tag) < l[i].tag ∧ hldB s t l[i] = true
 | [], a => by simp [hldsB]
 | x :: l, a => by
  have ih := hldsB_iff s t l x.tag
  simp only [hldsB, Bool.and_eq_true, decide_eq_true_eq]
  rw [ih]
  constructor
  ·rintro ⟨⟨h1, h2⟩, h3⟩ i hi
   cases i with
   | zero => exact ⟨h1, h2⟩
   | succ i =>
    have := h3 i (by simpa using hi)
    cases i with
    | zero => simpa using this
    | succ i => simpa using this
  ·intro h
   refine ⟨h 0 (by simp), fun i hi => ?_⟩
   have := h (i + 1) (by simpa using hi)
   cases i with
   | zero => simpa using this
   | succ i => simpa using this
theorem hldsB_not (q : Que) (n : Nat) (hn : n = q.held.length) : (!hldsB q.seq q.tag 0 q.held) = true ↔ ∃ k, k < n ∧ (!(decide (aheadH q.held k < (q.held.getD k zeroH).tag) && hldB q.seq q.tag (q.held.getD k zeroH))) = true := by
 subst hn
 have key := hldsB_iff q.seq q.tag q.held 0
 rw [Bool.not_eq_true', ← Bool.not_eq_true, key]
 constructor
 ·intro hne
  simp only [Classical.not_forall] at hne
  obtain ⟨i, hi1, hi2⟩ := hne
  refine ⟨i, hi1, ?_⟩
  rw [getD_at hi1]
  cases e : (decide (aheadH q.held i < q.held[i].tag) && hldB q.seq q.tag q.held[i]) with
  | false => rfl
  | true =>
   simp only [Bool.and_eq_true, decide_eq_true_eq] at e
   exact absurd e hi2
 ·rintro ⟨k, hk, hp⟩ hall
  have h1 := hall k hk
  rw [getD_at hk] at hp
  have e : (decide (aheadH q.held k < q.held[k].tag) && hldB q.seq q.tag q.held[k]) = true := by
   simp only [Bool.and_eq_true, decide_eq_true_eq]
   exact h1
  rw [e] at hp
  cases hp
set_option maxHeartbeats 1000000 in
theorem goodHeld_any (w : World) (hv : To.Vars w) (v : Value) (q : Que) (h : RdQ w v q) (hs : q.held.length ≤ 1000000) :
  Calls Tryz.prog 148 #[v] w fun e w' => e = .returned (.bool (hldsB q.seq q.tag 0 q.held)) ∧ Bw w w' := by
 obtain ⟨hv', iv, rfl, hh, hi⟩ := h
 obtain ⟨zi, ei, hi⟩ := hi
 obtain ⟨ai, ci, rfl⟩ := hi.len
 have hnz : zi.length = q.held.length := by rw [← ei, List.length_map]
 clear hh
 have hlt1 : 1 < w.heap.size := by
  obtain ⟨m, hm⟩ := hv.max
  exact World.block_lt_of_cell? w _ hm
 have hC : ∀ W2, Blk W2 (w.heap.size + 1) #[.int .i64 0] 3 → Blk W2 w.heap.size (queV q hv' (.slice ai zi.length ci)).cells 82 → Bw w W2 → Calls Tryz.prog 219 #[.slice ai zi.length ci, .func (.func 220) #[] #[.pointer (some ⟨w.heap.size + 1, 0, none⟩), .pointer (some ⟨w.heap.size, 0, none⟩)]] W2 fun e w' => e = .returned (.bool (!hldsB q.seq q.tag 0 q.held)) ∧ Bw w w' := fun W2 kA kQ bA => containsH_any w W2 ai zi.length ci zi hi rfl (by omega) 220 #[.pointer (some ⟨w.heap.size + 1, 0, none⟩), .pointer (some ⟨w.heap.size, 0, none⟩)] e65
  (fun i => !(decide (aheadH q.held i < (q.held.getD i zeroH).tag) && hldB q.seq q.tag (q.held.getD i zeroH)))
  (fun i W => Blk W (w.heap.size + 1) #[.int .i64 (aheadH q.held i)] 3 ∧ Blk W w.heap.size (queV q hv' (.slice ai zi.length ci)).cells 82 ∧ Bw w W)
  (fun i W h => h.2.2) ⟨kA, kQ, bA⟩
  (fun i hi' pv W ⟨h1, h2, h3⟩ hp => by
   have hx : q.held.getD i zeroH = (zi[i]).2 := by
    rw [← ei, getD_at (by rw [List.length_map]; exact hi'), List.getElem_map]
   refine (clos65 W (hv.below h3) q _ _ (w.heap.size + 1) w.heap.size _ (zi[i]).2 pv h1 h2 (by omega) (fun W2 hg => ?_)).mono ?_
   ·exact hp.on (h3.grown hg h3.size (fun k hk => by injection hk with hk; omega))
   ·rintro e W' ⟨rfl, k1, hg⟩
    refine ⟨by simp only [hx], ?_, h2.grown hg (fun e => by injection e with e; omega), h3.grown hg h3.size (fun k hk => by injection hk with hk; omega)⟩
    have e1 : aheadH q.held (i + 1) = (zi[i]).2.tag := by rw [← hx]; simp [aheadH]
    rw [e1]
    exact k1)
  (!hldsB q.seq q.tag 0 q.held) (hldsB_not q zi.length hnz)
 obtain ⟨n, hn⟩ : ∃ n, zi.length = n := ⟨_, rfl⟩
 have b2 : Bw w ((w.alloc (.cells (queV q hv' (.slice ai zi.length ci)).cells 82)).alloc (.cells #[.int .i64 0] 3)) := ((Below.refl _ w).alloc (Nat.le_refl _) _).alloc (by simp) _
 have kq := (Blk.new w (queV q hv' (.slice ai zi.length ci)).cells 82).alloc (.cells #[.int .i64 0] 3)
 have ka := Blk.new (w.alloc (.cells (queV q hv' (.slice ai zi.length ci)).cells 82)) #[.int .i64 0] 3
 rw [World.size_alloc] at ka
 rw [hn] at hC b2 kq ka ⊢
 clear hi ei hnz hn
 unfold queV at *
 go_enter Tryz.func148, Tryz.ntmps148
 go_wp2_with fail
 refine (hC _ ?_ ?_ ?_).mono ?_
 ·exact ka
 ·exact kq
 ·exact b2
 rintro e w1 ⟨rfl, b1⟩
 clear hC ka kq b2
 go_wp2
 go_ret
 exact ⟨ret_b (by simp), b1⟩
end Go.Proofs.YtnpikgakpmkipabGreatDoor
