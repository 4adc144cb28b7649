/- What copyItem answers of any item: the same one, its properties in new memory. Conditions: those that each row states. What Copy answers of any queue: the same one in new memory. Conditions: those that each row states. A region that draws its order and ends with a store: what holds behind every operation but that one is enough to take a load first. Conditions: those that each row states. append of an item, of a held one, in a region that draws its order. Conditions: those that each row states. -/
import Derived.Test.YtlbcefocmdnlgaaGreatDoorZe
import Derived.Deep.LoopGhost
import Derived.OrdersHeld
import Derived.WalkKit
namespace Go.Proofs.YtlbcefocmdnlgaaGreatDoor
open Go.RowKit Go.Lib
set_option maxRecDepth 100000

theorem OwnP.shape {w : World} {B : Nat} {v : Value} {l : List Pr} (h : OwnP w B v l) : ∃ a c, v = .slice a l.length c := by
  obtain ⟨_, ⟨rfl, h0⟩ | ⟨g, cap, cur, rfl, _⟩⟩ := h
  · exact ⟨_, _, by rw [h0]⟩
  · exact ⟨_, _, rfl⟩
theorem copyItem_any (w : World) (x : Itm) (pv : Value) (h : RdP w pv x.msg.props) (hn : x.msg.props.length ≤ 2513169434916) :
    Calls Tryz.prog 40 #[.agg (itmV x pv).toArray] w fun e w' => ∃ pv', e = .returned (.agg (itmV x pv').toArray) ∧ OwnP w' w.heap.size pv' x.msg.props ∧ Below w.heap.size w w' := by
  unfold itmV
  generalize x.msg.props = l at *
  generalize x.msg.topic = tp at *
  generalize x.msg.body = bd at *
  generalize x.msg.dur = du at *
  generalize x.msg.til = ti at *
  generalize x.seq = sq at *
  generalize x.again = ag at *
  go_enter Tryz.func40, Tryz.ntmps40
  have hb1 : Below w.heap.size w ((w.alloc (.cells #[.int .i64 sq, .bool ag, tx tp, tx bd, pv, .bool du, .int .i64 ti] 43)).alloc (.cells #[.int .i64 0, .bool false, .string ⟨#[]⟩, .string ⟨#[]⟩, .slice none 0 0, .bool false, .int .i64 0] 43)) := ((Below.refl _ w).alloc (Nat.le_refl _) _).alloc (by simp) _
  have hA := (Blk.new w #[.int .i64 sq, .bool ag, tx tp, tx bd, pv, .bool du, .int .i64 ti] 43).alloc (.cells #[.int .i64 0, .bool false, .string ⟨#[]⟩, .string ⟨#[]⟩, .slice none 0 0, .bool false, .int .i64 0] 43)
  have hC := Blk.new (w.alloc (.cells #[.int .i64 sq, .bool ag, tx tp, tx bd, pv, .bool du, .int .i64 ti] 43)) #[.int .i64 0, .bool false, .string ⟨#[]⟩, .string ⟨#[]⟩, .slice none 0 0, .bool false, .int .i64 0] 43
  rw [World.size_alloc] at hC
  go_wp2_with (at_builtin; refine wpl_appP rfl (.const (.slice none 0 0)) (.tmp 5) rfl w.heap.size _ _ [] l _ rfl (World.ownsRow_nil ..) rfl (h.on hb1) (by simp; omega) hb1.size ?_)
  intro v' w2 ho hg
  have hA2 := hA.grown hg (by simp [Value.ownBlock])
  have hC2 := hC.grown hg (by simp [Value.ownBlock])
  have hb2 := hb1.grown hg hb1.size (fun k hk => by simp [Value.ownBlock] at hk)
  clear hA hC hg h hb1
  obtain ⟨a', c', rfl⟩ := ho.shape
  obtain ⟨n, hn'⟩ : ∃ n, l.length = n := ⟨_, rfl⟩
  rw [hn'] at ho hn ⊢
  clear hn'
  obtain ⟨c0, c1, c2, c3, c4, c5, c6⟩ := hA2.c7
  have f4 := hA2.frozen 4
  have hC3 := hC2.setO (j := 4) (g' := w.heap.size) (by omega) (.slice a' n c')
  have hb3 := hb2.setCell (p := ⟨w.heap.size, 4, none⟩) (Nat.le_refl _) (.slice a' n c')
  have ho3 := ho.keep (kt_setCell (j := 4) hA2 (by decide) (.slice a' n c'))
  clear ho hC2 hA2 hb2
  go_wp2_with (refine wpl_store rfl (.tmp 2) (.tmp 9) rfl (w.heap.size + 1) _ rfl rfl hC3 (by kernel_rfl) rfl (by simp [Value.oneCell']) ?_)
  refine ret43 rfl (hC3.row _) rfl rfl ⟨.slice a' n c', rfl, ho3.keep (kt_setRow hC3 (by decide) _), below_setRow hb3 (by omega) _⟩
end Go.Proofs.YtlbcefocmdnlgaaGreatDoor

namespace Go.Proofs.YtlbcefocmdnlgaaGreatDoor
open Go.RowKit Go.Lib
set_option maxRecDepth 100000

/-- A queue that is not too long to be copied. -/
structure Small (q : Que) : Prop where
  items : q.items.length ≤ 1000
  held : q.held.length ≤ 1000
  ip : ∀ x ∈ q.items, x.msg.props.length ≤ 2513169434916
  hp : ∀ h ∈ q.held, h.itm.msg.props.length ≤ 2513169434916

/-- Halfway: so many items are copied; the queue's own block, and the answer's, stand. -/
structure CpI (w W : World) (q : Que) (iv hv v3 : Value) (k : Nat) : Prop where
  own : ∃ zs : Zs Itm, zs.map (·.2) = q.items.take k ∧ OwnZ 43 7 (ItR (OwnP W w.heap.size)) W w.heap.size v3 zs
  below : Below w.heap.size w W
  blk : Blk W w.heap.size (queV q iv hv).cells 25
  res : Blk W (w.heap.size + 1) #[.string ⟨#[]⟩, .bool false, .int .i64 0, .int .i64 0, .int .i64 0, .slice none 0 0, .slice none 0 0] 25

theorem CpI.on {w W W' : World} {q : Que} {iv hv v3 : Value} {k : Nat} (h : CpI w W q iv hv v3 k) (hb : Below W.heap.size W W') : CpI w W' q iv hv v3 k := by
  obtain ⟨⟨zs, h1, h2⟩, h3, h4, h5⟩ := h
  exact ⟨⟨zs, h1, (h2.keep (.of_below hb)).imp fun _ _ h => h.keep (.of_below hb)⟩, nxt h3 hb, h4.on hb, h5.on hb⟩

structure CpH (w W : World) (q : Que) (iv hv v3 v6 : Value) (k : Nat) : Prop where
  items : OwnI W w.heap.size v3 q.items
  own : ∃ zs : Zs Hld, zs.map (·.2) = q.held.take k ∧ OwnZ 61 10 (HeR (OwnP W w.heap.size)) W w.heap.size v6 zs
  below : Below w.heap.size w W
  blk : Blk W w.heap.size (queV q iv hv).cells 25
  res : Blk W (w.heap.size + 1) #[.string ⟨#[]⟩, .bool false, .int .i64 0, .int .i64 0, .int .i64 0, .slice none 0 0, .slice none 0 0] 25
theorem CpH.on {w W W' : World} {q : Que} {iv hv v3 v6 : Value} {k : Nat} (h : CpH w W q iv hv v3 v6 k) (hb : Below W.heap.size W W') : CpH w W' q iv hv v3 v6 k := by
  obtain ⟨h0, ⟨zs, h1, h2⟩, h3, h4, h5⟩ := h
  exact ⟨h0.keep (.of_below hb) (.of_below hb), ⟨zs, h1, (h2.keep (.of_below hb)).imp fun _ _ h => h.keep (.of_below hb)⟩, nxt h3 hb, h4.on hb, h5.on hb⟩
theorem CpI.turn {w W : World} {q : Que} {iv hv v3 : Value} {k : Nat} (h : CpI w W q iv hv v3 k) (hk : q.items.length ≤ k) : CpH w W q iv hv v3 (.slice none 0 0) 0 := by
  obtain ⟨⟨zs, h1, h2⟩, h3, h4, h5⟩ := h
  exact ⟨⟨zs, by rw [h1, List.take_of_length_le hk], h2⟩, ⟨[], by simp, World.ownsRow_nil .., by simp⟩, h3, h4, h5⟩
theorem itmV_one (x : Itm) {pv : Value} (h : pv.oneCell' = true) : (itmV x pv).length = 7 ∧ ∀ u ∈ itmV x pv, u.oneCell' = true := by
  refine ⟨rfl, fun u hu => ?_⟩
  simp only [itmV, List.mem_cons, List.not_mem_nil, or_false] at hu
  rcases hu with rfl | rfl | rfl | rfl | rfl | rfl | rfl <;> first | rfl | exact h
theorem hldV_one (x : Hld) {pv : Value} (h : pv.oneCell' = true) : (hldV x pv).length = 10 ∧ ∀ u ∈ hldV x pv, u.oneCell' = true := by
  refine ⟨rfl, fun u hu => ?_⟩
  simp only [hldV, List.mem_cons, List.not_mem_nil, or_false] at hu
  rcases hu with rfl | rfl | rfl | rfl | rfl | rfl | rfl | rfl | rfl | rfl <;> first | rfl | exact h
theorem CpI.app {w W : World} {q : Que} {iv hv v3 : Value} {k : Nat} (h : CpI w W q iv hv v3 k) {ops : Array Oper} {rest : List Oper} {o : Oper} {a : Act} {Q : Exit → Act → World → Prop} (hgd : o.guard = none) (s x : Operand)
    (ho : o.op = .call { callee := .builtin .append, args := #[s, x], argTypes := #[22, 22] }) (hs : a.eval s = v3) (hx : a.eval x = .slice (some ⟨W.heap.size, 0, none⟩) 1 1) (it : Itm) (hit : q.items.take (k + 1) = q.items.take k ++ [it]) (pv : Value) (hp : OwnP W w.heap.size pv it.msg.props) (hk : k ≤ 1000)
    (cont : ∀ v' w', CpI w w' q iv hv v' (k + 1) → wpList Tryz.prog ops Q rest (a.put o.dst v') w') : wpList Tryz.prog ops Q (o :: rest) a (W.alloc (.cells (itmV it pv).toArray 43)) := by
  have hb := (Below.refl W.heap.size W).alloc (Nat.le_refl _) (.cells (itmV it pv).toArray 43)
  have hn := Blk.new W (itmV it pv).toArray 43
  obtain ⟨⟨zs, h1, h2⟩, h3, h4, h5⟩ := h.on hb
  have hlen : zs.length ≤ 1000 := by
    have := congrArg List.length h1
    rw [List.length_map, List.length_take] at this
    omega
  have hp2 := hp.up hb
  have hone : pv.oneCell' = true := hp.rd.one
  refine wpl_appI hgd s x ho w.heap.size v3 zs _ _ hs h2 W.heap.size 1 (itmV it pv, it) hx ⟨itmV_one it hone, pv, rfl, hp2⟩ (fun j u hu => ?_) (by omega) h3.size ?_
  · rw [hn.cell j]
    simpa using hu
  · intro v' w' h6 h7
    have k54 : Kt 54 _ w' := Kt.of_grown h2.1 h7 (by decide)
    have k25 : Kt 25 _ w' := Kt.of_grown h2.1 h7 (by decide)
    exact cont v' w' ⟨⟨zs ++ [(itmV it pv, it)], by rw [List.map_append, h1, hit]; rfl, h6.imp fun _ _ h => h.keep k54⟩, h3.grown h7 h3.size (fun k hk => (World.ownsRow.lt h2.1 k hk).1), h4.kt k25, h5.kt k25⟩

theorem CpH.app {w W : World} {q : Que} {iv hv v3 v6 : Value} {k : Nat} (h : CpH w W q iv hv v3 v6 k) {ops : Array Oper} {rest : List Oper} {o : Oper} {a : Act} {Q : Exit → Act → World → Prop} (hgd : o.guard = none) (s x : Operand)
    (ho : o.op = .call { callee := .builtin .append, args := #[s, x], argTypes := #[23, 23] }) (hs : a.eval s = v6) (hx : a.eval x = .slice (some ⟨W.heap.size, 0, none⟩) 1 1) (it : Hld) (hit : q.held.take (k + 1) = q.held.take k ++ [it]) (pv : Value) (hp : OwnP W w.heap.size pv it.itm.msg.props) (hk : k ≤ 1000)
    (cont : ∀ v' w', CpH w w' q iv hv v3 v' (k + 1) → wpList Tryz.prog ops Q rest (a.put o.dst v') w') : wpList Tryz.prog ops Q (o :: rest) a (W.alloc (.cells (hldV it pv).toArray 61)) := by
  have hb := (Below.refl W.heap.size W).alloc (Nat.le_refl _) (.cells (hldV it pv).toArray 61)
  have hn := Blk.new W (hldV it pv).toArray 61
  obtain ⟨h0, ⟨zs, h1, h2⟩, h3, h4, h5⟩ := h.on hb
  have hlen : zs.length ≤ 1000 := by
    have := congrArg List.length h1
    rw [List.length_map, List.length_take] at this
    omega
  have hp2 := hp.up hb
  have hone : pv.oneCell' = true := hp.rd.one
  refine wpl_appH hgd s x ho w.heap.size v6 zs _ _ hs h2 W.heap.size 1 (hldV it pv, it) hx ⟨hldV_one it hone, pv, rfl, hp2⟩ (fun j u hu => ?_) (by omega) h3.size ?_
  · rw [hn.cell j]
    simpa using hu
  · intro v' w' h6 h7
    have k54 : Kt 54 _ w' := Kt.of_grown h2.1 h7 (by decide)
    have k25 : Kt 25 _ w' := Kt.of_grown h2.1 h7 (by decide)
    have k43 : Kt 43 _ w' := Kt.of_grown h2.1 h7 (by decide)
    exact cont v' w' ⟨h0.keep k43 k54, ⟨zs ++ [(hldV it pv, it)], by rw [List.map_append, h1, hit]; rfl, h6.imp fun _ _ h => h.keep k54⟩, h3.grown h7 h3.size (fun k hk => (World.ownsRow.lt h2.1 k hk).1), h4.kt k25, h5.kt k25⟩

set_option maxHeartbeats 4000000 in
theorem copy_any (w : World) (v : Value) (q : Que) (h : RdQ w v q) (hq : Small q) :
    Calls Tryz.prog 18 #[v] w fun e w' => ∃ v', e = .returned v' ∧ OwnQ w' w.heap.size v' q ∧ Below w.heap.size w w' := by
  obtain ⟨iv, hv, rfl, hi, hh⟩ := h
  obtain ⟨zi, ei, hi⟩ := hi
  obtain ⟨zh, eh, hh⟩ := hh
  obtain ⟨ai, ci, rfl⟩ := hi.len
  obtain ⟨ah, ch, rfl⟩ := hh.len
  obtain ⟨ni, hni⟩ : ∃ n, zi.length = n := ⟨_, rfl⟩
  obtain ⟨nh, hnh⟩ : ∃ n, zh.length = n := ⟨_, rfl⟩
  have hqi : ni ≤ 1000 := by have := hq.items; rw [← ei, List.length_map, hni] at this; exact this
  have hqh : nh ≤ 1000 := by have := hq.held; rw [← eh, List.length_map, hnh] at this; exact this
  rw [hni] at hi ⊢
  rw [hnh] at hh ⊢
  have HI : Hid (RdZ 7 (ItR (RdP w)) w (.slice ai ni ci) zi) := hi
  have HH : Hid (RdZ 10 (HeR (RdP w)) w (.slice ah nh ch) zh) := hh
  have EI : Hid (zi.map (·.2) = q.items) := ei
  have EH : Hid (zh.map (·.2) = q.held) := eh
  have NI : Hid (zi.length = ni) := hni
  have NH : Hid (zh.length = nh) := hnh
  clear hi hh ei eh hni hnh
  have H0 : Hid (CpI w ((w.alloc (.cells (queV q (.slice ai ni ci) (.slice ah nh ch)).cells 25)).alloc (.cells #[.string ⟨#[]⟩, .bool false, .int .i64 0, .int .i64 0, .int .i64 0, .slice none 0 0, .slice none 0 0] 25)) q (.slice ai ni ci) (.slice ah nh ch) (.slice none 0 0) 0) := by
    refine ⟨⟨[], by simp, World.ownsRow_nil .., by simp⟩, ((Below.refl _ w).alloc (Nat.le_refl _) _).alloc (by simp) _, (Blk.new _ _ _).alloc _, ?_⟩
    have := Blk.new (w.alloc (.cells (queV q (.slice ai ni ci) (.slice ah nh ch)).cells 25)) #[.string ⟨#[]⟩, .bool false, .int .i64 0, .int .i64 0, .int .i64 0, .slice none 0 0, .slice none 0 0] 25
    rwa [World.size_alloc] at this
  unfold queV at *
  go_enter Tryz.func18, Tryz.ntmps18
  go_wp2_with fail
  go_loopg [3, 5, 12] ni (fun gg s3 _ s12 wr => ∃ kk : Nat, kk ≤ ni ∧ ni - kk ≤ gg ∧ s12 = .int .i64 kk ∧ Hid (CpI w wr q (.slice ai ni ci) (.slice ah nh ch) s3 kk))
  case atStart => exact ⟨0, Nat.zero_le _, by omega, rfl, H0.out⟩
  case round =>
    obtain ⟨kk, hkk, hg, rfl, HS⟩ := hrel
    clear H0
    by_cases hlt : kk < ni
    · have hltz : (kk : Int) < (ni : Int) := by omega
      obtain ⟨b, o, pv, rfl, hz1, hp, c0, c1, c2, c3, c4, c5, c6⟩ := itm_at HI.out HS.out.below (i := kk) (by rw [NI.out]; exact hlt)
      have HX : Hid (q.items.take (kk + 1) = q.items.take kk ++ [(zi[kk]'(by rw [NI.out]; exact hlt)).2]) := by
        show q.items.take (kk + 1) = _
        rw [← EI.out, List.take_succ_eq_append_getElem (by rw [List.length_map, NI.out]; exact hlt), List.getElem_map]
      have HPL : Hid ((zi[kk]'(by rw [NI.out]; exact hlt)).2.msg.props.length ≤ 2513169434916) := hq.ip _ (by rw [← EI.out]; exact List.mem_map_of_mem (List.getElem_mem _))
      generalize (zi[kk]'(by rw [NI.out]; exact hlt)).2 = x at *
      clear hz1
      obtain ⟨wr, hwr⟩ : ∃ W, W = wr := ⟨_, rfl⟩
      subst hwr
      obtain ⟨pa, pc, rfl⟩ := hp.shape
      go_wp2_with (refine wpl_fresh rfl (.tmp 5) (.tmp 15) rfl _ _ rfl rfl (by kernel_rfl) rfl (by simp [Value.oneCell']) ?_)
      intro w1 k1 b1 s1
      have HS1 := HS.out.on b1
      have hc := copyItem_any w1 x _ (hp.on b1) HPL.out
      unfold itmV at hc
      clear HS hp c0 c1 c2 c3 c4 c5 c6 b1
      go_wp2_with (refine wpl_load43 rfl (.tmp 5) rfl _ _ rfl k1 rfl ?_)
      refine hc.mono ?_
      rintro e w2 ⟨pv2, rfl, ho2, b2⟩
      have HS2 := HS1.on b2
      have ho3 : OwnP w2 w.heap.size pv2 x.msg.props := ho2.low HS1.below.size
      clear hc k1 s1 HS1 ho2 b2 HPL
      go_wp2_with (at_builtin; refine HS2.app rfl (.tmp 16) (.tmp 19) rfl rfl rfl x HX.out pv2 ho3 (by omega) ?_)
      intro v' w3 HS3
      clear HS2 ho3 HX
      go_wp2_with fail
      go_roundg (ni - (kk + 1))
      case measure => omega
      case rel => exact ⟨kk + 1, by omega, by omega, by go_num, HS3⟩
    · have hltz : ¬ (kk : Int) < (ni : Int) := by omega
      have H2 : Hid (CpH w wr q (.slice ai ni ci) (.slice ah nh ch) u3 (.slice none 0 0) 0) := HS.out.turn (by rw [← EI.out, List.length_map, NI.out]; omega)
      have k0 := HS.out.blk
      obtain ⟨wr, hwr⟩ : ∃ W, W = wr := ⟨_, rfl⟩
      subst hwr
      obtain ⟨d0, d1, d2, d3, d4, d5, d6⟩ := k0.c7
      clear HS k0 HI
      go_wp2_with fail
      clear d0 d1 d2 d3 d4 d5 d6
      go_loopg [6, 8, 25] nh (fun gg s6 _ s25 wy => ∃ k2 : Nat, k2 ≤ nh ∧ nh - k2 ≤ gg ∧ s25 = .int .i64 k2 ∧ Hid (CpH w wy q (.slice ai ni ci) (.slice ah nh ch) u3 s6 k2))
      case atStart => exact ⟨0, Nat.zero_le _, by omega, rfl, H2.out⟩
      case round =>
        obtain ⟨k2, hk2, hg2, rfl, HS⟩ := hrel
        clear H2
        by_cases hl2 : k2 < nh
        · have hl2z : (k2 : Int) < (nh : Int) := by omega
          obtain ⟨b, o, pv, rfl, hz1, hp, c0, c1, c2, c3, c4, c5, c6, c7, c8, c9⟩ := hld_at HH.out HS.out.below (i := k2) (by rw [NH.out]; exact hl2)
          have HX : Hid (q.held.take (k2 + 1) = q.held.take k2 ++ [(zh[k2]'(by rw [NH.out]; exact hl2)).2]) := by
            show q.held.take (k2 + 1) = _
            rw [← EH.out, List.take_succ_eq_append_getElem (by rw [List.length_map, NH.out]; exact hl2), List.getElem_map]
          have HPL : Hid ((zh[k2]'(by rw [NH.out]; exact hl2)).2.itm.msg.props.length ≤ 2513169434916) := hq.hp _ (by rw [← EH.out]; exact List.mem_map_of_mem (List.getElem_mem _))
          generalize (zh[k2]'(by rw [NH.out]; exact hl2)).2 = x at *
          clear hz1
          obtain ⟨wt, hwt⟩ : ∃ W, W = wr := ⟨_, rfl⟩
          subst hwt
          obtain ⟨pa, pc, rfl⟩ := hp.shape
          go_wp2_with (refine wpl_fresh rfl (.tmp 8) (.tmp 28) rfl _ _ rfl rfl (by kernel_rfl) rfl (by simp [Value.oneCell']) ?_)
          intro w1 k1 b1 s1
          have hc := copyItem_any w1 x.itm _ (hp.on b1) HPL.out
          unfold itmV at hc
          clear hp c0 c1 c2 c3 c4 c5 c6 c7 c8 c9
          obtain ⟨d0, d1, d2, d3, d4, d5, d6, d7, d8, d9⟩ := k1.c10
          go_wp2_with fail
          refine hc.mono ?_
          rintro e w2 ⟨pv2, rfl, ho2, b2⟩
          have bb2 := nxt b1 b2
          have ho3 : OwnP w2 w.heap.size pv2 x.itm.msg.props := ho2.low (Nat.le_trans HS.out.below.size b1.size)
          have k2' := k1.on b2
          clear hc k1 s1 ho2 b2 HPL d0 d1 d2 d3 d4 d5 d6 d7 d8 d9
          go_wp2_with (refine wpl_putAt rfl (.tmp 32) (.tmp 31) rfl _ 3 _ rfl rfl k2' (by kernel_rfl) (by simp) (by have := ho3.rd.one; simp [Value.oneCell'] at this ⊢; exact this) ?_)
          intro w3 k3 g3 s3
          have HS3 := HS.out.on (bb2.grown g3 bb2.size (fun k hk => by injection hk with hk; omega))
          have ho4 := ho3.keep (kt_grown k2' g3 (by decide))
          have k4 : Blk w3 wt.heap.size #[.int .i64 x.tag, .int .i64 x.conn, .int .i64 x.sub, .int .i64 x.itm.seq, .bool x.itm.again, tx x.itm.msg.topic, tx x.itm.msg.body, pv2, .bool x.itm.msg.dur, .int .i64 x.itm.msg.til] 61 := k3
          clear HS ho3 k2' k3 g3 b1 bb2 s3
          go_wp2_with (first | (refine wpl_load61 rfl (.tmp 8) rfl _ _ rfl k4 rfl ?_) | (at_builtin; refine wpl_halt ?_))
          intro _
          refine HS3.app rfl (.tmp 33) (.tmp 35) rfl rfl rfl x HX.out pv2 ho4 (by omega) ?_
          intro v' w4 HS4
          clear HS3 ho4 HX k4
          go_wp2_with fail
          go_roundg (nh - (k2 + 1))
          case measure => omega
          case rel => exact ⟨k2 + 1, by omega, by omega, by go_num, HS4⟩
        · have hl2z : ¬ (k2 : Int) < (nh : Int) := by omega
          obtain ⟨hi3, ⟨zs, h1, h2⟩, h3, h4, h5⟩ := HS.out
          have hh3 : OwnH wr w.heap.size u6 q.held := ⟨zs, by rw [h1, List.take_of_length_le (by rw [← EH.out, List.length_map, NH.out]; omega)], h2⟩
          obtain ⟨a3, c3, rfl⟩ := hi3.rd.len
          obtain ⟨a6, c6, rfl⟩ := hh3.rd.len
          obtain ⟨wt, hwt⟩ : ∃ W, W = wr := ⟨_, rfl⟩
          subst hwt
          obtain ⟨n3, hn3⟩ : ∃ n, q.items.length = n := ⟨_, rfl⟩
          obtain ⟨n6, hn6⟩ : ∃ n, q.held.length = n := ⟨_, rfl⟩
          rw [hn3] at hi3 ⊢
          rw [hn6] at hh3 ⊢
          have k1 := h4.set 5 (.slice a3 n3 c3)
          have k2' := k1.set 6 (.slice a6 n6 c6)
          have e5 := h4.cell 5
          have e6 := h4.cell 6
          have f5 := h4.frozen 5
          have f6 := h4.frozen 6
          have kR := (h5.setO (g' := w.heap.size) (j := 5) (by omega) (.slice a3 n3 c3)).setO (g' := w.heap.size) (j := 6) (by omega) (.slice a6 n6 c6)
          have b2 := (h3.setCell (p := ⟨w.heap.size, 5, none⟩) (Nat.le_refl _) (.slice a3 n3 c3)).setCell (p := ⟨w.heap.size, 6, none⟩) (Nat.le_refl _) (.slice a6 n6 c6)
          have k43 : Kt 43 wt ((wt.setCell ⟨w.heap.size, 5, none⟩ (.slice a3 n3 c3)).setCell ⟨w.heap.size, 6, none⟩ (.slice a6 n6 c6)) := (kt_setCell h4 (by decide) _).trans (kt_setCell k1 (by decide) _)
          have k61 : Kt 61 wt ((wt.setCell ⟨w.heap.size, 5, none⟩ (.slice a3 n3 c3)).setCell ⟨w.heap.size, 6, none⟩ (.slice a6 n6 c6)) := (kt_setCell h4 (by decide) _).trans (kt_setCell k1 (by decide) _)
          have k54 : Kt 54 wt ((wt.setCell ⟨w.heap.size, 5, none⟩ (.slice a3 n3 c3)).setCell ⟨w.heap.size, 6, none⟩ (.slice a6 n6 c6)) := (kt_setCell h4 (by decide) _).trans (kt_setCell k1 (by decide) _)
          have hi4 := hi3.keep k43 k54
          have hh4 := hh3.keep k61 k54
          have k3 : Blk ((wt.setCell ⟨w.heap.size, 5, none⟩ (.slice a3 n3 c3)).setCell ⟨w.heap.size, 6, none⟩ (.slice a6 n6 c6)) w.heap.size #[tx q.name, .bool q.dur, .int .i64 q.depth, .int .i64 q.seq, .int .i64 q.tag, .slice a3 n3 c3, .slice a6 n6 c6] 25 := k2'
          clear HS hi3 hh3 h1 h2 h3 h4 h5 k1 k2' k43 k61 k54 HH EI EH NI NH hq
          go_wp2_with (first | (refine wpl_load25 rfl (.tmp 1) rfl _ _ rfl k3 rfl ?_) | (refine wpl_put rfl (.tmp 2) (.tmp 42) rfl _ _ rfl rfl kR (by kernel_rfl) rfl (by simp [Value.oneCell']) ?_))
          intro W' r1 g1 s1
          have j43 : Kt 43 _ W' := kt_grown kR g1 (by decide)
          have j61 : Kt 61 _ W' := kt_grown kR g1 (by decide)
          have j54 : Kt 54 _ W' := kt_grown kR g1 (by decide)
          have b4 := b2.grown g1 b2.size (fun k hk => by injection hk with hk; omega)
          clear k3 kR e5 e6 f5 f6 g1
          go_wp2_with fail
          refine ret25 rfl r1 rfl rfl ⟨_, rfl, ⟨_, _, rfl, ?_, ?_⟩, b4⟩
          · exact hi4.keep j43 j54
          · exact hh4.keep j61 j54
end Go.Proofs.YtlbcefocmdnlgaaGreatDoor

namespace Go.Proofs.YtlbcefocmdnlgaaGreatDoor
open Go

section
variable {P : Program} {md : Region.Mode} {ops : Array Oper} {Q : Exit → Act → World → Prop} {S : World → Prop}

/-- Whatever order is picked: S holds behind every operation but number z. -/
def wpTo (P : Program) (md : Region.Mode) (ops : Array Oper) (Q : Exit → Act → World → Prop) (S : World → Prop) (z : Nat) : Nat → Array Bool → Act → World → Prop
  | 0, l, a, w => Region.ready md ops l = [] ∧ Q .normal a w
  | n + 1, l, a, w => (Region.ready md ops l = [] → Q .normal a w) ∧ ∀ i ∈ Region.ready md ops l, wpOp P ops Q i (fun a' w' => (i ≠ z → S w') ∧ wpTo P md ops Q S z n (l.setIfInBounds i true) a' w') a w

theorem wpTo.any {z : Nat} : ∀ {n : Nat} {l : Array Bool} {a : Act} {w : World}, wpTo P md ops Q S z n l a w → wpAny P md ops Q n l a w
  | 0, _, _, _, h => h
  | _ + 1, _, _, _, h => ⟨h.1, fun i hi => wpOp_mono (fun _ _ k => k.2.any) (h.2 i hi)⟩

/-- Whether one operation waits for another. -/
def waitsFor (md : Region.Mode) (ops : Array Oper) (z i : Nat) : Bool := match ops[z]? with
  | some o => o.after.any fun e => Region.binds md e && e.on == i
  | none => false
theorem not_ready {z i : Nat} {l : Array Bool} (hw : waitsFor md ops z i = true) (hi : i ∈ Region.ready md ops l) : z ∉ Region.ready md ops l := fun hz => by
  obtain ⟨_, o, ho, hall⟩ := mem_ready.1 hz
  unfold waitsFor at hw
  rw [ho] at hw
  obtain ⟨e, he, hb⟩ := Array.any_eq_true'.1 hw
  rw [Bool.and_eq_true, beq_iff_eq] at hb
  have h1 := hall e he hb.1
  have h2 := (mem_ready.1 hi).1
  rw [hb.2] at h1
  rcases Nat.lt_or_ge i l.size with h | h
  · simp [h] at h1 h2
    rw [h1] at h2
    cases h2
  · simp [Array.getElem?_eq_none h] at h1

theorem wpTo.take_at {z i : Nat} {oi : Oper} {v : Value} (hi : ops[i]? = some oi) (hsel : Region.noSelect ops = true) (hw : waitsFor md ops z i = true)
    (hQ : ∀ c a w, Q (.panic c) (a.put oi.dst v) w → Q (.panic c) a w) (n : Nat) : ∀ (l : Array Bool) (a : Act) (w : World),
    (∀ j oj, ops[j]? = some oj → j ≠ i → l.getD j true = false → (∀ e ∈ oj.after, Region.binds md e = true → e.on ≠ i) → oi.apart ops oj = true) →
    i ∈ Region.ready md ops l → YieldsIf P ops S oi v a → S w → wpTo P md ops Q S z n (l.setIfInBounds i true) (a.put oi.dst v) w → wpTo P md ops Q S z (n + 1) l a w := by
  have hsel := Region.noSelect_spec hsel
  induction n with
  | zero =>
    intro l a w _ hr hy hS H
    refine ⟨fun h => absurd (h ▸ hr) (by simp), fun j hj => ?_⟩
    by_cases e : j = i
    · subst e
      exact hy.wpOp hi hS ⟨fun _ => hS, H⟩
    · exact absurd (H.1 ▸ ready_mono hj e) (by simp)
  | succ n ih =>
    intro l a w hf hr hy hS H
    refine ⟨fun h => absurd (h ▸ hr) (by simp), fun j hj => ?_⟩
    by_cases e : j = i
    · subst e
      exact hy.wpOp hi hS ⟨fun _ => hS, H⟩
    · have hjz : j ≠ z := fun h => not_ready hw hr (h ▸ hj)
      obtain ⟨hun, oj, hoj, hall⟩ := mem_ready.1 hj
      have hnot : ∀ e ∈ oj.after, Region.binds md e = true → e.on ≠ i := fun e' he hb heq => by
        refine not_ready (z := j) (i := i) ?_ hr hj
        unfold waitsFor
        rw [hoj]
        exact Array.any_eq_true'.2 ⟨e', he, by rw [hb, heq]; simp⟩
      refine wpOp_mono ?_ (wpOp_putIf hoj (hf j oj hoj e hun hnot) (fun cs b => hsel i oi cs b hi) (fun cs b => hsel j oj cs b hoj) hQ hy (H.2 j (ready_mono hj e)))
      intro a' w' h3
      refine ⟨h3.2.1, ih (l.setIfInBounds j true) a' w' (fun k ok hk hki hu hn => ?_) (ready_mono hr (Ne.symm e)) h3.1 (h3.2.1 hjz) ?_⟩
      · by_cases hjk : j = k
        · subst hjk
          exact hf j ok hk hki hun hn
        · rw [getD_set_ne true hjk] at hu
          exact hf k ok hk hki hu hn
      · rw [Array.setIfInBounds_comm _ _ e]
        exact h3.2.2
theorem wpTo.take {z i : Nat} {oi : Oper} {v : Value} {n : Nat} {l : Array Bool} {a : Act} {w : World} (hi : ops[i]? = some oi) (hsel : Region.noSelect ops = true) (hw : waitsFor md ops z i = true)
    (hf : Region.free md ops l i = true) (hr : (Region.ready md ops l).contains i = true) (hQ : ∀ c a w, Q (.panic c) (a.put oi.dst v) w → Q (.panic c) a w)
    (hy : YieldsIf P ops S oi v a) (hS : S w) (h : wpTo P md ops Q S z n (l.setIfInBounds i true) (a.put oi.dst v) w) : wpTo P md ops Q S z (n + 1) l a w :=
  wpTo.take_at hi hsel hw hQ n l a w (Region.free_spec hi hf) (by simpa using hr) hy hS h
theorem wpTo.all {z : Nat} {rs : List Nat} {n : Nat} {l : Array Bool} {a : Act} {w : World} (hr : Region.ready md ops l = rs) (hne : rs ≠ [])
    (h : ∀ i ∈ rs, wpOp P ops Q i (fun a' w' => (i ≠ z → S w') ∧ wpTo P md ops Q S z n (l.setIfInBounds i true) a' w') a w) : wpTo P md ops Q S z (n + 1) l a w :=
  ⟨fun h0 => absurd (hr ▸ h0) hne, hr ▸ h⟩
theorem wpTo.done {z : Nat} {l : Array Bool} {a : Act} {w : World} (hr : Region.ready md ops l = []) (h : Q .normal a w) (n : Nat) : wpTo P md ops Q S z n l a w := by
  cases n with
  | zero => exact ⟨hr, h⟩
  | succ n => exact ⟨fun _ => h, by rw [hr]; simp⟩
/-- Only one may come up. -/
theorem wpTo.one {z i : Nat} {o : Oper} {n : Nat} {l : Array Bool} {a : Act} {w : World} (hr : Region.ready md ops l = [i]) (ho : ops[i]? = some o) (hw : Region.wanted o (yielded ops a.tmps) = true)
    (h : ∀ K : Act → World → Prop, (∀ a' w', (i ≠ z → S w') → wpTo P md ops Q S z n (l.setIfInBounds i true) a' w' → K a' w') → o.wp P a w K Q) : wpTo P md ops Q S z (n + 1) l a w :=
  wpTo.all hr (by simp) (fun j hj => by
    simp only [List.mem_singleton] at hj
    subst hj
    unfold wpOp
    simp only [ho]
    rw [if_pos hw]
    exact .inl (h _ (fun _ _ h1 h2 => ⟨h1, h2⟩)))
/-- Either of two may come up. -/
theorem wpTo.two {z i j : Nat} {o p : Oper} {n : Nat} {l : Array Bool} {a : Act} {w : World} (hr : Region.ready md ops l = [i, j]) (ho : ops[i]? = some o) (hp : ops[j]? = some p) (hwo : Region.wanted o (yielded ops a.tmps) = true) (hwp : Region.wanted p (yielded ops a.tmps) = true)
    (h1 : ∀ K : Act → World → Prop, (∀ a' w', (i ≠ z → S w') → wpTo P md ops Q S z n (l.setIfInBounds i true) a' w' → K a' w') → o.wp P a w K Q)
    (h2 : ∀ K : Act → World → Prop, (∀ a' w', (j ≠ z → S w') → wpTo P md ops Q S z n (l.setIfInBounds j true) a' w' → K a' w') → p.wp P a w K Q) : wpTo P md ops Q S z (n + 1) l a w :=
  wpTo.all hr (by simp) (fun k hk => by
    rcases List.mem_cons.1 hk with rfl | hk
    · unfold wpOp
      simp only [ho]
      rw [if_pos hwo]
      exact .inl (h1 _ (fun _ _ h1 h2 => ⟨h1, h2⟩))
    · simp only [List.mem_singleton] at hk
      subst hk
      unfold wpOp
      simp only [hp]
      rw [if_pos hwp]
      exact .inl (h2 _ (fun _ _ h1 h2 => ⟨h1, h2⟩)))
theorem wp_region_to {id z : Nat} {a : Act} {w : World} (hm : P.follows .mixedOrders = true) (h : wpTo P .any ops Q S z ops.size (Array.replicate ops.size false) a w.drew) : (Code.region id ops true).wp P Q a w :=
  wp_region_any hm h.any
end
end Go.Proofs.YtlbcefocmdnlgaaGreatDoor

namespace Go.Proofs.YtlbcefocmdnlgaaGreatDoor
open Go.RowKit Go.Lib
set_option maxRecDepth 100000

/-- append of one element that lies in a block made just before; what is the call's own stays so. -/
theorem appI_one {w W : World} {v : Value} {zs : Zs Itm} (ho' : OwnZ 43 7 (ItR (OwnP W w.heap.size)) W w.heap.size v zs) (hb' : Below w.heap.size w W) {o : Oper} {a : Act} {K : Act → World → Prop} {Q : Exit → Act → World → Prop} (s x : Operand)
    (ho : o.op = .call { callee := .builtin .append, args := #[s, x], argTypes := #[22, 22] }) (hs : a.eval s = v) (b : Nat) (hx : a.eval x = .slice (some ⟨b, 0, none⟩) 1 1) (it : Itm) (pv : Value) (hblk : Blk W b (itmV it pv).toArray 43) (hp : OwnP W w.heap.size pv it.msg.props) (hk : zs.length ≤ 1000)
    (cont : ∀ v' w', OwnZ 43 7 (ItR (OwnP w' w.heap.size)) w' w.heap.size v' (zs ++ [(itmV it pv, it)]) → W.grownBy w' v.ownBlock → K (a.put o.dst v') w') : o.wp Tryz.prog a W K Q := by
  obtain ⟨i0, hi, hz0, hz1, hz2⟩ := info_parts info43
  have hone : pv.oneCell' = true := hp.rd.one
  have hz := itmV_one it hone
  refine wp_append_own _ s x 22 ho w.heap.size 43 i0 (.agg #[.int .i64 0, .bool false, .string ⟨#[]⟩, .string ⟨#[]⟩, .slice none 0 0, .bool false, .int .i64 0]) 7 88 Tryz.underlying22 hi hz0 hz1 hz2 rfl (by decide) v zs.length (cellsZ zs) hs ho'.1 ⟨b, 0, none⟩ 1 1 (itmV it pv) hx (by rw [hz.1]) ?_ hz.2 (by unfold maxLen; omega) (by omega) hb'.size ?_
  · intro j u hj
    rw [Addr.add_lit, Nat.zero_add, hblk.cell j]
    simpa using hj
  · intro v' w' h1 h2 _
    have k54 : Kt 54 W w' := Kt.of_grown ho'.1 h2 (by decide)
    refine cont v' w' ⟨?_, ?_⟩ h2
    · rw [cellsZ_app, List.length_append]
      simpa [cellsZ] using h1
    · intro y hy
      rcases List.mem_append.1 hy with hy | hy
      · have := ho'.2 y hy
        exact ⟨this.1, this.2.keep k54⟩
      · rw [List.mem_singleton.1 hy]
        exact ⟨hz, pv, rfl, hp.keep k54⟩

/-- append of one element that lies in a block made just before; what is the call's own stays so. -/
theorem appH_one {w W : World} {v : Value} {zs : Zs Hld} (ho' : OwnZ 61 10 (HeR (OwnP W w.heap.size)) W w.heap.size v zs) (hb' : Below w.heap.size w W) {o : Oper} {a : Act} {K : Act → World → Prop} {Q : Exit → Act → World → Prop} (s x : Operand)
    (ho : o.op = .call { callee := .builtin .append, args := #[s, x], argTypes := #[23, 23] }) (hs : a.eval s = v) (b : Nat) (hx : a.eval x = .slice (some ⟨b, 0, none⟩) 1 1) (it : Hld) (pv : Value) (hblk : Blk W b (hldV it pv).toArray 61) (hp : OwnP W w.heap.size pv it.itm.msg.props) (hk : zs.length ≤ 1000)
    (cont : ∀ v' w', OwnZ 61 10 (HeR (OwnP w' w.heap.size)) w' w.heap.size v' (zs ++ [(hldV it pv, it)]) → W.grownBy w' v.ownBlock → K (a.put o.dst v') w') : o.wp Tryz.prog a W K Q := by
  obtain ⟨i0, hi, hz0, hz1, hz2⟩ := info_parts info61
  have hone : pv.oneCell' = true := hp.rd.one
  have hz := hldV_one it hone
  refine wp_append_own _ s x 23 ho w.heap.size 61 i0 (.agg #[.int .i64 0, .int .i64 0, .int .i64 0, .int .i64 0, .bool false, .string ⟨#[]⟩, .string ⟨#[]⟩, .slice none 0 0, .bool false, .int .i64 0]) 10 112 Tryz.underlying23 hi hz0 hz1 hz2 rfl (by decide) v zs.length (cellsZ zs) hs ho'.1 ⟨b, 0, none⟩ 1 1 (hldV it pv) hx (by rw [hz.1]) ?_ hz.2 (by unfold maxLen; omega) (by omega) hb'.size ?_
  · intro j u hj
    rw [Addr.add_lit, Nat.zero_add, hblk.cell j]
    simpa using hj
  · intro v' w' h1 h2 _
    have k54 : Kt 54 W w' := Kt.of_grown ho'.1 h2 (by decide)
    refine cont v' w' ⟨?_, ?_⟩ h2
    · rw [cellsZ_app, List.length_append]
      simpa [cellsZ] using h1
    · intro y hy
      rcases List.mem_append.1 hy with hy | hy
      · have := ho'.2 y hy
        exact ⟨this.1, this.2.keep k54⟩
      · rw [List.mem_singleton.1 hy]
        exact ⟨hz, pv, rfl, hp.keep k54⟩
end Go.Proofs.YtlbcefocmdnlgaaGreatDoor
