/- What Expire answers. Conditions: To.Vars, what the library's variables hold, and those that each row states. -/
import Derived.Test.YtlbcefocmdnlgaaGreatDoorNw
import Derived.Test.YtlbcefocmdnlgaaGreatDoorDf
namespace Go.Proofs.YtlbcefocmdnlgaaGreatDoor
open Go.RowKit Go.Lib
set_option maxRecDepth 100000
set_option linter.unusedSimpArgs false

/-- What Release and Expire answer beside the queue. -/
def relC (q : Que) : Int := if goodQ q then 0 else 1
theorem e70 : ∀ args w, (callFunc 70 args).run Tryz.prog w = .ok (.enter 70 args) w := fun args w => by go_simp
theorem clos70 (W : World) (g : Nat) (now : Int) (kg : Blk W g #[.int .i64 now] 3) (x : Itm) (pv : Value) :
    Calls Tryz.prog 70 #[.agg (itmV x pv).toArray, .pointer (some ⟨g, 0, none⟩)] W fun e W' => e = .returned (.bool (oldB now x)) ∧ Below W.heap.size W W' := by
  unfold itmV oldB
  have b1 := (Below.refl W.heap.size W).alloc (Nat.le_refl _) (.cells #[.int .i64 x.seq, .bool x.again, tx x.msg.topic, tx x.msg.body, pv, .bool x.msg.dur, .int .i64 x.msg.til] 43)
  have k1 := Blk.new W #[.int .i64 x.seq, .bool x.again, tx x.msg.topic, tx x.msg.body, pv, .bool x.msg.dur, .int .i64 x.msg.til] 43
  have d0 := (kg.on b1).cell 0
  simp only [List.getElem?_toArray, List.getElem?_cons_zero] at d0
  go_enter Tryz.func70, Tryz.ntmps70
  go_upto_region 1 with fail
  generalize W.alloc (.cells #[.int .i64 x.seq, .bool x.again, tx x.msg.topic, tx x.msg.body, pv, .bool x.msg.dur, .int .i64 x.msg.til] 43) = W1 at *
  obtain ⟨c0, c1, c2, c3, c4, c5, c6⟩ := k1.c7
  by_cases h1 : (0 : Int) < x.msg.til <;> by_cases h2 : x.msg.til ≤ now
  all_goals
    go_wp2
    go_ret
    exact ⟨ret_b (by simp [h1, h2]), b1⟩

structure ExS (w W : World) (qs : Array Value) (now : Int) : Prop where
  q : Blk W w.heap.size qs 25
  n : Blk W (w.heap.size + 1) #[.int .i64 now] 3
  r : Blk W (w.heap.size + 2) #[.string ⟨#[]⟩, .bool false, .int .i64 0, .int .i64 0, .int .i64 0, .slice none 0 0, .slice none 0 0] 25
  b : Below w.heap.size w W
theorem ExS.on {w W W' : World} {qs : Array Value} {now : Int} (h : ExS w W qs now) (hb : Below W.heap.size W W') : ExS w W' qs now := ⟨h.q.on hb, h.n.on hb, h.r.on hb, nxt h.b hb⟩

set_option maxHeartbeats 4000000 in
theorem expire_any (w : World) (hva : To.Vars w) (v : Value) (q : Que) (h : RdQ w v q) (now : Int) (hbig : lenQ q ≤ 1000000) :
    Calls Tryz.prog 42 #[v, .int .i64 now] w fun e w' => ∃ v', e = .returned (.tuple #[v', .int .i64 (relC q)]) ∧ OwnQ w' w.heap.size v' (if relC q = 0 then expireQ q now else zeroQ) ∧ Below w.heap.size w w' := by
  have hR := h
  obtain ⟨iv, hv, rfl, hi, hh⟩ := h
  have OI : ∃ a c, iv = .slice a q.items.length c := hi.len
  have OH : ∃ a c, hv = .slice a q.held.length c := hh.len
  clear hi hh
  have HG : ∀ W, Below w.heap.size w W → Calls Tryz.prog 13 #[queV q iv hv] W fun e w' => e = .returned (.bool (goodQ q)) ∧ Below W.heap.size W w' := fun W b => good_any W (hva.below b) _ q (hR.on b) hbig
  have S0 : ExS w (((w.alloc (.cells #[tx q.name, .bool q.dur, .int .i64 q.depth, .int .i64 q.seq, .int .i64 q.tag, iv, hv] 25)).alloc (.cells #[.int .i64 now] 3)).alloc (.cells #[.string ⟨#[]⟩, .bool false, .int .i64 0, .int .i64 0, .int .i64 0, .slice none 0 0, .slice none 0 0] 25)) #[tx q.name, .bool q.dur, .int .i64 q.depth, .int .i64 q.seq, .int .i64 q.tag, iv, hv] now := by
    refine ⟨((Blk.new _ _ _).alloc _).alloc _, ?_, ?_, (((Below.refl _ w).alloc (Nat.le_refl _) _).alloc (by simp) _).alloc (by simp; omega) _⟩
    · have := (Blk.new (w.alloc (.cells #[tx q.name, .bool q.dur, .int .i64 q.depth, .int .i64 q.seq, .int .i64 q.tag, iv, hv] 25)) #[.int .i64 now] 3).alloc (.cells #[.string ⟨#[]⟩, .bool false, .int .i64 0, .int .i64 0, .int .i64 0, .slice none 0 0, .slice none 0 0] 25)
      rwa [World.size_alloc] at this
    · have := Blk.new ((w.alloc (.cells #[tx q.name, .bool q.dur, .int .i64 q.depth, .int .i64 q.seq, .int .i64 q.tag, iv, hv] 25)).alloc (.cells #[.int .i64 now] 3)) #[.string ⟨#[]⟩, .bool false, .int .i64 0, .int .i64 0, .int .i64 0, .slice none 0 0, .slice none 0 0] 25
      rwa [World.size_alloc, World.size_alloc] at this
  unfold queV at *
  go_enter Tryz.func42, Tryz.ntmps42
  go_upto_region 1 with fail
  generalize ((w.alloc (.cells #[tx q.name, .bool q.dur, .int .i64 q.depth, .int .i64 q.seq, .int .i64 q.tag, iv, hv] 25)).alloc (.cells #[.int .i64 now] 3)).alloc (.cells #[.string ⟨#[]⟩, .bool false, .int .i64 0, .int .i64 0, .int .i64 0, .slice none 0 0, .slice none 0 0] 25) = w1 at *
  go_wp2_with (refine wpl_load25 rfl (.tmp 2) rfl _ _ rfl S0.q rfl ?_)
  refine (HG _ S0.b).mono ?_
  rintro e w2 ⟨rfl, b2⟩
  have S2 := S0.on b2
  clear S0 b2
  cases hg : goodQ q with
  | false =>
    have e0 : relC q = 1 := by simp [relC, hg]
    go_wp2_with (refine wpl_put rfl (.tmp 4) (.tmp 9) rfl _ _ rfl rfl S2.r (by kernel_rfl) rfl (by simp [Value.oneCell']) ?_)
    intro W' k' g' s'
    go_wp2_with fail
    refine ret25t rfl k' rfl rfl rfl ⟨_, rfl, own_zero _ _, S2.b.grown g' S2.b.size (fun k hk => by injection hk with hk; omega)⟩
  | true =>
    have e0 : relC q = 0 := by simp [relC, hg]
    obtain ⟨hsm, hl64, _, _, hq1, hq2⟩ := goodQ_small hg
    have hcp := copy_any w2 _ q (hR.on S2.b) hsm
    unfold queV at hcp
    go_wp2_with (refine wpl_load25 rfl (.tmp 2) rfl _ _ rfl S2.q rfl ?_)
    refine hcp.mono ?_
    rintro e w5 ⟨v5, rfl, ⟨iv5, hv5, rfl, oi5, oh5⟩, b5⟩
    obtain ⟨ah5, ch5, rfl⟩ := oh5.rd.len
    obtain ⟨ai5, ci5, rfl⟩ := oi5.rd.len
    obtain ⟨zs, ezs, hzs⟩ := oi5.low S2.b.size
    have hz1000 : zs.length ≤ 1000 := by have := hsm.items; rw [← ezs, List.length_map] at this; exact this
    have S5 := S2.on b5
    have oh6 := oh5.low S2.b.size
    have HZ : Hid (zs.map (·.2) = q.items) := ezs
    clear hcp S2 b5 oi5 oh5 ezs
    generalize q.held.length = nh at *
    generalize q.items.length = ni at *
    unfold queV
    go_wp2_with (refine wpl_put rfl (.tmp 2) (.tmp 11) rfl _ _ rfl rfl S5.q (by kernel_rfl) rfl (by simp [Value.oneCell']) ?_)
    intro w6 k6 g6 s6
    have n6 := S5.n.grown g6 (fun e => by injection e with e; omega)
    have r6 := S5.r.grown g6 (fun e => by injection e with e; omega)
    have b6 := S5.b.grown g6 S5.b.size (fun k hk => by injection hk with hk; omega)
    have t54 : Kt 54 w5 w6 := kt_grown S5.q g6 (by decide)
    have hzs6 : OwnZ 43 7 (ItR (OwnP w6 w.heap.size)) w6 w.heap.size (.slice ai5 ni ci5) zs := (hzs.keep (kt_grown S5.q g6 (by decide))).imp fun _ _ h => h.keep t54
    have oh7 := oh6.keep (kt_grown S5.q g6 (by decide)) t54
    clear S5 hzs oh6 g6 s6 t54
    have hdf := deleteFuncI_any w6 w.heap.size _ zs (OwnP w6 w.heap.size) (fun _ _ h => h.shape) hzs6 hz1000 70 #[.pointer (some ⟨w.heap.size + 1, 0, none⟩)] e70 (oldB now) (fun x pv W hgw => clos70 W _ now (n6.grown hgw (n6.ne_own hzs6.1 (by decide))) x pv)
    obtain ⟨c0, c1, c2, c3, c4, c5, c6⟩ := k6.c7
    go_wp2_with fail
    refine hdf.mono ?_
    rintro e w7 ⟨v7, rfl, o7, g7, _⟩
    have t25 : Kt 25 w6 w7 := Kt.of_grown hzs6.1 g7 (by decide)
    have t61 : Kt 61 w6 w7 := Kt.of_grown hzs6.1 g7 (by decide)
    have t54 : Kt 54 w6 w7 := Kt.of_grown hzs6.1 g7 (by decide)
    have k7 := k6.kt t25
    have r7 := r6.kt t25
    have oh8 := oh7.keep t61 t54
    have b7 := b6.grown g7 b6.size (fun k hk => (World.ownsRow.lt hzs6.1 k hk).1)
    have oi7 : OwnI w7 w.heap.size v7 (q.items.filter (fun x => !oldB now x)) := by
      refine ⟨_, ?_, o7.imp fun _ _ h => h.keep t54⟩
      rw [← HZ.out, List.filter_map]
      rfl
    obtain ⟨a7, c7, rfl⟩ := oi7.rd.len
    generalize (q.items.filter (fun x => !oldB now x)).length = n7 at *
    clear hdf hzs6 o7 g7 t25 t61 t54 k6 r6 n6 b6 oh7 c0 c1 c2 c3 c4 c5 c6 HZ
    go_wp2_with (refine wpl_set rfl (.tmp 16) (.tmp 15) rfl _ 5 _ rfl rfl k7 (by kernel_rfl) rfl rfl (by simp) ?_)
    intro w8 k8 g8 s8
    have kq8 : Blk w8 w.heap.size #[tx q.name, .bool q.dur, .int .i64 q.depth, .int .i64 q.seq, .int .i64 q.tag, .slice a7 n7 c7, .slice ah5 nh ch5] 25 := k8
    have r8 := r7.grown g8 (fun e => by injection e with e; omega)
    have b8 := b7.grown g8 b7.size (fun k hk => by injection hk with hk; omega)
    have t54 : Kt 54 w7 w8 := kt_grown k7 g8 (by decide)
    have oi8 := oi7.keep (kt_grown k7 g8 (by decide)) t54
    have oh9 := oh8.keep (kt_grown k7 g8 (by decide)) t54
    clear k7 r7 b7 oi7 oh8 g8 s8 t54 k8
    go_wp2_with (first | (refine wpl_load25 rfl (.tmp 2) rfl _ _ rfl kq8 rfl ?_) | (refine wpl_put rfl (.tmp 4) (.tmp 17) rfl _ _ rfl rfl r8 (by kernel_rfl) rfl (by simp [Value.oneCell']) ?_))
    intro w9 k9 g9 s9
    go_wp2_with fail
    refine ret25t rfl k9 rfl rfl rfl ⟨_, rfl, ?_, b8.grown g9 b8.size (fun k hk => by injection hk with hk; omega)⟩
    exact ⟨_, _, rfl, oi8.keep (kt_grown r8 g9 (by decide)) (kt_grown r8 g9 (by decide)), oh9.keep (kt_grown r8 g9 (by decide)) (kt_grown r8 g9 (by decide))⟩
end Go.Proofs.YtlbcefocmdnlgaaGreatDoor
