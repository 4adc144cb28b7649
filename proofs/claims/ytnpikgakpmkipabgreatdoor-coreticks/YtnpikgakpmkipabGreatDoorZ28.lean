/- trivetref11.Same of two cores that are the same. Conditions: those that each row states. -/
import Derived.Test.YtnpikgakpmkipabGreatDoorZ04
import Derived.Test.YtnpikgakpmkipabGreatDoorZ03
import Derived.Test.YtnpikgakpmkipabGreatDoorZ27
import Derived.Test.YtnpikgakpmkipabGreatDoorZ13
namespace Go.Proofs.YtnpikgakpmkipabGreatDoor
open Go.RowKit Go.Lib
set_option maxRecDepth 100000
set_option linter.unusedSimpArgs false
set_option linter.unusedVariables false
structure ScS (w W : World) (xs ys : Array Value) : Prop where
 a : Blk W w.heap.size xs 30
 b : Blk W (w.heap.size + 1) ys 30
 l : Bw w W
theorem ScS.on {w W W' : World} {xs ys : Array Value} (h : ScS w W xs ys) (hb : Bw W W') : ScS w W' xs ys := ⟨h.a.on hb, h.b.on hb, nxt h.l hb⟩
theorem ScS.start (w : World) (xs ys : Array Value) : ScS w ((w.alloc (.cells xs 30)).alloc (.cells ys 30)) xs ys := by
 refine ⟨(Blk.new _ _ _).alloc _, ?_, ((Below.refl _ w).alloc (Nat.le_refl _) _).alloc (by simp) _⟩
 have := Blk.new (w.alloc (.cells xs 30)) ys 30
 rwa [World.size_alloc] at this
theorem wpAnyH_two {P : Program} {md : Region.Mode} {ops : Array Oper} {Q : Exit → Act → World → Prop} {S : World → Prop} {i j : Nat} {o o' : Oper} {fuel : Nat} {listed : Array Bool} {a : Act} {w : World} (hr : Region.ready md ops listed = [i, j]) (ho : ops[i]? = some o) (ho' : ops[j]? = some o') (hw : Region.wanted o (yielded ops a.tmps) = true) (hw' : Region.wanted o' (yielded ops a.tmps) = true)
  (h : ∀ K : Act → World → Prop, (∀ a' w', S w' → wpAnyH P md ops Q S fuel (listed.setIfInBounds i true) a' w' → K a' w') → o.wp P a w K Q)
  (h' : ∀ K : Act → World → Prop, (∀ a' w', S w' → wpAnyH P md ops Q S fuel (listed.setIfInBounds j true) a' w' → K a' w') → o'.wp P a w K Q) : wpAnyH P md ops Q S (fuel + 1) listed a w :=
 wpAnyH_all hr (by simp) (fun k hk => by
  simp only [List.mem_cons, List.not_mem_nil, or_false] at hk
  rcases hk with rfl | rfl
  ·unfold wpOp
   simp only [ho]
   rw [if_pos hw]
   exact .inl (h _ (fun _ _ h1 h2 => ⟨h1, h2⟩))
  ·unfold wpOp
   simp only [ho']
   rw [if_pos hw']
   exact .inl (h' _ (fun _ _ h1 h2 => ⟨h1, h2⟩)))
set_option maxHeartbeats 8000000 in
theorem sameCore (w : World) (c : Cor) (q1 b1 s1 k1 c1 q2 b2 s2 k2 c2 : Value) (h : RdC5 w c q1 b1 s1 k1 c1) (h' : RdC5 w c q2 b2 s2 k2 c2) (hg : GoodC c) :
  Calls Tryz.prog 12 #[corV c q1 b1 s1 k1 c1, corV c q2 b2 s2 k2 c2] w fun e w' => e = .returned (.bool true) ∧ Bw w w' := by
 have HGC : Hid (GoodC c) := hg
 obtain ⟨zq, ezq, hzq⟩ := h.q
 obtain ⟨yq, eyq, hyq⟩ := h'.q
 obtain ⟨wq, mq, rfl⟩ := hzq.len
 obtain ⟨dq, tq, rfl⟩ := hyq.len
 obtain ⟨nq, enq⟩ : ∃ n, c.queues.length = n := ⟨_, rfl⟩
 have lzq : zq.length = nq := by rw [← enq, ← ezq, List.length_map]
 have lyq : yq.length = nq := by rw [← enq, ← eyq, List.length_map]
 rw [lzq] at hzq ⊢
 rw [lyq] at hyq ⊢
 have Hq : Hid (RdZ 7 (QuR (RdQ w)) w (.slice wq nq mq) zq ∧ RdZ 7 (QuR (RdQ w)) w (.slice dq nq tq) yq ∧ zq.map (·.2) = c.queues ∧ yq.map (·.2) = c.queues ∧ zq.length = nq ∧ yq.length = nq) := ⟨hzq, hyq, ezq, eyq, lzq, lyq⟩
 obtain ⟨zb, ezb, hzb⟩ := h.b
 obtain ⟨yb, eyb, hyb⟩ := h'.b
 obtain ⟨wb, mb, rfl⟩ := hzb.len
 obtain ⟨db, tb, rfl⟩ := hyb.len
 obtain ⟨nb, enb⟩ : ∃ n, c.binds.length = n := ⟨_, rfl⟩
 have lzb : zb.length = nb := by rw [← enb, ← ezb, List.length_map]
 have lyb : yb.length = nb := by rw [← enb, ← eyb, List.length_map]
 rw [lzb] at hzb ⊢
 rw [lyb] at hyb ⊢
 have Hb : Hid (RdZ 2 (BnR) w (.slice wb nb mb) zb ∧ RdZ 2 (BnR) w (.slice db nb tb) yb ∧ zb.map (·.2) = c.binds ∧ yb.map (·.2) = c.binds ∧ zb.length = nb ∧ yb.length = nb) := ⟨hzb, hyb, ezb, eyb, lzb, lyb⟩
 obtain ⟨zs, ezs, hzs⟩ := h.s
 obtain ⟨ys, eys, hys⟩ := h'.s
 obtain ⟨ws, ms, rfl⟩ := hzs.len
 obtain ⟨ds, ts, rfl⟩ := hys.len
 obtain ⟨ns, ens⟩ : ∃ n, c.subs.length = n := ⟨_, rfl⟩
 have lzs : zs.length = ns := by rw [← ens, ← ezs, List.length_map]
 have lys : ys.length = ns := by rw [← ens, ← eys, List.length_map]
 rw [lzs] at hzs ⊢
 rw [lys] at hys ⊢
 have Hs : Hid (RdZ 5 (SbR) w (.slice ws ns ms) zs ∧ RdZ 5 (SbR) w (.slice ds ns ts) ys ∧ zs.map (·.2) = c.subs ∧ ys.map (·.2) = c.subs ∧ zs.length = ns ∧ ys.length = ns) := ⟨hzs, hys, ezs, eys, lzs, lys⟩
 obtain ⟨zk, ezk, hzk⟩ := h.k
 obtain ⟨yk, eyk, hyk⟩ := h'.k
 obtain ⟨wk, mk, rfl⟩ := hzk.len
 obtain ⟨dk, tk, rfl⟩ := hyk.len
 obtain ⟨nk, enk⟩ : ∃ n, c.kept.length = n := ⟨_, rfl⟩
 have lzk : zk.length = nk := by rw [← enk, ← ezk, List.length_map]
 have lyk : yk.length = nk := by rw [← enk, ← eyk, List.length_map]
 rw [lzk] at hzk ⊢
 rw [lyk] at hyk ⊢
 have Hk : Hid (RdZ 5 (MsR (RdP w)) w (.slice wk nk mk) zk ∧ RdZ 5 (MsR (RdP w)) w (.slice dk nk tk) yk ∧ zk.map (·.2) = c.kept ∧ yk.map (·.2) = c.kept ∧ zk.length = nk ∧ yk.length = nk) := ⟨hzk, hyk, ezk, eyk, lzk, lyk⟩
 obtain ⟨zc, ezc, hzc⟩ := h.c
 obtain ⟨yc, eyc, hyc⟩ := h'.c
 obtain ⟨wc, mc, rfl⟩ := hzc.len
 obtain ⟨dc, tc, rfl⟩ := hyc.len
 obtain ⟨nc, enc⟩ : ∃ n, c.clients.length = n := ⟨_, rfl⟩
 have lzc : zc.length = nc := by rw [← enc, ← ezc, List.length_map]
 have lyc : yc.length = nc := by rw [← enc, ← eyc, List.length_map]
 rw [lzc] at hzc ⊢
 rw [lyc] at hyc ⊢
 have Hc : Hid (RdZ 2 (ClR (RdNu w)) w (.slice wc nc mc) zc ∧ RdZ 2 (ClR (RdNu w)) w (.slice dc nc tc) yc ∧ zc.map (·.2) = c.clients ∧ yc.map (·.2) = c.clients ∧ zc.length = nc ∧ yc.length = nc) := ⟨hzc, hyc, ezc, eyc, lzc, lyc⟩
 have bq : nq ≤ 1000 := by have := hg.ql; omega
 have bb : nb ≤ 1000 := by have := hg.bl; omega
 have bs : ns ≤ 1000 := by have := hg.sl; omega
 have bk : nk ≤ 1000 := by have := hg.kl; omega
 have bc : nc ≤ 1000 := by have := hg.cl; omega
 clear h h' hg hzq hyq ezq eyq lzq lyq enq hzb hyb ezb eyb lzb lyb enb hzs hys ezs eys lzs lys ens hzk hyk ezk eyk lzk lyk enk hzc hyc ezc eyc lzc lyc enc
 unfold corV
 have S0 : Hid (ScS w ((w.alloc (.cells #[.int .i64 c.now, .slice wq nq mq, .slice wb nb mb, .slice ws ns ms, .slice wk nk mk, .slice wc nc mc] 30)).alloc (.cells #[.int .i64 c.now, .slice dq nq tq, .slice db nb tb, .slice ds ns ts, .slice dk nk tk, .slice dc nc tc] 30)) #[.int .i64 c.now, .slice wq nq mq, .slice wb nb mb, .slice ws ns ms, .slice wk nk mk, .slice wc nc mc] #[.int .i64 c.now, .slice dq nq tq, .slice db nb tb, .slice ds ns ts, .slice dk nk tk, .slice dc nc tc]) := ScS.start w _ _
 go_enter Tryz.func12, Tryz.ntmps12
 go_upto_region 1 with fail
 generalize (w.alloc (.cells #[.int .i64 c.now, .slice wq nq mq, .slice wb nb mb, .slice ws ns ms, .slice wk nk mk, .slice wc nc mc] 30)).alloc (.cells #[.int .i64 c.now, .slice dq nq tq, .slice db nb tb, .slice ds ns ts, .slice dk nk tk, .slice dc nc tc] 30) = w1 at *
 obtain ⟨c0, c1, c2, c3, c4, c5⟩ := S0.out.a.c6
 obtain ⟨d0, d1, d2, d3, d4, d5⟩ := S0.out.b.c6
 go_upto_region 4 with fail
 clear c0 c1 c2 c3 c4 c5 d0 d1 d2 d3 d4 d5
 go_loopg [5, 66] nq (fun gg _ s66 wr => ∃ kk : Nat, kk ≤ nq ∧ nq - kk ≤ gg ∧ s66 = .int .i64 kk ∧ Hid (ScS w wr #[.int .i64 c.now, .slice wq nq mq, .slice wb nb mb, .slice ws ns ms, .slice wk nk mk, .slice wc nc mc] #[.int .i64 c.now, .slice dq nq tq, .slice db nb tb, .slice ds ns ts, .slice dk nk tk, .slice dc nc tc]))
 case atStart => exact ⟨0, Nat.zero_le _, by omega, rfl, S0⟩
 case round =>
  obtain ⟨kk, hkk, hgg, rfl, HS⟩ := hrel
  clear S0
  obtain ⟨wr, hwr⟩ : ∃ W, W = wr := ⟨_, rfl⟩
  subst hwr
  by_cases hlt : kk < nq
  ·have hltz : (kk : Int) < (nq : Int) := by omega
   obtain ⟨hz, hy, ez, ey, lz, ly⟩ := Hq.out
   obtain ⟨b1, o1, u0, u1, u2, u3, u4, u5, u6, rfl, gz1, r1, hone1, C1⟩ := el7_at hz (i := kk) (by omega)
   obtain ⟨b2, o2, v0, v1, v2, v3, v4, v5, v6, rfl, gz2, r2, hone2, C2⟩ := el7_at hy (i := kk) (by omega)
   have hql : kk < c.queues.length := by rw [← ez, List.length_map]; omega
   have x1 : (zq[kk]'(by omega)).2 = c.queues[kk] := by simp only [← ez, List.getElem_map]
   have x2 : (yq[kk]'(by omega)).2 = c.queues[kk] := by simp only [← ey, List.getElem_map]
   rw [x1] at r1
   rw [x2] at r2
   have hmem : c.queues[kk] ∈ c.queues := List.getElem_mem _
   have HA := fun (W : World) (b : Bw w W) => same_same W _ _ _ (RdQ.on r1 b) (RdQ.on r2 b) (small_good (HGC.out.qg _ hmem))
   clear r1 r2
   clear gz1 gz2 hone1 hone2 hz hy ez ey lz ly hql x1 x2 hmem
   go_upto_region 6 with fail
   refine rh (fun W => ScS w W #[.int .i64 c.now, .slice (some ⟨b1, o1, none⟩) nq mq, .slice wb nb mb, .slice ws ns ms, .slice wk nk mk, .slice wc nc mc] #[.int .i64 c.now, .slice (some ⟨b2, o2, none⟩) nq tq, .slice db nb tb, .slice ds ns ts, .slice dk nk tk, .slice dc nc tc]) ?_
   have hS : ScS w (World.drew wr) #[.int .i64 c.now, .slice (some ⟨b1, o1, none⟩) nq mq, .slice wb nb mb, .slice ws ns ms, .slice wk nk mk, .slice wc nc mc] #[.int .i64 c.now, .slice (some ⟨b2, o2, none⟩) nq tq, .slice db nb tb, .slice ds ns ts, .slice dk nk tk, .slice dc nc tc] := ⟨⟨HS.out.a.h⟩, ⟨HS.out.b.h⟩, HS.out.l.drew⟩
   clear HS
   generalize wr.drew = w4 at *
   refine tks [0, 1, 2, 3, 4, 5, 6, 7, 8, 9] [.pointer (some ⟨w.heap.size, 1, none⟩), .slice (some ⟨b1, o1, none⟩) nq mq, .int .i64 kk, .pointer (some ⟨b1, o1 + kk * 7, none⟩), .agg #[u0, u1, u2, u3, u4, u5, u6], .pointer (some ⟨w.heap.size + 1, 1, none⟩), .slice (some ⟨b2, o2, none⟩) nq tq, .int .i64 kk, .pointer (some ⟨b2, o2 + kk * 7, none⟩), .agg #[v0, v1, v2, v3, v4, v5, v6]] 2 ?_ hS ?_
   ·simp only [tkY, tkf]
    refine ⟨.yes ?_, .yes ?_, .yes ?_, .yes ?_, .yes ?_, .yes ?_, .yes ?_, .yes ?_, .yes ?_, .yes ?_, trivial⟩
    all_goals
     intro W' hW'
     have : W'.cell? ⟨w.heap.size, 1, none⟩ = some (.slice (some ⟨b1, o1, none⟩) nq mq) := hW'.a.cell 1
     obtain ⟨e0, e1, e2, e3, e4, e5, e6⟩ := C1 W' hW'.l
     have : W'.cell? ⟨w.heap.size + 1, 1, none⟩ = some (.slice (some ⟨b2, o2, none⟩) nq tq) := hW'.b.cell 1
     obtain ⟨e0, e1, e2, e3, e4, e5, e6⟩ := C2 W' hW'.l
     go_simp
   simp only [tkA, tkf]
   refine ak 10 fun K hK => ?_
   go_simp
   refine (HA _ hS.l).mono ?_
   rintro e w6 ⟨rfl, b6⟩
   have hS6 := hS.on b6
   clear hS
   have hS := hS6
   clear hS6 b6
   show K _ _
   refine hK _ _ hS ?_
   clear hK K
   try simp only [tkf]
   refine tks [11] [.bool false] 0 ?_ hS ?_
   ·simp only [tkY, tkf]
    refine ⟨.yes ?_, trivial⟩
    all_goals
     intro W' hW'
     go_simp
   simp only [tkA, tkf]
   refine ad ?_
   have HS9 : Hid (ScS w w6 #[.int .i64 c.now, .slice (some ⟨b1, o1, none⟩) nq mq, .slice wb nb mb, .slice ws ns ms, .slice wk nk mk, .slice wc nc mc] #[.int .i64 c.now, .slice (some ⟨b2, o2, none⟩) nq tq, .slice db nb tb, .slice ds ns ts, .slice dk nk tk, .slice dc nc tc]) := hS
   clear hS
   go_wp2_with fail
   go_roundg (nq - (kk + 1))
   case measure => omega
   case rel => exact ⟨kk + 1, by omega, by omega, by go_num, HS9.out⟩
  ·have hltz : ¬ (kk : Int) < (nq : Int) := by omega
   obtain ⟨c0, c1, c2, c3, c4, c5⟩ := HS.out.a.c6
   obtain ⟨d0, d1, d2, d3, d4, d5⟩ := HS.out.b.c6
   go_upto_region 10 with fail
   clear c0 c1 c2 c3 c4 c5 d0 d1 d2 d3 d4 d5 hltz hlt hkk hgg
   have S0 := HS
   clear HS
   go_loopg [6, 85] nb (fun gg _ s85 wr => ∃ kk : Nat, kk ≤ nb ∧ nb - kk ≤ gg ∧ s85 = .int .i64 kk ∧ Hid (ScS w wr #[.int .i64 c.now, .slice wq nq mq, .slice wb nb mb, .slice ws ns ms, .slice wk nk mk, .slice wc nc mc] #[.int .i64 c.now, .slice dq nq tq, .slice db nb tb, .slice ds ns ts, .slice dk nk tk, .slice dc nc tc]))
   case atStart => exact ⟨0, Nat.zero_le _, by omega, rfl, S0⟩
   case round =>
    obtain ⟨kk, hkk, hgg, rfl, HS⟩ := hrel
    clear S0
    obtain ⟨wr, hwr⟩ : ∃ W, W = wr := ⟨_, rfl⟩
    subst hwr
    by_cases hlt : kk < nb
    ·have hltz : (kk : Int) < (nb : Int) := by omega
     obtain ⟨hz, hy, ez, ey, lz, ly⟩ := Hb.out
     obtain ⟨b1, o1, u0, u1, rfl, gz1, r1, hone1, C1⟩ := el2_at hz (i := kk) (by omega)
     obtain ⟨b2, o2, v0, v1, rfl, gz2, r2, hone2, C2⟩ := el2_at hy (i := kk) (by omega)
     have hql : kk < c.binds.length := by rw [← ez, List.length_map]; omega
     have x1 : (zb[kk]'(by omega)).2 = c.binds[kk] := by simp only [← ez, List.getElem_map]
     have x2 : (yb[kk]'(by omega)).2 = c.binds[kk] := by simp only [← ey, List.getElem_map]
     rw [x1] at r1
     rw [x2] at r2
     have hmem : c.binds[kk] ∈ c.binds := List.getElem_mem _
     generalize c.binds[kk] = x at *
     injection r1 with r10 r11
     injection r11 with r11 _
     injection r2 with r20 r21
     injection r21 with r21 _
     subst r10 r11 r20 r21
     clear gz1 gz2 hone1 hone2 hz hy ez ey lz ly hql x1 x2 hmem
     go_upto_region 12 with fail
     refine rh (fun W => ScS w W #[.int .i64 c.now, .slice wq nq mq, .slice (some ⟨b1, o1, none⟩) nb mb, .slice ws ns ms, .slice wk nk mk, .slice wc nc mc] #[.int .i64 c.now, .slice dq nq tq, .slice (some ⟨b2, o2, none⟩) nb tb, .slice ds ns ts, .slice dk nk tk, .slice dc nc tc]) ?_
     have hS : ScS w (World.drew wr) #[.int .i64 c.now, .slice wq nq mq, .slice (some ⟨b1, o1, none⟩) nb mb, .slice ws ns ms, .slice wk nk mk, .slice wc nc mc] #[.int .i64 c.now, .slice dq nq tq, .slice (some ⟨b2, o2, none⟩) nb tb, .slice ds ns ts, .slice dk nk tk, .slice dc nc tc] := ⟨⟨HS.out.a.h⟩, ⟨HS.out.b.h⟩, HS.out.l.drew⟩
     clear HS
     generalize wr.drew = w4 at *
     refine tks [0, 1, 2, 3, 4, 5, 6, 7, 8, 9, 10] [.pointer (some ⟨w.heap.size, 2, none⟩), .slice (some ⟨b1, o1, none⟩) nb mb, .int .i64 kk, .pointer (some ⟨b1, o1 + kk * 2, none⟩), .agg #[tx x.queue, tx x.pat], .pointer (some ⟨w.heap.size + 1, 2, none⟩), .slice (some ⟨b2, o2, none⟩) nb tb, .int .i64 kk, .pointer (some ⟨b2, o2 + kk * 2, none⟩), .agg #[tx x.queue, tx x.pat], .bool false] 0 ?_ hS ?_
     ·simp only [tkY, tkf]
      refine ⟨.yes ?_, .yes ?_, .yes ?_, .yes ?_, .yes ?_, .yes ?_, .yes ?_, .yes ?_, .yes ?_, .yes ?_, .yes ?_, trivial⟩
      all_goals
       intro W' hW'
       have : W'.cell? ⟨w.heap.size, 2, none⟩ = some (.slice (some ⟨b1, o1, none⟩) nb mb) := hW'.a.cell 2
       obtain ⟨e0, e1⟩ := C1 W' hW'.l
       have : W'.cell? ⟨w.heap.size + 1, 2, none⟩ = some (.slice (some ⟨b2, o2, none⟩) nb tb) := hW'.b.cell 2
       obtain ⟨e0, e1⟩ := C2 W' hW'.l
       go_simp
     simp only [tkA, tkf]
     refine ad ?_
     have HS9 : Hid (ScS w w4 #[.int .i64 c.now, .slice wq nq mq, .slice (some ⟨b1, o1, none⟩) nb mb, .slice ws ns ms, .slice wk nk mk, .slice wc nc mc] #[.int .i64 c.now, .slice dq nq tq, .slice (some ⟨b2, o2, none⟩) nb tb, .slice ds ns ts, .slice dk nk tk, .slice dc nc tc]) := hS
     clear hS
     go_wp2_with fail
     go_roundg (nb - (kk + 1))
     case measure => omega
     case rel => exact ⟨kk + 1, by omega, by omega, by go_num, HS9.out⟩
    ·have hltz : ¬ (kk : Int) < (nb : Int) := by omega
     obtain ⟨c0, c1, c2, c3, c4, c5⟩ := HS.out.a.c6
     obtain ⟨d0, d1, d2, d3, d4, d5⟩ := HS.out.b.c6
     go_upto_region 16 with fail
     clear c0 c1 c2 c3 c4 c5 d0 d1 d2 d3 d4 d5 hltz hlt hkk hgg
     have S0 := HS
     clear HS
     go_loopg [7, 103] ns (fun gg _ s103 wr => ∃ kk : Nat, kk ≤ ns ∧ ns - kk ≤ gg ∧ s103 = .int .i64 kk ∧ Hid (ScS w wr #[.int .i64 c.now, .slice wq nq mq, .slice wb nb mb, .slice ws ns ms, .slice wk nk mk, .slice wc nc mc] #[.int .i64 c.now, .slice dq nq tq, .slice db nb tb, .slice ds ns ts, .slice dk nk tk, .slice dc nc tc]))
     case atStart => exact ⟨0, Nat.zero_le _, by omega, rfl, S0⟩
     case round =>
      obtain ⟨kk, hkk, hgg, rfl, HS⟩ := hrel
      clear S0
      obtain ⟨wr, hwr⟩ : ∃ W, W = wr := ⟨_, rfl⟩
      subst hwr
      by_cases hlt : kk < ns
      ·have hltz : (kk : Int) < (ns : Int) := by omega
       obtain ⟨hz, hy, ez, ey, lz, ly⟩ := Hs.out
       obtain ⟨b1, o1, u0, u1, u2, u3, u4, rfl, gz1, r1, hone1, C1⟩ := el5_at hz (i := kk) (by omega)
       obtain ⟨b2, o2, v0, v1, v2, v3, v4, rfl, gz2, r2, hone2, C2⟩ := el5_at hy (i := kk) (by omega)
       have hql : kk < c.subs.length := by rw [← ez, List.length_map]; omega
       have x1 : (zs[kk]'(by omega)).2 = c.subs[kk] := by simp only [← ez, List.getElem_map]
       have x2 : (ys[kk]'(by omega)).2 = c.subs[kk] := by simp only [← ey, List.getElem_map]
       rw [x1] at r1
       rw [x2] at r2
       have hmem : c.subs[kk] ∈ c.subs := List.getElem_mem _
       generalize c.subs[kk] = x at *
       obtain ⟨rfl, rfl, rfl, rfl, rfl⟩ : u0 = .int .i64 x.conn ∧ u1 = .int .i64 x.sub ∧ u2 = tx x.queue ∧ u3 = .int .i64 x.win ∧ u4 = .bool x.auto := by
        unfold SbR at r1
        simp only [List.cons.injEq, and_true] at r1
        exact r1
       obtain ⟨rfl, rfl, rfl, rfl, rfl⟩ : v0 = .int .i64 x.conn ∧ v1 = .int .i64 x.sub ∧ v2 = tx x.queue ∧ v3 = .int .i64 x.win ∧ v4 = .bool x.auto := by
        unfold SbR at r2
        simp only [List.cons.injEq, and_true] at r2
        exact r2
       clear r1 r2
       clear gz1 gz2 hone1 hone2 hz hy ez ey lz ly hql x1 x2 hmem
       go_upto_region 18 with fail
       refine rh (fun W => ScS w W #[.int .i64 c.now, .slice wq nq mq, .slice wb nb mb, .slice (some ⟨b1, o1, none⟩) ns ms, .slice wk nk mk, .slice wc nc mc] #[.int .i64 c.now, .slice dq nq tq, .slice db nb tb, .slice (some ⟨b2, o2, none⟩) ns ts, .slice dk nk tk, .slice dc nc tc]) ?_
       have hS : ScS w (World.drew wr) #[.int .i64 c.now, .slice wq nq mq, .slice wb nb mb, .slice (some ⟨b1, o1, none⟩) ns ms, .slice wk nk mk, .slice wc nc mc] #[.int .i64 c.now, .slice dq nq tq, .slice db nb tb, .slice (some ⟨b2, o2, none⟩) ns ts, .slice dk nk tk, .slice dc nc tc] := ⟨⟨HS.out.a.h⟩, ⟨HS.out.b.h⟩, HS.out.l.drew⟩
       clear HS
       generalize wr.drew = w4 at *
       refine tks [0, 1, 2, 3, 4, 5, 6, 7, 8, 9, 10] [.pointer (some ⟨w.heap.size, 3, none⟩), .slice (some ⟨b1, o1, none⟩) ns ms, .int .i64 kk, .pointer (some ⟨b1, o1 + kk * 5, none⟩), .agg #[.int .i64 x.conn, .int .i64 x.sub, tx x.queue, .int .i64 x.win, .bool x.auto], .pointer (some ⟨w.heap.size + 1, 3, none⟩), .slice (some ⟨b2, o2, none⟩) ns ts, .int .i64 kk, .pointer (some ⟨b2, o2 + kk * 5, none⟩), .agg #[.int .i64 x.conn, .int .i64 x.sub, tx x.queue, .int .i64 x.win, .bool x.auto], .bool false] 0 ?_ hS ?_
       ·simp only [tkY, tkf]
        refine ⟨.yes ?_, .yes ?_, .yes ?_, .yes ?_, .yes ?_, .yes ?_, .yes ?_, .yes ?_, .yes ?_, .yes ?_, .yes ?_, trivial⟩
        all_goals
         intro W' hW'
         have : W'.cell? ⟨w.heap.size, 3, none⟩ = some (.slice (some ⟨b1, o1, none⟩) ns ms) := hW'.a.cell 3
         obtain ⟨e0, e1, e2, e3, e4⟩ := C1 W' hW'.l
         have : W'.cell? ⟨w.heap.size + 1, 3, none⟩ = some (.slice (some ⟨b2, o2, none⟩) ns ts) := hW'.b.cell 3
         obtain ⟨e0, e1, e2, e3, e4⟩ := C2 W' hW'.l
         go_simp
       simp only [tkA, tkf]
       refine ad ?_
       have HS9 : Hid (ScS w w4 #[.int .i64 c.now, .slice wq nq mq, .slice wb nb mb, .slice (some ⟨b1, o1, none⟩) ns ms, .slice wk nk mk, .slice wc nc mc] #[.int .i64 c.now, .slice dq nq tq, .slice db nb tb, .slice (some ⟨b2, o2, none⟩) ns ts, .slice dk nk tk, .slice dc nc tc]) := hS
       clear hS
       go_wp2_with fail
       go_roundg (ns - (kk + 1))
       case measure => omega
       case rel => exact ⟨kk + 1, by omega, by omega, by go_num, HS9.out⟩
      ·have hltz : ¬ (kk : Int) < (ns : Int) := by omega
       obtain ⟨c0, c1, c2, c3, c4, c5⟩ := HS.out.a.c6
       obtain ⟨d0, d1, d2, d3, d4, d5⟩ := HS.out.b.c6
       go_upto_region 22 with fail
       clear c0 c1 c2 c3 c4 c5 d0 d1 d2 d3 d4 d5 hltz hlt hkk hgg
       have S0 := HS
       clear HS
       go_loopg [8, 121] nk (fun gg _ s121 wr => ∃ kk : Nat, kk ≤ nk ∧ nk - kk ≤ gg ∧ s121 = .int .i64 kk ∧ Hid (ScS w wr #[.int .i64 c.now, .slice wq nq mq, .slice wb nb mb, .slice ws ns ms, .slice wk nk mk, .slice wc nc mc] #[.int .i64 c.now, .slice dq nq tq, .slice db nb tb, .slice ds ns ts, .slice dk nk tk, .slice dc nc tc]))
       case atStart => exact ⟨0, Nat.zero_le _, by omega, rfl, S0⟩
       case round =>
        obtain ⟨kk, hkk, hgg, rfl, HS⟩ := hrel
        clear S0
        obtain ⟨wr, hwr⟩ : ∃ W, W = wr := ⟨_, rfl⟩
        subst hwr
        by_cases hlt : kk < nk
        ·have hltz : (kk : Int) < (nk : Int) := by omega
         obtain ⟨hz, hy, ez, ey, lz, ly⟩ := Hk.out
         obtain ⟨b1, o1, u0, u1, u2, u3, u4, rfl, gz1, r1, hone1, C1⟩ := el5_at hz (i := kk) (by omega)
         obtain ⟨b2, o2, v0, v1, v2, v3, v4, rfl, gz2, r2, hone2, C2⟩ := el5_at hy (i := kk) (by omega)
         have hql : kk < c.kept.length := by rw [← ez, List.length_map]; omega
         have x1 : (zk[kk]'(by omega)).2 = c.kept[kk] := by simp only [← ez, List.getElem_map]
         have x2 : (yk[kk]'(by omega)).2 = c.kept[kk] := by simp only [← ey, List.getElem_map]
         rw [x1] at r1
         rw [x2] at r2
         have hmem : c.kept[kk] ∈ c.kept := List.getElem_mem _
         have hpl : (c.kept[kk]).props.length ≤ 9223372036854775806 := by
          have h6 := HGC.out.kg _ hmem
          simp only [kepB, Bool.and_eq_true] at h6
          have := props16 h6.1
          omega
         generalize c.kept[kk] = x at *
         obtain ⟨p1, r1, hp1⟩ := r1
         obtain ⟨p2, r2, hp2⟩ := r2
         obtain ⟨rfl, rfl, rfl, rfl, rfl⟩ : u0 = tx x.topic ∧ u1 = tx x.body ∧ u2 = p1 ∧ u3 = .bool x.dur ∧ u4 = .int .i64 x.til := by
          unfold msgV at r1
          simp only [List.cons.injEq, and_true] at r1
          exact r1
         obtain ⟨rfl, rfl, rfl, rfl, rfl⟩ : v0 = tx x.topic ∧ v1 = tx x.body ∧ v2 = p2 ∧ v3 = .bool x.dur ∧ v4 = .int .i64 x.til := by
          unfold msgV at r2
          simp only [List.cons.injEq, and_true] at r2
          exact r2
         have HA := fun (W : World) (b : Bw w W) => sameMsg_same W x u2 v2 (hp1.on b) (hp2.on b) hpl
         unfold msgV at HA
         clear r1 r2 hp1 hp2 hpl
         clear gz1 gz2 hone1 hone2 hz hy ez ey lz ly hql x1 x2 hmem
         go_upto_region 24 with fail
         refine rh (fun W => ScS w W #[.int .i64 c.now, .slice wq nq mq, .slice wb nb mb, .slice ws ns ms, .slice (some ⟨b1, o1, none⟩) nk mk, .slice wc nc mc] #[.int .i64 c.now, .slice dq nq tq, .slice db nb tb, .slice ds ns ts, .slice (some ⟨b2, o2, none⟩) nk tk, .slice dc nc tc]) ?_
         have hS : ScS w (World.drew wr) #[.int .i64 c.now, .slice wq nq mq, .slice wb nb mb, .slice ws ns ms, .slice (some ⟨b1, o1, none⟩) nk mk, .slice wc nc mc] #[.int .i64 c.now, .slice dq nq tq, .slice db nb tb, .slice ds ns ts, .slice (some ⟨b2, o2, none⟩) nk tk, .slice dc nc tc] := ⟨⟨HS.out.a.h⟩, ⟨HS.out.b.h⟩, HS.out.l.drew⟩
         clear HS
         generalize wr.drew = w4 at *
         refine tks [0, 1, 2, 3, 4, 5, 6, 7, 8, 9] [.pointer (some ⟨w.heap.size, 4, none⟩), .slice (some ⟨b1, o1, none⟩) nk mk, .int .i64 kk, .pointer (some ⟨b1, o1 + kk * 5, none⟩), .agg #[tx x.topic, tx x.body, u2, .bool x.dur, .int .i64 x.til], .pointer (some ⟨w.heap.size + 1, 4, none⟩), .slice (some ⟨b2, o2, none⟩) nk tk, .int .i64 kk, .pointer (some ⟨b2, o2 + kk * 5, none⟩), .agg #[tx x.topic, tx x.body, v2, .bool x.dur, .int .i64 x.til]] 2 ?_ hS ?_
         ·simp only [tkY, tkf]
          refine ⟨.yes ?_, .yes ?_, .yes ?_, .yes ?_, .yes ?_, .yes ?_, .yes ?_, .yes ?_, .yes ?_, .yes ?_, trivial⟩
          all_goals
           intro W' hW'
           have : W'.cell? ⟨w.heap.size, 4, none⟩ = some (.slice (some ⟨b1, o1, none⟩) nk mk) := hW'.a.cell 4
           obtain ⟨e0, e1, e2, e3, e4⟩ := C1 W' hW'.l
           have : W'.cell? ⟨w.heap.size + 1, 4, none⟩ = some (.slice (some ⟨b2, o2, none⟩) nk tk) := hW'.b.cell 4
           obtain ⟨e0, e1, e2, e3, e4⟩ := C2 W' hW'.l
           go_simp
         simp only [tkA, tkf]
         refine ak 10 fun K hK => ?_
         go_simp
         refine (HA _ hS.l).mono ?_
         rintro e w6 ⟨rfl, b6⟩
         have hS6 := hS.on b6
         clear hS
         have hS := hS6
         clear hS6 b6
         show K _ _
         refine hK _ _ hS ?_
         clear hK K
         try simp only [tkf]
         refine tks [11] [.bool false] 0 ?_ hS ?_
         ·simp only [tkY, tkf]
          refine ⟨.yes ?_, trivial⟩
          all_goals
           intro W' hW'
           go_simp
         simp only [tkA, tkf]
         refine ad ?_
         have HS9 : Hid (ScS w w6 #[.int .i64 c.now, .slice wq nq mq, .slice wb nb mb, .slice ws ns ms, .slice (some ⟨b1, o1, none⟩) nk mk, .slice wc nc mc] #[.int .i64 c.now, .slice dq nq tq, .slice db nb tb, .slice ds ns ts, .slice (some ⟨b2, o2, none⟩) nk tk, .slice dc nc tc]) := hS
         clear hS
         go_wp2_with fail
         go_roundg (nk - (kk + 1))
         case measure => omega
         case rel => exact ⟨kk + 1, by omega, by omega, by go_num, HS9.out⟩
        ·have hltz : ¬ (kk : Int) < (nk : Int) := by omega
         obtain ⟨c0, c1, c2, c3, c4, c5⟩ := HS.out.a.c6
         obtain ⟨d0, d1, d2, d3, d4, d5⟩ := HS.out.b.c6
         go_upto_region 28 with fail
         clear c0 c1 c2 c3 c4 c5 d0 d1 d2 d3 d4 d5 hltz hlt hkk hgg
         have S0 := HS
         clear HS
         go_loopg [9, 140] nc (fun gg _ s140 wr => ∃ kk : Nat, kk ≤ nc ∧ nc - kk ≤ gg ∧ s140 = .int .i64 kk ∧ Hid (ScS w wr #[.int .i64 c.now, .slice wq nq mq, .slice wb nb mb, .slice ws ns ms, .slice wk nk mk, .slice wc nc mc] #[.int .i64 c.now, .slice dq nq tq, .slice db nb tb, .slice ds ns ts, .slice dk nk tk, .slice dc nc tc]))
         case atStart => exact ⟨0, Nat.zero_le _, by omega, rfl, S0⟩
         case round =>
          obtain ⟨kk, hkk, hgg, rfl, HS⟩ := hrel
          clear S0
          obtain ⟨wr, hwr⟩ : ∃ W, W = wr := ⟨_, rfl⟩
          subst hwr
          by_cases hlt : kk < nc
          ·have hltz : (kk : Int) < (nc : Int) := by omega
           obtain ⟨hz, hy, ez, ey, lz, ly⟩ := Hc.out
           obtain ⟨b1, o1, u0, u1, rfl, gz1, r1, hone1, C1⟩ := el2_at hz (i := kk) (by omega)
           obtain ⟨b2, o2, v0, v1, rfl, gz2, r2, hone2, C2⟩ := el2_at hy (i := kk) (by omega)
           have hql : kk < c.clients.length := by rw [← ez, List.length_map]; omega
           have x1 : (zc[kk]'(by omega)).2 = c.clients[kk] := by simp only [← ez, List.getElem_map]
           have x2 : (yc[kk]'(by omega)).2 = c.clients[kk] := by simp only [← ey, List.getElem_map]
           rw [x1] at r1
           rw [x2] at r2
           have hmem : c.clients[kk] ∈ c.clients := List.getElem_mem _
           have hpk : (c.clients[kk]).packets.length ≤ 1000 := by
            have := (cliB_parts.1 (HGC.out.cg _ hmem)).2.2.1
            omega
           generalize c.clients[kk] = x at *
           obtain ⟨n1, r1, zp, ep, hzp⟩ := r1
           obtain ⟨n2, r2, yp, fp, hyp⟩ := r2
           obtain ⟨wp, mp, ew⟩ := hzp.len
           obtain ⟨dp, tp, ed⟩ := hyp.len
           obtain ⟨np, enp⟩ : ∃ n, x.packets.length = n := ⟨_, rfl⟩
           have lzp : zp.length = np := by rw [← enp, ← ep, List.length_map]
           have lyp : yp.length = np := by rw [← enp, ← fp, List.length_map]
           rw [lzp] at ew
           rw [lyp] at ed
           subst ew ed
           obtain ⟨rfl, rfl⟩ : u0 = tx x.name ∧ u1 = .slice wp np mp := by
            simp only [List.cons.injEq, and_true] at r1
            exact r1
           obtain ⟨rfl, rfl⟩ : v0 = tx x.name ∧ v1 = .slice dp np tp := by
            simp only [List.cons.injEq, and_true] at r2
            exact r2
           have HP : Hid (RdZ 1 NuR w (.slice wp np mp) zp ∧ RdZ 1 NuR w (.slice dp np tp) yp ∧ zp.map (·.2) = x.packets ∧ yp.map (·.2) = x.packets ∧ zp.length = np ∧ yp.length = np) := ⟨hzp, hyp, ep, fp, lzp, lyp⟩
           have bp : np ≤ 1000 := by omega
           clear r1 r2 hzp hyp ep fp lzp lyp enp hpk gz1 gz2 hone1 hone2 hz hy ez ey lz ly hql x1 x2 hmem
           go_upto_region 30 with fail
           go_cut [10, 11] (fun s10 s11 wX => ∃ g10 g11 : Nat, s10 = .pointer (some ⟨g10, 0, none⟩) ∧ s11 = .pointer (some ⟨g11, 0, none⟩) ∧ Hid ((ScS w wX #[.int .i64 c.now, .slice wq nq mq, .slice wb nb mb, .slice ws ns ms, .slice wk nk mk, .slice (some ⟨b1, o1, none⟩) nc mc] #[.int .i64 c.now, .slice dq nq tq, .slice db nb tb, .slice ds ns ts, .slice dk nk tk, .slice (some ⟨b2, o2, none⟩) nc tc]) ∧ Blk wX g10 #[tx x.name, .slice wp np mp] 88 ∧ Blk wX g11 #[tx x.name, .slice dp np tp] 88))
           case first =>
            refine rh (fun W => ScS w W #[.int .i64 c.now, .slice wq nq mq, .slice wb nb mb, .slice ws ns ms, .slice wk nk mk, .slice (some ⟨b1, o1, none⟩) nc mc] #[.int .i64 c.now, .slice dq nq tq, .slice db nb tb, .slice ds ns ts, .slice dk nk tk, .slice (some ⟨b2, o2, none⟩) nc tc]) ?_
            have hS : ScS w (World.drew wr) #[.int .i64 c.now, .slice wq nq mq, .slice wb nb mb, .slice ws ns ms, .slice wk nk mk, .slice (some ⟨b1, o1, none⟩) nc mc] #[.int .i64 c.now, .slice dq nq tq, .slice db nb tb, .slice ds ns ts, .slice dk nk tk, .slice (some ⟨b2, o2, none⟩) nc tc] := ⟨⟨HS.out.a.h⟩, ⟨HS.out.b.h⟩, HS.out.l.drew⟩
            clear HS
            generalize wr.drew = w4 at *
            refine tks [0, 1, 2, 3, 4, 5, 6, 7, 8, 9] [.pointer (some ⟨w.heap.size, 5, none⟩), .slice (some ⟨b1, o1, none⟩) nc mc, .int .i64 kk, .pointer (some ⟨b1, o1 + kk * 2, none⟩), .agg #[tx x.name, .slice wp np mp], .pointer (some ⟨w.heap.size + 1, 5, none⟩), .slice (some ⟨b2, o2, none⟩) nc tc, .int .i64 kk, .pointer (some ⟨b2, o2 + kk * 2, none⟩), .agg #[tx x.name, .slice dp np tp]] 4 ?_ hS ?_
            ·simp only [tkY, tkf]
             refine ⟨.yes ?_, .yes ?_, .yes ?_, .yes ?_, .yes ?_, .yes ?_, .yes ?_, .yes ?_, .yes ?_, .yes ?_, trivial⟩
             all_goals
              intro W' hW'
              have : W'.cell? ⟨w.heap.size, 5, none⟩ = some (.slice (some ⟨b1, o1, none⟩) nc mc) := hW'.a.cell 5
              obtain ⟨e0, e1⟩ := C1 W' hW'.l
              have : W'.cell? ⟨w.heap.size + 1, 5, none⟩ = some (.slice (some ⟨b2, o2, none⟩) nc tc) := hW'.b.cell 5
              obtain ⟨e0, e1⟩ := C2 W' hW'.l
              go_simp
            simp only [tkA, tkf]
            have kA := (Blk.new w4 #[.string ⟨#[]⟩, .slice none 0 0] 88).alloc (.cells #[.string ⟨#[]⟩, .slice none 0 0] 88)
            have kB : Blk ((w4.alloc (.cells #[.string ⟨#[]⟩, .slice none 0 0] 88)).alloc (.cells #[.string ⟨#[]⟩, .slice none 0 0] 88)) (w4.heap.size + 1) #[.string ⟨#[]⟩, .slice none 0 0] 88 := by
             have h := Blk.new (w4.alloc (.cells #[.string ⟨#[]⟩, .slice none 0 0] 88)) #[.string ⟨#[]⟩, .slice none 0 0] 88
             rw [World.size_alloc] at h
             exact h
            have ba := (Below.refl w4.heap.size w4).alloc (Nat.le_refl _) (.cells #[.string ⟨#[]⟩, .slice none 0 0] 88)
            have bb := ba.alloc (by simp) (.cells #[.string ⟨#[]⟩, .slice none 0 0] 88)
            have hA := hS.on ba
            have hB := hS.on bb
            have hlo : w.heap.size ≤ w4.heap.size := hS.l.size
            refine wpAnyH_two (i := 10) (j := 11) (by kernel_rfl) rfl rfl (by rfl) (by rfl) (fun K hK => ?_) (fun K hK => ?_)
            ·go_simp
             refine hK _ _ hA ?_
             clear hK K
             try simp only [tkf]
             refine ak 11 fun K hK => ?_
             go_simp
             refine hK _ _ hB ?_
             clear hK K
             try simp only [tkf]
             generalize (w4.alloc (.cells #[.string ⟨#[]⟩, .slice none 0 0] 88)).alloc (.cells #[.string ⟨#[]⟩, .slice none 0 0] 88) = w5 at *
             refine ak 12 fun K hK => ?_
             refine opw_putAt (.tmp 10) (.tmp 147) rfl (w4.heap.size) 0 #[tx x.name, .slice wp np mp] rfl ?_ kA (by kernel_rfl) (by simp) (by simp [show (tx x.name).oneCell' = true from rfl, Value.oneCell']) ?_
             ·skip
              simp only [Act.eval, Act.put]
              rfl
             intro w6 k6 g6 s6
             have hS6 : ScS w w6 #[.int .i64 c.now, .slice wq nq mq, .slice wb nb mb, .slice ws ns ms, .slice wk nk mk, .slice (some ⟨b1, o1, none⟩) nc mc] #[.int .i64 c.now, .slice dq nq tq, .slice db nb tb, .slice ds ns ts, .slice dk nk tk, .slice (some ⟨b2, o2, none⟩) nc tc] := ⟨hB.a.kt (kt_grown kA g6 (by decide)), hB.b.kt (kt_grown kA g6 (by decide)), hB.l.grown g6 hB.l.size (fun k hk => by injection hk with hk; omega)⟩
             have k11 := kB.grown g6 (by simp)
             refine hK _ _ hS6 ?_
             clear hK K
             try simp only [tkf]
             refine ak 13 fun K hK => ?_
             refine opw_putAt (.tmp 11) (.tmp 152) rfl (w4.heap.size + 1) 0 #[tx x.name, .slice dp np tp] rfl ?_ k11 (by kernel_rfl) (by simp) (by simp [show (tx x.name).oneCell' = true from rfl, Value.oneCell']) ?_
             ·skip
              simp only [Act.eval, Act.put]
              rfl
             intro w7 k7 g7 s7
             have hS7 : ScS w w7 #[.int .i64 c.now, .slice wq nq mq, .slice wb nb mb, .slice ws ns ms, .slice wk nk mk, .slice (some ⟨b1, o1, none⟩) nc mc] #[.int .i64 c.now, .slice dq nq tq, .slice db nb tb, .slice ds ns ts, .slice dk nk tk, .slice (some ⟨b2, o2, none⟩) nc tc] := ⟨hS6.a.kt (kt_grown k11 g7 (by decide)), hS6.b.kt (kt_grown k11 g7 (by decide)), hS6.l.grown g7 hS6.l.size (fun k hk => by injection hk with hk; omega)⟩
             have k10 := k6.grown g7 (by simp)
             refine hK _ _ hS7 ?_
             clear hK K
             try simp only [tkf]
             refine ad ?_
             go_wp2_with fail
             go_meet
             exact ⟨_, _, rfl, rfl, hS7, by simpa using k10, by simpa using k7⟩
            ·go_simp
             refine hK _ _ hA ?_
             clear hK K
             try simp only [tkf]
             refine ak 10 fun K hK => ?_
             go_simp
             refine hK _ _ hB ?_
             clear hK K
             try simp only [tkf]
             generalize (w4.alloc (.cells #[.string ⟨#[]⟩, .slice none 0 0] 88)).alloc (.cells #[.string ⟨#[]⟩, .slice none 0 0] 88) = w5 at *
             refine ak 12 fun K hK => ?_
             refine opw_putAt (.tmp 10) (.tmp 147) rfl (w4.heap.size + 1) 0 #[tx x.name, .slice wp np mp] rfl ?_ kB (by kernel_rfl) (by simp) (by simp [show (tx x.name).oneCell' = true from rfl, Value.oneCell']) ?_
             ·skip
              simp only [Act.eval, Act.put]
              rfl
             intro w6 k6 g6 s6
             have hS6 : ScS w w6 #[.int .i64 c.now, .slice wq nq mq, .slice wb nb mb, .slice ws ns ms, .slice wk nk mk, .slice (some ⟨b1, o1, none⟩) nc mc] #[.int .i64 c.now, .slice dq nq tq, .slice db nb tb, .slice ds ns ts, .slice dk nk tk, .slice (some ⟨b2, o2, none⟩) nc tc] := ⟨hB.a.kt (kt_grown kB g6 (by decide)), hB.b.kt (kt_grown kB g6 (by decide)), hB.l.grown g6 hB.l.size (fun k hk => by injection hk with hk; omega)⟩
             have k11 := kA.grown g6 (by simp)
             refine hK _ _ hS6 ?_
             clear hK K
             try simp only [tkf]
             refine ak 13 fun K hK => ?_
             refine opw_putAt (.tmp 11) (.tmp 152) rfl (w4.heap.size) 0 #[tx x.name, .slice dp np tp] rfl ?_ k11 (by kernel_rfl) (by simp) (by simp [show (tx x.name).oneCell' = true from rfl, Value.oneCell']) ?_
             ·skip
              simp only [Act.eval, Act.put]
              rfl
             intro w7 k7 g7 s7
             have hS7 : ScS w w7 #[.int .i64 c.now, .slice wq nq mq, .slice wb nb mb, .slice ws ns ms, .slice wk nk mk, .slice (some ⟨b1, o1, none⟩) nc mc] #[.int .i64 c.now, .slice dq nq tq, .slice db nb tb, .slice ds ns ts, .slice dk nk tk, .slice (some ⟨b2, o2, none⟩) nc tc] := ⟨hS6.a.kt (kt_grown k11 g7 (by decide)), hS6.b.kt (kt_grown k11 g7 (by decide)), hS6.l.grown g7 hS6.l.size (fun k hk => by injection hk with hk; omega)⟩
             have k10 := k6.grown g7 (by simp)
             refine hK _ _ hS7 ?_
             clear hK K
             try simp only [tkf]
             refine ad ?_
             go_wp2_with fail
             go_meet
             exact ⟨_, _, rfl, rfl, hS7, by simpa using k10, by simpa using k7⟩
           case rest =>
            obtain ⟨g10, g11, rfl, rfl, HU⟩ := hcut
            clear HS C1 C2
            obtain ⟨c0, c1⟩ := HU.out.2.1.c2
            obtain ⟨d0, d1⟩ := HU.out.2.2.c2
            go_upto_region 34 with fail
            clear c0 c1 d0 d1
            go_loopg [12, 170] np (fun gg _ s170 wr => ∃ jj : Nat, jj ≤ np ∧ np - jj ≤ gg ∧ s170 = .int .i64 jj ∧ Hid ((ScS w wr #[.int .i64 c.now, .slice wq nq mq, .slice wb nb mb, .slice ws ns ms, .slice wk nk mk, .slice (some ⟨b1, o1, none⟩) nc mc] #[.int .i64 c.now, .slice dq nq tq, .slice db nb tb, .slice ds ns ts, .slice dk nk tk, .slice (some ⟨b2, o2, none⟩) nc tc]) ∧ Blk wr g10 #[tx x.name, .slice wp np mp] 88 ∧ Blk wr g11 #[tx x.name, .slice dp np tp] 88))
            case atStart => exact ⟨0, Nat.zero_le _, by omega, rfl, HU⟩
            case round =>
             obtain ⟨jj, hjj, hg2, rfl, HT⟩ := hrel
             clear HU
             obtain ⟨wt, hwt⟩ : ∃ W, W = wr := ⟨_, rfl⟩
             subst hwt
             by_cases hl2 : jj < np
             ·have hl2z : (jj : Int) < (np : Int) := by omega
              obtain ⟨hz, hy, ez, ey, lz, ly⟩ := HP.out
              obtain ⟨b3, o3, u0, rfl, gz1, r1, hone1, D1⟩ := el1_at hz (i := jj) (by omega)
              obtain ⟨b4, o4, v0, rfl, gz2, r2, hone2, D2⟩ := el1_at hy (i := jj) (by omega)
              have hql : jj < x.packets.length := by rw [← ez, List.length_map]; omega
              have x1 : (zp[jj]'(by omega)).2 = x.packets[jj] := by simp only [← ez, List.getElem_map]
              have x2 : (yp[jj]'(by omega)).2 = x.packets[jj] := by simp only [← ey, List.getElem_map]
              rw [x1] at r1
              rw [x2] at r2
              generalize x.packets[jj] = y at *
              injection r1 with r1 _
              injection r2 with r2 _
              subst r1 r2
              clear gz1 gz2 hone1 hone2 hz hy ez ey lz ly hql x1 x2
              go_upto_region 36 with fail
              refine rh (fun W => (ScS w W #[.int .i64 c.now, .slice wq nq mq, .slice wb nb mb, .slice ws ns ms, .slice wk nk mk, .slice (some ⟨b1, o1, none⟩) nc mc] #[.int .i64 c.now, .slice dq nq tq, .slice db nb tb, .slice ds ns ts, .slice dk nk tk, .slice (some ⟨b2, o2, none⟩) nc tc]) ∧ Blk W g10 #[tx x.name, .slice (some ⟨b3, o3, none⟩) np mp] 88 ∧ Blk W g11 #[tx x.name, .slice (some ⟨b4, o4, none⟩) np tp] 88) ?_
              have hS : (ScS w (World.drew wt) #[.int .i64 c.now, .slice wq nq mq, .slice wb nb mb, .slice ws ns ms, .slice wk nk mk, .slice (some ⟨b1, o1, none⟩) nc mc] #[.int .i64 c.now, .slice dq nq tq, .slice db nb tb, .slice ds ns ts, .slice dk nk tk, .slice (some ⟨b2, o2, none⟩) nc tc]) ∧ Blk (World.drew wt) g10 #[tx x.name, .slice (some ⟨b3, o3, none⟩) np mp] 88 ∧ Blk (World.drew wt) g11 #[tx x.name, .slice (some ⟨b4, o4, none⟩) np tp] 88 := ⟨⟨⟨HT.out.1.a.h⟩, ⟨HT.out.1.b.h⟩, HT.out.1.l.drew⟩, ⟨HT.out.2.1.h⟩, ⟨HT.out.2.2.h⟩⟩
              clear HT
              generalize wt.drew = w8 at *
              refine tks [0, 1, 2, 3, 4, 5, 6, 7, 8, 9, 10] [.pointer (some ⟨g10, 1, none⟩), .slice (some ⟨b3, o3, none⟩) np mp, .int .i64 jj, .pointer (some ⟨b3, o3 + jj, none⟩), .int .i64 y, .pointer (some ⟨g11, 1, none⟩), .slice (some ⟨b4, o4, none⟩) np tp, .int .i64 jj, .pointer (some ⟨b4, o4 + jj, none⟩), .int .i64 y, .bool false] 0 ?_ hS ?_
              ·simp only [tkY, tkf]
               refine ⟨.yes ?_, .yes ?_, .yes ?_, .yes ?_, .yes ?_, .yes ?_, .yes ?_, .yes ?_, .yes ?_, .yes ?_, .yes ?_, trivial⟩
               all_goals
                intro W' hW'
                have := hW'.2.1.ce 1
                have := D1 W' hW'.1.l
                have := hW'.2.2.ce 1
                have := D2 W' hW'.1.l
                go_simp
              simp only [tkA, tkf]
              refine ad ?_
              have HS9 : Hid ((ScS w w8 #[.int .i64 c.now, .slice wq nq mq, .slice wb nb mb, .slice ws ns ms, .slice wk nk mk, .slice (some ⟨b1, o1, none⟩) nc mc] #[.int .i64 c.now, .slice dq nq tq, .slice db nb tb, .slice ds ns ts, .slice dk nk tk, .slice (some ⟨b2, o2, none⟩) nc tc]) ∧ Blk w8 g10 #[tx x.name, .slice (some ⟨b3, o3, none⟩) np mp] 88 ∧ Blk w8 g11 #[tx x.name, .slice (some ⟨b4, o4, none⟩) np tp] 88) := hS
              clear hS D1 D2
              go_wp2_with fail
              go_roundg (np - (jj + 1))
              case measure => omega
              case rel => exact ⟨jj + 1, by omega, by omega, by go_num, HS9.out⟩
             ·have hl2z : ¬ (jj : Int) < (np : Int) := by omega
              have HS9 : Hid (ScS w wt #[.int .i64 c.now, .slice wq nq mq, .slice wb nb mb, .slice ws ns ms, .slice wk nk mk, .slice (some ⟨b1, o1, none⟩) nc mc] #[.int .i64 c.now, .slice dq nq tq, .slice db nb tb, .slice ds ns ts, .slice dk nk tk, .slice (some ⟨b2, o2, none⟩) nc tc]) := HT.out.1
              clear HT
              go_wp2_with fail
              go_roundg (nc - (kk + 1))
              case measure => omega
              case rel => exact ⟨kk + 1, by omega, by omega, by go_num, HS9.out⟩
          ·have hltz : ¬ (kk : Int) < (nc : Int) := by omega
           obtain ⟨c0, c1, c2, c3, c4, c5⟩ := HS.out.a.c6
           obtain ⟨d0, d1, d2, d3, d4, d5⟩ := HS.out.b.c6
           go_wp2_with fail
           go_ret
           exact ⟨rfl, HS.out.l⟩
end Go.Proofs.YtnpikgakpmkipabGreatDoor
