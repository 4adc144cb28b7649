/- What the document's Same answers of two queues that are the same: true. Conditions: those that each row states. -/
import Derived.Test.YtnpikgakpmkipabGreatDoorZ04
import Derived.Test.YtnpikgakpmkipabGreatDoorZ03
import Derived.Test.YtnpikgakpmkipabGreatDoorZ11
import Derived.Test.YtnpikgakpmkipabGreatDoorZ07
import Derived.BigRegion
import Derived.Deep.DeepCutAuto
import Derived.Test.YtnpikgakpmkipabGreatDoorZ05
import Derived.Test.YtnpikgakpmkipabGreatDoorZ08
namespace Go.Proofs.YtnpikgakpmkipabGreatDoor
open Go.RowKit Go.Lib
set_option maxRecDepth 100000
set_option linter.unusedSimpArgs false
def ItC (w : World) (b o : Nat) (x : Itm) (pv : Value) : Prop := ∀ W, Bw w W → W.cell? ⟨b, o, none⟩ = some (.int .i64 x.seq) ∧ W.cell? ⟨b, o + 1, none⟩ = some (.bool x.again) ∧ W.cell? ⟨b, o + 2, none⟩ = some (tx x.msg.topic) ∧ W.cell? ⟨b, o + 3, none⟩ = some (tx x.msg.body) ∧ W.cell? ⟨b, o + 4, none⟩ = some pv ∧ W.cell? ⟨b, o + 5, none⟩ = some (.bool x.msg.dur) ∧ W.cell? ⟨b, o + 6, none⟩ = some (.int .i64 x.msg.til)
theorem itc_at {w : World} {a : Option Addr} {n c : Nat} {zs : Zs Itm} (h : RdZ 7 (ItR (RdP w)) w (.slice a n c) zs) {i : Nat} (hi : i < zs.length) :
  ∃ b o pv, a = some ⟨b, o, none⟩ ∧ RdP w pv (zs[i]).2.msg.props ∧ ItC w b (o + i * 7) (zs[i]).2 pv := by
 obtain ⟨b, o, pv, e, _, hp, c0, c1, c2, c3, c4, c5, c6⟩ := itm_at h (Below.refl _ w) hi
 have k : ∀ {ad : Addr} {u : Value}, w.cell? ad = some u → ∀ W, Bw w W → W.cell? ad = some u := fun hc W hb => (hb.cell (World.block_lt_of_cell? w _ hc)).trans hc
 exact ⟨b, o, pv, e, hp, fun W hb => ⟨k c0 W hb, k c1 W hb, k c2 W hb, k c3 W hb, k c4 W hb, k c5 W hb, k c6 W hb⟩⟩
def HeC (w : World) (b o : Nat) (x : Hld) (pv : Value) : Prop := ∀ W, Bw w W → W.cell? ⟨b, o, none⟩ = some (.int .i64 x.tag) ∧ W.cell? ⟨b, o + 1, none⟩ = some (.int .i64 x.conn) ∧ W.cell? ⟨b, o + 2, none⟩ = some (.int .i64 x.sub) ∧ W.cell? ⟨b, o + 3, none⟩ = some (.int .i64 x.itm.seq) ∧ W.cell? ⟨b, o + 4, none⟩ = some (.bool x.itm.again) ∧ W.cell? ⟨b, o + 5, none⟩ = some (tx x.itm.msg.topic) ∧ W.cell? ⟨b, o + 6, none⟩ = some (tx x.itm.msg.body) ∧ W.cell? ⟨b, o + 7, none⟩ = some (pv) ∧ W.cell? ⟨b, o + 8, none⟩ = some (.bool x.itm.msg.dur) ∧ W.cell? ⟨b, o + 9, none⟩ = some (.int .i64 x.itm.msg.til)
theorem hec_at {w : World} {a : Option Addr} {n c : Nat} {zs : Zs Hld} (h : RdZ 10 (HeR (RdP w)) w (.slice a n c) zs) {i : Nat} (hi : i < zs.length) :
  ∃ b o pv, a = some ⟨b, o, none⟩ ∧ RdP w pv (zs[i]).2.itm.msg.props ∧ HeC w b (o + i * 10) (zs[i]).2 pv := by
 obtain ⟨b, o, pv, e, _, hp, c0, c1, c2, c3, c4, c5, c6, c7, c8, c9⟩ := hld_at h (Below.refl _ w) hi
 have k : ∀ {ad : Addr} {u : Value}, w.cell? ad = some u → ∀ W, Bw w W → W.cell? ad = some u := fun hc W hb => (hb.cell (World.block_lt_of_cell? w _ hc)).trans hc
 exact ⟨b, o, pv, e, hp, fun W hb => ⟨k c0 W hb, k c1 W hb, k c2 W hb, k c3 W hb, k c4 W hb, k c5 W hb, k c6 W hb, k c7 W hb, k c8 W hb, k c9 W hb⟩⟩
structure SaS (w W : World) (qs rs : Array Value) : Prop where
 a : Blk W w.heap.size qs 82
 b : Blk W (w.heap.size + 1) rs 82
 l : Bw w W
theorem SaS.on {w W W' : World} {qs rs : Array Value} (h : SaS w W qs rs) (hb : Bw W W') : SaS w W' qs rs := ⟨h.a.on hb, h.b.on hb, nxt h.l hb⟩
theorem SaS.start (w : World) (qs rs : Array Value) : SaS w ((w.alloc (.cells qs 82)).alloc (.cells rs 82)) qs rs := by
 refine ⟨(Blk.new _ _ _).alloc _, ?_, ((Below.refl _ w).alloc (Nat.le_refl _) _).alloc (by simp) _⟩
 have := Blk.new (w.alloc (.cells qs 82)) rs 82
 rwa [World.size_alloc] at this
set_option maxHeartbeats 4000000 in
theorem same_same (w : World) (v u : Value) (q : Que) (h : RdQ w v q) (h' : RdQ w u q) (hq : Small q) :
  Calls Tryz.prog 36 #[v, u] w fun e w' => e = .returned (.bool true) ∧ Bw w w' := by
 obtain ⟨i1, h1, rfl, ⟨zi, ei, hi⟩, ⟨zh, eh, hh⟩⟩ := h
 obtain ⟨i2, h2, rfl, ⟨yi, fi, gi⟩, ⟨yh, fh, gh⟩⟩ := h'
 obtain ⟨ai, ci, rfl⟩ := hi.len
 obtain ⟨ah, ch, rfl⟩ := hh.len
 obtain ⟨bi, di, rfl⟩ := gi.len
 obtain ⟨bh, dh, rfl⟩ := gh.len
 obtain ⟨ni, hni⟩ : ∃ n, q.items.length = n := ⟨_, rfl⟩
 obtain ⟨nh, hnh⟩ : ∃ n, q.held.length = n := ⟨_, rfl⟩
 have l1 : zi.length = ni := by rw [← hni, ← ei, List.length_map]
 have l2 : yi.length = ni := by rw [← hni, ← fi, List.length_map]
 have l3 : zh.length = nh := by rw [← hnh, ← eh, List.length_map]
 have l4 : yh.length = nh := by rw [← hnh, ← fh, List.length_map]
 rw [l1] at hi ⊢
 rw [l2] at gi ⊢
 rw [l3] at hh ⊢
 rw [l4] at gh ⊢
 have HI : Hid (RdZ 7 (ItR (RdP w)) w (.slice ai ni ci) zi ∧ RdZ 7 (ItR (RdP w)) w (.slice bi ni di) yi ∧ zi.map (·.2) = q.items ∧ yi.map (·.2) = q.items ∧ zi.length = ni ∧ yi.length = ni) := ⟨hi, gi, ei, fi, l1, l2⟩
 have HH : Hid (RdZ 10 (HeR (RdP w)) w (.slice ah nh ch) zh ∧ RdZ 10 (HeR (RdP w)) w (.slice bh nh dh) yh ∧ zh.map (·.2) = q.held ∧ yh.map (·.2) = q.held ∧ zh.length = nh ∧ yh.length = nh) := ⟨hh, gh, eh, fh, l3, l4⟩
 have hl1 : ni ≤ 1000 := by have := hq.items; omega
 have hl2 : nh ≤ 1000 := by have := hq.held; omega
 clear hi gi ei fi l1 l2 hh gh eh fh l3 l4 hni hnh
 have S0 : Hid (SaS w ((w.alloc (.cells (quA q (.slice ai ni ci) (.slice ah nh ch)) 82)).alloc (.cells (quA q (.slice bi ni di) (.slice bh nh dh)) 82)) (quA q (.slice ai ni ci) (.slice ah nh ch)) (quA q (.slice bi ni di) (.slice bh nh dh))) := SaS.start ..
 unfold queV at *
 go_enter Tryz.func36, Tryz.ntmps36
 go_upto_region 1 with fail
 generalize (w.alloc (.cells (quA q (.slice ai ni ci) (.slice ah nh ch)) 82)).alloc (.cells (quA q (.slice bi ni di) (.slice bh nh dh)) 82) = w1 at *
 obtain ⟨c0, c1, c2, c3, c4, c5, c6⟩ := S0.out.a.c7
 obtain ⟨d0, d1, d2, d3, d4, d5, d6⟩ := S0.out.b.c7
 go_wp2_with fail
 clear c0 c1 c2 c3 c4 c5 c6 d0 d1 d2 d3 d4 d5 d6
 go_loopg [5, 63] ni (fun gg _ s63 wr => ∃ kk : Nat, kk ≤ ni ∧ ni - kk ≤ gg ∧ s63 = .int .i64 kk ∧ Hid (SaS w wr (quA q (.slice ai ni ci) (.slice ah nh ch)) (quA q (.slice bi ni di) (.slice bh nh dh))))
 case atStart => exact ⟨0, Nat.zero_le _, by omega, rfl, S0⟩
 case round =>
  obtain ⟨kk, hkk, hg, rfl, HS⟩ := hrel
  clear S0
  obtain ⟨wr, hwr⟩ : ∃ W, W = wr := ⟨_, rfl⟩
  subst hwr
  by_cases hlt : kk < ni
  ·have hltz : (kk : Int) < (ni : Int) := by omega
   obtain ⟨hi, gi, ei, fi, l1, l2⟩ := HI.out
   obtain ⟨b1, o1, p1, rfl, hp1, C1⟩ := itc_at hi (i := kk) (by omega)
   obtain ⟨b2, o2, p2, rfl, hp2, C2⟩ := itc_at gi (i := kk) (by omega)
   have hql : kk < q.items.length := by rw [← ei, List.length_map]; omega
   have x1 : (zi[kk]'(by omega)).2 = q.items[kk] := by simp only [← ei, List.getElem_map]
   have x2 : (yi[kk]'(by omega)).2 = q.items[kk] := by simp only [← fi, List.getElem_map]
   rw [x1] at hp1 C1
   rw [x2] at hp2 C2
   have hpl : (q.items[kk]).msg.props.length ≤ 2513169434916 := hq.ip _ (List.getElem_mem _)
   generalize q.items[kk] = x at *
   have HC : Hid (ItC w b1 (o1 + kk * 7) x p1 ∧ ItC w b2 (o2 + kk * 7) x p2) := ⟨C1, C2⟩
   obtain ⟨pa1, pc1, rfl⟩ := hp1.shape
   obtain ⟨pa2, pc2, rfl⟩ := hp2.shape
   have HA := fun (W : World) (b : Bw w W) => sameItem_same W x _ _ (hp1.on b) (hp2.on b) (by omega)
   unfold itmV at HA
   clear hi gi ei fi l1 l2 hql x1 x2 hp1 hp2 C1 C2 hpl
   go_upto_region 6 with fail
   refine rh (fun W => SaS w W (quA q (.slice (some ⟨b1, o1, none⟩) ni ci) (.slice ah nh ch)) (quA q (.slice (some ⟨b2, o2, none⟩) ni di) (.slice bh nh dh))) ?_
   have hS : SaS w wr.drew (quA q (.slice (some ⟨b1, o1, none⟩) ni ci) (.slice ah nh ch)) (quA q (.slice (some ⟨b2, o2, none⟩) ni di) (.slice bh nh dh)) := ⟨⟨HS.out.a.h⟩, ⟨HS.out.b.h⟩, HS.out.l.drew⟩
   clear HS
   generalize wr.drew = w4 at *
   refine tks [0, 1, 2, 3, 4, 5, 6, 7, 8, 9] [.pointer (some ⟨w.heap.size, 5, none⟩), .slice (some ⟨b1, o1, none⟩) ni ci, .int .i64 kk, .pointer (some ⟨b1, o1 + kk * 7, none⟩), .agg #[.int .i64 x.seq, .bool x.again, tx x.msg.topic, tx x.msg.body, .slice pa1 x.msg.props.length pc1, .bool x.msg.dur, .int .i64 x.msg.til], .pointer (some ⟨w.heap.size + 1, 5, none⟩), .slice (some ⟨b2, o2, none⟩) ni di, .int .i64 kk, .pointer (some ⟨b2, o2 + kk * 7, none⟩), .agg #[.int .i64 x.seq, .bool x.again, tx x.msg.topic, tx x.msg.body, .slice pa2 x.msg.props.length pc2, .bool x.msg.dur, .int .i64 x.msg.til]] 2 ?_ hS ?_
   ·simp only [tkY, tkf]
    refine ⟨.yes ?_, .yes ?_, .yes ?_, .yes ?_, .yes ?_, .yes ?_, .yes ?_, .yes ?_, .yes ?_, .yes ?_, trivial⟩
    all_goals
     intro W' hW'
     obtain ⟨d0, d1, d2, d3, d4, d5, d6⟩ := hW'.a.c7
     obtain ⟨d0, d1, d2, d3, d4, d5, d6⟩ := HC.out.1 W' hW'.l
     obtain ⟨d0, d1, d2, d3, d4, d5, d6⟩ := hW'.b.c7
     obtain ⟨d0, d1, d2, d3, d4, d5, d6⟩ := HC.out.2 W' hW'.l
     go_simp
   simp only [tkA, tkf]
   refine ak 10 fun K hK => ?_
   go_simp
   refine (HA _ hS.l).mono ?_
   rintro e w5 ⟨rfl, b5⟩
   replace hS := hS.on b5
   show K _ _
   refine hK _ _ hS ?_
   clear hK K b5
   refine tks [11] [.bool false] 0 ?_ hS ?_
   ·simp only [tkY, tkf]
    refine ⟨.yes ?_, trivial⟩
    all_goals
     intro W' hW'
     go_simp
   simp only [tkA, tkf]
   refine ad ?_
   have S5 : Hid (SaS w w5 (quA q (.slice (some ⟨b1, o1, none⟩) ni ci) (.slice ah nh ch)) (quA q (.slice (some ⟨b2, o2, none⟩) ni di) (.slice bh nh dh))) := hS
   clear hS HC HA
   go_wp2_with fail
   go_roundg (ni - (kk + 1))
   case measure => omega
   case rel => exact ⟨kk + 1, by omega, by omega, by go_num, S5⟩
  ·have hltz : ¬ (kk : Int) < (ni : Int) := by omega
   obtain ⟨c0, c1, c2, c3, c4, c5, c6⟩ := HS.out.a.c7
   go_wp2_with fail
   clear c0 c1 c2 c3 c4 c5 c6 HI
   go_loopg [6, 7, 8, 82] nh (fun gg _ _ _ s82 wy => ∃ k2 : Nat, k2 ≤ nh ∧ nh - k2 ≤ gg ∧ s82 = .int .i64 k2 ∧ Hid (SaS w wy (quA q (.slice ai ni ci) (.slice ah nh ch)) (quA q (.slice bi ni di) (.slice bh nh dh))))
   case atStart => exact ⟨0, Nat.zero_le _, by omega, rfl, HS⟩
   case round =>
    obtain ⟨k2, hk2, hg2, rfl, HT⟩ := hrel
    clear HS
    obtain ⟨wt, hwt⟩ : ∃ W, W = wr := ⟨_, rfl⟩
    subst hwt
    by_cases hl2 : k2 < nh
    ·have hl2z : (k2 : Int) < (nh : Int) := by omega
     obtain ⟨hh, gh, eh, fh, l3, l4⟩ := HH.out
     obtain ⟨b1, o1, p1, rfl, hp1, C1⟩ := hec_at hh (i := k2) (by omega)
     obtain ⟨b2, o2, p2, rfl, hp2, C2⟩ := hec_at gh (i := k2) (by omega)
     have hql : k2 < q.held.length := by rw [← eh, List.length_map]; omega
     have x1 : (zh[k2]'(by omega)).2 = q.held[k2] := by simp only [← eh, List.getElem_map]
     have x2 : (yh[k2]'(by omega)).2 = q.held[k2] := by simp only [← fh, List.getElem_map]
     rw [x1] at hp1 C1
     rw [x2] at hp2 C2
     have hpl : (q.held[k2]).itm.msg.props.length ≤ 2513169434916 := hq.hp _ (List.getElem_mem _)
     generalize q.held[k2] = x at *
     obtain ⟨pa1, pc1, rfl⟩ := hp1.shape
     obtain ⟨pa2, pc2, rfl⟩ := hp2.shape
     have HA : Hid (∀ W, Bw w W → Calls Tryz.prog 96 #[.agg (itmV x.itm (.slice pa1 x.itm.msg.props.length pc1)).toArray, .agg (itmV x.itm (.slice pa2 x.itm.msg.props.length pc2)).toArray] W fun e w' => e = .returned (.bool true) ∧ Bw W w') := fun W b => sameItem_same W x.itm _ _ (hp1.on b) (hp2.on b) (by omega)
     clear hh gh eh fh l3 l4 hql x1 x2 hp1 hp2 hpl
     obtain ⟨c0, c1, c2, c3, c4, c5, c6⟩ := HT.out.a.c7
     obtain ⟨d0, d1, d2, d3, d4, d5, d6⟩ := HT.out.b.c7
     obtain ⟨e0, e1, e2, e3, e4, e5, e6, e7, e8, e9⟩ := C1 wt HT.out.l
     obtain ⟨f0, f1, f2, f3, f4, f5, f6, f7, f8, f9⟩ := C2 wt HT.out.l
     clear C1 C2
     have L1 : w.heap.size < wt.heap.size := HT.out.a.lt
     have L2 : w.heap.size + 1 < wt.heap.size := HT.out.b.lt
     have L3 : b1 < wt.heap.size := World.block_lt_of_cell? wt _ e0
     have L4 : b2 < wt.heap.size := World.block_lt_of_cell? wt _ f0
     have L1' : w.heap.size ≠ wt.heap.size := by omega
     have L2' : w.heap.size + 1 ≠ wt.heap.size := by omega
     have L3' : b1 ≠ wt.heap.size := by omega
     have L4' : b2 ≠ wt.heap.size := by omega
     have L5' : w.heap.size + 1 ≠ wt.heap.size + 1 := by omega
     have L6' : b1 ≠ wt.heap.size + 1 := by omega
     have L7' : b2 ≠ wt.heap.size + 1 := by omega
     generalize x.itm.msg.props.length = np at *
     go_upto_region 12 with fail
     go_cut [7, 8] (fun s7 s8 wq => ∃ gA gB : Nat, s7 = .pointer (some ⟨gA, 0, none⟩) ∧ s8 = .pointer (some ⟨gB, 0, none⟩) ∧ Hid (Blk wq gA (hlA x (.slice pa1 np pc1)) 133 ∧ Blk wq gB (hlA x (.slice pa2 np pc2)) 133 ∧ SaS w wq (quA q (.slice ai ni ci) (.slice (some ⟨b1, o1, none⟩) nh ch)) (quA q (.slice bi ni di) (.slice (some ⟨b2, o2, none⟩) nh dh))))
     case first =>
      go_region
      all_goals clear c0 c1 c2 c3 c4 c5 c6 d0 d1 d2 d3 d4 d5 d6 e0 e1 e2 e3 e4 e5 e6 e7 e8 e9 f0 f1 f2 f3 f4 f5 f6 f7 f8 f9 L1 L2 L3 L4 L1' L2' L3' L4' L5' L6' L7'
      ·have kA : Blk ((wt.alloc (.cells (hlA x (.slice pa1 np pc1)) 133)).alloc (.cells (hlA x (.slice pa2 np pc2)) 133)).drew wt.heap.size (hlA x (.slice pa1 np pc1)) 133 := ⟨((Blk.new wt _ _).alloc _).h⟩
       have kB : Blk ((wt.alloc (.cells (hlA x (.slice pa1 np pc1)) 133)).alloc (.cells (hlA x (.slice pa2 np pc2)) 133)).drew (wt.heap.size + 1) (hlA x (.slice pa2 np pc2)) 133 := by
        have := Blk.new (wt.alloc (.cells (hlA x (.slice pa1 np pc1)) 133)) (hlA x (.slice pa2 np pc2)) 133
        rw [World.size_alloc] at this
        exact ⟨this.h⟩
       have bb : Bw wt ((wt.alloc (.cells (hlA x (.slice pa1 np pc1)) 133)).alloc (.cells (hlA x (.slice pa2 np pc2)) 133)).drew := (((Below.refl _ wt).alloc (Nat.le_refl _) _).alloc (by simp) _).drew
       go_wp2_with fail
       go_meet
       exact ⟨_, _, rfl, rfl, kA, kB, HT.out.on bb⟩
      ·have kA : Blk ((wt.alloc (.cells (hlA x (.slice pa2 np pc2)) 133)).alloc (.cells (hlA x (.slice pa1 np pc1)) 133)).drew wt.heap.size (hlA x (.slice pa2 np pc2)) 133 := ⟨((Blk.new wt _ _).alloc _).h⟩
       have kB : Blk ((wt.alloc (.cells (hlA x (.slice pa2 np pc2)) 133)).alloc (.cells (hlA x (.slice pa1 np pc1)) 133)).drew (wt.heap.size + 1) (hlA x (.slice pa1 np pc1)) 133 := by
        have := Blk.new (wt.alloc (.cells (hlA x (.slice pa2 np pc2)) 133)) (hlA x (.slice pa1 np pc1)) 133
        rw [World.size_alloc] at this
        exact ⟨this.h⟩
       have bb : Bw wt ((wt.alloc (.cells (hlA x (.slice pa2 np pc2)) 133)).alloc (.cells (hlA x (.slice pa1 np pc1)) 133)).drew := (((Below.refl _ wt).alloc (Nat.le_refl _) _).alloc (by simp) _).drew
       go_wp2_with fail
       go_meet
       exact ⟨_, _, rfl, rfl, kB, kA, HT.out.on bb⟩
     case rest =>
      obtain ⟨gA, gB, rfl, rfl, HU⟩ := hcut
      clear c0 c1 c2 c3 c4 c5 c6 d0 d1 d2 d3 d4 d5 d6 e0 e1 e2 e3 e4 e5 e6 e7 e8 e9 f0 f1 f2 f3 f4 f5 f6 f7 f8 f9 L1 L2 L3 L4 L1' L2' L3' L4' L5' L6' L7' HT
      have HB := HA.out wc HU.out.2.2.l
      unfold itmV at HB
      obtain ⟨c0, c1, c2, c3, c4, c5, c6, c7, c8, c9⟩ := HU.out.1.c10
      obtain ⟨d0, d1, d2, d3, d4, d5, d6, d7, d8, d9⟩ := HU.out.2.1.c10
      have S5 : Hid (SaS w wc (quA q (.slice ai ni ci) (.slice (some ⟨b1, o1, none⟩) nh ch)) (quA q (.slice bi ni di) (.slice (some ⟨b2, o2, none⟩) nh dh))) := HU.out.2.2
      clear HU HA
      go_wp2_with fail
      refine HB.mono ?_
      rintro e w6 ⟨rfl, b6⟩
      have S6 : Hid (SaS w w6 (quA q (.slice ai ni ci) (.slice (some ⟨b1, o1, none⟩) nh ch)) (quA q (.slice bi ni di) (.slice (some ⟨b2, o2, none⟩) nh dh))) := S5.out.on b6
      clear S5 b6 HB c0 c1 c2 c3 c4 c5 c6 c7 c8 c9 d0 d1 d2 d3 d4 d5 d6 d7 d8 d9
      go_wp2_with fail
      go_roundg (nh - (k2 + 1))
      case measure => omega
      case rel => exact ⟨k2 + 1, by omega, by omega, by go_num, S6⟩
    ·have hl2z : ¬ (k2 : Int) < (nh : Int) := by omega
     go_wp2
     go_ret
     exact ⟨rfl, HT.out.l⟩
theorem list2 {l : List Value} (h : l.length = 2) : ∃ v0 v1, l = [v0, v1] := by
 match l, h with
 | [v0, v1], _ => exact ⟨v0, v1, rfl⟩
theorem el2_at {α : Type} {R : List Value → α → Prop} {w : World} {a : Option Addr} {n c : Nat} {zs : Zs α} (h : RdZ 2 R w (.slice a n c) zs) {i : Nat} (hi : i < zs.length) :
  ∃ b o v0 v1, a = some ⟨b, o, none⟩ ∧ (zs[i]).1 = [v0, v1] ∧ R [v0, v1] (zs[i]).2 ∧ (v0.oneCell' = true ∧ v1.oneCell' = true) ∧ ∀ W, Bw w W → W.cell? ⟨b, o + i * 2, none⟩ = some v0 ∧ W.cell? ⟨b, o + i * 2 + 1, none⟩ = some v1 := by
 obtain ⟨b, o, c', e, hc⟩ := h.some (by omega)
 obtain ⟨rfl, _, _⟩ : a = some ⟨b, o, none⟩ ∧ n = zs.length ∧ c = c' := by
  injection e with e1 e2 e3
  exact ⟨e1, e2, e3⟩
 obtain ⟨hk, hR⟩ := h.2 _ (List.getElem_mem hi)
 have h1 := h.cells hi
 obtain ⟨v0, v1, hv⟩ : ∃ v0 v1, (zs[i]).1 = [v0, v1] := list2 hk.1
 rw [hv] at h1 hR hk
 have key : ∀ W, Bw w W → ∀ j u, ([v0, v1] : List Value)[j]? = some u → W.cell? ⟨b, o + i * 2 + j, none⟩ = some u := fun W hb j u hu => by
  have h2 := h1 j _ hu
  rw [hb.cell (World.block_lt_of_cell? w _ h2), h2]
 exact ⟨b, o, v0, v1, rfl, hv, hR, ⟨hk.2 _ (by simp), hk.2 _ (by simp)⟩, fun W hb => ⟨key W hb 0 _ rfl, key W hb 1 _ rfl⟩⟩
theorem list5 {l : List Value} (h : l.length = 5) : ∃ v0 v1 v2 v3 v4, l = [v0, v1, v2, v3, v4] := by
 match l, h with
 | [v0, v1, v2, v3, v4], _ => exact ⟨v0, v1, v2, v3, v4, rfl⟩
theorem el5_at {α : Type} {R : List Value → α → Prop} {w : World} {a : Option Addr} {n c : Nat} {zs : Zs α} (h : RdZ 5 R w (.slice a n c) zs) {i : Nat} (hi : i < zs.length) :
  ∃ b o v0 v1 v2 v3 v4, a = some ⟨b, o, none⟩ ∧ (zs[i]).1 = [v0, v1, v2, v3, v4] ∧ R [v0, v1, v2, v3, v4] (zs[i]).2 ∧ (v0.oneCell' = true ∧ v1.oneCell' = true ∧ v2.oneCell' = true ∧ v3.oneCell' = true ∧ v4.oneCell' = true) ∧ ∀ W, Bw w W → W.cell? ⟨b, o + i * 5, none⟩ = some v0 ∧ W.cell? ⟨b, o + i * 5 + 1, none⟩ = some v1 ∧ W.cell? ⟨b, o + i * 5 + 2, none⟩ = some v2 ∧ W.cell? ⟨b, o + i * 5 + 3, none⟩ = some v3 ∧ W.cell? ⟨b, o + i * 5 + 4, none⟩ = some v4 := by
 obtain ⟨b, o, c', e, hc⟩ := h.some (by omega)
 obtain ⟨rfl, _, _⟩ : a = some ⟨b, o, none⟩ ∧ n = zs.length ∧ c = c' := by
  injection e with e1 e2 e3
  exact ⟨e1, e2, e3⟩
 obtain ⟨hk, hR⟩ := h.2 _ (List.getElem_mem hi)
 have h1 := h.cells hi
 obtain ⟨v0, v1, v2, v3, v4, hv⟩ : ∃ v0 v1 v2 v3 v4, (zs[i]).1 = [v0, v1, v2, v3, v4] := list5 hk.1
 rw [hv] at h1 hR hk
 have key : ∀ W, Bw w W → ∀ j u, ([v0, v1, v2, v3, v4] : List Value)[j]? = some u → W.cell? ⟨b, o + i * 5 + j, none⟩ = some u := fun W hb j u hu => by
  have h2 := h1 j _ hu
  rw [hb.cell (World.block_lt_of_cell? w _ h2), h2]
 exact ⟨b, o, v0, v1, v2, v3, v4, rfl, hv, hR, ⟨hk.2 _ (by simp), hk.2 _ (by simp), hk.2 _ (by simp), hk.2 _ (by simp), hk.2 _ (by simp)⟩, fun W hb => ⟨key W hb 0 _ rfl, key W hb 1 _ rfl, key W hb 2 _ rfl, key W hb 3 _ rfl, key W hb 4 _ rfl⟩⟩
theorem list7 {l : List Value} (h : l.length = 7) : ∃ v0 v1 v2 v3 v4 v5 v6, l = [v0, v1, v2, v3, v4, v5, v6] := by
 match l, h with
 | [v0, v1, v2, v3, v4, v5, v6], _ => exact ⟨v0, v1, v2, v3, v4, v5, v6, rfl⟩
theorem el7_at {α : Type} {R : List Value → α → Prop} {w : World} {a : Option Addr} {n c : Nat} {zs : Zs α} (h : RdZ 7 R w (.slice a n c) zs) {i : Nat} (hi : i < zs.length) :
  ∃ b o v0 v1 v2 v3 v4 v5 v6, a = some ⟨b, o, none⟩ ∧ (zs[i]).1 = [v0, v1, v2, v3, v4, v5, v6] ∧ R [v0, v1, v2, v3, v4, v5, v6] (zs[i]).2 ∧ (v0.oneCell' = true ∧ v1.oneCell' = true ∧ v2.oneCell' = true ∧ v3.oneCell' = true ∧ v4.oneCell' = true ∧ v5.oneCell' = true ∧ v6.oneCell' = true) ∧ ∀ W, Bw w W → W.cell? ⟨b, o + i * 7, none⟩ = some v0 ∧ W.cell? ⟨b, o + i * 7 + 1, none⟩ = some v1 ∧ W.cell? ⟨b, o + i * 7 + 2, none⟩ = some v2 ∧ W.cell? ⟨b, o + i * 7 + 3, none⟩ = some v3 ∧ W.cell? ⟨b, o + i * 7 + 4, none⟩ = some v4 ∧ W.cell? ⟨b, o + i * 7 + 5, none⟩ = some v5 ∧ W.cell? ⟨b, o + i * 7 + 6, none⟩ = some v6 := by
 obtain ⟨b, o, c', e, hc⟩ := h.some (by omega)
 obtain ⟨rfl, _, _⟩ : a = some ⟨b, o, none⟩ ∧ n = zs.length ∧ c = c' := by
  injection e with e1 e2 e3
  exact ⟨e1, e2, e3⟩
 obtain ⟨hk, hR⟩ := h.2 _ (List.getElem_mem hi)
 have h1 := h.cells hi
 obtain ⟨v0, v1, v2, v3, v4, v5, v6, hv⟩ : ∃ v0 v1 v2 v3 v4 v5 v6, (zs[i]).1 = [v0, v1, v2, v3, v4, v5, v6] := list7 hk.1
 rw [hv] at h1 hR hk
 have key : ∀ W, Bw w W → ∀ j u, ([v0, v1, v2, v3, v4, v5, v6] : List Value)[j]? = some u → W.cell? ⟨b, o + i * 7 + j, none⟩ = some u := fun W hb j u hu => by
  have h2 := h1 j _ hu
  rw [hb.cell (World.block_lt_of_cell? w _ h2), h2]
 exact ⟨b, o, v0, v1, v2, v3, v4, v5, v6, rfl, hv, hR, ⟨hk.2 _ (by simp), hk.2 _ (by simp), hk.2 _ (by simp), hk.2 _ (by simp), hk.2 _ (by simp), hk.2 _ (by simp), hk.2 _ (by simp)⟩, fun W hb => ⟨key W hb 0 _ rfl, key W hb 1 _ rfl, key W hb 2 _ rfl, key W hb 3 _ rfl, key W hb 4 _ rfl, key W hb 5 _ rfl, key W hb 6 _ rfl⟩⟩
def BsR {α : Type} (p : Nat) (zs : Zs α) (cmp : α → Int) (e : Ending) : Prop := ∃ b : Bool, e = .returned (.tuple #[.int .i64 (p : Nat), .bool b]) ∧ (b = true ↔ ∃ hi : p < zs.length, cmp (zs[p]).2 = 0)
theorem bsr_mk {α : Type} {p : Nat} {zs : Zs α} {cmp : α → Int} {b : Bool} (h : b = true ↔ ∃ hi : p < zs.length, cmp (zs[p]).2 = 0) : BsR p zs cmp (.returned (.tuple #[.int .i64 (p : Nat), .bool b])) := ⟨b, rfl, h⟩
set_option linter.unusedVariables false
set_option maxHeartbeats 4000000 in
theorem bsQ {α : Type} (w : World) (a : Option Addr) (n c : Nat) (zs : Zs α) (R : List Value → α → Prop) (h : RdZ 7 R w (.slice a n c) zs) (hn : zs.length = n) (hbig : n ≤ 1000000) (t0 t1 t2 t3 t4 t5 t6 : Value) (ht : t0.oneCell' = true ∧ t1.oneCell' = true ∧ t2.oneCell' = true ∧ t3.oneCell' = true ∧ t4.oneCell' = true ∧ t5.oneCell' = true ∧ t6.oneCell' = true) (f : FuncId) (ef : ∀ args w, (callFunc f args).run Tryz.prog w = .ok (.enter f args) w)
  (cmp : α → Int) (hC : ∀ W z, z ∈ zs → Calls Tryz.prog f #[.agg z.1.toArray, .agg #[t0, t1, t2, t3, t4, t5, t6]] W fun e w' => e = .returned (.int .i64 (cmp z.2)) ∧ Bw W w') (p : Nat) (hp : p ≤ n) (hlo : ∀ i (hi : i < zs.length), i < p → cmp (zs[i]).2 < 0) (hhi : ∀ i (hi : i < zs.length), p ≤ i → ¬ cmp (zs[i]).2 < 0) :
  Calls Tryz.prog 183 #[.slice a n c, .agg #[t0, t1, t2, t3, t4, t5, t6], .func (.func f) #[] #[]] w fun e w' => BsR p zs cmp e ∧ Bw w w' := by
 have HI : Hid (RdZ 7 R w (.slice a n c) zs) := h
 have NI : Hid (zs.length = n) := hn
 have HLO : Hid (∀ i (hi : i < zs.length), i < p → cmp (zs[i]).2 < 0) := hlo
 have HHI : Hid (∀ i (hi : i < zs.length), p ≤ i → ¬ cmp (zs[i]).2 < 0) := hhi
 have b0 := (Below.refl w.heap.size w).alloc (Nat.le_refl _) (.cells #[t0, t1, t2, t3, t4, t5, t6] 82)
 have k0 := Blk.new w #[t0, t1, t2, t3, t4, t5, t6] 82
 clear h hn hlo hhi
 go_enter Tryz.func183, Tryz.ntmps183
 go_upto_region 1 with fail
 have H0 : Hid (Bw w (w.alloc (.cells #[t0, t1, t2, t3, t4, t5, t6] 82)) ∧ Blk (w.alloc (.cells #[t0, t1, t2, t3, t4, t5, t6] 82)) w.heap.size #[t0, t1, t2, t3, t4, t5, t6] 82) := ⟨b0, k0⟩
 clear b0 k0
 generalize w.alloc (.cells #[t0, t1, t2, t3, t4, t5, t6] 82) = w1 at *
 go_wp2_with fail
 go_loopg [9, 10, 11] n (fun gg s9 s10 _ wr => ∃ lo hi : Nat, lo ≤ p ∧ p ≤ hi ∧ hi ≤ n ∧ hi - lo ≤ gg ∧ s9 = .int .i64 lo ∧ s10 = .int .i64 hi ∧ Hid (Bw w wr ∧ Blk wr w.heap.size #[t0, t1, t2, t3, t4, t5, t6] 82))
 case atStart => exact ⟨0, n, Nat.zero_le _, hp, Nat.le_refl _, by omega, rfl, rfl, H0.out⟩
 case round =>
  obtain ⟨lo, hi, hlo, hhi, hin, hg, rfl, rfl, HS⟩ := hrel
  clear H0
  obtain ⟨wt, hwt⟩ : ∃ W, W = wr := ⟨_, rfl⟩
  subst hwt
  by_cases hlt : lo < hi
  ·have hltz : (lo : Int) < (hi : Int) := by omega
   obtain ⟨m, hm⟩ : ∃ m, m = (lo + hi) / 2 := ⟨_, rfl⟩
   have hm1 : lo ≤ m := by omega
   have hm2 : m < hi := by omega
   have hmn : m < n := by omega
   have hmI : ((lo : Int) + (hi : Int)) / 2 = (m : Int) := by omega
   have hmnz : (m : Int) < (n : Int) := by omega
   have hmz : m < zs.length := by rw [NI.out]; exact hmn
   have HL : Hid (cmp (zs[m]).2 < 0 → m + 1 ≤ p) := fun hc => by
    rcases Nat.lt_or_ge m p with h2 | h2
    ·exact h2
    ·exact absurd hc (by have := HHI.out m hmz h2; omega)
   have HG : Hid (¬ cmp (zs[m]).2 < 0 → p ≤ m) := fun hc => by
    rcases Nat.lt_or_ge m p with h2 | h2
    ·exact absurd (HLO.out m hmz h2) (by omega)
    ·exact h2
   have hCm := fun W => hC W (zs[m]) (List.getElem_mem hmz)
   obtain ⟨b, o, v0, v1, v2, v3, v4, v5, v6, rfl, hz1, _, hone, hcl⟩ := el7_at HI.out (i := m) hmz
   have HCL : Hid _ := hcl
   rw [hz1] at hCm
   generalize cmp (zs[m]).2 = cz at *
   clear hz1 hm hcl
   by_cases hcz : cz < 0
   ·have H6 : Hid (m + 1 ≤ p) := HL.out hcz
    clear HL HG
    go_upto_region 5 with fail
    refine rh (fun W => Bw w W ∧ Blk W w.heap.size #[t0, t1, t2, t3, t4, t5, t6] 82) ?_
    have hS : Bw w wt.drew ∧ Blk wt.drew w.heap.size #[t0, t1, t2, t3, t4, t5, t6] 82 := ⟨HS.out.1.drew, ⟨HS.out.2.h⟩⟩
    clear HS
    generalize wt.drew = wv at *
    refine tks [0, 1, 2, 3, 4, 5] [.func (.func f) #[] #[], .slice (some ⟨b, o, none⟩) n c, .int .i64 m, .pointer (some ⟨b, o + m * 7, none⟩), .agg #[v0, v1, v2, v3, v4, v5, v6], .agg #[t0, t1, t2, t3, t4, t5, t6]] 2 ?_ hS ?_
    ·simp only [tkY, tkf]
     refine ⟨.yes ?_, .yes ?_, .yes ?_, .yes ?_, .yes ?_, .yes ?_, trivial⟩
     all_goals
      intro W' hW'
      obtain ⟨c0, c1, c2, c3, c4, c5, c6⟩ := HCL.out _ hW'.1
      have := hW'.2.ce 0
      have := hW'.2.ce 1
      have := hW'.2.ce 2
      have := hW'.2.ce 3
      have := hW'.2.ce 4
      have := hW'.2.ce 5
      have := hW'.2.ce 6
      go_simp
    simp only [tkA, tkf]
    refine ak 6 fun K hK => ?_
    go_simp
    refine (hCm _).mono ?_
    rintro e w2 ⟨rfl, b2⟩
    have hS2 : Bw w w2 ∧ Blk w2 w.heap.size #[t0, t1, t2, t3, t4, t5, t6] 82 := ⟨nxt hS.1 b2, hS.2.on b2⟩
    show K _ _
    refine hK _ _ hS2 ?_
    clear hK K hS b2
    try simp only [tkf]
    refine tks [7] [.bool (decide (cz < 0))] 0 ?_ hS2 ?_
    ·simp only [tkY, tkf]
     refine ⟨.yes ?_, trivial⟩
     all_goals
      intro W' hW'
      go_simp
    simp only [tkA, tkf]
    refine ad ?_
    have HS2 : Hid (Bw w w2 ∧ Blk w2 w.heap.size #[t0, t1, t2, t3, t4, t5, t6] 82) := hS2
    clear hS2 hCm
    go_wp2_with fail
    go_roundg (hi - (m + 1))
    case measure => omega
    case rel => exact ⟨m + 1, hi, H6.out, hhi, hin, by omega, by go_num, rfl, HS2.out⟩
   ·have H6 : Hid (p ≤ m) := HG.out hcz
    clear HL HG
    go_upto_region 5 with fail
    refine rh (fun W => Bw w W ∧ Blk W w.heap.size #[t0, t1, t2, t3, t4, t5, t6] 82) ?_
    have hS : Bw w wt.drew ∧ Blk wt.drew w.heap.size #[t0, t1, t2, t3, t4, t5, t6] 82 := ⟨HS.out.1.drew, ⟨HS.out.2.h⟩⟩
    clear HS
    generalize wt.drew = wv at *
    refine tks [0, 1, 2, 3, 4, 5] [.func (.func f) #[] #[], .slice (some ⟨b, o, none⟩) n c, .int .i64 m, .pointer (some ⟨b, o + m * 7, none⟩), .agg #[v0, v1, v2, v3, v4, v5, v6], .agg #[t0, t1, t2, t3, t4, t5, t6]] 2 ?_ hS ?_
    ·simp only [tkY, tkf]
     refine ⟨.yes ?_, .yes ?_, .yes ?_, .yes ?_, .yes ?_, .yes ?_, trivial⟩
     all_goals
      intro W' hW'
      obtain ⟨c0, c1, c2, c3, c4, c5, c6⟩ := HCL.out _ hW'.1
      have := hW'.2.ce 0
      have := hW'.2.ce 1
      have := hW'.2.ce 2
      have := hW'.2.ce 3
      have := hW'.2.ce 4
      have := hW'.2.ce 5
      have := hW'.2.ce 6
      go_simp
    simp only [tkA, tkf]
    refine ak 6 fun K hK => ?_
    go_simp
    refine (hCm _).mono ?_
    rintro e w2 ⟨rfl, b2⟩
    have hS2 : Bw w w2 ∧ Blk w2 w.heap.size #[t0, t1, t2, t3, t4, t5, t6] 82 := ⟨nxt hS.1 b2, hS.2.on b2⟩
    show K _ _
    refine hK _ _ hS2 ?_
    clear hK K hS b2
    try simp only [tkf]
    refine tks [7] [.bool (decide (cz < 0))] 0 ?_ hS2 ?_
    ·simp only [tkY, tkf]
     refine ⟨.yes ?_, trivial⟩
     all_goals
      intro W' hW'
      go_simp
    simp only [tkA, tkf]
    refine ad ?_
    have HS2 : Hid (Bw w w2 ∧ Blk w2 w.heap.size #[t0, t1, t2, t3, t4, t5, t6] 82) := hS2
    clear hS2 hCm
    go_wp2_with fail
    go_roundg (m - lo)
    case measure => omega
    case rel => exact ⟨lo, m, hlo, H6.out, by omega, by omega, rfl, rfl, HS2.out⟩
  ·have hltz : ¬ (lo : Int) < (hi : Int) := by omega
   obtain rfl : lo = p := by omega
   obtain rfl : hi = lo := by omega
   by_cases hl : hi < n
   ·have hlz : (hi : Int) < (n : Int) := by omega
    have hmz : hi < zs.length := by rw [NI.out]; exact hl
    have hCm := fun W => hC W (zs[hi]) (List.getElem_mem hmz)
    obtain ⟨b, o, v0, v1, v2, v3, v4, v5, v6, rfl, hz1, _, hone, hcl⟩ := el7_at HI.out (i := hi) hmz
    have HCL : Hid _ := hcl
    rw [hz1] at hCm
    have HZ : Hid (∀ cz, cz = cmp (zs[hi]).2 → ∀ b : Bool, b = (cz == 0) → (b = true ↔ ∃ hi' : hi < zs.length, cmp (zs[hi]).2 = 0)) := fun cz e b eb => by
     rw [eb, e]
     simp [hmz]
    obtain ⟨cz, hcz⟩ : ∃ cz, cz = cmp (zs[hi]).2 := ⟨_, rfl⟩
    have HZ2 : Hid (∀ b : Bool, b = (cz == 0) → (b = true ↔ ∃ hi' : hi < zs.length, cmp (zs[hi]).2 = 0)) := HZ.out cz hcz
    rw [← hcz] at hCm
    clear hz1 hcz HZ hcl
    go_upto_region 8 with fail
    refine rh (fun W => Bw w W ∧ Blk W w.heap.size #[t0, t1, t2, t3, t4, t5, t6] 82) ?_
    have hS : Bw w wt.drew ∧ Blk wt.drew w.heap.size #[t0, t1, t2, t3, t4, t5, t6] 82 := ⟨HS.out.1.drew, ⟨HS.out.2.h⟩⟩
    clear HS
    generalize wt.drew = wv at *
    refine tks [0, 1, 2, 3, 4, 5, 6, 7, 8, 9, 10] [.int .i64 hi, .int .i64 hi, .int .i64 n, .bool true, .bool true, .func (.func f) #[] #[], .slice (some ⟨b, o, none⟩) n c, .int .i64 hi, .pointer (some ⟨b, o + hi * 7, none⟩), .agg #[v0, v1, v2, v3, v4, v5, v6], .agg #[t0, t1, t2, t3, t4, t5, t6]] 5 ?_ hS ?_
    ·simp only [tkY, tkf]
     refine ⟨.yes ?_, .yes ?_, .yes ?_, .yes ?_, .yes ?_, .yes ?_, .yes ?_, .yes ?_, .yes ?_, .yes ?_, .yes ?_, trivial⟩
     all_goals
      intro W' hW'
      obtain ⟨c0, c1, c2, c3, c4, c5, c6⟩ := HCL.out _ hW'.1
      have := hW'.2.ce 0
      have := hW'.2.ce 1
      have := hW'.2.ce 2
      have := hW'.2.ce 3
      have := hW'.2.ce 4
      have := hW'.2.ce 5
      have := hW'.2.ce 6
      go_simp
    simp only [tkA, tkf]
    refine ak 11 fun K hK => ?_
    go_simp
    refine (hCm _).mono ?_
    rintro e w2 ⟨rfl, b2⟩
    have hS2 : Bw w w2 ∧ Blk w2 w.heap.size #[t0, t1, t2, t3, t4, t5, t6] 82 := ⟨nxt hS.1 b2, hS.2.on b2⟩
    show K _ _
    refine hK _ _ hS2 ?_
    clear hK K hS b2
    try simp only [tkf]
    refine tks [12, 13, 14, 15] [.bool (cz == 0), .bool (cz == 0), .int .i64 hi, .bool (cz == 0)] 0 ?_ hS2 ?_
    ·simp only [tkY, tkf]
     refine ⟨.yes ?_, .yes ?_, .yes ?_, .yes ?_, trivial⟩
     all_goals
      intro W' hW'
      go_simp
    simp only [tkA, tkf]
    refine ad ?_
    go_wp2_with fail
    go_ret2
    exact ⟨bsr_mk (HZ2.out _ rfl), hS2.1⟩
   ·have hlz : ¬ (hi : Int) < (n : Int) := by omega
    have HN : Hid ((false = true ↔ ∃ hi' : hi < zs.length, cmp (zs[hi]).2 = 0)) := by
     show _ ↔ _
     constructor
     ·intro h
      cases h
     ·rintro ⟨h, _⟩
      rw [NI.out] at h
      exact absurd h hl
    go_upto_region 8 with fail
    refine rh (fun W => Bw w W ∧ Blk W w.heap.size #[t0, t1, t2, t3, t4, t5, t6] 82) ?_
    have hS : Bw w wt.drew ∧ Blk wt.drew w.heap.size #[t0, t1, t2, t3, t4, t5, t6] 82 := ⟨HS.out.1.drew, ⟨HS.out.2.h⟩⟩
    clear HS
    generalize wt.drew = wv at *
    refine tks [0, 1, 2, 3, 4, 5, 6, 7, 8, 9, 10, 11, 12] [.int .i64 hi, .int .i64 hi, .int .i64 n, .bool false, .bool false, undef, undef, undef, undef, undef, undef, undef, undef] 3 ?_ hS ?_
    ·simp only [tkY, tkf]
     refine ⟨.yes ?_, .yes ?_, .yes ?_, .yes ?_, .yes ?_, .no, .no, .no, .no, .no, .no, .no, .no, trivial⟩
     all_goals
      intro W' hW'
      go_simp
    simp only [tkA, tkf]
    have hS2 := hS
    clear hS
    refine tks [13, 14, 15] [.bool false, .int .i64 hi, .bool false] 0 ?_ hS2 ?_
    ·simp only [tkY, tkf]
     refine ⟨.yes ?_, .yes ?_, .yes ?_, trivial⟩
     all_goals
      intro W' hW'
      go_simp
    simp only [tkA, tkf]
    refine ad ?_
    go_wp2_with fail
    go_ret2
    exact ⟨bsr_mk HN.out, hS2.1⟩
def Bk (W : World) (g : Nat) (cs : Array Value) : Prop := ∃ t, Blk W g cs t
theorem Bk.cell {W : World} {g : Nat} {cs : Array Value} (h : Bk W g cs) (j : Nat) : W.cell? ⟨g, j, none⟩ = cs[j]? := h.choose_spec.cell j
theorem Bk.on {W W' : World} {g : Nat} {cs : Array Value} (h : Bk W g cs) (hb : Bw W W') : Bk W' g cs := ⟨_, h.choose_spec.on hb⟩
theorem Bk.drew {W : World} {g : Nat} {cs : Array Value} (h : Bk W g cs) : Bk W.drew g cs := ⟨h.choose, ⟨h.choose_spec.h⟩⟩
theorem boxed (w : World) (cs : Array Value) (t : TypeId) : Bw w (w.alloc (.cells cs t)) ∧ Bk (w.alloc (.cells cs t)) w.heap.size cs := ⟨(Below.refl w.heap.size w).alloc (Nat.le_refl _) _, t, Blk.new w cs t⟩
theorem Bk.ce {w : World} {g : Nat} {cs : Array Value} {v : Value} (h : Bk w g cs) (j : Nat) (e : cs[j]? = some v := by rfl) : w.cell? ⟨g, j, none⟩ = some v := (h.cell j).trans e
set_option maxHeartbeats 4000000 in
theorem bsP2 {α : Type} {F : Nat} (hF : F = 245 ∨ F = 202) (w : World) (a : Option Addr) (n c : Nat) (zs : Zs α) (R : List Value → α → Prop) (h : RdZ 2 R w (.slice a n c) zs) (hn : zs.length = n) (hbig : n ≤ 1000000) (t0 t1 : Value) (ht : t0.oneCell' = true ∧ t1.oneCell' = true) (f : FuncId) (ef : ∀ args w, (callFunc f args).run Tryz.prog w = .ok (.enter f args) w)
  (cmp : α → Int) (hC : ∀ W z, z ∈ zs → Calls Tryz.prog f #[.agg z.1.toArray, .agg #[t0, t1]] W fun e w' => e = .returned (.int .i64 (cmp z.2)) ∧ Bw W w') (p : Nat) (hp : p ≤ n) (hlo : ∀ i (hi : i < zs.length), i < p → cmp (zs[i]).2 < 0) (hhi : ∀ i (hi : i < zs.length), p ≤ i → ¬ cmp (zs[i]).2 < 0) :
  Calls Tryz.prog F #[.slice a n c, .agg #[t0, t1], .func (.func f) #[] #[]] w fun e w' => BsR p zs cmp e ∧ Bw w w' := by
 have HI : Hid (RdZ 2 R w (.slice a n c) zs) := h
 have NI : Hid (zs.length = n) := hn
 have HLO : Hid (∀ i (hi : i < zs.length), i < p → cmp (zs[i]).2 < 0) := hlo
 have HHI : Hid (∀ i (hi : i < zs.length), p ≤ i → ¬ cmp (zs[i]).2 < 0) := hhi
 clear h hn hlo hhi
 rcases hF with rfl | rfl
 all_goals
  first | go_enter Tryz.func245, Tryz.ntmps245 | go_enter Tryz.func202, Tryz.ntmps202
  go_upto_region 1 with fail
  have HB := fun t => boxed w #[t0, t1] t
  first | (obtain ⟨w1, hw1⟩ : ∃ x, w.alloc (.cells #[t0, t1] 43) = x := ⟨_, rfl⟩; rw [hw1]; have H0 : Hid _ := HB 43; rw [hw1] at H0; clear hw1) | (obtain ⟨w1, hw1⟩ : ∃ x, w.alloc (.cells #[t0, t1] 88) = x := ⟨_, rfl⟩; rw [hw1]; have H0 : Hid _ := HB 88; rw [hw1] at H0; clear hw1)
  clear HB
  go_wp2_with fail
  go_loopg [9, 10, 11] n (fun gg s9 s10 _ wr => ∃ lo hi : Nat, lo ≤ p ∧ p ≤ hi ∧ hi ≤ n ∧ hi - lo ≤ gg ∧ s9 = .int .i64 lo ∧ s10 = .int .i64 hi ∧ Hid (Bw w wr ∧ Bk wr w.heap.size #[t0, t1]))
  case atStart => exact ⟨0, n, Nat.zero_le _, hp, Nat.le_refl _, by omega, rfl, rfl, H0.out⟩
  case round =>
   obtain ⟨lo, hi, hlo, hhi, hin, hg, rfl, rfl, HS⟩ := hrel
   clear H0
   obtain ⟨wt, hwt⟩ : ∃ W, W = wr := ⟨_, rfl⟩
   subst hwt
   by_cases hlt : lo < hi
   ·have hltz : (lo : Int) < (hi : Int) := by omega
    obtain ⟨m, hm⟩ : ∃ m, m = (lo + hi) / 2 := ⟨_, rfl⟩
    have hm1 : lo ≤ m := by omega
    have hm2 : m < hi := by omega
    have hmn : m < n := by omega
    have hmI : ((lo : Int) + (hi : Int)) / 2 = (m : Int) := by omega
    have hmnz : (m : Int) < (n : Int) := by omega
    have hmz : m < zs.length := by rw [NI.out]; exact hmn
    have HL : Hid (cmp (zs[m]).2 < 0 → m + 1 ≤ p) := fun hc => by
     rcases Nat.lt_or_ge m p with h2 | h2
     ·exact h2
     ·exact absurd hc (by have := HHI.out m hmz h2; omega)
    have HG : Hid (¬ cmp (zs[m]).2 < 0 → p ≤ m) := fun hc => by
     rcases Nat.lt_or_ge m p with h2 | h2
     ·exact absurd (HLO.out m hmz h2) (by omega)
     ·exact h2
    have hCm := fun W => hC W (zs[m]) (List.getElem_mem hmz)
    obtain ⟨b, o, v0, v1, rfl, hz1, _, hone, hcl⟩ := el2_at HI.out (i := m) hmz
    have HCL : Hid _ := hcl
    rw [hz1] at hCm
    generalize cmp (zs[m]).2 = cz at *
    clear hz1 hm hcl
    by_cases hcz : cz < 0
    ·have H6 : Hid (m + 1 ≤ p) := HL.out hcz
     clear HL HG
     go_upto_region 5 with fail
     refine rh (fun W => Bw w W ∧ Bk W w.heap.size #[t0, t1]) ?_
     have hS : Bw w wt.drew ∧ Bk wt.drew w.heap.size #[t0, t1] := ⟨HS.out.1.drew, HS.out.2.drew⟩
     clear HS
     generalize wt.drew = wv at *
     refine tks [0, 1, 2, 3, 4, 5] [.func (.func f) #[] #[], .slice (some ⟨b, o, none⟩) n c, .int .i64 m, .pointer (some ⟨b, o + m * 2, none⟩), .agg #[v0, v1], .agg #[t0, t1]] 2 ?_ hS ?_
     ·simp only [tkY, tkf]
      refine ⟨.yes ?_, .yes ?_, .yes ?_, .yes ?_, .yes ?_, .yes ?_, trivial⟩
      all_goals
       intro W' hW'
       obtain ⟨c0, c1⟩ := HCL.out _ hW'.1
       have := hW'.2.ce 0
       have := hW'.2.ce 1
       go_simp
     simp only [tkA, tkf]
     refine ak 6 fun K hK => ?_
     go_simp
     refine (hCm _).mono ?_
     rintro e w2 ⟨rfl, b2⟩
     have hS2 : Bw w w2 ∧ Bk w2 w.heap.size #[t0, t1] := ⟨nxt hS.1 b2, hS.2.on b2⟩
     show K _ _
     refine hK _ _ hS2 ?_
     clear hK K hS b2
     try simp only [tkf]
     refine tks [7] [.bool (decide (cz < 0))] 0 ?_ hS2 ?_
     ·simp only [tkY, tkf]
      refine ⟨.yes ?_, trivial⟩
      all_goals
       intro W' hW'
       go_simp
     simp only [tkA, tkf]
     refine ad ?_
     have HS2 : Hid (Bw w w2 ∧ Bk w2 w.heap.size #[t0, t1]) := hS2
     clear hS2 hCm
     go_wp2_with fail
     go_roundg (hi - (m + 1))
     case measure => omega
     case rel => exact ⟨m + 1, hi, H6.out, hhi, hin, by omega, by go_num, rfl, HS2.out⟩
    ·have H6 : Hid (p ≤ m) := HG.out hcz
     clear HL HG
     go_upto_region 5 with fail
     refine rh (fun W => Bw w W ∧ Bk W w.heap.size #[t0, t1]) ?_
     have hS : Bw w wt.drew ∧ Bk wt.drew w.heap.size #[t0, t1] := ⟨HS.out.1.drew, HS.out.2.drew⟩
     clear HS
     generalize wt.drew = wv at *
     refine tks [0, 1, 2, 3, 4, 5] [.func (.func f) #[] #[], .slice (some ⟨b, o, none⟩) n c, .int .i64 m, .pointer (some ⟨b, o + m * 2, none⟩), .agg #[v0, v1], .agg #[t0, t1]] 2 ?_ hS ?_
     ·simp only [tkY, tkf]
      refine ⟨.yes ?_, .yes ?_, .yes ?_, .yes ?_, .yes ?_, .yes ?_, trivial⟩
      all_goals
       intro W' hW'
       obtain ⟨c0, c1⟩ := HCL.out _ hW'.1
       have := hW'.2.ce 0
       have := hW'.2.ce 1
       go_simp
     simp only [tkA, tkf]
     refine ak 6 fun K hK => ?_
     go_simp
     refine (hCm _).mono ?_
     rintro e w2 ⟨rfl, b2⟩
     have hS2 : Bw w w2 ∧ Bk w2 w.heap.size #[t0, t1] := ⟨nxt hS.1 b2, hS.2.on b2⟩
     show K _ _
     refine hK _ _ hS2 ?_
     clear hK K hS b2
     try simp only [tkf]
     refine tks [7] [.bool (decide (cz < 0))] 0 ?_ hS2 ?_
     ·simp only [tkY, tkf]
      refine ⟨.yes ?_, trivial⟩
      all_goals
       intro W' hW'
       go_simp
     simp only [tkA, tkf]
     refine ad ?_
     have HS2 : Hid (Bw w w2 ∧ Bk w2 w.heap.size #[t0, t1]) := hS2
     clear hS2 hCm
     go_wp2_with fail
     go_roundg (m - lo)
     case measure => omega
     case rel => exact ⟨lo, m, hlo, H6.out, by omega, by omega, rfl, rfl, HS2.out⟩
   ·have hltz : ¬ (lo : Int) < (hi : Int) := by omega
    obtain rfl : lo = p := by omega
    obtain rfl : hi = lo := by omega
    by_cases hl : hi < n
    ·have hlz : (hi : Int) < (n : Int) := by omega
     have hmz : hi < zs.length := by rw [NI.out]; exact hl
     have hCm := fun W => hC W (zs[hi]) (List.getElem_mem hmz)
     obtain ⟨b, o, v0, v1, rfl, hz1, _, hone, hcl⟩ := el2_at HI.out (i := hi) hmz
     have HCL : Hid _ := hcl
     rw [hz1] at hCm
     have HZ : Hid (∀ cz, cz = cmp (zs[hi]).2 → ∀ b : Bool, b = (cz == 0) → (b = true ↔ ∃ hi' : hi < zs.length, cmp (zs[hi]).2 = 0)) := fun cz e b eb => by
      rw [eb, e]
      simp [hmz]
     obtain ⟨cz, hcz⟩ : ∃ cz, cz = cmp (zs[hi]).2 := ⟨_, rfl⟩
     have HZ2 : Hid (∀ b : Bool, b = (cz == 0) → (b = true ↔ ∃ hi' : hi < zs.length, cmp (zs[hi]).2 = 0)) := HZ.out cz hcz
     rw [← hcz] at hCm
     clear hz1 hcz HZ hcl
     go_upto_region 8 with fail
     refine rh (fun W => Bw w W ∧ Bk W w.heap.size #[t0, t1]) ?_
     have hS : Bw w wt.drew ∧ Bk wt.drew w.heap.size #[t0, t1] := ⟨HS.out.1.drew, HS.out.2.drew⟩
     clear HS
     generalize wt.drew = wv at *
     refine tks [0, 1, 2, 3, 4, 5, 6, 7, 8, 9, 10] [.int .i64 hi, .int .i64 hi, .int .i64 n, .bool true, .bool true, .func (.func f) #[] #[], .slice (some ⟨b, o, none⟩) n c, .int .i64 hi, .pointer (some ⟨b, o + hi * 2, none⟩), .agg #[v0, v1], .agg #[t0, t1]] 5 ?_ hS ?_
     ·simp only [tkY, tkf]
      refine ⟨.yes ?_, .yes ?_, .yes ?_, .yes ?_, .yes ?_, .yes ?_, .yes ?_, .yes ?_, .yes ?_, .yes ?_, .yes ?_, trivial⟩
      all_goals
       intro W' hW'
       obtain ⟨c0, c1⟩ := HCL.out _ hW'.1
       have := hW'.2.ce 0
       have := hW'.2.ce 1
       go_simp
     simp only [tkA, tkf]
     refine ak 11 fun K hK => ?_
     go_simp
     refine (hCm _).mono ?_
     rintro e w2 ⟨rfl, b2⟩
     have hS2 : Bw w w2 ∧ Bk w2 w.heap.size #[t0, t1] := ⟨nxt hS.1 b2, hS.2.on b2⟩
     show K _ _
     refine hK _ _ hS2 ?_
     clear hK K hS b2
     try simp only [tkf]
     refine tks [12, 13, 14, 15] [.bool (cz == 0), .bool (cz == 0), .int .i64 hi, .bool (cz == 0)] 0 ?_ hS2 ?_
     ·simp only [tkY, tkf]
      refine ⟨.yes ?_, .yes ?_, .yes ?_, .yes ?_, trivial⟩
      all_goals
       intro W' hW'
       go_simp
     simp only [tkA, tkf]
     refine ad ?_
     go_wp2_with fail
     go_ret2
     exact ⟨bsr_mk (HZ2.out _ rfl), hS2.1⟩
    ·have hlz : ¬ (hi : Int) < (n : Int) := by omega
     have HN : Hid ((false = true ↔ ∃ hi' : hi < zs.length, cmp (zs[hi]).2 = 0)) := by
      show _ ↔ _
      constructor
      ·intro h
       cases h
      ·rintro ⟨h, _⟩
       rw [NI.out] at h
       exact absurd h hl
     go_upto_region 8 with fail
     refine rh (fun W => Bw w W ∧ Bk W w.heap.size #[t0, t1]) ?_
     have hS : Bw w wt.drew ∧ Bk wt.drew w.heap.size #[t0, t1] := ⟨HS.out.1.drew, HS.out.2.drew⟩
     clear HS
     generalize wt.drew = wv at *
     refine tks [0, 1, 2, 3, 4, 5, 6, 7, 8, 9, 10, 11, 12] [.int .i64 hi, .int .i64 hi, .int .i64 n, .bool false, .bool false, undef, undef, undef, undef, undef, undef, undef, undef] 3 ?_ hS ?_
     ·simp only [tkY, tkf]
      refine ⟨.yes ?_, .yes ?_, .yes ?_, .yes ?_, .yes ?_, .no, .no, .no, .no, .no, .no, .no, .no, trivial⟩
      all_goals
       intro W' hW'
       go_simp
     simp only [tkA, tkf]
     have hS2 := hS
     clear hS
     refine tks [13, 14, 15] [.bool false, .int .i64 hi, .bool false] 0 ?_ hS2 ?_
     ·simp only [tkY, tkf]
      refine ⟨.yes ?_, .yes ?_, .yes ?_, trivial⟩
      all_goals
       intro W' hW'
       go_simp
     simp only [tkA, tkf]
     refine ad ?_
     go_wp2_with fail
     go_ret2
     exact ⟨bsr_mk HN.out, hS2.1⟩
set_option maxHeartbeats 4000000 in
theorem bsP5 {α : Type} {F : Nat} (hF : F = 208 ∨ F = 277) (w : World) (a : Option Addr) (n c : Nat) (zs : Zs α) (R : List Value → α → Prop) (h : RdZ 5 R w (.slice a n c) zs) (hn : zs.length = n) (hbig : n ≤ 1000000) (t0 t1 t2 t3 t4 : Value) (ht : t0.oneCell' = true ∧ t1.oneCell' = true ∧ t2.oneCell' = true ∧ t3.oneCell' = true ∧ t4.oneCell' = true) (f : FuncId) (ef : ∀ args w, (callFunc f args).run Tryz.prog w = .ok (.enter f args) w)
  (cmp : α → Int) (hC : ∀ W z, z ∈ zs → Calls Tryz.prog f #[.agg z.1.toArray, .agg #[t0, t1, t2, t3, t4]] W fun e w' => e = .returned (.int .i64 (cmp z.2)) ∧ Bw W w') (p : Nat) (hp : p ≤ n) (hlo : ∀ i (hi : i < zs.length), i < p → cmp (zs[i]).2 < 0) (hhi : ∀ i (hi : i < zs.length), p ≤ i → ¬ cmp (zs[i]).2 < 0) :
  Calls Tryz.prog F #[.slice a n c, .agg #[t0, t1, t2, t3, t4], .func (.func f) #[] #[]] w fun e w' => BsR p zs cmp e ∧ Bw w w' := by
 have HI : Hid (RdZ 5 R w (.slice a n c) zs) := h
 have NI : Hid (zs.length = n) := hn
 have HLO : Hid (∀ i (hi : i < zs.length), i < p → cmp (zs[i]).2 < 0) := hlo
 have HHI : Hid (∀ i (hi : i < zs.length), p ≤ i → ¬ cmp (zs[i]).2 < 0) := hhi
 clear h hn hlo hhi
 rcases hF with rfl | rfl
 all_goals
  first | go_enter Tryz.func208, Tryz.ntmps208 | go_enter Tryz.func277, Tryz.ntmps277
  go_upto_region 1 with fail
  have HB := fun t => boxed w #[t0, t1, t2, t3, t4] t
  first | (obtain ⟨w1, hw1⟩ : ∃ x, w.alloc (.cells #[t0, t1, t2, t3, t4] 85) = x := ⟨_, rfl⟩; rw [hw1]; have H0 : Hid _ := HB 85; rw [hw1] at H0; clear hw1) | (obtain ⟨w1, hw1⟩ : ∃ x, w.alloc (.cells #[t0, t1, t2, t3, t4] 33) = x := ⟨_, rfl⟩; rw [hw1]; have H0 : Hid _ := HB 33; rw [hw1] at H0; clear hw1)
  clear HB
  go_wp2_with fail
  go_loopg [9, 10, 11] n (fun gg s9 s10 _ wr => ∃ lo hi : Nat, lo ≤ p ∧ p ≤ hi ∧ hi ≤ n ∧ hi - lo ≤ gg ∧ s9 = .int .i64 lo ∧ s10 = .int .i64 hi ∧ Hid (Bw w wr ∧ Bk wr w.heap.size #[t0, t1, t2, t3, t4]))
  case atStart => exact ⟨0, n, Nat.zero_le _, hp, Nat.le_refl _, by omega, rfl, rfl, H0.out⟩
  case round =>
   obtain ⟨lo, hi, hlo, hhi, hin, hg, rfl, rfl, HS⟩ := hrel
   clear H0
   obtain ⟨wt, hwt⟩ : ∃ W, W = wr := ⟨_, rfl⟩
   subst hwt
   by_cases hlt : lo < hi
   ·have hltz : (lo : Int) < (hi : Int) := by omega
    obtain ⟨m, hm⟩ : ∃ m, m = (lo + hi) / 2 := ⟨_, rfl⟩
    have hm1 : lo ≤ m := by omega
    have hm2 : m < hi := by omega
    have hmn : m < n := by omega
    have hmI : ((lo : Int) + (hi : Int)) / 2 = (m : Int) := by omega
    have hmnz : (m : Int) < (n : Int) := by omega
    have hmz : m < zs.length := by rw [NI.out]; exact hmn
    have HL : Hid (cmp (zs[m]).2 < 0 → m + 1 ≤ p) := fun hc => by
     rcases Nat.lt_or_ge m p with h2 | h2
     ·exact h2
     ·exact absurd hc (by have := HHI.out m hmz h2; omega)
    have HG : Hid (¬ cmp (zs[m]).2 < 0 → p ≤ m) := fun hc => by
     rcases Nat.lt_or_ge m p with h2 | h2
     ·exact absurd (HLO.out m hmz h2) (by omega)
     ·exact h2
    have hCm := fun W => hC W (zs[m]) (List.getElem_mem hmz)
    obtain ⟨b, o, v0, v1, v2, v3, v4, rfl, hz1, _, hone, hcl⟩ := el5_at HI.out (i := m) hmz
    have HCL : Hid _ := hcl
    rw [hz1] at hCm
    generalize cmp (zs[m]).2 = cz at *
    clear hz1 hm hcl
    by_cases hcz : cz < 0
    ·have H6 : Hid (m + 1 ≤ p) := HL.out hcz
     clear HL HG
     go_upto_region 5 with fail
     refine rh (fun W => Bw w W ∧ Bk W w.heap.size #[t0, t1, t2, t3, t4]) ?_
     have hS : Bw w wt.drew ∧ Bk wt.drew w.heap.size #[t0, t1, t2, t3, t4] := ⟨HS.out.1.drew, HS.out.2.drew⟩
     clear HS
     generalize wt.drew = wv at *
     refine tks [0, 1, 2, 3, 4, 5] [.func (.func f) #[] #[], .slice (some ⟨b, o, none⟩) n c, .int .i64 m, .pointer (some ⟨b, o + m * 5, none⟩), .agg #[v0, v1, v2, v3, v4], .agg #[t0, t1, t2, t3, t4]] 2 ?_ hS ?_
     ·simp only [tkY, tkf]
      refine ⟨.yes ?_, .yes ?_, .yes ?_, .yes ?_, .yes ?_, .yes ?_, trivial⟩
      all_goals
       intro W' hW'
       obtain ⟨c0, c1, c2, c3, c4⟩ := HCL.out _ hW'.1
       have := hW'.2.ce 0
       have := hW'.2.ce 1
       have := hW'.2.ce 2
       have := hW'.2.ce 3
       have := hW'.2.ce 4
       go_simp
     simp only [tkA, tkf]
     refine ak 6 fun K hK => ?_
     go_simp
     refine (hCm _).mono ?_
     rintro e w2 ⟨rfl, b2⟩
     have hS2 : Bw w w2 ∧ Bk w2 w.heap.size #[t0, t1, t2, t3, t4] := ⟨nxt hS.1 b2, hS.2.on b2⟩
     show K _ _
     refine hK _ _ hS2 ?_
     clear hK K hS b2
     try simp only [tkf]
     refine tks [7] [.bool (decide (cz < 0))] 0 ?_ hS2 ?_
     ·simp only [tkY, tkf]
      refine ⟨.yes ?_, trivial⟩
      all_goals
       intro W' hW'
       go_simp
     simp only [tkA, tkf]
     refine ad ?_
     have HS2 : Hid (Bw w w2 ∧ Bk w2 w.heap.size #[t0, t1, t2, t3, t4]) := hS2
     clear hS2 hCm
     go_wp2_with fail
     go_roundg (hi - (m + 1))
     case measure => omega
     case rel => exact ⟨m + 1, hi, H6.out, hhi, hin, by omega, by go_num, rfl, HS2.out⟩
    ·have H6 : Hid (p ≤ m) := HG.out hcz
     clear HL HG
     go_upto_region 5 with fail
     refine rh (fun W => Bw w W ∧ Bk W w.heap.size #[t0, t1, t2, t3, t4]) ?_
     have hS : Bw w wt.drew ∧ Bk wt.drew w.heap.size #[t0, t1, t2, t3, t4] := ⟨HS.out.1.drew, HS.out.2.drew⟩
     clear HS
     generalize wt.drew = wv at *
     refine tks [0, 1, 2, 3, 4, 5] [.func (.func f) #[] #[], .slice (some ⟨b, o, none⟩) n c, .int .i64 m, .pointer (some ⟨b, o + m * 5, none⟩), .agg #[v0, v1, v2, v3, v4], .agg #[t0, t1, t2, t3, t4]] 2 ?_ hS ?_
     ·simp only [tkY, tkf]
      refine ⟨.yes ?_, .yes ?_, .yes ?_, .yes ?_, .yes ?_, .yes ?_, trivial⟩
      all_goals
       intro W' hW'
       obtain ⟨c0, c1, c2, c3, c4⟩ := HCL.out _ hW'.1
       have := hW'.2.ce 0
       have := hW'.2.ce 1
       have := hW'.2.ce 2
       have := hW'.2.ce 3
       have := hW'.2.ce 4
       go_simp
     simp only [tkA, tkf]
     refine ak 6 fun K hK => ?_
     go_simp
     refine (hCm _).mono ?_
     rintro e w2 ⟨rfl, b2⟩
     have hS2 : Bw w w2 ∧ Bk w2 w.heap.size #[t0, t1, t2, t3, t4] := ⟨nxt hS.1 b2, hS.2.on b2⟩
     show K _ _
     refine hK _ _ hS2 ?_
     clear hK K hS b2
     try simp only [tkf]
     refine tks [7] [.bool (decide (cz < 0))] 0 ?_ hS2 ?_
     ·simp only [tkY, tkf]
      refine ⟨.yes ?_, trivial⟩
      all_goals
       intro W' hW'
       go_simp
     simp only [tkA, tkf]
     refine ad ?_
     have HS2 : Hid (Bw w w2 ∧ Bk w2 w.heap.size #[t0, t1, t2, t3, t4]) := hS2
     clear hS2 hCm
     go_wp2_with fail
     go_roundg (m - lo)
     case measure => omega
     case rel => exact ⟨lo, m, hlo, H6.out, by omega, by omega, rfl, rfl, HS2.out⟩
   ·have hltz : ¬ (lo : Int) < (hi : Int) := by omega
    obtain rfl : lo = p := by omega
    obtain rfl : hi = lo := by omega
    by_cases hl : hi < n
    ·have hlz : (hi : Int) < (n : Int) := by omega
     have hmz : hi < zs.length := by rw [NI.out]; exact hl
     have hCm := fun W => hC W (zs[hi]) (List.getElem_mem hmz)
     obtain ⟨b, o, v0, v1, v2, v3, v4, rfl, hz1, _, hone, hcl⟩ := el5_at HI.out (i := hi) hmz
     have HCL : Hid _ := hcl
     rw [hz1] at hCm
     have HZ : Hid (∀ cz, cz = cmp (zs[hi]).2 → ∀ b : Bool, b = (cz == 0) → (b = true ↔ ∃ hi' : hi < zs.length, cmp (zs[hi]).2 = 0)) := fun cz e b eb => by
      rw [eb, e]
      simp [hmz]
     obtain ⟨cz, hcz⟩ : ∃ cz, cz = cmp (zs[hi]).2 := ⟨_, rfl⟩
     have HZ2 : Hid (∀ b : Bool, b = (cz == 0) → (b = true ↔ ∃ hi' : hi < zs.length, cmp (zs[hi]).2 = 0)) := HZ.out cz hcz
     rw [← hcz] at hCm
     clear hz1 hcz HZ hcl
     go_upto_region 8 with fail
     refine rh (fun W => Bw w W ∧ Bk W w.heap.size #[t0, t1, t2, t3, t4]) ?_
     have hS : Bw w wt.drew ∧ Bk wt.drew w.heap.size #[t0, t1, t2, t3, t4] := ⟨HS.out.1.drew, HS.out.2.drew⟩
     clear HS
     generalize wt.drew = wv at *
     refine tks [0, 1, 2, 3, 4, 5, 6, 7, 8, 9, 10] [.int .i64 hi, .int .i64 hi, .int .i64 n, .bool true, .bool true, .func (.func f) #[] #[], .slice (some ⟨b, o, none⟩) n c, .int .i64 hi, .pointer (some ⟨b, o + hi * 5, none⟩), .agg #[v0, v1, v2, v3, v4], .agg #[t0, t1, t2, t3, t4]] 5 ?_ hS ?_
     ·simp only [tkY, tkf]
      refine ⟨.yes ?_, .yes ?_, .yes ?_, .yes ?_, .yes ?_, .yes ?_, .yes ?_, .yes ?_, .yes ?_, .yes ?_, .yes ?_, trivial⟩
      all_goals
       intro W' hW'
       obtain ⟨c0, c1, c2, c3, c4⟩ := HCL.out _ hW'.1
       have := hW'.2.ce 0
       have := hW'.2.ce 1
       have := hW'.2.ce 2
       have := hW'.2.ce 3
       have := hW'.2.ce 4
       go_simp
     simp only [tkA, tkf]
     refine ak 11 fun K hK => ?_
     go_simp
     refine (hCm _).mono ?_
     rintro e w2 ⟨rfl, b2⟩
     have hS2 : Bw w w2 ∧ Bk w2 w.heap.size #[t0, t1, t2, t3, t4] := ⟨nxt hS.1 b2, hS.2.on b2⟩
     show K _ _
     refine hK _ _ hS2 ?_
     clear hK K hS b2
     try simp only [tkf]
     refine tks [12, 13, 14, 15] [.bool (cz == 0), .bool (cz == 0), .int .i64 hi, .bool (cz == 0)] 0 ?_ hS2 ?_
     ·simp only [tkY, tkf]
      refine ⟨.yes ?_, .yes ?_, .yes ?_, .yes ?_, trivial⟩
      all_goals
       intro W' hW'
       go_simp
     simp only [tkA, tkf]
     refine ad ?_
     go_wp2_with fail
     go_ret2
     exact ⟨bsr_mk (HZ2.out _ rfl), hS2.1⟩
    ·have hlz : ¬ (hi : Int) < (n : Int) := by omega
     have HN : Hid ((false = true ↔ ∃ hi' : hi < zs.length, cmp (zs[hi]).2 = 0)) := by
      show _ ↔ _
      constructor
      ·intro h
       cases h
      ·rintro ⟨h, _⟩
       rw [NI.out] at h
       exact absurd h hl
     go_upto_region 8 with fail
     refine rh (fun W => Bw w W ∧ Bk W w.heap.size #[t0, t1, t2, t3, t4]) ?_
     have hS : Bw w wt.drew ∧ Bk wt.drew w.heap.size #[t0, t1, t2, t3, t4] := ⟨HS.out.1.drew, HS.out.2.drew⟩
     clear HS
     generalize wt.drew = wv at *
     refine tks [0, 1, 2, 3, 4, 5, 6, 7, 8, 9, 10, 11, 12] [.int .i64 hi, .int .i64 hi, .int .i64 n, .bool false, .bool false, undef, undef, undef, undef, undef, undef, undef, undef] 3 ?_ hS ?_
     ·simp only [tkY, tkf]
      refine ⟨.yes ?_, .yes ?_, .yes ?_, .yes ?_, .yes ?_, .no, .no, .no, .no, .no, .no, .no, .no, trivial⟩
      all_goals
       intro W' hW'
       go_simp
     simp only [tkA, tkf]
     have hS2 := hS
     clear hS
     refine tks [13, 14, 15] [.bool false, .int .i64 hi, .bool false] 0 ?_ hS2 ?_
     ·simp only [tkY, tkf]
      refine ⟨.yes ?_, .yes ?_, .yes ?_, trivial⟩
      all_goals
       intro W' hW'
       go_simp
     simp only [tkA, tkf]
     refine ad ?_
     go_wp2_with fail
     go_ret2
     exact ⟨bsr_mk HN.out, hS2.1⟩
end Go.Proofs.YtnpikgakpmkipabGreatDoor
