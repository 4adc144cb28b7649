
/- What the document's Same answers of two queues that are the same: true. Conditions: those that each row states. -/
import Derived.Test.YtlbcefocmdnlgaaGreatDoorSm
import Derived.Test.YtlbcefocmdnlgaaGreatDoorNw
import Derived.BigRegion
import Derived.Deep.DeepCutAuto
namespace Go.Proofs.YtlbcefocmdnlgaaGreatDoor
open Go.RowKit Go.Lib
set_option maxRecDepth 100000
set_option linter.unusedSimpArgs false

/-- An item's cells, where nothing that was there is changed. -/
def ItC (w : World) (b o : Nat) (x : Itm) (pv : Value) : Prop := ∀ W, Below w.heap.size w W → W.cell? ⟨b, o, none⟩ = some (.int .i64 x.seq) ∧ W.cell? ⟨b, o + 1, none⟩ = some (.bool x.again) ∧ W.cell? ⟨b, o + 2, none⟩ = some (tx x.msg.topic) ∧ W.cell? ⟨b, o + 3, none⟩ = some (tx x.msg.body) ∧ W.cell? ⟨b, o + 4, none⟩ = some pv ∧ W.cell? ⟨b, o + 5, none⟩ = some (.bool x.msg.dur) ∧ W.cell? ⟨b, o + 6, none⟩ = some (.int .i64 x.msg.til)
theorem itc_at {w : World} {a : Option Addr} {n c : Nat} {zs : Zs Itm} (h : RdZ 7 (ItR (RdP w)) w (.slice a n c) zs) {i : Nat} (hi : i < zs.length) :
    ∃ b o pv, a = some ⟨b, o, none⟩ ∧ RdP w pv (zs[i]).2.msg.props ∧ ItC w b (o + i * 7) (zs[i]).2 pv := by
  obtain ⟨b, o, pv, e, _, hp, c0, c1, c2, c3, c4, c5, c6⟩ := itm_at h (Below.refl _ w) hi
  have k : ∀ {ad : Addr} {u : Value}, w.cell? ad = some u → ∀ W, Below w.heap.size w W → W.cell? ad = some u := fun hc W hb => (hb.cell (World.block_lt_of_cell? w _ hc)).trans hc
  exact ⟨b, o, pv, e, hp, fun W hb => ⟨k c0 W hb, k c1 W hb, k c2 W hb, k c3 W hb, k c4 W hb, k c5 W hb, k c6 W hb⟩⟩
/-- A held one's cells, where nothing that was there is changed. -/
def HeC (w : World) (b o : Nat) (x : Hld) (pv : Value) : Prop := ∀ W, Below w.heap.size w W → W.cell? ⟨b, o, none⟩ = some (.int .i64 x.tag) ∧ W.cell? ⟨b, o + 1, none⟩ = some (.int .i64 x.conn) ∧ W.cell? ⟨b, o + 2, none⟩ = some (.int .i64 x.sub) ∧ W.cell? ⟨b, o + 3, none⟩ = some (.int .i64 x.itm.seq) ∧ W.cell? ⟨b, o + 4, none⟩ = some (.bool x.itm.again) ∧ W.cell? ⟨b, o + 5, none⟩ = some (tx x.itm.msg.topic) ∧ W.cell? ⟨b, o + 6, none⟩ = some (tx x.itm.msg.body) ∧ W.cell? ⟨b, o + 7, none⟩ = some (pv) ∧ W.cell? ⟨b, o + 8, none⟩ = some (.bool x.itm.msg.dur) ∧ W.cell? ⟨b, o + 9, none⟩ = some (.int .i64 x.itm.msg.til)
theorem hec_at {w : World} {a : Option Addr} {n c : Nat} {zs : Zs Hld} (h : RdZ 10 (HeR (RdP w)) w (.slice a n c) zs) {i : Nat} (hi : i < zs.length) :
    ∃ b o pv, a = some ⟨b, o, none⟩ ∧ RdP w pv (zs[i]).2.itm.msg.props ∧ HeC w b (o + i * 10) (zs[i]).2 pv := by
  obtain ⟨b, o, pv, e, _, hp, c0, c1, c2, c3, c4, c5, c6, c7, c8, c9⟩ := hld_at h (Below.refl _ w) hi
  have k : ∀ {ad : Addr} {u : Value}, w.cell? ad = some u → ∀ W, Below w.heap.size w W → W.cell? ad = some u := fun hc W hb => (hb.cell (World.block_lt_of_cell? w _ hc)).trans hc
  exact ⟨b, o, pv, e, hp, fun W hb => ⟨k c0 W hb, k c1 W hb, k c2 W hb, k c3 W hb, k c4 W hb, k c5 W hb, k c6 W hb, k c7 W hb, k c8 W hb, k c9 W hb⟩⟩
structure SaS (w W : World) (qs rs : Array Value) : Prop where
  a : Blk W w.heap.size qs 25
  b : Blk W (w.heap.size + 1) rs 25
  l : Below w.heap.size w W
theorem SaS.on {w W W' : World} {qs rs : Array Value} (h : SaS w W qs rs) (hb : Below W.heap.size W W') : SaS w W' qs rs := ⟨h.a.on hb, h.b.on hb, nxt h.l hb⟩
theorem SaS.start (w : World) (qs rs : Array Value) : SaS w ((w.alloc (.cells qs 25)).alloc (.cells rs 25)) qs rs := by
  refine ⟨(Blk.new _ _ _).alloc _, ?_, ((Below.refl _ w).alloc (Nat.le_refl _) _).alloc (by simp) _⟩
  have := Blk.new (w.alloc (.cells qs 25)) rs 25
  rwa [World.size_alloc] at this

set_option maxHeartbeats 4000000 in
theorem same_same (w : World) (v u : Value) (q : Que) (h : RdQ w v q) (h' : RdQ w u q) (hq : Small q) :
    Calls Tryz.prog 12 #[v, u] w fun e w' => e = .returned (.bool true) ∧ Below w.heap.size w w' := by
  obtain ⟨i1, h1, rfl, ⟨zi, ei, hi⟩, ⟨zh, eh, hh⟩⟩ := h
  obtain ⟨i2, h2, rfl, ⟨yi, fi, gi⟩, ⟨yh, fh, gh⟩⟩ := h'
  obtain ⟨ai, ci, rfl⟩ := hi.len
  obtain ⟨ah, ch, rfl⟩ := hh.len
  obtain ⟨bi, di, rfl⟩ := gi.len
  obtain ⟨bh, dh, rfl⟩ := gh.len
  obtain ⟨ni, hni⟩ : ∃ n, q.items.length = n := ⟨_, rfl⟩
  obtain ⟨nh, hnh⟩ : ∃ n, q.held.length = n := ⟨_, rfl⟩
  have l1 : zi.length = ni := by rw [← hni, ← ei, List.length_map]
  have l2 : yi.length = ni := by rw [← hni, ← fi, List.length_map]
  have l3 : zh.length = nh := by rw [← hnh, ← eh, List.length_map]
  have l4 : yh.length = nh := by rw [← hnh, ← fh, List.length_map]
  rw [l1] at hi ⊢
  rw [l2] at gi ⊢
  rw [l3] at hh ⊢
  rw [l4] at gh ⊢
  have HI : Hid (RdZ 7 (ItR (RdP w)) w (.slice ai ni ci) zi ∧ RdZ 7 (ItR (RdP w)) w (.slice bi ni di) yi ∧ zi.map (·.2) = q.items ∧ yi.map (·.2) = q.items ∧ zi.length = ni ∧ yi.length = ni) := ⟨hi, gi, ei, fi, l1, l2⟩
  have HH : Hid (RdZ 10 (HeR (RdP w)) w (.slice ah nh ch) zh ∧ RdZ 10 (HeR (RdP w)) w (.slice bh nh dh) yh ∧ zh.map (·.2) = q.held ∧ yh.map (·.2) = q.held ∧ zh.length = nh ∧ yh.length = nh) := ⟨hh, gh, eh, fh, l3, l4⟩
  have hl1 : ni ≤ 1000 := by have := hq.items; omega
  have hl2 : nh ≤ 1000 := by have := hq.held; omega
  clear hi gi ei fi l1 l2 hh gh eh fh l3 l4 hni hnh
  have S0 : Hid (SaS w ((w.alloc (.cells #[tx q.name, .bool q.dur, .int .i64 q.depth, .int .i64 q.seq, .int .i64 q.tag, .slice ai ni ci, .slice ah nh ch] 25)).alloc (.cells #[tx q.name, .bool q.dur, .int .i64 q.depth, .int .i64 q.seq, .int .i64 q.tag, .slice bi ni di, .slice bh nh dh] 25)) #[tx q.name, .bool q.dur, .int .i64 q.depth, .int .i64 q.seq, .int .i64 q.tag, .slice ai ni ci, .slice ah nh ch] #[tx q.name, .bool q.dur, .int .i64 q.depth, .int .i64 q.seq, .int .i64 q.tag, .slice bi ni di, .slice bh nh dh]) := SaS.start ..
  unfold queV at *
  go_enter Tryz.func12, Tryz.ntmps12
  go_upto_region 1 with fail
  generalize (w.alloc (.cells #[tx q.name, .bool q.dur, .int .i64 q.depth, .int .i64 q.seq, .int .i64 q.tag, .slice ai ni ci, .slice ah nh ch] 25)).alloc (.cells #[tx q.name, .bool q.dur, .int .i64 q.depth, .int .i64 q.seq, .int .i64 q.tag, .slice bi ni di, .slice bh nh dh] 25) = w1 at *
  obtain ⟨c0, c1, c2, c3, c4, c5, c6⟩ := S0.out.a.c7
  obtain ⟨d0, d1, d2, d3, d4, d5, d6⟩ := S0.out.b.c7
  go_wp2_with fail
  clear c0 c1 c2 c3 c4 c5 c6 d0 d1 d2 d3 d4 d5 d6
  go_loopg [5, 63] ni (fun gg _ s63 wr => ∃ kk : Nat, kk ≤ ni ∧ ni - kk ≤ gg ∧ s63 = .int .i64 kk ∧ Hid (SaS w wr #[tx q.name, .bool q.dur, .int .i64 q.depth, .int .i64 q.seq, .int .i64 q.tag, .slice ai ni ci, .slice ah nh ch] #[tx q.name, .bool q.dur, .int .i64 q.depth, .int .i64 q.seq, .int .i64 q.tag, .slice bi ni di, .slice bh nh dh]))
  case atStart => exact ⟨0, Nat.zero_le _, by omega, rfl, S0⟩
  case round =>
    obtain ⟨kk, hkk, hg, rfl, HS⟩ := hrel
    clear S0
    obtain ⟨wr, hwr⟩ : ∃ W, W = wr := ⟨_, rfl⟩
    subst hwr
    by_cases hlt : kk < ni
    · have hltz : (kk : Int) < (ni : Int) := by omega
      obtain ⟨hi, gi, ei, fi, l1, l2⟩ := HI.out
      obtain ⟨b1, o1, p1, rfl, hp1, C1⟩ := itc_at hi (i := kk) (by omega)
      obtain ⟨b2, o2, p2, rfl, hp2, C2⟩ := itc_at gi (i := kk) (by omega)
      have hql : kk < q.items.length := by rw [← ei, List.length_map]; omega
      have x1 : (zi[kk]'(by omega)).2 = q.items[kk] := by simp only [← ei, List.getElem_map]
      have x2 : (yi[kk]'(by omega)).2 = q.items[kk] := by simp only [← fi, List.getElem_map]
      rw [x1] at hp1 C1
      rw [x2] at hp2 C2
      have hpl : (q.items[kk]).msg.props.length ≤ 2513169434916 := hq.ip _ (List.getElem_mem _)
      generalize q.items[kk] = x at *
      have HC : Hid (ItC w b1 (o1 + kk * 7) x p1 ∧ ItC w b2 (o2 + kk * 7) x p2) := ⟨C1, C2⟩
      obtain ⟨pa1, pc1, rfl⟩ := hp1.shape
      obtain ⟨pa2, pc2, rfl⟩ := hp2.shape
      have HA := fun (W : World) (b : Below w.heap.size w W) => sameItem_same W x _ _ (hp1.on b) (hp2.on b) (by omega)
      unfold itmV at HA
      clear hi gi ei fi l1 l2 hql x1 x2 hp1 hp2 C1 C2 hpl
      go_upto_region 6 with fail
      refine wp_region_held (S := fun W => SaS w W #[tx q.name, .bool q.dur, .int .i64 q.depth, .int .i64 q.seq, .int .i64 q.tag, .slice (some ⟨b1, o1, none⟩) ni ci, .slice ah nh ch] #[tx q.name, .bool q.dur, .int .i64 q.depth, .int .i64 q.seq, .int .i64 q.tag, .slice (some ⟨b2, o2, none⟩) ni di, .slice bh nh dh]) hmix ?_
      show wpAnyH _ _ _ _ _ _ _ _ (World.drew _)
      have hS : SaS w wr.drew #[tx q.name, .bool q.dur, .int .i64 q.depth, .int .i64 q.seq, .int .i64 q.tag, .slice (some ⟨b1, o1, none⟩) ni ci, .slice ah nh ch] #[tx q.name, .bool q.dur, .int .i64 q.depth, .int .i64 q.seq, .int .i64 q.tag, .slice (some ⟨b2, o2, none⟩) ni di, .slice bh nh dh] := ⟨⟨HS.out.a.h⟩, ⟨HS.out.b.h⟩, HS.out.l.drew⟩
      clear HS
      generalize wr.drew = w4 at *
      refine wpAnyH_take (i := 0) (v := .pointer (some ⟨w.heap.size, 5, none⟩)) rfl (by kernel_rfl) (by kernel_rfl) (by kernel_rfl) (fun _ _ _ h => h) (.inl ⟨by rfl, fun W' hW' => ?_⟩) hS ?_
      · obtain ⟨d0, d1, d2, d3, d4, d5, d6⟩ := hW'.a.c7
        go_simp
      simp only [Act.put, List.getElem_toArray, List.getElem_cons_zero, List.setIfInBounds_toArray, List.set_cons_succ, List.set_cons_zero]
      refine wpAnyH_take (i := 1) (v := .slice (some ⟨b1, o1, none⟩) ni ci) rfl (by kernel_rfl) (by kernel_rfl) (by kernel_rfl) (fun _ _ _ h => h) (.inl ⟨by rfl, fun W' hW' => ?_⟩) hS ?_
      · obtain ⟨d0, d1, d2, d3, d4, d5, d6⟩ := hW'.a.c7
        go_simp
      simp only [Act.put, List.getElem_toArray, List.getElem_cons_succ, List.getElem_cons_zero, List.setIfInBounds_toArray, List.set_cons_succ, List.set_cons_zero]
      refine wpAnyH_take (i := 2) (v := .int .i64 kk) rfl (by kernel_rfl) (by kernel_rfl) (by kernel_rfl) (fun _ _ _ h => h) (.inl ⟨by rfl, fun W' hW' => ?_⟩) hS ?_
      · obtain ⟨d0, d1, d2, d3, d4, d5, d6⟩ := hW'.a.c7
        go_simp
      simp only [Act.put, List.getElem_toArray, List.getElem_cons_succ, List.getElem_cons_zero, List.setIfInBounds_toArray, List.set_cons_succ, List.set_cons_zero]
      refine wpAnyH_take (i := 3) (v := .pointer (some ⟨b1, o1 + kk * 7, none⟩)) rfl (by kernel_rfl) (by kernel_rfl) (by kernel_rfl) (fun _ _ _ h => h) (.inl ⟨by rfl, fun W' hW' => ?_⟩) hS ?_
      · obtain ⟨d0, d1, d2, d3, d4, d5, d6⟩ := hW'.a.c7
        go_simp
      simp only [Act.put, List.getElem_toArray, List.getElem_cons_succ, List.getElem_cons_zero, List.setIfInBounds_toArray, List.set_cons_succ, List.set_cons_zero]
      refine wpAnyH_take (i := 4) (v := .agg #[.int .i64 x.seq, .bool x.again, tx x.msg.topic, tx x.msg.body, .slice pa1 x.msg.props.length pc1, .bool x.msg.dur, .int .i64 x.msg.til]) rfl (by kernel_rfl) (by kernel_rfl) (by kernel_rfl) (fun _ _ _ h => h) (.inl ⟨by rfl, fun W' hW' => ?_⟩) hS ?_
      · obtain ⟨d0, d1, d2, d3, d4, d5, d6⟩ := HC.out.1 W' hW'.l
        go_simp
      simp only [Act.put, List.getElem_toArray, List.getElem_cons_succ, List.getElem_cons_zero, List.setIfInBounds_toArray, List.set_cons_succ, List.set_cons_zero]
      refine wpAnyH_take (i := 5) (v := .pointer (some ⟨w.heap.size + 1, 5, none⟩)) rfl (by kernel_rfl) (by kernel_rfl) (by kernel_rfl) (fun _ _ _ h => h) (.inl ⟨by rfl, fun W' hW' => ?_⟩) hS ?_
      · obtain ⟨d0, d1, d2, d3, d4, d5, d6⟩ := hW'.b.c7
        go_simp
      simp only [Act.put, List.getElem_toArray, List.getElem_cons_succ, List.getElem_cons_zero, List.setIfInBounds_toArray, List.set_cons_succ, List.set_cons_zero]
      refine wpAnyH_take (i := 6) (v := .slice (some ⟨b2, o2, none⟩) ni di) rfl (by kernel_rfl) (by kernel_rfl) (by kernel_rfl) (fun _ _ _ h => h) (.inl ⟨by rfl, fun W' hW' => ?_⟩) hS ?_
      · obtain ⟨d0, d1, d2, d3, d4, d5, d6⟩ := hW'.b.c7
        go_simp
      simp only [Act.put, List.getElem_toArray, List.getElem_cons_succ, List.getElem_cons_zero, List.setIfInBounds_toArray, List.set_cons_succ, List.set_cons_zero]
      refine wpAnyH_take (i := 7) (v := .int .i64 kk) rfl (by kernel_rfl) (by kernel_rfl) (by kernel_rfl) (fun _ _ _ h => h) (.inl ⟨by rfl, fun W' hW' => ?_⟩) hS ?_
      · obtain ⟨d0, d1, d2, d3, d4, d5, d6⟩ := hW'.b.c7
        go_simp
      simp only [Act.put, List.getElem_toArray, List.getElem_cons_succ, List.getElem_cons_zero, List.setIfInBounds_toArray, List.set_cons_succ, List.set_cons_zero]
      refine wpAnyH_take (i := 8) (v := .pointer (some ⟨b2, o2 + kk * 7, none⟩)) rfl (by kernel_rfl) (by kernel_rfl) (by kernel_rfl) (fun _ _ _ h => h) (.inl ⟨by rfl, fun W' hW' => ?_⟩) hS ?_
      · obtain ⟨d0, d1, d2, d3, d4, d5, d6⟩ := hW'.b.c7
        go_simp
      simp only [Act.put, List.getElem_toArray, List.getElem_cons_succ, List.getElem_cons_zero, List.setIfInBounds_toArray, List.set_cons_succ, List.set_cons_zero]
      refine wpAnyH_take (i := 9) (v := .agg #[.int .i64 x.seq, .bool x.again, tx x.msg.topic, tx x.msg.body, .slice pa2 x.msg.props.length pc2, .bool x.msg.dur, .int .i64 x.msg.til]) rfl (by kernel_rfl) (by kernel_rfl) (by kernel_rfl) (fun _ _ _ h => h) (.inl ⟨by rfl, fun W' hW' => ?_⟩) hS ?_
      · obtain ⟨d0, d1, d2, d3, d4, d5, d6⟩ := HC.out.2 W' hW'.l
        go_simp
      simp only [Act.put, List.getElem_toArray, List.getElem_cons_succ, List.getElem_cons_zero, List.setIfInBounds_toArray, List.set_cons_succ, List.set_cons_zero]
      refine wpAnyH_one (i := 10) (by kernel_rfl) rfl (by rfl) (fun K hK => ?_)
      go_simp
      refine (HA _ hS.l).mono ?_
      rintro e w5 ⟨rfl, b5⟩
      replace hS := hS.on b5
      show K _ _
      refine hK _ _ hS ?_
      clear hK K b5
      refine wpAnyH_take (i := 11) (v := .bool false) rfl (by kernel_rfl) (by kernel_rfl) (by kernel_rfl) (fun _ _ _ h => h) (.inl ⟨by rfl, fun W' hW' => ?_⟩) hS ?_
      · go_simp
      simp only [Act.put, List.getElem_toArray, List.getElem_cons_succ, List.getElem_cons_zero, List.setIfInBounds_toArray, List.set_cons_succ, List.set_cons_zero]
      refine wpAnyH_done (by kernel_rfl) ?_ _
      have S5 : Hid (SaS w w5 #[tx q.name, .bool q.dur, .int .i64 q.depth, .int .i64 q.seq, .int .i64 q.tag, .slice (some ⟨b1, o1, none⟩) ni ci, .slice ah nh ch] #[tx q.name, .bool q.dur, .int .i64 q.depth, .int .i64 q.seq, .int .i64 q.tag, .slice (some ⟨b2, o2, none⟩) ni di, .slice bh nh dh]) := hS
      clear hS HC HA
      go_wp2_with fail
      go_roundg (ni - (kk + 1))
      case measure => omega
      case rel => exact ⟨kk + 1, by omega, by omega, by go_num, S5⟩
    · have hltz : ¬ (kk : Int) < (ni : Int) := by omega
      obtain ⟨c0, c1, c2, c3, c4, c5, c6⟩ := HS.out.a.c7
      go_wp2_with fail
      clear c0 c1 c2 c3 c4 c5 c6 HI
      go_loopg [6, 7, 8, 82] nh (fun gg _ _ _ s82 wy => ∃ k2 : Nat, k2 ≤ nh ∧ nh - k2 ≤ gg ∧ s82 = .int .i64 k2 ∧ Hid (SaS w wy #[tx q.name, .bool q.dur, .int .i64 q.depth, .int .i64 q.seq, .int .i64 q.tag, .slice ai ni ci, .slice ah nh ch] #[tx q.name, .bool q.dur, .int .i64 q.depth, .int .i64 q.seq, .int .i64 q.tag, .slice bi ni di, .slice bh nh dh]))
      case atStart => exact ⟨0, Nat.zero_le _, by omega, rfl, HS⟩
      case round =>
        obtain ⟨k2, hk2, hg2, rfl, HT⟩ := hrel
        clear HS
        obtain ⟨wt, hwt⟩ : ∃ W, W = wr := ⟨_, rfl⟩
        subst hwt
        by_cases hl2 : k2 < nh
        · have hl2z : (k2 : Int) < (nh : Int) := by omega
          obtain ⟨hh, gh, eh, fh, l3, l4⟩ := HH.out
          obtain ⟨b1, o1, p1, rfl, hp1, C1⟩ := hec_at hh (i := k2) (by omega)
          obtain ⟨b2, o2, p2, rfl, hp2, C2⟩ := hec_at gh (i := k2) (by omega)
          have hql : k2 < q.held.length := by rw [← eh, List.length_map]; omega
          have x1 : (zh[k2]'(by omega)).2 = q.held[k2] := by simp only [← eh, List.getElem_map]
          have x2 : (yh[k2]'(by omega)).2 = q.held[k2] := by simp only [← fh, List.getElem_map]
          rw [x1] at hp1 C1
          rw [x2] at hp2 C2
          have hpl : (q.held[k2]).itm.msg.props.length ≤ 2513169434916 := hq.hp _ (List.getElem_mem _)
          generalize q.held[k2] = x at *
          obtain ⟨pa1, pc1, rfl⟩ := hp1.shape
          obtain ⟨pa2, pc2, rfl⟩ := hp2.shape
          have HA : Hid (∀ W, Below w.heap.size w W → Calls Tryz.prog 21 #[.agg (itmV x.itm (.slice pa1 x.itm.msg.props.length pc1)).toArray, .agg (itmV x.itm (.slice pa2 x.itm.msg.props.length pc2)).toArray] W fun e w' => e = .returned (.bool true) ∧ Below W.heap.size W w') := fun W b => sameItem_same W x.itm _ _ (hp1.on b) (hp2.on b) (by omega)
          clear hh gh eh fh l3 l4 hql x1 x2 hp1 hp2 hpl
          obtain ⟨c0, c1, c2, c3, c4, c5, c6⟩ := HT.out.a.c7
          obtain ⟨d0, d1, d2, d3, d4, d5, d6⟩ := HT.out.b.c7
          obtain ⟨e0, e1, e2, e3, e4, e5, e6, e7, e8, e9⟩ := C1 wt HT.out.l
          obtain ⟨f0, f1, f2, f3, f4, f5, f6, f7, f8, f9⟩ := C2 wt HT.out.l
          clear C1 C2
          have L1 : w.heap.size < wt.heap.size := HT.out.a.lt
          have L2 : w.heap.size + 1 < wt.heap.size := HT.out.b.lt
          have L3 : b1 < wt.heap.size := World.block_lt_of_cell? wt _ e0
          have L4 : b2 < wt.heap.size := World.block_lt_of_cell? wt _ f0
          have L1' : w.heap.size ≠ wt.heap.size := by omega
          have L2' : w.heap.size + 1 ≠ wt.heap.size := by omega
          have L3' : b1 ≠ wt.heap.size := by omega
          have L4' : b2 ≠ wt.heap.size := by omega
          have L5' : w.heap.size + 1 ≠ wt.heap.size + 1 := by omega
          have L6' : b1 ≠ wt.heap.size + 1 := by omega
          have L7' : b2 ≠ wt.heap.size + 1 := by omega
          generalize x.itm.msg.props.length = np at *
          go_upto_region 12 with fail
          go_cut [7, 8] (fun s7 s8 wq => ∃ gA gB : Nat, s7 = .pointer (some ⟨gA, 0, none⟩) ∧ s8 = .pointer (some ⟨gB, 0, none⟩) ∧ Hid (Blk wq gA #[.int .i64 x.tag, .int .i64 x.conn, .int .i64 x.sub, .int .i64 x.itm.seq, .bool x.itm.again, .string ⟨x.itm.msg.topic.toArray⟩, .string ⟨x.itm.msg.body.toArray⟩, .slice pa1 np pc1, .bool x.itm.msg.dur, .int .i64 x.itm.msg.til] 61 ∧ Blk wq gB #[.int .i64 x.tag, .int .i64 x.conn, .int .i64 x.sub, .int .i64 x.itm.seq, .bool x.itm.again, .string ⟨x.itm.msg.topic.toArray⟩, .string ⟨x.itm.msg.body.toArray⟩, .slice pa2 np pc2, .bool x.itm.msg.dur, .int .i64 x.itm.msg.til] 61 ∧ SaS w wq #[tx q.name, .bool q.dur, .int .i64 q.depth, .int .i64 q.seq, .int .i64 q.tag, .slice ai ni ci, .slice (some ⟨b1, o1, none⟩) nh ch] #[tx q.name, .bool q.dur, .int .i64 q.depth, .int .i64 q.seq, .int .i64 q.tag, .slice bi ni di, .slice (some ⟨b2, o2, none⟩) nh dh]))
          case first =>
            go_region
            all_goals clear c0 c1 c2 c3 c4 c5 c6 d0 d1 d2 d3 d4 d5 d6 e0 e1 e2 e3 e4 e5 e6 e7 e8 e9 f0 f1 f2 f3 f4 f5 f6 f7 f8 f9 L1 L2 L3 L4 L1' L2' L3' L4' L5' L6' L7'
            · have kA : Blk ((wt.alloc (.cells #[.int .i64 x.tag, .int .i64 x.conn, .int .i64 x.sub, .int .i64 x.itm.seq, .bool x.itm.again, .string ⟨x.itm.msg.topic.toArray⟩, .string ⟨x.itm.msg.body.toArray⟩, .slice pa1 np pc1, .bool x.itm.msg.dur, .int .i64 x.itm.msg.til] 61)).alloc (.cells #[.int .i64 x.tag, .int .i64 x.conn, .int .i64 x.sub, .int .i64 x.itm.seq, .bool x.itm.again, .string ⟨x.itm.msg.topic.toArray⟩, .string ⟨x.itm.msg.body.toArray⟩, .slice pa2 np pc2, .bool x.itm.msg.dur, .int .i64 x.itm.msg.til] 61)).drew wt.heap.size #[.int .i64 x.tag, .int .i64 x.conn, .int .i64 x.sub, .int .i64 x.itm.seq, .bool x.itm.again, .string ⟨x.itm.msg.topic.toArray⟩, .string ⟨x.itm.msg.body.toArray⟩, .slice pa1 np pc1, .bool x.itm.msg.dur, .int .i64 x.itm.msg.til] 61 := ⟨((Blk.new wt _ _).alloc _).h⟩
              have kB : Blk ((wt.alloc (.cells #[.int .i64 x.tag, .int .i64 x.conn, .int .i64 x.sub, .int .i64 x.itm.seq, .bool x.itm.again, .string ⟨x.itm.msg.topic.toArray⟩, .string ⟨x.itm.msg.body.toArray⟩, .slice pa1 np pc1, .bool x.itm.msg.dur, .int .i64 x.itm.msg.til] 61)).alloc (.cells #[.int .i64 x.tag, .int .i64 x.conn, .int .i64 x.sub, .int .i64 x.itm.seq, .bool x.itm.again, .string ⟨x.itm.msg.topic.toArray⟩, .string ⟨x.itm.msg.body.toArray⟩, .slice pa2 np pc2, .bool x.itm.msg.dur, .int .i64 x.itm.msg.til] 61)).drew (wt.heap.size + 1) #[.int .i64 x.tag, .int .i64 x.conn, .int .i64 x.sub, .int .i64 x.itm.seq, .bool x.itm.again, .string ⟨x.itm.msg.topic.toArray⟩, .string ⟨x.itm.msg.body.toArray⟩, .slice pa2 np pc2, .bool x.itm.msg.dur, .int .i64 x.itm.msg.til] 61 := by
                have := Blk.new (wt.alloc (.cells #[.int .i64 x.tag, .int .i64 x.conn, .int .i64 x.sub, .int .i64 x.itm.seq, .bool x.itm.again, .string ⟨x.itm.msg.topic.toArray⟩, .string ⟨x.itm.msg.body.toArray⟩, .slice pa1 np pc1, .bool x.itm.msg.dur, .int .i64 x.itm.msg.til] 61)) #[.int .i64 x.tag, .int .i64 x.conn, .int .i64 x.sub, .int .i64 x.itm.seq, .bool x.itm.again, .string ⟨x.itm.msg.topic.toArray⟩, .string ⟨x.itm.msg.body.toArray⟩, .slice pa2 np pc2, .bool x.itm.msg.dur, .int .i64 x.itm.msg.til] 61
                rw [World.size_alloc] at this
                exact ⟨this.h⟩
              have bb : Below wt.heap.size wt ((wt.alloc (.cells #[.int .i64 x.tag, .int .i64 x.conn, .int .i64 x.sub, .int .i64 x.itm.seq, .bool x.itm.again, .string ⟨x.itm.msg.topic.toArray⟩, .string ⟨x.itm.msg.body.toArray⟩, .slice pa1 np pc1, .bool x.itm.msg.dur, .int .i64 x.itm.msg.til] 61)).alloc (.cells #[.int .i64 x.tag, .int .i64 x.conn, .int .i64 x.sub, .int .i64 x.itm.seq, .bool x.itm.again, .string ⟨x.itm.msg.topic.toArray⟩, .string ⟨x.itm.msg.body.toArray⟩, .slice pa2 np pc2, .bool x.itm.msg.dur, .int .i64 x.itm.msg.til] 61)).drew := (((Below.refl _ wt).alloc (Nat.le_refl _) _).alloc (by simp) _).drew
              go_wp2_with fail
              go_meet
              exact ⟨_, _, rfl, rfl, kA, kB, HT.out.on bb⟩
            · have kA : Blk ((wt.alloc (.cells #[.int .i64 x.tag, .int .i64 x.conn, .int .i64 x.sub, .int .i64 x.itm.seq, .bool x.itm.again, .string ⟨x.itm.msg.topic.toArray⟩, .string ⟨x.itm.msg.body.toArray⟩, .slice pa2 np pc2, .bool x.itm.msg.dur, .int .i64 x.itm.msg.til] 61)).alloc (.cells #[.int .i64 x.tag, .int .i64 x.conn, .int .i64 x.sub, .int .i64 x.itm.seq, .bool x.itm.again, .string ⟨x.itm.msg.topic.toArray⟩, .string ⟨x.itm.msg.body.toArray⟩, .slice pa1 np pc1, .bool x.itm.msg.dur, .int .i64 x.itm.msg.til] 61)).drew wt.heap.size #[.int .i64 x.tag, .int .i64 x.conn, .int .i64 x.sub, .int .i64 x.itm.seq, .bool x.itm.again, .string ⟨x.itm.msg.topic.toArray⟩, .string ⟨x.itm.msg.body.toArray⟩, .slice pa2 np pc2, .bool x.itm.msg.dur, .int .i64 x.itm.msg.til] 61 := ⟨((Blk.new wt _ _).alloc _).h⟩
              have kB : Blk ((wt.alloc (.cells #[.int .i64 x.tag, .int .i64 x.conn, .int .i64 x.sub, .int .i64 x.itm.seq, .bool x.itm.again, .string ⟨x.itm.msg.topic.toArray⟩, .string ⟨x.itm.msg.body.toArray⟩, .slice pa2 np pc2, .bool x.itm.msg.dur, .int .i64 x.itm.msg.til] 61)).alloc (.cells #[.int .i64 x.tag, .int .i64 x.conn, .int .i64 x.sub, .int .i64 x.itm.seq, .bool x.itm.again, .string ⟨x.itm.msg.topic.toArray⟩, .string ⟨x.itm.msg.body.toArray⟩, .slice pa1 np pc1, .bool x.itm.msg.dur, .int .i64 x.itm.msg.til] 61)).drew (wt.heap.size + 1) #[.int .i64 x.tag, .int .i64 x.conn, .int .i64 x.sub, .int .i64 x.itm.seq, .bool x.itm.again, .string ⟨x.itm.msg.topic.toArray⟩, .string ⟨x.itm.msg.body.toArray⟩, .slice pa1 np pc1, .bool x.itm.msg.dur, .int .i64 x.itm.msg.til] 61 := by
                have := Blk.new (wt.alloc (.cells #[.int .i64 x.tag, .int .i64 x.conn, .int .i64 x.sub, .int .i64 x.itm.seq, .bool x.itm.again, .string ⟨x.itm.msg.topic.toArray⟩, .string ⟨x.itm.msg.body.toArray⟩, .slice pa2 np pc2, .bool x.itm.msg.dur, .int .i64 x.itm.msg.til] 61)) #[.int .i64 x.tag, .int .i64 x.conn, .int .i64 x.sub, .int .i64 x.itm.seq, .bool x.itm.again, .string ⟨x.itm.msg.topic.toArray⟩, .string ⟨x.itm.msg.body.toArray⟩, .slice pa1 np pc1, .bool x.itm.msg.dur, .int .i64 x.itm.msg.til] 61
                rw [World.size_alloc] at this
                exact ⟨this.h⟩
              have bb : Below wt.heap.size wt ((wt.alloc (.cells #[.int .i64 x.tag, .int .i64 x.conn, .int .i64 x.sub, .int .i64 x.itm.seq, .bool x.itm.again, .string ⟨x.itm.msg.topic.toArray⟩, .string ⟨x.itm.msg.body.toArray⟩, .slice pa2 np pc2, .bool x.itm.msg.dur, .int .i64 x.itm.msg.til] 61)).alloc (.cells #[.int .i64 x.tag, .int .i64 x.conn, .int .i64 x.sub, .int .i64 x.itm.seq, .bool x.itm.again, .string ⟨x.itm.msg.topic.toArray⟩, .string ⟨x.itm.msg.body.toArray⟩, .slice pa1 np pc1, .bool x.itm.msg.dur, .int .i64 x.itm.msg.til] 61)).drew := (((Below.refl _ wt).alloc (Nat.le_refl _) _).alloc (by simp) _).drew
              go_wp2_with fail
              go_meet
              exact ⟨_, _, rfl, rfl, kB, kA, HT.out.on bb⟩
          case rest =>
            obtain ⟨gA, gB, rfl, rfl, HU⟩ := hcut
            clear c0 c1 c2 c3 c4 c5 c6 d0 d1 d2 d3 d4 d5 d6 e0 e1 e2 e3 e4 e5 e6 e7 e8 e9 f0 f1 f2 f3 f4 f5 f6 f7 f8 f9 L1 L2 L3 L4 L1' L2' L3' L4' L5' L6' L7' HT
            have HB := HA.out wc HU.out.2.2.l
            unfold itmV at HB
            obtain ⟨c0, c1, c2, c3, c4, c5, c6, c7, c8, c9⟩ := HU.out.1.c10
            obtain ⟨d0, d1, d2, d3, d4, d5, d6, d7, d8, d9⟩ := HU.out.2.1.c10
            have S5 : Hid (SaS w wc #[tx q.name, .bool q.dur, .int .i64 q.depth, .int .i64 q.seq, .int .i64 q.tag, .slice ai ni ci, .slice (some ⟨b1, o1, none⟩) nh ch] #[tx q.name, .bool q.dur, .int .i64 q.depth, .int .i64 q.seq, .int .i64 q.tag, .slice bi ni di, .slice (some ⟨b2, o2, none⟩) nh dh]) := HU.out.2.2
            clear HU HA
            go_wp2_with fail
            refine HB.mono ?_
            rintro e w6 ⟨rfl, b6⟩
            have S6 : Hid (SaS w w6 #[tx q.name, .bool q.dur, .int .i64 q.depth, .int .i64 q.seq, .int .i64 q.tag, .slice ai ni ci, .slice (some ⟨b1, o1, none⟩) nh ch] #[tx q.name, .bool q.dur, .int .i64 q.depth, .int .i64 q.seq, .int .i64 q.tag, .slice bi ni di, .slice (some ⟨b2, o2, none⟩) nh dh]) := S5.out.on b6
            clear S5 b6 HB c0 c1 c2 c3 c4 c5 c6 c7 c8 c9 d0 d1 d2 d3 d4 d5 d6 d7 d8 d9
            go_wp2_with fail
            go_roundg (nh - (k2 + 1))
            case measure => omega
            case rel => exact ⟨k2 + 1, by omega, by omega, by go_num, S6⟩
        · have hl2z : ¬ (k2 : Int) < (nh : Int) := by omega
          go_wp2
          go_ret
          exact ⟨rfl, HT.out.l⟩
end Go.Proofs.YtlbcefocmdnlgaaGreatDoor