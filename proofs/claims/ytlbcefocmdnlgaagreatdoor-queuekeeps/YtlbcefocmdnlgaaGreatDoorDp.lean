/- What the law's does answers, told apart. Conditions: To.Vars, what the library's variables hold, and those that each row states. -/
import Derived.Test.YtlbcefocmdnlgaaGreatDoorDo
import Derived.Test.YtlbcefocmdnlgaaGreatDoorVo
namespace Go.Proofs.YtlbcefocmdnlgaaGreatDoor
open Go.RowKit Go.Lib
set_option maxRecDepth 100000
set_option linter.unusedSimpArgs false

theorem OIs.keepI {w w' : World} {B s g : Nat} {v : Value} {l : List Itm} {cs : Array Value} (h : OIs w B s v l) (k : Blk w g cs 43) (hgB : g < B) (hg : w.grownBy w' (some g)) : OIs w' B s v l := by
  refine h.but hg (fun e => ?_) (kt_grown k hg (by decide))
  obtain ⟨zs, _, h2⟩ := h
  have := (World.ownsRow.lt h2.1 _ e).1
  omega
theorem OIs.low {W : World} {B B' s : Nat} {v : Value} {l : List Itm} (h : OIs W B' s v l) (hB : B ≤ B') : OIs W B s v l := by
  obtain ⟨zs, h1, h2⟩ := h
  exact ⟨zs, h1, h2.low hB⟩
theorem OQs.low {W : World} {B B' s : Nat} {v : Value} {q : Que} (h : OQs W B' s v q) (hB : B ≤ B') : OQs W B s v q := by
  obtain ⟨iv, hv, h1, h2, h3⟩ := h
  exact ⟨iv, hv, h1, h2.low hB, h3.low hB⟩

set_option maxHeartbeats 4000000 in
theorem does_ap (w : World) (hva : To.Vars w) (v : Value) (q : Que) (h : RdQ w v q) (o : Opn) (hk0 : 0 ≤ o.kind) (hk4 : o.kind ≤ 4) (pv : Value) (hp : RdP w pv o.m.props) (hbig : lenQ q ≤ 1000000) :
    Calls Tryz.prog 19 #[v, .agg (opV o pv).toArray] w fun e w' => ∃ v' pv', e = .returned (.tuple #[v', .int .i64 (doesT q o), .agg (itmV (doesI q o) pv').toArray, .int .i64 (doesC q o)]) ∧
      ∃ sp, OQs w' w.heap.size sp v' (doesQ q o) ∧ OwnP w' w.heap.size pv' (doesI q o).msg.props ∧ (∀ g, pv'.ownBlock = some g → g < sp) ∧ w.heap.size ≤ sp ∧ Below w.heap.size w w' := by
  have hR := h
  obtain ⟨iv, hv, rfl, hi, hh⟩ := h
  obtain ⟨ai, ci, rfl⟩ := hi.len
  obtain ⟨ah, ch, rfl⟩ := hh.len
  clear hi hh
  have HP := fun (W : World) (b : Below w.heap.size w W) => push_any W (hva.below b) _ q (hR.on b) o.m pv (hp.on b) hbig
  have HT := fun (W : World) (b : Below w.heap.size w W) => take_ap W (hva.below b) _ q (hR.on b) o.conn o.n o.flag hbig
  have HS := fun (W : World) (b : Below w.heap.size w W) => settle_any W (hva.below b) _ q (hR.on b) o.conn o.n o.flag hbig
  have HR := fun (W : World) (b : Below w.heap.size w W) => release_any W (hva.below b) _ q (hR.on b) o.conn o.n hbig
  have HE := fun (W : World) (b : Below w.heap.size w W) => expire_any W (hva.below b) _ q (hR.on b) o.n hbig
  have S0 := Do4.start w #[tx q.name, .bool q.dur, .int .i64 q.depth, .int .i64 q.seq, .int .i64 q.tag, .slice ai q.items.length ci, .slice ah q.held.length ch] #[.int .i64 o.kind, .int .i64 o.conn, .int .i64 o.n, .bool o.flag, tx o.m.topic, tx o.m.body, pv, .bool o.m.dur, .int .i64 o.m.til]
  unfold opV queV at *
  unfold msgV at HP
  go_enter Tryz.func19, Tryz.ntmps19
  go_upto_region 1 with fail
  generalize (((w.alloc (.cells #[tx q.name, .bool q.dur, .int .i64 q.depth, .int .i64 q.seq, .int .i64 q.tag, .slice ai q.items.length ci, .slice ah q.held.length ch] 25)).alloc (.cells #[.int .i64 o.kind, .int .i64 o.conn, .int .i64 o.n, .bool o.flag, tx o.m.topic, tx o.m.body, pv, .bool o.m.dur, .int .i64 o.m.til] 30)).alloc (.cells #[.string ⟨#[]⟩, .bool false, .int .i64 0, .int .i64 0, .int .i64 0, .slice none 0 0, .slice none 0 0] 25)).alloc (.cells #[.int .i64 0, .bool false, .string ⟨#[]⟩, .string ⟨#[]⟩, .slice none 0 0, .bool false, .int .i64 0] 43) = w1 at *
  go_upto_region 2 with (refine wpl_load25 rfl (.tmp 2) rfl _ _ rfl S0.q rfl ?_)
  have S2 := S0.five (Blk.new w1 #[tx q.name, .bool q.dur, .int .i64 q.depth, .int .i64 q.seq, .int .i64 q.tag, .slice ai q.items.length ci, .slice ah q.held.length ch] 25) ((Below.refl _ w1).alloc (Nat.le_refl _) _)
  clear S0
  generalize w1.heap.size = g at *
  generalize w1.alloc (.cells #[tx q.name, .bool q.dur, .int .i64 q.depth, .int .i64 q.seq, .int .i64 q.tag, .slice ai q.items.length ci, .slice ah q.held.length ch] 25) = w2 at *
  have c0 : w2.cell? ⟨w.heap.size + 1, 0, none⟩ = some (.int .i64 o.kind) := S2.o.cell 0
  have c1 : w2.cell? ⟨w.heap.size + 1, 1, none⟩ = some (.int .i64 o.conn) := S2.o.cell 1
  have c2 : w2.cell? ⟨w.heap.size + 1, 2, none⟩ = some (.int .i64 o.n) := S2.o.cell 2
  have c3 : w2.cell? ⟨w.heap.size + 1, 3, none⟩ = some (.bool o.flag) := S2.o.cell 3
  have c4 : w2.cell? ⟨w.heap.size + 1, 4, none⟩ = some (tx o.m.topic) := S2.o.cell 4
  have c5 : w2.cell? ⟨w.heap.size + 1, 5, none⟩ = some (tx o.m.body) := S2.o.cell 5
  have c6 : w2.cell? ⟨w.heap.size + 1, 6, none⟩ = some pv := S2.o.cell 6
  have c7 : w2.cell? ⟨w.heap.size + 1, 7, none⟩ = some (.bool o.m.dur) := S2.o.cell 7
  have c8 : w2.cell? ⟨w.heap.size + 1, 8, none⟩ = some (.int .i64 o.m.til) := S2.o.cell 8
  by_cases h0 : o.kind = 0
  · rw [h0] at c0
    have eC : doesC q o = pushC q o.m := by simp [doesC, h0]
    have eN : doesN q o = pushQ q o.m := by simp [doesN, h0]
    have eT : doesT q o = 0 := by simp [doesT, h0]
    have eI : doesI q o = zeroI := by simp [doesI, h0]
    go_wp2_with (refine wpl_load25 rfl (.tmp 2) rfl _ _ rfl S2.q rfl ?_)
    refine (HP _ S2.b).mono ?_
    rintro e w3 ⟨v3, rfl, ho3, b3⟩
    have S3 := S2.on b3
    have hB : w.heap.size + 3 < w2.heap.size := Nat.lt_trans S2.e S2.x.lt
    have ho4 := ho3
    clear S2 ho3 b3 c0 c1 c2 c3 c4 c5 c6 c7 c8
    rw [← eC, ← eN] at ho4
    rw [← eC]
    change OwnQ w3 w2.heap.size v3 (doesQ q o) at ho4
    obtain ⟨iv3, hv3, rfl, oi3, oh3⟩ := ho4
    obtain ⟨ai3, ci3, rfl⟩ := oi3.rd.len
    obtain ⟨ah3, ch3, rfl⟩ := oh3.rd.len
    clear eC eN
    unfold queV
    go_wp2_with (refine wpl_put rfl (.tmp 8) (.tmp 20) rfl _ _ rfl rfl S3.x (by kernel_rfl) rfl (by simp [Value.oneCell']) ?_)
    intro w4 k4 g4 s4
    have S4 := S3.put k4 g4
    have oi4 := oi3.keep (kt_grown S3.x g4 (by decide)) (kt_grown S3.x g4 (by decide))
    have oh4 := oh3.keep (kt_grown S3.x g4 (by decide)) (kt_grown S3.x g4 (by decide))
    clear S3 oi3 oh3 k4 g4 s4
    go_wp2_with (first | (refine wpl_load25 rfl (.tmp 8) rfl _ _ rfl S4.x rfl ?_) | (refine wpl_put rfl (.tmp 4) (.tmp 69) rfl _ _ rfl rfl S4.r (by kernel_rfl) rfl (by simp [Value.oneCell']) ?_))
    intro w5 k5 g5 s5
    have i5 := S4.i.grown g5 (fun e => by injection e with e; omega)
    have b5 := S4.b.grown g5 S4.b.size (fun k hk => by injection hk with hk; omega)
    have oi5 := oi4.keep (kt_grown S4.r g5 (by decide)) (kt_grown S4.r g5 (by decide))
    have oh5 := oh4.keep (kt_grown S4.r g5 (by decide)) (kt_grown S4.r g5 (by decide))
    clear S4 oi4 oh4 g5 s5
    go_wp2_with (refine wpl_put rfl (.tmp 6) (.tmp 70) rfl _ _ rfl rfl i5 (by kernel_rfl) rfl (by simp [Value.oneCell']) ?_)
    intro w6 k6 g6 s6
    go_wp2_with fail
    have b6 := b5.grown g6 b5.size (fun k hk => by injection hk with hk; omega)
    have k7 := k5.grown g6 (fun e => by injection e with e; omega)
    have oq : OwnQ w6 w.heap.size (queV (doesQ q o) (.slice ai3 (doesQ q o).items.length ci3) (.slice ah3 (doesQ q o).held.length ch3)) (doesQ q o) := OwnQ.low ⟨_, _, rfl, oi5.keepI i5 (by omega) g6, oh5.keep (kt_grown i5 g6 (by decide)) (kt_grown i5 g6 (by decide))⟩ (by omega : w.heap.size ≤ w2.heap.size)
    refine ret4 rfl k7 rfl k6 rfl rfl rfl rfl rfl ⟨_, .slice none 0 0, ?_, w.heap.size, oq, ?_, (fun g hg => by cases hg), Nat.le_refl _, b6⟩
    · rw [eT, eI]
      rfl
    · rw [eI]
      exact World.ownsRow_nil ..
  by_cases h1 : o.kind = 1
  · rw [h1] at c0
    have eC : doesC q o = takeC q o.conn o.n := by simp [doesC, h1]
    have eN : doesN q o = takeQ q o.conn o.n o.flag := by simp [doesN, h1]
    have eT : doesT q o = (if takeC q o.conn o.n = 0 then (if o.flag then q.tag + 1 else 0) else 0) := by simp [doesT, h1]
    have eI : doesI q o = (if takeC q o.conn o.n = 0 then q.items.headD zeroI else zeroI) := by simp [doesI, h1]
    go_wp2_with (refine wpl_load25 rfl (.tmp 2) rfl _ _ rfl S2.q rfl ?_)
    refine (HT _ S2.b).mono ?_
    rw [← eT, ← eI, ← eC, ← eN]
    rintro e w3 ⟨v3, pv3, rfl, sp, ho3, hp3, hps, hsw, b3⟩
    have HPS : Hid ((∀ g, pv3.ownBlock = some g → g < sp) ∧ w.heap.size ≤ sp) := ⟨hps, Nat.le_trans S2.b.size hsw⟩
    clear hps hsw
    have S3 := S2.on b3
    have hB : w.heap.size + 3 < w2.heap.size := Nat.lt_trans S2.e S2.x.lt
    have ho4 := ho3
    have hp4 : OwnP w3 w.heap.size pv3 (doesI q o).msg.props := hp3.low S2.b.size
    clear S2 ho3 hp3 b3 c0 c1 c2 c3 c4 c5 c6 c7 c8 eC eN eT eI
    change OQs w3 w2.heap.size sp v3 (doesQ q o) at ho4
    obtain ⟨iv3, hv3, rfl, oi3, oh3⟩ := ho4
    obtain ⟨ai3, ci3, rfl⟩ := oi3.len
    obtain ⟨ah3, ch3, rfl⟩ := oh3.len
    obtain ⟨pa3, pc3, rfl⟩ := hp4.shape
    unfold queV itmV
    go_wp2_with (refine wpl_put rfl (.tmp 4) (.tmp 32) rfl _ _ rfl rfl S3.r (by kernel_rfl) rfl (by simp [Value.oneCell']) ?_)
    intro w5 k5 g5 s5
    have i5 := S3.i.grown g5 (fun e => by injection e with e; omega)
    have b5 := S3.b.grown g5 S3.b.size (fun k hk => by injection hk with hk; omega)
    have oi5 := oi3.keep (kt_grown S3.r g5 (by decide)) (kt_grown S3.r g5 (by decide))
    have oh5 := oh3.keep (kt_grown S3.r g5 (by decide)) (kt_grown S3.r g5 (by decide))
    have hp5 := hp4.keep (kt_grown S3.r g5 (by decide))
    clear S3 oi3 oh3 hp4 g5 s5
    go_wp2_with (refine wpl_put rfl (.tmp 6) (.tmp 34) rfl _ _ rfl rfl i5 (by kernel_rfl) rfl (by simp [Value.oneCell']) ?_)
    intro w6 k6 g6 s6
    go_wp2_with fail
    have b6 := b5.grown g6 b5.size (fun k hk => by injection hk with hk; omega)
    have k7 := k5.grown g6 (fun e => by injection e with e; omega)
    have oq : OQs w6 w.heap.size sp (queV (doesQ q o) (.slice ai3 (doesQ q o).items.length ci3) (.slice ah3 (doesQ q o).held.length ch3)) (doesQ q o) := OQs.low ⟨_, _, rfl, oi5.keepI i5 (by omega) g6, oh5.keep (kt_grown i5 g6 (by decide)) (kt_grown i5 g6 (by decide))⟩ (by omega : w.heap.size ≤ w2.heap.size)
    exact ret4 rfl k7 rfl k6 rfl rfl rfl rfl rfl ⟨_, _, rfl, sp, oq, hp5.keep (kt_grown i5 g6 (by decide)), HPS.out.1, HPS.out.2, b6⟩
  by_cases h2 : o.kind = 2
  · rw [h2] at c0
    have eC : doesC q o = settleC q o.conn o.n := by simp [doesC, h2]
    have eN : doesN q o = settleQ q o.conn o.n o.flag := by simp [doesN, h2]
    have eT : doesT q o = 0 := by simp [doesT, h2]
    have eI : doesI q o = zeroI := by simp [doesI, h2]
    go_wp2_with (refine wpl_load25 rfl (.tmp 2) rfl _ _ rfl S2.q rfl ?_)
    refine (HS _ S2.b).mono ?_
    rintro e w3 ⟨v3, rfl, ho3, b3⟩
    have S3 := S2.on b3
    have hB : w.heap.size + 3 < w2.heap.size := Nat.lt_trans S2.e S2.x.lt
    have ho4 := ho3
    clear S2 ho3 b3 c0 c1 c2 c3 c4 c5 c6 c7 c8
    rw [← eC, ← eN] at ho4
    rw [← eC]
    change OwnQ w3 w2.heap.size v3 (doesQ q o) at ho4
    obtain ⟨iv3, hv3, rfl, oi3, oh3⟩ := ho4
    obtain ⟨ai3, ci3, rfl⟩ := oi3.rd.len
    obtain ⟨ah3, ch3, rfl⟩ := oh3.rd.len
    clear eC eN
    unfold queV
    go_wp2_with (refine wpl_put rfl (.tmp 8) (.tmp 47) rfl _ _ rfl rfl S3.x (by kernel_rfl) rfl (by simp [Value.oneCell']) ?_)
    intro w4 k4 g4 s4
    have S4 := S3.put k4 g4
    have oi4 := oi3.keep (kt_grown S3.x g4 (by decide)) (kt_grown S3.x g4 (by decide))
    have oh4 := oh3.keep (kt_grown S3.x g4 (by decide)) (kt_grown S3.x g4 (by decide))
    clear S3 oi3 oh3 k4 g4 s4
    go_wp2_with (first | (refine wpl_load25 rfl (.tmp 8) rfl _ _ rfl S4.x rfl ?_) | (refine wpl_put rfl (.tmp 4) (.tmp 69) rfl _ _ rfl rfl S4.r (by kernel_rfl) rfl (by simp [Value.oneCell']) ?_))
    intro w5 k5 g5 s5
    have i5 := S4.i.grown g5 (fun e => by injection e with e; omega)
    have b5 := S4.b.grown g5 S4.b.size (fun k hk => by injection hk with hk; omega)
    have oi5 := oi4.keep (kt_grown S4.r g5 (by decide)) (kt_grown S4.r g5 (by decide))
    have oh5 := oh4.keep (kt_grown S4.r g5 (by decide)) (kt_grown S4.r g5 (by decide))
    clear S4 oi4 oh4 g5 s5
    go_wp2_with (refine wpl_put rfl (.tmp 6) (.tmp 70) rfl _ _ rfl rfl i5 (by kernel_rfl) rfl (by simp [Value.oneCell']) ?_)
    intro w6 k6 g6 s6
    go_wp2_with fail
    have b6 := b5.grown g6 b5.size (fun k hk => by injection hk with hk; omega)
    have k7 := k5.grown g6 (fun e => by injection e with e; omega)
    have oq : OwnQ w6 w.heap.size (queV (doesQ q o) (.slice ai3 (doesQ q o).items.length ci3) (.slice ah3 (doesQ q o).held.length ch3)) (doesQ q o) := OwnQ.low ⟨_, _, rfl, oi5.keepI i5 (by omega) g6, oh5.keep (kt_grown i5 g6 (by decide)) (kt_grown i5 g6 (by decide))⟩ (by omega : w.heap.size ≤ w2.heap.size)
    refine ret4 rfl k7 rfl k6 rfl rfl rfl rfl rfl ⟨_, .slice none 0 0, ?_, w.heap.size, oq, ?_, (fun g hg => by cases hg), Nat.le_refl _, b6⟩
    · rw [eT, eI]
      rfl
    · rw [eI]
      exact World.ownsRow_nil ..
  by_cases h3 : o.kind = 3
  · rw [h3] at c0
    have eC : doesC q o = relC q := by simp [doesC, h3]
    have eN : doesN q o = releaseQ q o.conn o.n := by simp [doesN, h3]
    have eT : doesT q o = 0 := by simp [doesT, h3]
    have eI : doesI q o = zeroI := by simp [doesI, h3]
    go_wp2_with (refine wpl_load25 rfl (.tmp 2) rfl _ _ rfl S2.q rfl ?_)
    refine (HR _ S2.b).mono ?_
    rintro e w3 ⟨v3, rfl, ho3, b3⟩
    have S3 := S2.on b3
    have hB : w.heap.size + 3 < w2.heap.size := Nat.lt_trans S2.e S2.x.lt
    have ho4 := ho3
    clear S2 ho3 b3 c0 c1 c2 c3 c4 c5 c6 c7 c8
    rw [← eC, ← eN] at ho4
    rw [← eC]
    change OwnQ w3 w2.heap.size v3 (doesQ q o) at ho4
    obtain ⟨iv3, hv3, rfl, oi3, oh3⟩ := ho4
    obtain ⟨ai3, ci3, rfl⟩ := oi3.rd.len
    obtain ⟨ah3, ch3, rfl⟩ := oh3.rd.len
    clear eC eN
    unfold queV
    go_wp2_with (refine wpl_put rfl (.tmp 8) (.tmp 58) rfl _ _ rfl rfl S3.x (by kernel_rfl) rfl (by simp [Value.oneCell']) ?_)
    intro w4 k4 g4 s4
    have S4 := S3.put k4 g4
    have oi4 := oi3.keep (kt_grown S3.x g4 (by decide)) (kt_grown S3.x g4 (by decide))
    have oh4 := oh3.keep (kt_grown S3.x g4 (by decide)) (kt_grown S3.x g4 (by decide))
    clear S3 oi3 oh3 k4 g4 s4
    go_wp2_with (first | (refine wpl_load25 rfl (.tmp 8) rfl _ _ rfl S4.x rfl ?_) | (refine wpl_put rfl (.tmp 4) (.tmp 69) rfl _ _ rfl rfl S4.r (by kernel_rfl) rfl (by simp [Value.oneCell']) ?_))
    intro w5 k5 g5 s5
    have i5 := S4.i.grown g5 (fun e => by injection e with e; omega)
    have b5 := S4.b.grown g5 S4.b.size (fun k hk => by injection hk with hk; omega)
    have oi5 := oi4.keep (kt_grown S4.r g5 (by decide)) (kt_grown S4.r g5 (by decide))
    have oh5 := oh4.keep (kt_grown S4.r g5 (by decide)) (kt_grown S4.r g5 (by decide))
    clear S4 oi4 oh4 g5 s5
    go_wp2_with (refine wpl_put rfl (.tmp 6) (.tmp 70) rfl _ _ rfl rfl i5 (by kernel_rfl) rfl (by simp [Value.oneCell']) ?_)
    intro w6 k6 g6 s6
    go_wp2_with fail
    have b6 := b5.grown g6 b5.size (fun k hk => by injection hk with hk; omega)
    have k7 := k5.grown g6 (fun e => by injection e with e; omega)
    have oq : OwnQ w6 w.heap.size (queV (doesQ q o) (.slice ai3 (doesQ q o).items.length ci3) (.slice ah3 (doesQ q o).held.length ch3)) (doesQ q o) := OwnQ.low ⟨_, _, rfl, oi5.keepI i5 (by omega) g6, oh5.keep (kt_grown i5 g6 (by decide)) (kt_grown i5 g6 (by decide))⟩ (by omega : w.heap.size ≤ w2.heap.size)
    refine ret4 rfl k7 rfl k6 rfl rfl rfl rfl rfl ⟨_, .slice none 0 0, ?_, w.heap.size, oq, ?_, (fun g hg => by cases hg), Nat.le_refl _, b6⟩
    · rw [eT, eI]
      rfl
    · rw [eI]
      exact World.ownsRow_nil ..
  by_cases h4 : o.kind = 4
  · rw [h4] at c0
    have eC : doesC q o = relC q := by simp [doesC, h4]
    have eN : doesN q o = expireQ q o.n := by simp [doesN, h4]
    have eT : doesT q o = 0 := by simp [doesT, h4]
    have eI : doesI q o = zeroI := by simp [doesI, h4]
    go_wp2_with (refine wpl_load25 rfl (.tmp 2) rfl _ _ rfl S2.q rfl ?_)
    refine (HE _ S2.b).mono ?_
    rintro e w3 ⟨v3, rfl, ho3, b3⟩
    have S3 := S2.on b3
    have hB : w.heap.size + 3 < w2.heap.size := Nat.lt_trans S2.e S2.x.lt
    have ho4 := ho3
    clear S2 ho3 b3 c0 c1 c2 c3 c4 c5 c6 c7 c8
    rw [← eC, ← eN] at ho4
    rw [← eC]
    change OwnQ w3 w2.heap.size v3 (doesQ q o) at ho4
    obtain ⟨iv3, hv3, rfl, oi3, oh3⟩ := ho4
    obtain ⟨ai3, ci3, rfl⟩ := oi3.rd.len
    obtain ⟨ah3, ch3, rfl⟩ := oh3.rd.len
    clear eC eN
    unfold queV
    go_wp2_with (refine wpl_put rfl (.tmp 8) (.tmp 67) rfl _ _ rfl rfl S3.x (by kernel_rfl) rfl (by simp [Value.oneCell']) ?_)
    intro w4 k4 g4 s4
    have S4 := S3.put k4 g4
    have oi4 := oi3.keep (kt_grown S3.x g4 (by decide)) (kt_grown S3.x g4 (by decide))
    have oh4 := oh3.keep (kt_grown S3.x g4 (by decide)) (kt_grown S3.x g4 (by decide))
    clear S3 oi3 oh3 k4 g4 s4
    go_wp2_with (first | (refine wpl_load25 rfl (.tmp 8) rfl _ _ rfl S4.x rfl ?_) | (refine wpl_put rfl (.tmp 4) (.tmp 69) rfl _ _ rfl rfl S4.r (by kernel_rfl) rfl (by simp [Value.oneCell']) ?_))
    intro w5 k5 g5 s5
    have i5 := S4.i.grown g5 (fun e => by injection e with e; omega)
    have b5 := S4.b.grown g5 S4.b.size (fun k hk => by injection hk with hk; omega)
    have oi5 := oi4.keep (kt_grown S4.r g5 (by decide)) (kt_grown S4.r g5 (by decide))
    have oh5 := oh4.keep (kt_grown S4.r g5 (by decide)) (kt_grown S4.r g5 (by decide))
    clear S4 oi4 oh4 g5 s5
    go_wp2_with (refine wpl_put rfl (.tmp 6) (.tmp 70) rfl _ _ rfl rfl i5 (by kernel_rfl) rfl (by simp [Value.oneCell']) ?_)
    intro w6 k6 g6 s6
    go_wp2_with fail
    have b6 := b5.grown g6 b5.size (fun k hk => by injection hk with hk; omega)
    have k7 := k5.grown g6 (fun e => by injection e with e; omega)
    have oq : OwnQ w6 w.heap.size (queV (doesQ q o) (.slice ai3 (doesQ q o).items.length ci3) (.slice ah3 (doesQ q o).held.length ch3)) (doesQ q o) := OwnQ.low ⟨_, _, rfl, oi5.keepI i5 (by omega) g6, oh5.keep (kt_grown i5 g6 (by decide)) (kt_grown i5 g6 (by decide))⟩ (by omega : w.heap.size ≤ w2.heap.size)
    refine ret4 rfl k7 rfl k6 rfl rfl rfl rfl rfl ⟨_, .slice none 0 0, ?_, w.heap.size, oq, ?_, (fun g hg => by cases hg), Nat.le_refl _, b6⟩
    · rw [eT, eI]
      rfl
    · rw [eI]
      exact World.ownsRow_nil ..
  omega
end Go.Proofs.YtlbcefocmdnlgaaGreatDoor
