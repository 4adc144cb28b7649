/- What Settle answers. Conditions: To.Vars, what the library's variables hold, and those that each row states. -/
import Derived.Test.YtlbcefocmdnlgaaGreatDoorEx
import Derived.Test.YtlbcefocmdnlgaaGreatDoorZg
namespace Go.Proofs.YtlbcefocmdnlgaaGreatDoor
open Go.RowKit Go.Lib
set_option maxRecDepth 100000
set_option linter.unusedSimpArgs false

theorem OwnZ.cellsAt {α : Type} {e k : Nat} {R : List Value → α → Prop} {w : World} {B g cap n : Nat} {zs : Zs α} (h : OwnZ e k R w B (.slice (some ⟨g, 0, none⟩) n cap) zs) {i : Nat} (hi : i < zs.length) :
    ∀ j u, (zs[i].1)[j]? = some u → w.cell? ⟨g, i * k + j, none⟩ = some u := fun j u hu => by
  have := h.rd.cells hi j u hu
  rwa [Nat.zero_add] at this
theorem e52 : ∀ args w, (callFunc 52 args).run Tryz.prog w = .ok (.enter 52 args) w := fun args w => by go_simp
theorem clos52 (W : World) (g1 g2 : Nat) (conn tag : Int) (k1 : Blk W g1 #[.int .i64 conn] 3) (k2 : Blk W g2 #[.int .i64 tag] 3) (x : Hld) (pv : Value) :
    Calls Tryz.prog 52 #[.agg (hldV x pv).toArray, .pointer (some ⟨g1, 0, none⟩), .pointer (some ⟨g2, 0, none⟩)] W fun e W' => e = .returned (.bool (isH conn tag x)) ∧ Below W.heap.size W W' := by
  unfold hldV isH
  have b1 := (Below.refl W.heap.size W).alloc (Nat.le_refl _) (.cells #[.int .i64 x.tag, .int .i64 x.conn, .int .i64 x.sub, .int .i64 x.itm.seq, .bool x.itm.again, tx x.itm.msg.topic, tx x.itm.msg.body, pv, .bool x.itm.msg.dur, .int .i64 x.itm.msg.til] 61)
  have kx := Blk.new W #[.int .i64 x.tag, .int .i64 x.conn, .int .i64 x.sub, .int .i64 x.itm.seq, .bool x.itm.again, tx x.itm.msg.topic, tx x.itm.msg.body, pv, .bool x.itm.msg.dur, .int .i64 x.itm.msg.til] 61
  have d1 := (k1.on b1).cell 0
  have d2 := (k2.on b1).cell 0
  simp only [List.getElem?_toArray, List.getElem?_cons_zero] at d1 d2
  go_enter Tryz.func52, Tryz.ntmps52
  go_upto_region 1 with fail
  generalize W.alloc (.cells #[.int .i64 x.tag, .int .i64 x.conn, .int .i64 x.sub, .int .i64 x.itm.seq, .bool x.itm.again, tx x.itm.msg.topic, tx x.itm.msg.body, pv, .bool x.itm.msg.dur, .int .i64 x.itm.msg.til] 61) = W1 at *
  obtain ⟨c0, c1, c2, c3, c4, c5, c6, c7, c8, c9⟩ := kx.c10
  by_cases h1 : x.conn = conn <;> by_cases h2 : x.tag = tag
  all_goals
    go_wp2
    go_ret
    exact ⟨ret_b (by simp [h1, h2]), b1⟩

structure SeS (w W : World) (qs : Array Value) (a b : Int) : Prop where
  q : Blk W w.heap.size qs 25
  a : Blk W (w.heap.size + 1) #[.int .i64 a] 3
  t : Blk W (w.heap.size + 2) #[.int .i64 b] 3
  r : Blk W (w.heap.size + 3) #[.string ⟨#[]⟩, .bool false, .int .i64 0, .int .i64 0, .int .i64 0, .slice none 0 0, .slice none 0 0] 25
  b : Below w.heap.size w W
theorem SeS.on {w W W' : World} {qs : Array Value} {a b : Int} (h : SeS w W qs a b) (hb : Below W.heap.size W W') : SeS w W' qs a b := ⟨h.q.on hb, h.a.on hb, h.t.on hb, h.r.on hb, nxt h.b hb⟩
theorem SeS.start (w : World) (qs : Array Value) (a b : Int) : SeS w ((((w.alloc (.cells qs 25)).alloc (.cells #[.int .i64 a] 3)).alloc (.cells #[.int .i64 b] 3)).alloc (.cells #[.string ⟨#[]⟩, .bool false, .int .i64 0, .int .i64 0, .int .i64 0, .slice none 0 0, .slice none 0 0] 25)) qs a b := by
  refine ⟨(((Blk.new _ _ _).alloc _).alloc _).alloc _, ?_, ?_, ?_, ((((Below.refl _ w).alloc (Nat.le_refl _) _).alloc (by simp) _).alloc (by simp; omega) _).alloc (by simp; omega) _⟩
  · have := ((Blk.new (w.alloc (.cells qs 25)) #[.int .i64 a] 3).alloc (.cells #[.int .i64 b] 3)).alloc (.cells #[.string ⟨#[]⟩, .bool false, .int .i64 0, .int .i64 0, .int .i64 0, .slice none 0 0, .slice none 0 0] 25)
    rwa [World.size_alloc] at this
  · have := (Blk.new ((w.alloc (.cells qs 25)).alloc (.cells #[.int .i64 a] 3)) #[.int .i64 b] 3).alloc (.cells #[.string ⟨#[]⟩, .bool false, .int .i64 0, .int .i64 0, .int .i64 0, .slice none 0 0, .slice none 0 0] 25)
    rwa [World.size_alloc, World.size_alloc] at this
  · have := Blk.new (((w.alloc (.cells qs 25)).alloc (.cells #[.int .i64 a] 3)).alloc (.cells #[.int .i64 b] 3)) #[.string ⟨#[]⟩, .bool false, .int .i64 0, .int .i64 0, .int .i64 0, .slice none 0 0, .slice none 0 0] 25
    rwa [World.size_alloc, World.size_alloc, World.size_alloc] at this

set_option maxHeartbeats 4000000 in
theorem settle_any (w : World) (hva : To.Vars w) (v : Value) (q : Que) (h : RdQ w v q) (conn tag : Int) (again : Bool) (hbig : lenQ q ≤ 1000000) :
    Calls Tryz.prog 28 #[v, .int .i64 conn, .int .i64 tag, .bool again] w fun e w' => ∃ v', e = .returned (.tuple #[v', .int .i64 (settleC q conn tag)]) ∧ OwnQ w' w.heap.size v' (if settleC q conn tag = 0 then settleQ q conn tag again else zeroQ) ∧ Below w.heap.size w w' := by
  have hR := h
  obtain ⟨iv, hv, rfl, hi, hh⟩ := h
  have OI : ∃ a c, iv = .slice a q.items.length c := hi.len
  have OH : ∃ a c, hv = .slice a q.held.length c := hh.len
  have HH : Hid (RdH w hv q.held) := hh
  clear hi hh
  have HG : ∀ W, Below w.heap.size w W → Calls Tryz.prog 13 #[queV q iv hv] W fun e w' => e = .returned (.bool (goodQ q)) ∧ Below W.heap.size W w' := fun W b => good_any W (hva.below b) _ q (hR.on b) hbig
  have S0 := SeS.start w #[tx q.name, .bool q.dur, .int .i64 q.depth, .int .i64 q.seq, .int .i64 q.tag, iv, hv] conn tag
  unfold queV at *
  go_enter Tryz.func28, Tryz.ntmps28
  go_upto_region 1 with fail
  generalize (((w.alloc (.cells #[tx q.name, .bool q.dur, .int .i64 q.depth, .int .i64 q.seq, .int .i64 q.tag, iv, hv] 25)).alloc (.cells #[.int .i64 conn] 3)).alloc (.cells #[.int .i64 tag] 3)).alloc (.cells #[.string ⟨#[]⟩, .bool false, .int .i64 0, .int .i64 0, .int .i64 0, .slice none 0 0, .slice none 0 0] 25) = w1 at *
  go_wp2_with (refine wpl_load25 rfl (.tmp 4) rfl _ _ rfl S0.q rfl ?_)
  refine (HG _ S0.b).mono ?_
  rintro e w2 ⟨rfl, b2⟩
  have S2 := S0.on b2
  clear S0 b2
  cases hg : goodQ q with
  | false =>
    have e0 : settleC q conn tag = 1 := by simp [settleC, hg]
    go_wp2_with (refine wpl_put rfl (.tmp 8) (.tmp 15) rfl _ _ rfl rfl S2.r (by kernel_rfl) rfl (by simp [Value.oneCell']) ?_)
    intro W' k' g' s'
    go_wp2_with fail
    refine ret25t rfl k' rfl rfl rfl ⟨_, rfl, own_zero _ _, S2.b.grown g' S2.b.size (fun k hk => by injection hk with hk; omega)⟩
  | true =>
    obtain ⟨hsm, hl64, _, _, hq1, hq2⟩ := goodQ_small hg
    obtain ⟨zh, ezh, hzh⟩ := HH.out.on S2.b
    have hx := indexH_own w2 none hv zh (RdP w2) (fun _ _ h => h.shape) hzh (by have := hsm.held; rw [← ezh, List.length_map] at this; omega) 52 #[.pointer (some ⟨w.heap.size + 1, 0, none⟩), .pointer (some ⟨w.heap.size + 2, 0, none⟩)] e52 (isH conn tag) (fun x pv W hgw => clos52 W _ _ conn tag (S2.a.grown hgw (by simp)) (S2.t.grown hgw (by simp)) x pv)
    have ef : zh.findIdx (fun z : List Value × Hld => isH conn tag z.2) = q.held.findIdx (isH conn tag) := by
      rw [← ezh, List.findIdx_map]
      rfl
    have el : zh.length = q.held.length := by rw [← ezh, List.length_map]
    rw [ef, el] at hx
    clear hzh ezh ef el
    obtain ⟨c0, c1, c2, c3, c4, c5, c6⟩ := S2.q.c7
    by_cases hK : q.held.findIdx (isH conn tag) < q.held.length
    · rw [if_pos hK] at hx
      have e0 : settleC q conn tag = 0 := by simp [settleC, hg, hK]
      obtain ⟨K, hKK⟩ : ∃ K, q.held.findIdx (isH conn tag) = K := ⟨_, rfl⟩
      have HKE : Hid (q.held.findIdx (isH conn tag) = K) := hKK
      rw [hKK] at hx hK
      clear hKK
      go_wp2_with fail
      refine hx.mono ?_
      rintro e w3 ⟨rfl, b3⟩
      have S3 := S2.on b3
      have hcp := copy_any w3 _ q (hR.on S3.b) hsm
      unfold queV at hcp
      have hKz : ¬ ((K : Int) < 0) := by omega
      clear hx S2 b3 c0 c1 c2 c3 c4 c5 c6
      go_wp2_with (refine wpl_load25 rfl (.tmp 4) rfl _ _ rfl S3.q rfl ?_)
      refine hcp.mono ?_
      rintro e w5 ⟨v5, rfl, ⟨iv5, hv5, rfl, oi5, oh5⟩, b5⟩
      obtain ⟨ai5, ci5, rfl⟩ := oi5.rd.len
      obtain ⟨zs, ezs, hzs'⟩ := oh5
      have hzl : zs.length = q.held.length := by rw [← ezs, List.length_map]
      have hz0 : K < zs.length := by omega
      have hz1000 : zs.length ≤ 1000 := by have := hsm.held; omega
      clear hzl
      obtain ⟨g, cap, cur, hgv, hg4, hgb, _⟩ := ownH_some hzs' (by omega)
      subst hgv
      have hzs : OwnZ 61 10 (HeR (OwnP w5 w.heap.size)) w5 w.heap.size (.slice (some ⟨g, 0, none⟩) zs.length cap) zs := (hzs'.low S3.b.size).imp fun _ _ h => h.low S3.b.size
      have oi6 := oi5.low S3.b.size
      have S5 := S3.on b5
      have HX : Hid ((q.held.getD K zeroH) = (zs[K]).2) := by
        show q.held.getD K zeroH = _
        rw [← ezs, getD_at (by rw [List.length_map]; exact hz0), List.getElem_map]
      obtain ⟨hk0, pv0, hv0, hp0⟩ := hzs.2 (zs[K]) (List.getElem_mem hz0)
      have HZ : Hid (zs.map (·.2) = q.held) := ezs
      clear hcp S3 b5 hzs' hgb hg4 oi5 ezs
      generalize hxx : (zs[K]).2 = x at *
      obtain ⟨pa0, pc0, rfl⟩ := hp0.shape
      generalize q.items.length = ni at *
      unfold queV
      go_wp2_with (refine wpl_put rfl (.tmp 4) (.tmp 24) rfl _ _ rfl rfl S5.q (by kernel_rfl) rfl (by simp [Value.oneCell']) ?_)
      intro w6 k6 g6 s6
      have r6 := S5.r.grown g6 (fun e => by injection e with e; omega)
      have b6 := S5.b.grown g6 S5.b.size (fun k hk => by injection hk with hk; omega)
      have t54 : Kt 54 w5 w6 := kt_grown S5.q g6 (by decide)
      have hzs6 : OwnZ 61 10 (HeR (OwnP w6 w.heap.size)) w6 w.heap.size (.slice (some ⟨g, 0, none⟩) zs.length cap) zs := (hzs.keep (kt_grown S5.q g6 (by decide))).imp fun _ _ h => h.keep t54
      have oi7 := oi6.keep (kt_grown S5.q g6 (by decide)) t54
      have hp6 := hp0.keep t54
      clear S5 hzs oi6 hp0 g6 s6 t54
      have hcell := hzs6.cellsAt hz0
      rw [hv0] at hcell
      have a3 := hcell 3 _ rfl
      have a4 := hcell 4 _ rfl
      have a5 := hcell 5 _ rfl
      have a6 := hcell 6 _ rfl
      have a7 := hcell 7 _ rfl
      have a8 := hcell 8 _ rfl
      have a9 := hcell 9 _ rfl
      clear hcell
      obtain ⟨c0, c1, c2, c3, c4, c5, c6⟩ := k6.c7
      obtain ⟨nz, hnz⟩ : ∃ nz, zs.length = nz := ⟨_, rfl⟩
      have NZ : Hid (zs.length = nz) := hnz
      rw [hnz] at hzs6 c6 k6 hz0 hz1000 ⊢
      have hz0z : (K : Int) < (nz : Int) := by omega
      generalize x.itm.msg.props.length = pn at *
      clear hnz
      go_wp2_with (refine wpl_fresh rfl (.tmp 11) (.tmp 30) rfl _ _ rfl rfl (by kernel_rfl) rfl (by simp [Value.oneCell']) ?_)
      intro w7 k7 b7 s7
      have kq7 := k6.on b7
      have r7 := r6.on b7
      have b07 := nxt b6 b7
      have hzs7 : OwnZ 61 10 (HeR (OwnP w7 w.heap.size)) w7 w.heap.size (.slice (some ⟨g, 0, none⟩) nz cap) zs := (hzs6.keep (.of_below b7)).imp fun _ _ h => h.keep (.of_below b7)
      have oi8 := oi7.keep (.of_below b7) (.of_below b7)
      have hp7 := hp6.keep (.of_below b7)
      have hdl := deleteH_any w7 w.heap.size _ zs _ hzs7 K (K + 1) rfl (by rw [NZ.out]; exact hz0) (by rw [NZ.out]; omega)
      obtain ⟨bi, hbi'⟩ : ∃ b, w6.heap.size = b := ⟨_, rfl⟩
      have hine : bi ≠ w.heap.size := by have h1 := k6.lt; omega
      rw [hbi'] at k7 ⊢
      clear a3 a4 a5 a6 a7 a8 a9 c0 c1 c2 c3 c4 c5 c6 k6 r6 b6 hzs6 oi7 hp6 b7 s7 hbi'
      obtain ⟨c0, c1, c2, c3, c4, c5, c6⟩ := kq7.c7
      go_wp2_with fail
      refine hdl.mono ?_
      rintro e w8 ⟨v8, rfl, o8, g8, hob⟩
      have t25 : Kt 25 w7 w8 := Kt.of_grown hzs7.1 g8 (by decide)
      have t43 : Kt 43 w7 w8 := Kt.of_grown hzs7.1 g8 (by decide)
      have t54 : Kt 54 w7 w8 := Kt.of_grown hzs7.1 g8 (by decide)
      have kq8 := kq7.kt t25
      have r8 := r7.kt t25
      have k8 := k7.kt t43
      have oi9 := oi8.keep t43 t54
      have hp8 := hp7.keep t54
      have b8 := b07.grown g8 b07.size (fun k hk => (World.ownsRow.lt hzs7.1 k hk).1)
      have oh8 : OwnH w8 w.heap.size v8 (q.held.eraseIdx K) := ⟨_, by rw [List.map_append, List.map_take, List.map_drop, HZ.out, List.eraseIdx_eq_take_drop_succ], o8.imp fun _ _ h => h.keep t54⟩
      obtain ⟨a8, c8, rfl⟩ := oh8.rd.len
      obtain ⟨n8, hn8⟩ : ∃ n, (q.held.eraseIdx K).length = n := ⟨_, rfl⟩
      rw [hn8] at oh8 ⊢
      clear hdl hzs7 o8 g8 t25 t43 t54 kq7 r7 k7 b07 oi8 hp7 c0 c1 c2 c3 c4 c5 c6 hn8 NZ HZ hxx hv0 hk0 hob
      go_wp2_with (refine wpl_set rfl (.tmp 37) (.tmp 36) rfl _ 6 _ rfl rfl kq8 (by kernel_rfl) rfl rfl (by simp) ?_)
      intro w9 k9 g9 s9
      have kq9 : Blk w9 w.heap.size #[tx q.name, .bool q.dur, .int .i64 q.depth, .int .i64 q.seq, .int .i64 q.tag, .slice ai5 ni ci5, .slice a8 n8 c8] 25 := k9
      have r9 := r8.grown g9 (fun e => by injection e with e; omega)
      have kx9 := k8.grown g9 (fun e => hine (by injection e))
      have b9 := b8.grown g9 b8.size (fun k hk => by injection hk with hk; omega)
      have t54 : Kt 54 w8 w9 := kt_grown kq8 g9 (by decide)
      have oi10 := oi9.keep (kt_grown kq8 g9 (by decide)) t54
      have oh9 := oh8.keep (kt_grown kq8 g9 (by decide)) t54
      have hp9 := hp8.keep t54
      clear kq8 r8 k8 b8 oi9 oh8 hp8 g9 s9 t54 k9
      cases again with
      | false =>
        go_wp2_with (first | (refine wpl_load25 rfl (.tmp 4) rfl _ _ rfl kq9 rfl ?_) | (refine wpl_put rfl (.tmp 8) (.tmp 44) rfl _ _ rfl rfl r9 (by kernel_rfl) rfl (by simp [Value.oneCell']) ?_))
        intro w10 k10 g10 s10
        go_wp2_with fail
        refine ret25t rfl k10 rfl rfl rfl ⟨_, rfl, ?_, b9.grown g10 b9.size (fun k hk => by injection hk with hk; omega)⟩
        unfold settleQ
        rw [HKE.out]
        exact ⟨_, _, rfl, oi10.keep (kt_grown r9 g10 (by decide)) (kt_grown r9 g10 (by decide)), oh9.keep (kt_grown r9 g10 (by decide)) (kt_grown r9 g10 (by decide))⟩
      | true =>
        obtain ⟨zi, ezi, hzi⟩ := oi10
        have hri : Rises (zi.map (·.2)) := by rw [ezi]; exact ((goodQ_iff q).1 hg).ri
        have hzin : zi.length ≤ 1000 := by have := hsm.items; rw [← ezi, List.length_map] at this; exact this
        have hpb := putBack_any w9 w.heap.size b9.size _ zi hzi hri hzin x.itm _ hp9
        rw [ezi] at hpb
        unfold itmV at hpb
        obtain ⟨c0, c1, c2, c3, c4, c5, c6⟩ := kq9.c7
        have HZI : Hid (OwnZ 43 7 (ItR (OwnP w9 w.heap.size)) w9 w.heap.size (.slice ai5 ni ci5) zi) := hzi
        clear hzi hri
        go_wp2_with (refine wpl_load43 rfl (.tmp 11) rfl _ _ rfl kx9 rfl ?_)
        refine hpb.mono ?_
        rintro e w10 ⟨v10, rfl, oi11, g10⟩
        have t25 : Kt 25 w9 w10 := Kt.of_grown HZI.out.1 g10 (by decide)
        have t61 : Kt 61 w9 w10 := Kt.of_grown HZI.out.1 g10 (by decide)
        have t54 : Kt 54 w9 w10 := Kt.of_grown HZI.out.1 g10 (by decide)
        have kq10 := kq9.kt t25
        have r10 := r9.kt t25
        have oh10 := oh9.keep t61 t54
        have b10 := b9.grown g10 b9.size (fun k hk => (World.ownsRow.lt HZI.out.1 k hk).1)
        obtain ⟨a10, c10, rfl⟩ := oi11.rd.len
        generalize (putB q.items x.itm).length = n10 at *
        clear hpb g10 t25 t61 t54 kq9 r9 oh9 b9 kx9 hp9 c0 c1 c2 c3 c4 c5 c6 HZI
        go_wp2_with (refine wpl_set rfl (.tmp 43) (.tmp 42) rfl _ 5 _ rfl rfl kq10 (by kernel_rfl) rfl rfl (by simp) ?_)
        intro w11 k11 g11 s11
        have kq11 : Blk w11 w.heap.size #[tx q.name, .bool q.dur, .int .i64 q.depth, .int .i64 q.seq, .int .i64 q.tag, .slice a10 n10 c10, .slice a8 n8 c8] 25 := k11
        have r11 := r10.grown g11 (fun e => by injection e with e; omega)
        have b11 := b10.grown g11 b10.size (fun k hk => by injection hk with hk; omega)
        have t54 : Kt 54 w10 w11 := kt_grown kq10 g11 (by decide)
        have oi12 := oi11.keep (kt_grown kq10 g11 (by decide)) t54
        have oh11 := oh10.keep (kt_grown kq10 g11 (by decide)) t54
        clear kq10 r10 b10 oi11 oh10 g11 s11 t54 k11
        go_wp2_with (first | (refine wpl_load25 rfl (.tmp 4) rfl _ _ rfl kq11 rfl ?_) | (refine wpl_put rfl (.tmp 8) (.tmp 44) rfl _ _ rfl rfl r11 (by kernel_rfl) rfl (by simp [Value.oneCell']) ?_))
        intro w12 k12 g12 s12
        go_wp2_with fail
        refine ret25t rfl k12 rfl rfl rfl ⟨_, rfl, ?_, b11.grown g12 b11.size (fun k hk => by injection hk with hk; omega)⟩
        unfold settleQ
        rw [HKE.out, HX.out, if_pos rfl]
        exact ⟨_, _, rfl, oi12.keep (kt_grown r11 g12 (by decide)) (kt_grown r11 g12 (by decide)), oh11.keep (kt_grown r11 g12 (by decide)) (kt_grown r11 g12 (by decide))⟩
    · rw [if_neg hK] at hx
      have e0 : settleC q conn tag = 33 := by simp [settleC, hg, hK]
      go_wp2_with fail
      refine hx.mono ?_
      rintro e w3 ⟨rfl, b3⟩
      have S3 := S2.on b3
      clear hx S2 b3 c0 c1 c2 c3 c4 c5 c6
      go_wp2_with (refine wpl_put rfl (.tmp 8) (.tmp 22) rfl _ _ rfl rfl S3.r (by kernel_rfl) rfl (by simp [Value.oneCell']) ?_)
      intro W' k' g' s'
      go_wp2_with fail
      refine ret25t rfl k' rfl rfl rfl ⟨_, rfl, own_zero _ _, S3.b.grown g' S3.b.size (fun k hk => by injection hk with hk; omega)⟩
end Go.Proofs.YtlbcefocmdnlgaaGreatDoor
