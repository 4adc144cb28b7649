/- The document's Push. Conditions: those that each row states. -/
import Derived.Test.YtlbcefocmdnlgaaGreatDoorVf
import Derived.Test.YtlbcefocmdnlgaaGreatDoorRg
namespace Go.Proofs.YtlbcefocmdnlgaaGreatDoor
open Go.RowKit Go.Lib
set_option maxRecDepth 100000

structure PvS (w W : World) (g : Nat) (xs ms : Array Value) : Prop where
  x : Blk W g xs 25
  m : Blk W (w.heap.size + 1) ms 28
  r : Blk W (w.heap.size + 2) #[.string ⟨#[]⟩, .bool false, .int .i64 0, .int .i64 0, .int .i64 0, .slice none 0 0, .slice none 0 0] 25
  e : w.heap.size + 2 < g
  b : Below w.heap.size w W
theorem PvS.on {w W W' : World} {g : Nat} {xs ms : Array Value} (h : PvS w W g xs ms) (hb : Below W.heap.size W W') : PvS w W' g xs ms := ⟨h.x.on hb, h.m.on hb, h.r.on hb, h.e, nxt h.b hb⟩

set_option maxHeartbeats 4000000 in
theorem rpush_any (w : World) (v : Value) (q : Que) (h : RdQ w v q) (hf : FitQ q) (m : Msg) (pv : Value) (hp : RdP w pv m.props) (hfm : FitM m) (hbig : lenQ q ≤ 1000) :
    Calls Tryz.prog 43 #[v, .agg (msgV m pv).toArray] w fun e w' => ∃ v', e = .returned (.tuple #[v', .int .i64 (pushC q m)]) ∧ OwnQ w' w.heap.size v' (if pushC q m = 0 then pushQ q m else zeroQ) ∧ Below w.heap.size w w' := by
  have hR := h
  obtain ⟨iv, hv, rfl, hi, hh⟩ := h
  have OI : ∃ a c, iv = .slice a q.items.length c := hi.len
  have OH : ∃ a c, hv = .slice a q.held.length c := hh.len
  clear hi hh
  have HG : ∀ W, Below w.heap.size w W → Calls Tryz.prog 14 #[queV q iv hv] W fun e w' => e = .returned (.bool (goodQ q)) ∧ Below W.heap.size W w' := fun W b => rgoodq_any W _ q (hR.on b) hf hbig
  have HM : ∀ W, Below w.heap.size w W → Calls Tryz.prog 11 #[.agg (msgV m pv).toArray] W fun e w' => e = .returned (.bool (msgB m)) ∧ Below W.heap.size W w' := fun W b => rmessage_any W m pv (hp.on b) hfm.1 hfm.2
  have S0 : PuS w (((w.alloc (.cells #[tx q.name, .bool q.dur, .int .i64 q.depth, .int .i64 q.seq, .int .i64 q.tag, iv, hv] 25)).alloc (.cells #[tx m.topic, tx m.body, pv, .bool m.dur, .int .i64 m.til] 28)).alloc (.cells #[.string ⟨#[]⟩, .bool false, .int .i64 0, .int .i64 0, .int .i64 0, .slice none 0 0, .slice none 0 0] 25)) #[tx q.name, .bool q.dur, .int .i64 q.depth, .int .i64 q.seq, .int .i64 q.tag, iv, hv] #[tx m.topic, tx m.body, pv, .bool m.dur, .int .i64 m.til] := by
    refine ⟨((Blk.new _ _ _).alloc _).alloc _, ?_, ?_, (((Below.refl _ w).alloc (Nat.le_refl _) _).alloc (by simp) _).alloc (by simp; omega) _⟩
    · have := (Blk.new (w.alloc (.cells #[tx q.name, .bool q.dur, .int .i64 q.depth, .int .i64 q.seq, .int .i64 q.tag, iv, hv] 25)) #[tx m.topic, tx m.body, pv, .bool m.dur, .int .i64 m.til] 28).alloc (.cells #[.string ⟨#[]⟩, .bool false, .int .i64 0, .int .i64 0, .int .i64 0, .slice none 0 0, .slice none 0 0] 25)
      rwa [World.size_alloc] at this
    · have := Blk.new ((w.alloc (.cells #[tx q.name, .bool q.dur, .int .i64 q.depth, .int .i64 q.seq, .int .i64 q.tag, iv, hv] 25)).alloc (.cells #[tx m.topic, tx m.body, pv, .bool m.dur, .int .i64 m.til] 28)) #[.string ⟨#[]⟩, .bool false, .int .i64 0, .int .i64 0, .int .i64 0, .slice none 0 0, .slice none 0 0] 25
      rwa [World.size_alloc, World.size_alloc] at this
  unfold msgV queV at *
  go_enter Tryz.func43, Tryz.ntmps43
  go_upto_region 1 with fail
  generalize ((w.alloc (.cells #[tx q.name, .bool q.dur, .int .i64 q.depth, .int .i64 q.seq, .int .i64 q.tag, iv, hv] 25)).alloc (.cells #[tx m.topic, tx m.body, pv, .bool m.dur, .int .i64 m.til] 28)).alloc (.cells #[.string ⟨#[]⟩, .bool false, .int .i64 0, .int .i64 0, .int .i64 0, .slice none 0 0, .slice none 0 0] 25) = w1 at *
  go_wp2_with (refine wpl_load25 rfl (.tmp 2) rfl _ _ rfl S0.q rfl ?_)
  refine (HG _ S0.b).mono ?_
  rintro e w2 ⟨rfl, b2⟩
  have S2 := S0.on b2
  clear S0 b2
  cases hg : goodQ q with
  | false =>
    have e0 : pushC q m = 1 := by simp [pushC, hg]
    go_wp2_with (refine wpl_put rfl (.tmp 4) (.tmp 15) rfl _ _ rfl rfl S2.r (by kernel_rfl) rfl (by simp [Value.oneCell']) ?_)
    intro W' k' g' s'
    go_wp2_with fail
    refine ret25t rfl k' rfl rfl rfl ⟨_, rfl, own_zero _ _, S2.b.grown g' S2.b.size (fun k hk => by injection hk with hk; omega)⟩
  | true =>
    obtain ⟨hsm, hl64, hq1, hq2, _, _⟩ := goodQ_small hg
    obtain ⟨c0, c1, c2, c3, c4, c5, c6⟩ := S2.q.c7
    by_cases hsq : q.seq = 1099511627776
    · have e0 : pushC q m = 1 := by simp [pushC, hg, hsq]
      rw [hsq] at c3
      go_wp2_with (refine wpl_put rfl (.tmp 4) (.tmp 15) rfl _ _ rfl rfl S2.r (by kernel_rfl) rfl (by simp [Value.oneCell']) ?_)
      intro W' k' g' s'
      go_wp2_with fail
      refine ret25t rfl k' rfl rfl rfl ⟨_, rfl, own_zero _ _, S2.b.grown g' S2.b.size (fun k hk => by injection hk with hk; omega)⟩
    · have g1 : ¬ q.seq ≥ 1099511627776 := by omega
      go_wp2_with (refine wpl_load28 rfl (.tmp 3) rfl _ _ rfl S2.m rfl ?_)
      refine (HM _ S2.b).mono ?_
      rintro e w3 ⟨rfl, b3⟩
      have S3 := S2.on b3
      clear S2 b3 c0 c1 c2 c3 c4 c5 c6
      cases hm : msgB m with
      | false =>
        have e0 : pushC q m = 36 := by simp [pushC, hg, hsq, hm]
        go_wp2_with (refine wpl_put rfl (.tmp 4) (.tmp 19) rfl _ _ rfl rfl S3.r (by kernel_rfl) rfl (by simp [Value.oneCell']) ?_)
        intro W' k' g' s'
        go_wp2_with fail
        refine ret25t rfl k' rfl rfl rfl ⟨_, rfl, own_zero _ _, S3.b.grown g' S3.b.size (fun k hk => by injection hk with hk; omega)⟩
      | true =>
        obtain ⟨ai, ci, rfl⟩ := OI
        obtain ⟨ah, ch, rfl⟩ := OH
        have hgp := (goodQ_iff q).1 hg
        have hle := hgp.len
        have HLQ : Hid (lenQ q = q.items.length + q.held.length) := rfl
        have hni : q.items.length ≤ 1000 := by unfold lenQ at hbig; omega
        have hnh : q.held.length ≤ 1000 := by unfold lenQ at hbig; omega
        obtain ⟨c0, c1, c2, c3, c4, c5, c6⟩ := S3.q.c7
        clear hgp
        by_cases hd : (lenQ q : Int) = q.depth
        · have e0 : pushC q m = 35 := by simp [pushC, hg, hsq, hm, hd]
          have hge : ((q.items.length : Int) + (q.held.length : Int)) ≥ q.depth := by have := HLQ.out; omega
          generalize q.items.length = ni0 at *
          generalize q.held.length = nh0 at *
          clear hd hle
          go_wp2_with (refine wpl_put rfl (.tmp 4) (.tmp 30) rfl _ _ rfl rfl S3.r (by kernel_rfl) rfl (by simp [Value.oneCell']) ?_)
          intro W' k' g' s'
          go_wp2_with fail
          refine ret25t rfl k' rfl rfl rfl ⟨_, by first | rfl | rw [e0], ?_, S3.b.grown g' S3.b.size (fun k hk => by injection hk with hk; omega)⟩
          try rw [e0, if_neg (by decide)]
          exact own_zero _ _
        · have e0 : pushC q m = 0 := by simp [pushC, hg, hsq, hm, hd]
          have HE : Hid (pushC q m = 0) := e0
          have hge : ¬ ((q.items.length : Int) + (q.held.length : Int)) ≥ q.depth := by have := HLQ.out; omega
          have hcp := rcopy_any w3 _ q (hR.on S3.b) hsm
          unfold queV at hcp
          obtain ⟨ni0, hni0⟩ : ∃ n, q.items.length = n := ⟨_, rfl⟩
          obtain ⟨nh0, hnh0⟩ : ∃ n, q.held.length = n := ⟨_, rfl⟩
          rw [hni0] at hge hni c5 hcp ⊢
          rw [hnh0] at hge hnh c6 hcp ⊢
          have S4 : PuS w w3 #[tx q.name, .bool q.dur, .int .i64 q.depth, .int .i64 q.seq, .int .i64 q.tag, .slice ai ni0 ci, .slice ah nh0 ch] #[tx m.topic, tx m.body, pv, .bool m.dur, .int .i64 m.til] := by
            rw [hni0, hnh0] at S3
            exact S3
          clear S3 hd hle e0 hni0 hnh0
          go_wp2_with (refine wpl_load25 rfl (.tmp 2) rfl _ _ rfl S4.q rfl ?_)
          refine hcp.mono ?_
          rintro e w6 ⟨v6, rfl, ⟨iv6, hv6, rfl, oi6, oh6⟩, b6⟩
          obtain ⟨ai6, ci6, rfl⟩ := oi6.rd.len
          obtain ⟨ah6, ch6, rfl⟩ := oh6.rd.len
          have S6 := S4.on b6
          have oi7 := oi6.low S4.b.size
          have oh7 := oh6.low S4.b.size
          clear hcp S4 b6 oi6 oh6 c0 c1 c2 c3 c4 c5 c6
          generalize q.items.length = ni at *
          generalize q.held.length = nh at *
          unfold queV
          go_wp2_with (refine wpl_fresh rfl (.tmp 6) (.tmp 32) rfl _ _ rfl rfl (by kernel_rfl) rfl (by simp [Value.oneCell']) ?_)
          intro w7 k7 b7 s7
          have S7 := S6.on b7
          have oi8 := oi7.keep (Kt.of_below b7) (Kt.of_below b7)
          have oh8 := oh7.keep (Kt.of_below b7) (Kt.of_below b7)
          have hgw : w.heap.size + 2 < w6.heap.size := S6.r.lt
          have c3 : w7.cell? ⟨w.heap.size, 3, none⟩ = some (.int .i64 q.seq) := S7.q.cell 3
          generalize w6.heap.size = g at *
          clear S6 oi7 oh7 b7 s7
          go_wp2_with (refine wpl_set rfl (.tmp 36) (.tmp 35) rfl _ 3 _ rfl rfl k7 (by kernel_rfl) rfl rfl (by simp) ?_)
          intro w8 k8 g8 s8
          have m8 := S7.m.grown g8 (fun e => by injection e with e; omega)
          have r8 := S7.r.grown g8 (fun e => by injection e with e; omega)
          have b8 := S7.b.grown g8 S7.b.size (fun k hk => by injection hk with hk; omega)
          have oi9 := oi8.keep (kt_grown k7 g8 (by decide)) (kt_grown k7 g8 (by decide))
          have oh9 := oh8.keep (kt_grown k7 g8 (by decide)) (kt_grown k7 g8 (by decide))
          have k9 : Blk w8 g #[tx q.name, .bool q.dur, .int .i64 q.depth, .int .i64 (q.seq + 1), .int .i64 q.tag, .slice ai6 ni ci6, .slice ah6 nh ch6] 25 := k8
          clear S7 k7 oi8 oh8 g8 s8 k8 c3
          go_upto_region 9 with fail
          have hS : PvS w w8.drew g #[tx q.name, .bool q.dur, .int .i64 q.depth, .int .i64 (q.seq + 1), .int .i64 q.tag, .slice ai6 ni ci6, .slice ah6 nh ch6] #[tx m.topic, tx m.body, pv, .bool m.dur, .int .i64 m.til] := ⟨⟨k9.h⟩, ⟨m8.h⟩, ⟨r8.h⟩, hgw, b8.drew⟩
          have oi10 : OwnI w8.drew w.heap.size (.slice ai6 ni ci6) q.items := oi9
          have oh10 : OwnH w8.drew w.heap.size (.slice ah6 nh ch6) q.held := oh9
          clear k9 m8 r8 b8 oi9 oh9
          refine wp_region_to (S := fun W => PvS w W g #[tx q.name, .bool q.dur, .int .i64 q.depth, .int .i64 (q.seq + 1), .int .i64 q.tag, .slice ai6 ni ci6, .slice ah6 nh ch6] #[tx m.topic, tx m.body, pv, .bool m.dur, .int .i64 m.til]) (z := 10) hmix ?_
          show wpTo _ _ _ _ _ _ _ _ _ (World.drew _)
          generalize w8.drew = w9 at *
          refine wpTo.take (i := 0) (z := 10) (v := .pointer (some ⟨g, 5, none⟩)) rfl (by kernel_rfl) (by kernel_rfl) (by kernel_rfl) (by kernel_rfl) (fun _ _ _ h => h) (.inl ⟨by rfl, fun W' hW' => ?_⟩) hS ?_
          · obtain ⟨d0, d1, d2, d3, d4, d5, d6⟩ := hW'.x.c7
            go_simp
          simp only [Act.put, List.getElem_toArray, List.getElem_cons_zero, List.setIfInBounds_toArray, List.set_cons_succ, List.set_cons_zero]
          refine wpTo.take (i := 1) (z := 10) (v := .slice ai6 ni ci6) rfl (by kernel_rfl) (by kernel_rfl) (by kernel_rfl) (by kernel_rfl) (fun _ _ _ h => h) (.inl ⟨by rfl, fun W' hW' => ?_⟩) hS ?_
          · obtain ⟨d0, d1, d2, d3, d4, d5, d6⟩ := hW'.x.c7
            go_simp
          simp only [Act.put, List.getElem_toArray, List.getElem_cons_succ, List.getElem_cons_zero, List.setIfInBounds_toArray, List.set_cons_succ, List.set_cons_zero]
          refine wpTo.take (i := 2) (z := 10) (v := .pointer (some ⟨g, 3, none⟩)) rfl (by kernel_rfl) (by kernel_rfl) (by kernel_rfl) (by kernel_rfl) (fun _ _ _ h => h) (.inl ⟨by rfl, fun W' hW' => ?_⟩) hS ?_
          · obtain ⟨d0, d1, d2, d3, d4, d5, d6⟩ := hW'.x.c7
            go_simp
          simp only [Act.put, List.getElem_toArray, List.getElem_cons_succ, List.getElem_cons_zero, List.setIfInBounds_toArray, List.set_cons_succ, List.set_cons_zero]
          refine wpTo.take (i := 3) (z := 10) (v := .int .i64 (q.seq + 1)) rfl (by kernel_rfl) (by kernel_rfl) (by kernel_rfl) (by kernel_rfl) (fun _ _ _ h => h) (.inl ⟨by rfl, fun W' hW' => ?_⟩) hS ?_
          · obtain ⟨d0, d1, d2, d3, d4, d5, d6⟩ := hW'.x.c7
            go_simp
          simp only [Act.put, List.getElem_toArray, List.getElem_cons_succ, List.getElem_cons_zero, List.setIfInBounds_toArray, List.set_cons_succ, List.set_cons_zero]
          refine wpTo.take (i := 4) (z := 10) (v := .agg #[tx m.topic, tx m.body, pv, .bool m.dur, .int .i64 m.til]) rfl (by kernel_rfl) (by kernel_rfl) (by kernel_rfl) (by kernel_rfl) (fun _ _ _ h => h) (.inl ⟨by rfl, fun W' hW' => ?_⟩) hS ?_
          · obtain ⟨d0, d1, d2, d3, d4⟩ := hW'.m.c5
            go_simp
          simp only [Act.put, List.getElem_toArray, List.getElem_cons_succ, List.getElem_cons_zero, List.setIfInBounds_toArray, List.set_cons_succ, List.set_cons_zero]
          refine wpTo.one (i := 5) (by kernel_rfl) rfl (by rfl) (fun K hK => ?_)
          go_simp
          refine (rcopyMsg_any w9 m pv (hp.on hS.b) (by simp only [msgB, Bool.and_eq_true] at hm; have := (valid_parts hm.1.2).1; omega)).mono ?_
          rintro e w10 ⟨pv2, rfl, op2, b10⟩
          have hS2 := hS.on b10
          have oi11 := oi10.keep (Kt.of_below b10) (Kt.of_below b10)
          have oh11 := oh10.keep (Kt.of_below b10) (Kt.of_below b10)
          have op3 : OwnP w10 w.heap.size pv2 m.props := op2.low hS.b.size
          show K _ _
          refine hK _ _ (fun _ => hS2) ?_
          clear hK K hS oi10 oh10 op2 b10
          unfold msgV
          obtain ⟨pa2, pc2, rfl⟩ := op3.shape
          generalize m.props.length = pn at *
          refine wpTo.take (i := 6) (z := 10) (v := .agg #[.int .i64 (q.seq + 1), .bool false, tx m.topic, tx m.body, .slice pa2 pn pc2, .bool m.dur, .int .i64 m.til]) rfl (by kernel_rfl) (by kernel_rfl) (by kernel_rfl) (by kernel_rfl) (fun _ _ _ h => h) (.inl ⟨by rfl, fun W' hW' => ?_⟩) hS2 ?_
          · have hx := hW'.e
            go_simp
          simp only [Act.put, List.getElem_toArray, List.getElem_cons_succ, List.getElem_cons_zero, List.setIfInBounds_toArray, List.set_cons_succ, List.set_cons_zero]
          refine wpTo.one (i := 7) (by kernel_rfl) rfl (by rfl) (fun K hK => ?_)
          go_simp
          have b11 := (Below.refl w10.heap.size w10).alloc (Nat.le_refl _) (.cells #[.int .i64 (q.seq + 1), .bool false, tx m.topic, tx m.body, .slice pa2 pn pc2, .bool m.dur, .int .i64 m.til] 43)
          have kN := Blk.new w10 #[.int .i64 (q.seq + 1), .bool false, tx m.topic, tx m.body, .slice pa2 pn pc2, .bool m.dur, .int .i64 m.til] 43
          have hS3 := hS2.on b11
          have oi12 := oi11.keep (Kt.of_below b11) (Kt.of_below b11)
          have oh12 := oh11.keep (Kt.of_below b11) (Kt.of_below b11)
          have op4 := op3.keep (Kt.of_below b11)
          show K _ _
          refine hK _ _ (fun _ => hS3) ?_
          obtain ⟨nb, hnb⟩ : ∃ nb, w10.heap.size = nb := ⟨_, rfl⟩
          rw [hnb] at kN ⊢
          generalize w10.alloc (.cells #[.int .i64 (q.seq + 1), .bool false, tx m.topic, tx m.body, .slice pa2 pn pc2, .bool m.dur, .int .i64 m.til] 43) = w11 at *
          clear hK K hS2 oi11 oh11 op3 b11 hnb
          obtain ⟨zs, ezs, hzs⟩ := oi12
          refine wpTo.one (i := 8) (by kernel_rfl) rfl (by rfl) (fun K hK => ?_)
          refine appI_one hzs hS3.b (.tmp 38) (.tmp 44) rfl rfl nb rfl ⟨q.seq + 1, false, m⟩ (.slice pa2 pn pc2) kN op4 (by have := hsm.items; rw [← ezs, List.length_map] at this; omega) ?_
          intro v12 w12 o12 g12
          have t25 : Kt 25 w11 w12 := Kt.of_grown hzs.1 g12 (by decide)
          have t28 : Kt 28 w11 w12 := Kt.of_grown hzs.1 g12 (by decide)
          have t61 : Kt 61 w11 w12 := Kt.of_grown hzs.1 g12 (by decide)
          have t54 : Kt 54 w11 w12 := Kt.of_grown hzs.1 g12 (by decide)
          have hS4 : PvS w w12 g #[tx q.name, .bool q.dur, .int .i64 q.depth, .int .i64 (q.seq + 1), .int .i64 q.tag, .slice ai6 ni ci6, .slice ah6 nh ch6] #[tx m.topic, tx m.body, pv, .bool m.dur, .int .i64 m.til] := ⟨hS3.x.kt t25, hS3.m.kt t28, hS3.r.kt t25, hS3.e, hS3.b.grown g12 hS3.b.size (fun k hk => (World.ownsRow.lt hzs.1 k hk).1)⟩
          have oh13 := oh12.keep t61 t54
          have oi13 : OwnI w12 w.heap.size v12 (q.items ++ [⟨q.seq + 1, false, m⟩]) := ⟨_, by rw [List.map_append, ezs]; rfl, o12⟩
          refine hK _ _ (fun _ => hS4) ?_
          clear hK K hS3 oh12 op4 kN hzs ezs g12 o12 t25 t28 t61 t54
          obtain ⟨a12, c12, rfl⟩ := oi13.rd.len
          generalize hL12 : (q.items ++ [(⟨q.seq + 1, false, m⟩ : Itm)]).length = n12 at *
          clear hL12
          simp only [Act.put, List.getElem_toArray, List.getElem_cons_succ, List.getElem_cons_zero, List.setIfInBounds_toArray, List.set_cons_succ, List.set_cons_zero]
          refine wpTo.take (i := 9) (z := 10) (v := .pointer (some ⟨g, 5, none⟩)) rfl (by kernel_rfl) (by kernel_rfl) (by kernel_rfl) (by kernel_rfl) (fun _ _ _ h => h) (.inl ⟨by rfl, fun W' hW' => ?_⟩) hS4 ?_
          · obtain ⟨d0, d1, d2, d3, d4, d5, d6⟩ := hW'.x.c7
            go_simp
          simp only [Act.put, List.getElem_toArray, List.getElem_cons_succ, List.getElem_cons_zero, List.setIfInBounds_toArray, List.set_cons_succ, List.set_cons_zero]
          refine wpTo.one (i := 10) (by kernel_rfl) rfl (by rfl) (fun K hK => ?_)
          have f5 := hS4.x.frozen 5
          obtain ⟨d0, d1, d2, d3, d4, d5, d6⟩ := hS4.x.c7
          go_simp
          show K _ _
          refine hK _ _ (fun h => absurd rfl h) ?_
          clear hK K d0 d1 d2 d3 d4 d5 d6
          have k14 : Blk (w12.setCell ⟨g, 5, none⟩ (.slice a12 n12 c12)) g #[tx q.name, .bool q.dur, .int .i64 q.depth, .int .i64 (q.seq + 1), .int .i64 q.tag, .slice a12 n12 c12, .slice ah6 nh ch6] 25 := hS4.x.set 5 (.slice a12 n12 c12)
          have r14 := hS4.r.setO (g' := g) (j := 5) (by omega) (.slice a12 n12 c12)
          have b14 := hS4.b.setCell (p := ⟨g, 5, none⟩) (by show w.heap.size ≤ g; omega) (.slice a12 n12 c12)
          have oi14 := oi13.keep (kt_setCell (j := 5) hS4.x (by decide) (.slice a12 n12 c12)) (kt_setCell (j := 5) hS4.x (by decide) (.slice a12 n12 c12))
          have oh14 := oh13.keep (kt_setCell (j := 5) hS4.x (by decide) (.slice a12 n12 c12)) (kt_setCell (j := 5) hS4.x (by decide) (.slice a12 n12 c12))
          generalize w12.setCell ⟨g, 5, none⟩ (.slice a12 n12 c12) = w14 at *
          clear hS4 oi13 oh13 f5
          refine wpTo.done (by kernel_rfl) ?_ _
          go_wp2_with (first | (refine wpl_load25 rfl (.tmp 6) rfl _ _ rfl k14 rfl ?_) | (refine wpl_put rfl (.tmp 4) (.tmp 47) rfl _ _ rfl rfl r14 (by kernel_rfl) rfl (by simp [Value.oneCell']) ?_))
          intro w15 k15 g15 s15
          go_wp2_with fail
          refine ret25t rfl k15 rfl rfl rfl ⟨_, by first | rfl | rw [HE.out], ?_, b14.grown g15 b14.size (fun k hk => by injection hk with hk; omega)⟩
          try rw [HE.out, if_pos rfl]
          exact ⟨_, _, rfl, oi14.keep (kt_grown r14 g15 (by decide)) (kt_grown r14 g15 (by decide)), oh14.keep (kt_grown r14 g15 (by decide)) (kt_grown r14 g15 (by decide))⟩
end Go.Proofs.YtlbcefocmdnlgaaGreatDoor
