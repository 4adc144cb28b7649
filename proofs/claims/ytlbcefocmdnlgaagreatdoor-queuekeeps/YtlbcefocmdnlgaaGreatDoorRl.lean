/- What Release answers. Conditions: To.Vars, what the library's variables hold, and those that each row states. -/
import Derived.Test.YtlbcefocmdnlgaaGreatDoorSe
import Derived.Deep.LoopGhost
namespace Go.Proofs.YtlbcefocmdnlgaaGreatDoor
open Go.RowKit Go.Lib
set_option maxRecDepth 100000
set_option linter.unusedSimpArgs false

theorem e67 : ∀ args w, (callFunc 67 args).run Tryz.prog w = .ok (.enter 67 args) w := fun args w => by go_simp
set_option maxHeartbeats 1000000 in
theorem clos67 (W : World) (g1 g2 : Nat) (conn sub : Int) (k1 : Blk W g1 #[.int .i64 conn] 3) (k2 : Blk W g2 #[.int .i64 sub] 3) (x : Hld) (pv : Value) :
    Calls Tryz.prog 67 #[.agg (hldV x pv).toArray, .pointer (some ⟨g1, 0, none⟩), .pointer (some ⟨g2, 0, none⟩)] W fun e W' => e = .returned (.bool (isR conn sub x)) ∧ Below W.heap.size W W' := by
  unfold hldV isR
  have b1 := (Below.refl W.heap.size W).alloc (Nat.le_refl _) (.cells #[.int .i64 x.tag, .int .i64 x.conn, .int .i64 x.sub, .int .i64 x.itm.seq, .bool x.itm.again, tx x.itm.msg.topic, tx x.itm.msg.body, pv, .bool x.itm.msg.dur, .int .i64 x.itm.msg.til] 61)
  have kx := Blk.new W #[.int .i64 x.tag, .int .i64 x.conn, .int .i64 x.sub, .int .i64 x.itm.seq, .bool x.itm.again, tx x.itm.msg.topic, tx x.itm.msg.body, pv, .bool x.itm.msg.dur, .int .i64 x.itm.msg.til] 61
  have d1 := (k1.on b1).cell 0
  have d2 := (k2.on b1).cell 0
  simp only [List.getElem?_toArray, List.getElem?_cons_zero] at d1 d2
  go_enter Tryz.func67, Tryz.ntmps67
  go_upto_region 1 with fail
  generalize W.alloc (.cells #[.int .i64 x.tag, .int .i64 x.conn, .int .i64 x.sub, .int .i64 x.itm.seq, .bool x.itm.again, tx x.itm.msg.topic, tx x.itm.msg.body, pv, .bool x.itm.msg.dur, .int .i64 x.itm.msg.til] 61) = W1 at *
  obtain ⟨c0, c1, c2, c3, c4, c5, c6, c7, c8, c9⟩ := kx.c10
  by_cases h1 : x.conn = conn <;> by_cases h2 : x.sub = sub <;> by_cases h3 : sub = -1
  all_goals
    go_wp2
    go_ret
    exact ⟨ret_b (by simp [h1, h2, h3]), b1⟩
theorem backs_snoc (l : List Itm) (hs : List Hld) (h : Hld) : backs l (hs ++ [h]) = putB (backs l hs) h.itm := by simp [backs, List.foldl_append]
theorem filt_snoc (p : Hld → Bool) (l : List Hld) (k : Nat) (h : k < l.length) : (l.take (k + 1)).filter p = (l.take k).filter p ++ (if p l[k] then [l[k]] else []) := by
  rw [List.take_succ_eq_append_getElem h, List.filter_append]
  cases e : p l[k] <;> simp [e]
theorem backs_rises {q : Que} (h : GoodP q) (conn sub : Int) (k : Nat) : Rises (backs q.items ((q.held.take k).filter (isR conn sub))) ∧ (backs q.items ((q.held.take k).filter (isR conn sub))).length ≤ lenQ q := by
  have hs : ((q.held.take k).filter (isR conn sub)).Sublist q.held := List.filter_sublist.trans (List.take_sublist _ _)
  have hn : (q.items.map (·.seq) ++ ((q.held.take k).filter (isR conn sub)).map (·.itm.seq)).Nodup := h.nd.sublist ((List.Sublist.refl _).append (hs.map _))
  obtain ⟨h1, h2, _⟩ := backs_facts _ q.items h.ri hn
  refine ⟨h1, ?_⟩
  have e := h2.length_eq
  have e2 := hs.length_le
  simp at e
  unfold lenQ
  omega
/-- Halfway: what is meant of the first k is put back. -/
structure ReS (w W : World) (q : Que) (conn sub : Int) (vh : Value) (zs : Zs Hld) (k : Nat) : Prop where
  s : ∃ a n c, SeS w W #[tx q.name, .bool q.dur, .int .i64 q.depth, .int .i64 q.seq, .int .i64 q.tag, .slice a n c, vh] conn sub ∧ OwnI W w.heap.size (.slice a n c) (backs q.items ((q.held.take k).filter (isR conn sub)))
  oh : OwnZ 61 10 (HeR (OwnP W w.heap.size)) W w.heap.size vh zs
theorem ReS.on {w W W' : World} {q : Que} {conn sub : Int} {vh : Value} {zs : Zs Hld} {k : Nat} (h : ReS w W q conn sub vh zs k) (hb : Below W.heap.size W W') : ReS w W' q conn sub vh zs k := by
  obtain ⟨⟨a, n, c, h1, h2⟩, h3⟩ := h
  exact ⟨⟨a, n, c, h1.on hb, h2.keep (.of_below hb) (.of_below hb)⟩, (h3.keep (.of_below hb)).imp fun _ _ h => h.keep (.of_below hb)⟩

set_option maxHeartbeats 4000000 in
theorem release_any (w : World) (hva : To.Vars w) (v : Value) (q : Que) (h : RdQ w v q) (conn sub : Int) (hbig : lenQ q ≤ 1000000) :
    Calls Tryz.prog 41 #[v, .int .i64 conn, .int .i64 sub] w fun e w' => ∃ v', e = .returned (.tuple #[v', .int .i64 (relC q)]) ∧ OwnQ w' w.heap.size v' (if relC q = 0 then releaseQ q conn sub else zeroQ) ∧ Below w.heap.size w w' := by
  have hR := h
  obtain ⟨iv, hv, rfl, hi, hh⟩ := h
  have OI : ∃ a c, iv = .slice a q.items.length c := hi.len
  have OH : ∃ a c, hv = .slice a q.held.length c := hh.len
  clear hi hh
  have HG : ∀ W, Below w.heap.size w W → Calls Tryz.prog 13 #[queV q iv hv] W fun e w' => e = .returned (.bool (goodQ q)) ∧ Below W.heap.size W w' := fun W b => good_any W (hva.below b) _ q (hR.on b) hbig
  have S0 := SeS.start w #[tx q.name, .bool q.dur, .int .i64 q.depth, .int .i64 q.seq, .int .i64 q.tag, iv, hv] conn sub
  unfold queV at *
  go_enter Tryz.func41, Tryz.ntmps41
  go_upto_region 1 with fail
  generalize (((w.alloc (.cells #[tx q.name, .bool q.dur, .int .i64 q.depth, .int .i64 q.seq, .int .i64 q.tag, iv, hv] 25)).alloc (.cells #[.int .i64 conn] 3)).alloc (.cells #[.int .i64 sub] 3)).alloc (.cells #[.string ⟨#[]⟩, .bool false, .int .i64 0, .int .i64 0, .int .i64 0, .slice none 0 0, .slice none 0 0] 25) = w1 at *
  go_wp2_with (refine wpl_load25 rfl (.tmp 3) rfl _ _ rfl S0.q rfl ?_)
  refine (HG _ S0.b).mono ?_
  rintro e w2 ⟨rfl, b2⟩
  have S2 := S0.on b2
  clear S0 b2
  cases hg : goodQ q with
  | false =>
    have e0 : relC q = 1 := by simp [relC, hg]
    go_wp2_with (refine wpl_put rfl (.tmp 6) (.tmp 14) rfl _ _ rfl rfl S2.r (by kernel_rfl) rfl (by simp [Value.oneCell']) ?_)
    intro W' k' g' s'
    go_wp2_with fail
    refine ret25t rfl k' rfl rfl rfl ⟨_, rfl, own_zero _ _, S2.b.grown g' S2.b.size (fun k hk => by injection hk with hk; omega)⟩
  | true =>
    have e0 : relC q = 0 := by simp [relC, hg]
    obtain ⟨hsm, hl64, _, _, hq1, hq2⟩ := goodQ_small hg
    have HGP : Hid (GoodP q) := (goodQ_iff q).1 hg
    have hcp := copy_any w2 _ q (hR.on S2.b) hsm
    unfold queV at hcp
    go_wp2_with (refine wpl_load25 rfl (.tmp 3) rfl _ _ rfl S2.q rfl ?_)
    refine hcp.mono ?_
    rintro e w5 ⟨v5, rfl, ⟨iv5, hv5, rfl, oi5, oh5⟩, b5⟩
    obtain ⟨ai5, ci5, rfl⟩ := oi5.rd.len
    obtain ⟨ah5, ch5, rfl⟩ := oh5.rd.len
    obtain ⟨zs, ezs, hzs⟩ := oh5.low S2.b.size
    have hz1000 : zs.length ≤ 1000 := by have := hsm.held; rw [← ezs, List.length_map] at this; exact this
    have hzl : zs.length = q.held.length := by rw [← ezs, List.length_map]
    have oi6 := oi5.low S2.b.size
    have S5 := S2.on b5
    have HZ : Hid (zs.map (·.2) = q.held) := ezs
    obtain ⟨nh, hnh⟩ : ∃ n, q.held.length = n := ⟨_, rfl⟩
    have NH : Hid (zs.length = nh) := by rw [hzl]; exact hnh
    rw [hzl] at hz1000
    rw [hnh] at hzs hz1000 ⊢
    clear hcp S2 b5 oi5 oh5 ezs hzl hnh
    generalize q.items.length = ni at *
    unfold queV
    go_wp2_with (refine wpl_put rfl (.tmp 3) (.tmp 16) rfl _ _ rfl rfl S5.q (by kernel_rfl) rfl (by simp [Value.oneCell']) ?_)
    intro w6 k6 g6 s6
    have t54 : Kt 54 w5 w6 := kt_grown S5.q g6 (by decide)
    have H6 : Hid (ReS w w6 q conn sub (.slice ah5 nh ch5) zs 0) := by
      refine ⟨⟨ai5, ni, ci5, ⟨k6, S5.a.grown g6 (fun e => by injection e with e; omega), S5.t.grown g6 (fun e => by injection e with e; omega), S5.r.grown g6 (fun e => by injection e with e; omega), S5.b.grown g6 S5.b.size (fun k hk => by injection hk with hk; omega)⟩, ?_⟩, (hzs.keep (kt_grown S5.q g6 (by decide))).imp fun _ _ h => h.keep t54⟩
      exact oi6.keep (kt_grown S5.q g6 (by decide)) t54
    obtain ⟨c0, c1, c2, c3, c4, c5, c6⟩ := k6.c7
    clear S5 hzs oi6 g6 s6 t54 k6
    go_wp2_with fail
    clear c0 c1 c2 c3 c4 c5 c6
    go_loopg [10, 21] nh (fun gg _ s21 wr => ∃ kk : Nat, kk ≤ nh ∧ nh - kk ≤ gg ∧ s21 = .int .i64 kk ∧ Hid (ReS w wr q conn sub (.slice ah5 nh ch5) zs kk))
    case atStart => exact ⟨0, Nat.zero_le _, by omega, rfl, H6.out⟩
    case round =>
      obtain ⟨kk, hkk, hgg, rfl, HS⟩ := hrel
      clear H6
      by_cases hlt : kk < nh
      · have hltz : (kk : Int) < (nh : Int) := by omega
        have hjz : kk < zs.length := by rw [NH.out]; exact hlt
        obtain ⟨b, o, pv, rfl, hz1, hp, c0, c1, c2, c3, c4, c5, c6, c7, c8, c9⟩ := hld_atP HS.out.oh.rd (Below.refl _ _) (i := kk) hjz
        have HF : Hid ((q.held.take (kk + 1)).filter (isR conn sub) = (q.held.take kk).filter (isR conn sub) ++ (if isR conn sub (zs[kk]).2 then [(zs[kk]).2] else [])) := by
          have hl2 : kk < q.held.length := by rw [← HZ.out, List.length_map]; exact hjz
          have e2 : q.held[kk] = (zs[kk]).2 := by simp only [← HZ.out, List.getElem_map]
          rw [← e2]
          exact filt_snoc _ _ _ hl2
        generalize (zs[kk]).2 = x at *
        obtain ⟨pa, pc, rfl⟩ := hp.shape
        have HP : Hid (OwnP wr w.heap.size (.slice pa x.itm.msg.props.length pc) x.itm.msg.props) := hp
        obtain ⟨pn, hpn⟩ : ∃ n, x.itm.msg.props.length = n := ⟨_, rfl⟩
        rw [hpn] at c7 HP
        clear hz1 hp hpn
        obtain ⟨wt, hwt⟩ : ∃ W, W = wr := ⟨_, rfl⟩
        subst hwt
        go_wp2_with (refine wpl_fresh rfl (.tmp 10) (.tmp 24) rfl _ _ rfl rfl (by kernel_rfl) rfl (by simp [Value.oneCell']) ?_)
        intro w7 k7 b7 s7
        have S7 := HS.out.on b7
        have hp7 := HP.out.keep (.of_below b7)
        obtain ⟨bi, hbi⟩ : ∃ b, wt.heap.size = b := ⟨_, rfl⟩
        have hine : bi ≠ w.heap.size := by
          obtain ⟨a, n, c, h1, _⟩ := HS.out.s
          have := h1.q.lt
          omega
        rw [hbi] at k7 ⊢
        have hcl : Calls Tryz.prog 67 #[.agg (hldV x (.slice pa pn pc)).toArray, .pointer (some ⟨w.heap.size + 1, 0, none⟩), .pointer (some ⟨w.heap.size + 1 + 1, 0, none⟩)] w7 fun e W' => e = .returned (.bool (isR conn sub x)) ∧ Below w7.heap.size w7 W' := by
          obtain ⟨a, n, c, h1, _⟩ := S7.s
          exact clos67 w7 _ _ conn sub h1.a h1.t x _
        unfold hldV at hcl
        clear HS HP c0 c1 c2 c3 c4 c5 c6 c7 c8 c9 b7 s7 hbi
        go_wp2_with (refine wpl_load61 rfl (.tmp 10) rfl _ _ rfl k7 rfl ?_)
        refine hcl.mono ?_
        rintro e w8 ⟨rfl, b8⟩
        have S8 := S7.on b8
        have k8 := k7.on b8
        have hp8 := hp7.keep (.of_below b8)
        clear hcl S7 k7 hp7 b8
        cases hq : isR conn sub x with
        | false =>
          have S9 : ReS w w8 q conn sub (.slice (some ⟨b, o, none⟩) nh ch5) zs (kk + 1) := by
            obtain ⟨⟨a, n, c, h1, h2⟩, h3⟩ := S8
            have e1 := HF.out
            rw [hq] at e1
            simp only [Bool.false_eq_true, if_false, List.append_nil] at e1
            exact ⟨⟨a, n, c, h1, by rw [e1]; exact h2⟩, h3⟩
          clear S8 k8 hp8 HF
          go_wp2_with fail
          go_roundg (nh - (kk + 1))
          case measure => omega
          case rel => exact ⟨kk + 1, by omega, by omega, by go_num, S9⟩
        | true =>
          obtain ⟨⟨a, n, c, h1, h2⟩, h3⟩ := S8
          obtain ⟨zi, ezi, hzi⟩ := h2
          have hbr := backs_rises HGP.out conn sub kk
          have hpb := putBack_any w8 w.heap.size h1.b.size _ zi hzi (by rw [ezi]; exact hbr.1) (by have := hbr.2; rw [← ezi, List.length_map] at this; omega) x.itm _ hp8
          have e1 : (q.held.take (kk + 1)).filter (isR conn sub) = (q.held.take kk).filter (isR conn sub) ++ [x] := by
            have := HF.out
            rw [hq] at this
            exact this
          have HB : Hid (backs q.items ((q.held.take (kk + 1)).filter (isR conn sub)) = putB (zi.map (·.2)) x.itm) := by
            show backs q.items ((q.held.take (kk + 1)).filter (isR conn sub)) = putB (zi.map (·.2)) x.itm
            rw [e1, backs_snoc, ezi]
          have HZI : Hid (OwnZ 43 7 (ItR (OwnP w8 w.heap.size)) w8 w.heap.size (.slice a n c) zi) := hzi
          have H1 : Hid (SeS w w8 #[tx q.name, .bool q.dur, .int .i64 q.depth, .int .i64 q.seq, .int .i64 q.tag, .slice a n c, .slice (some ⟨b, o, none⟩) nh ch5] conn sub) := h1
          have H3 : Hid (OwnZ 61 10 (HeR (OwnP w8 w.heap.size)) w8 w.heap.size (.slice (some ⟨b, o, none⟩) nh ch5) zs) := h3
          unfold itmV at hpb
          obtain ⟨d0, d1, d2, d3, d4, d5, d6⟩ := h1.q.c7
          obtain ⟨c0, c1, c2, c3, c4, c5, c6, c7, c8, c9⟩ := k8.c10
          clear hzi h1 h3 ezi e1 HF hbr hp8
          go_wp2_with fail
          refine hpb.mono ?_
          rintro e w9 ⟨v9, rfl, oi9, g9⟩
          have t25 : Kt 25 w8 w9 := Kt.of_grown HZI.out.1 g9 (by decide)
          have t61 : Kt 61 w8 w9 := Kt.of_grown HZI.out.1 g9 (by decide)
          have t54 : Kt 54 w8 w9 := Kt.of_grown HZI.out.1 g9 (by decide)
          have t3 : Kt 3 w8 w9 := Kt.of_grown HZI.out.1 g9 (by decide)
          rw [← HB.out] at oi9
          obtain ⟨a9, c9', rfl⟩ := oi9.rd.len
          generalize (backs q.items ((q.held.take (kk + 1)).filter (isR conn sub))).length = n9 at *
          have S9 : SeS w w9 #[tx q.name, .bool q.dur, .int .i64 q.depth, .int .i64 q.seq, .int .i64 q.tag, .slice a n c, .slice (some ⟨b, o, none⟩) nh ch5] conn sub := ⟨H1.out.q.kt t25, H1.out.a.kt t3, H1.out.t.kt t3, H1.out.r.kt t25, H1.out.b.grown g9 H1.out.b.size (fun k hk => (World.ownsRow.lt HZI.out.1 k hk).1)⟩
          have oh9 : OwnZ 61 10 (HeR (OwnP w9 w.heap.size)) w9 w.heap.size (.slice (some ⟨b, o, none⟩) nh ch5) zs := (H3.out.keep t61).imp fun _ _ h => h.keep t54
          clear hpb g9 t25 t61 t54 t3 HZI H1 H3 c0 c1 c2 c3 c4 c5 c6 c7 c8 c9 d0 d1 d2 d3 d4 d5 d6 k8 HB
          go_wp2_with (refine wpl_set rfl (.tmp 33) (.tmp 32) rfl _ 5 _ rfl rfl S9.q (by kernel_rfl) rfl rfl (by simp) ?_)
          intro w10 k10 g10 s10
          have u54 : Kt 54 w9 w10 := kt_grown S9.q g10 (by decide)
          have S10 : ReS w w10 q conn sub (.slice (some ⟨b, o, none⟩) nh ch5) zs (kk + 1) := by
            refine ⟨⟨a9, n9, c9', ⟨k10, S9.a.grown g10 (fun e => by injection e with e; omega), S9.t.grown g10 (fun e => by injection e with e; omega), S9.r.grown g10 (fun e => by injection e with e; omega), S9.b.grown g10 S9.b.size (fun k hk => by injection hk with hk; omega)⟩, oi9.keep (kt_grown S9.q g10 (by decide)) u54⟩, (oh9.keep (kt_grown S9.q g10 (by decide))).imp fun _ _ h => h.keep u54⟩
          clear S9 oi9 oh9 k10 g10 s10 u54
          go_wp2_with fail
          go_roundg (nh - (kk + 1))
          case measure => omega
          case rel => exact ⟨kk + 1, by omega, by omega, by go_num, S10⟩
      · have hltz : ¬ (kk : Int) < (nh : Int) := by omega
        have et : q.held.take kk = q.held := List.take_of_length_le (by rw [← HZ.out, List.length_map, NH.out]; omega)
        obtain ⟨⟨a, n, c, h1, h2⟩, h3⟩ := HS.out
        rw [et] at h2
        obtain ⟨wt, hwt⟩ : ∃ W, W = wr := ⟨_, rfl⟩
        subst hwt
        have hdf := deleteFuncH_any wt w.heap.size _ zs (OwnP wt w.heap.size) (fun _ _ h => h.shape) h3 (by rw [NH.out]; exact hz1000) 67 #[.pointer (some ⟨w.heap.size + 1, 0, none⟩), .pointer (some ⟨w.heap.size + 1 + 1, 0, none⟩)] e67 (isR conn sub) (fun x pv W hgw => clos67 W _ _ conn sub (h1.a.grown hgw (h1.a.ne_own h3.1 (by decide))) (h1.t.grown hgw (h1.t.ne_own h3.1 (by decide))) x pv)
        have H3 : Hid (OwnZ 61 10 (HeR (OwnP wt w.heap.size)) wt w.heap.size (.slice ah5 nh ch5) zs) := h3
        obtain ⟨d0, d1, d2, d3, d4, d5, d6⟩ := h1.q.c7
        clear HS et h3
        go_wp2_with fail
        refine hdf.mono ?_
        rintro e w7 ⟨v7, rfl, o7, g7, _⟩
        have t25 : Kt 25 wt w7 := Kt.of_grown H3.out.1 g7 (by decide)
        have t43 : Kt 43 wt w7 := Kt.of_grown H3.out.1 g7 (by decide)
        have t54 : Kt 54 wt w7 := Kt.of_grown H3.out.1 g7 (by decide)
        have k7 := h1.q.kt t25
        have r7 := h1.r.kt t25
        have oi7 := h2.keep t43 t54
        have b7 := h1.b.grown g7 h1.b.size (fun k hk => (World.ownsRow.lt H3.out.1 k hk).1)
        have oh7 : OwnH w7 w.heap.size v7 (q.held.filter (fun h => !isR conn sub h)) := by
          refine ⟨_, ?_, o7.imp fun _ _ h => h.keep t54⟩
          rw [← HZ.out, List.filter_map]
          rfl
        obtain ⟨a7, c7, rfl⟩ := oh7.rd.len
        generalize (q.held.filter (fun h => !isR conn sub h)).length = n7 at *
        clear hdf o7 g7 t25 t43 t54 h1 h2 H3 d0 d1 d2 d3 d4 d5 d6 HZ NH
        go_wp2_with (refine wpl_set rfl (.tmp 39) (.tmp 38) rfl _ 6 _ rfl rfl k7 (by kernel_rfl) rfl rfl (by simp) ?_)
        intro w8 k8 g8 s8
        have kq8 : Blk w8 w.heap.size #[tx q.name, .bool q.dur, .int .i64 q.depth, .int .i64 q.seq, .int .i64 q.tag, .slice a n c, .slice a7 n7 c7] 25 := k8
        have r8 := r7.grown g8 (fun e => by injection e with e; omega)
        have b8 := b7.grown g8 b7.size (fun k hk => by injection hk with hk; omega)
        have t54 : Kt 54 w7 w8 := kt_grown k7 g8 (by decide)
        have oi8 := oi7.keep (kt_grown k7 g8 (by decide)) t54
        have oh8 := oh7.keep (kt_grown k7 g8 (by decide)) t54
        clear k7 r7 b7 oi7 oh7 g8 s8 t54 k8
        go_wp2_with (first | (refine wpl_load25 rfl (.tmp 3) rfl _ _ rfl kq8 rfl ?_) | (refine wpl_put rfl (.tmp 6) (.tmp 40) rfl _ _ rfl rfl r8 (by kernel_rfl) rfl (by simp [Value.oneCell']) ?_))
        intro w9 k9 g9 s9
        go_wp2_with fail
        refine ret25t rfl k9 rfl rfl rfl ⟨_, rfl, ?_, b8.grown g9 b8.size (fun k hk => by injection hk with hk; omega)⟩
        exact ⟨_, _, rfl, oi8.keep (kt_grown r8 g9 (by decide)) (kt_grown r8 g9 (by decide)), oh8.keep (kt_grown r8 g9 (by decide)) (kt_grown r8 g9 (by decide))⟩
end Go.Proofs.YtlbcefocmdnlgaaGreatDoor
