/- The document's Expire. Conditions: those that each row states. -/
import Derived.Test.YtlbcefocmdnlgaaGreatDoorVf
import Derived.Test.YtlbcefocmdnlgaaGreatDoorRg
namespace Go.Proofs.YtlbcefocmdnlgaaGreatDoor
open Go.RowKit Go.Lib
set_option maxRecDepth 100000

set_option maxHeartbeats 4000000 in
theorem rexpire_any (w : World) (v : Value) (q : Que) (h : RdQ w v q) (hf : FitQ q) (now : Int) (hbig : lenQ q ≤ 1000) :
    Calls Tryz.prog 47 #[v, .int .i64 now] w fun e w' => ∃ v', e = .returned (.tuple #[v', .int .i64 (relC q)]) ∧ OwnQ w' w.heap.size v' (if (relC q) = 0 then expireQ q now else zeroQ) ∧ Below w.heap.size w w' := by
  have hR := h
  obtain ⟨iv, hv, rfl, hi, hh⟩ := h
  have OI : ∃ a c, iv = .slice a q.items.length c := hi.len
  have OH : ∃ a c, hv = .slice a q.held.length c := hh.len
  clear hi hh
  have HG : ∀ W, Below w.heap.size w W → Calls Tryz.prog 14 #[queV q iv hv] W fun e w' => e = .returned (.bool (goodQ q)) ∧ Below W.heap.size W w' := fun W b => rgoodq_any W _ q (hR.on b) hf hbig
  have S0 := Ou2.start w #[tx q.name, .bool q.dur, .int .i64 q.depth, .int .i64 q.seq, .int .i64 q.tag, iv, hv]
  unfold queV at *
  go_enter Tryz.func47, Tryz.ntmps47
  go_upto_region 1 with fail
  generalize (w.alloc (.cells #[tx q.name, .bool q.dur, .int .i64 q.depth, .int .i64 q.seq, .int .i64 q.tag, iv, hv] 25)).alloc (.cells #[.string ⟨#[]⟩, .bool false, .int .i64 0, .int .i64 0, .int .i64 0, .slice none 0 0, .slice none 0 0] 25) = w1 at *
  go_wp2_with (refine wpl_load25 rfl (.tmp 2) rfl _ _ rfl S0.q rfl ?_)
  refine (HG _ S0.b).mono ?_
  rintro e w2 ⟨rfl, b2⟩
  have S2 := S0.on b2
  clear S0 b2
  cases hg : goodQ q with
  | false =>
    have e0 : (relC q) = 1 := by simp [relC, hg]
    go_wp2_with (refine wpl_put rfl (.tmp 4) (.tmp 12) rfl _ _ rfl rfl S2.r (by kernel_rfl) rfl (by simp [Value.oneCell']) ?_)
    intro W' k' g' s'
    go_wp2_with fail
    refine ret25t rfl k' rfl rfl rfl ⟨_, rfl, own_zero _ _, S2.b.grown g' S2.b.size (fun k hk => by injection hk with hk; omega)⟩
  | true =>
    obtain ⟨hsm, hl64, _, _, hq1, hq2⟩ := goodQ_small hg
    have HGP : Hid (GoodP q) := (goodQ_iff q).1 hg
    have hcp := rcopy_any w2 _ q (hR.on S2.b) hsm
    unfold queV at hcp
    go_wp2_with (refine wpl_load25 rfl (.tmp 2) rfl _ _ rfl S2.q rfl ?_)
    refine hcp.mono ?_
    rintro e w4 ⟨v4, rfl, ⟨iv4, hv4, rfl, oi4, oh4⟩, b4⟩
    obtain ⟨ai4, ci4, rfl⟩ := oi4.rd.len
    obtain ⟨ah4, ch4, rfl⟩ := oh4.rd.len
    have S4 := S2.on b4
    have oh5 := oh4.low S2.b.size
    clear hcp S2 b4 oi4 oh4
    generalize q.held.length = nh4 at *
    generalize q.items.length = ni4 at *
    unfold queV
    go_wp2_with (refine wpl_fresh rfl (.tmp 6) (.tmp 14) rfl _ _ rfl rfl (by kernel_rfl) rfl (by simp [Value.oneCell']) ?_)
    intro w5 k5 b5 s5
    have S5 := S4.on b5
    have oh6 := oh5.keep (Kt.of_below b5) (Kt.of_below b5)
    have hgw : w.heap.size + 1 < w4.heap.size := S4.r.lt
    generalize w4.heap.size = g at *
    clear S4 oh5 b5 s5
    go_wp2_with (refine wpl_set rfl (.tmp 15) (.const (.slice none 0 0)) rfl _ 5 _ rfl rfl k5 (by kernel_rfl) rfl rfl (by simp) ?_)
    intro w6 k6 g6 s6
    have k6' : Blk w6 g #[tx q.name, .bool q.dur, .int .i64 q.depth, .int .i64 q.seq, .int .i64 q.tag, .slice none 0 0, .slice ah4 nh4 ch4] 25 := k6
    have q6 := S5.q.grown g6 (fun e => by injection e with e; omega)
    have r6 := S5.r.grown g6 (fun e => by injection e with e; omega)
    have b6 := S5.b.grown g6 S5.b.size (fun k hk => by injection hk with hk; omega)
    have oh7 := oh6.keep (kt_grown k5 g6 (by decide)) (kt_grown k5 g6 (by decide))
    have S6 : Ou2 w w6 #[tx q.name, .bool q.dur, .int .i64 q.depth, .int .i64 q.seq, .int .i64 q.tag, iv, hv] := ⟨q6, r6, b6⟩
    clear S5 oh6 k5 k6 g6 s6 q6 r6 b6
    have hcp := rcopy_any w6 _ q (hR.on S6.b) hsm
    unfold queV at hcp
    go_wp2_with (refine wpl_load25 rfl (.tmp 2) rfl _ _ rfl S6.q rfl ?_)
    refine hcp.mono ?_
    rintro e w7 ⟨v7, rfl, ⟨iv7, hv7, rfl, oi8, oh8⟩, b7⟩
    obtain ⟨ah7, ch7, rfl⟩ := oi8.rd.len
    obtain ⟨ai7, ci7, rfl⟩ := oh8.rd.len
    generalize q.held.length = ni7 at *
    obtain ⟨zs, ezs, hzs⟩ := oi8.low S6.b.size
    have S7 := S6.on b7
    have k7 := k6'.on b7
    have oh9 := oh7.keep (Kt.of_below b7) (Kt.of_below b7)
    have hzl : zs.length = q.items.length := by rw [← ezs, List.length_map]
    obtain ⟨nh, hnh⟩ : ∃ n, q.items.length = n := ⟨_, rfl⟩
    have hnh64 : nh ≤ 64 := by rw [← hnh]; unfold lenQ at hl64; omega
    rw [hnh] at hzs ⊢
    have HZS : Hid (OwnZ 43 7 (ItR (OwnP w7 w.heap.size)) w7 w.heap.size (.slice ah7 nh ch7) zs) := hzs
    have HZ : Hid (zs.map (·.2) = q.items) := ezs
    have HNH : Hid (q.items.length = nh) := hnh
    have HKG : Hid (Blk w7 g #[tx q.name, .bool q.dur, .int .i64 q.depth, .int .i64 q.seq, .int .i64 q.tag, .slice none 0 0, .slice ah4 nh4 ch4] 25) := k7
    have HR7 : Hid (Ou2 w w7 #[tx q.name, .bool q.dur, .int .i64 q.depth, .int .i64 q.seq, .int .i64 q.tag, iv, hv]) := S7
    have H0 : Hid (StS w w7 w7 g w7.heap.size w.heap.size q ((q.items.take 0).filter (fun x => !oldB now x)) q.held) := by
      refine ⟨⟨none, 0, 0, ah4, nh4, ch4, k7, ⟨[], by simp, World.ownsRow_nil .., by simp⟩, ?_⟩, World.grownBy.refl _ _⟩
      exact oh9
    clear hcp S6 k6' oh7 oi8 oh8 b7 S7 k7 oh9 hzl hnh hzs ezs hl64
    unfold queV
    have hfd : (Instr.field 25 (.agg #[tx q.name, .bool q.dur, .int .i64 q.depth, .int .i64 q.seq, .int .i64 q.tag, .slice ah7 nh ch7, .slice ai7 ni7 ci7]) 5).run Tryz.prog w7 = .ok (.slice ah7 nh ch7) w7 := by kernel_rfl
    go_wp2_with fail
    clear hfd
    go_loopg [8, 20] nh (fun gg _ s20 wr => ∃ kk : Nat, kk ≤ nh ∧ nh - kk ≤ gg ∧ s20 = .int .i64 kk ∧ Hid (StS w w7 wr g w7.heap.size w.heap.size q ((q.items.take kk).filter (fun x => !oldB now x)) q.held))
    case atStart => exact ⟨0, Nat.zero_le _, by omega, rfl, H0.out⟩
    case round =>
      obtain ⟨kk, hkk, hgg, rfl, HS⟩ := hrel
      clear H0
      obtain ⟨wt, hwt⟩ : ∃ W, W = wr := ⟨_, rfl⟩
      subst hwt
      by_cases hlt : kk < nh
      · have hltz : (kk : Int) < (nh : Int) := by omega
        have hl2 : kk < q.items.length := by rw [HNH.out]; exact hlt
        have hjz : kk < zs.length := by rw [← HZ.out, List.length_map] at hl2; exact hl2
        have hsrc : OwnZ 43 7 (ItR (OwnP wt w.heap.size)) wt w.heap.size (.slice ah7 nh ch7) zs := (HZS.out.keep (kt_grown HKG.out HS.out.G (by decide))).imp fun _ _ h => h.keep (kt_grown HKG.out HS.out.G (by decide))
        obtain ⟨b, o, pv, rfl, hz1, hp, c0, c1, c2, c3, c4, c5, c6⟩ := itm_atP hsrc.rd (Below.refl _ _) (i := kk) hjz
        have HALL : Hid ((q.items.take (kk + 1)).filter (fun x => !oldB now x) = (q.items.take kk).filter (fun x => !oldB now x) ++ (if !oldB now (zs[kk]).2 then [(zs[kk]).2] else [])) := by
          show List.filter _ _ = _
          have e2 : q.items[kk] = (zs[kk]).2 := by simp only [← HZ.out, List.getElem_map]
          rw [List.take_succ_eq_append_getElem hl2, List.filter_append, e2]
          cases e3 : oldB now (zs[kk]).2 <;> simp [e3]
        have HLN : Hid (((q.items.take kk).filter (fun x => !oldB now x)).length ≤ 90000) := by
          have h1 : ((q.items.take kk).filter (fun x => !oldB now x)).length ≤ q.items.length := (List.filter_sublist.trans (List.take_sublist _ _)).length_le
          exact Nat.le_trans h1 (by rw [HNH.out]; omega)
        have HTIL : Hid (¬ (zs[kk]).2.msg.til < 0) := by
          show ¬ _
          have hm : (zs[kk]).2 ∈ q.items := by rw [← HZ.out]; exact List.mem_map_of_mem (List.getElem_mem _)
          have := HGP.out.it _ hm
          simp only [itmB, msgB, numB, Bool.and_eq_true, decide_eq_true_eq] at this
          omega
        generalize (zs[kk]).2 = x at *
        clear hsrc
        obtain ⟨pa, pc, rfl⟩ := hp.shape
        obtain ⟨pn, hpn⟩ : ∃ n, x.msg.props.length = n := ⟨_, rfl⟩
        rw [hpn] at c4 hp
        clear hz1 hpn
        generalize hF1 : (q.items.take kk).filter (fun x => !oldB now x) = F1 at *
        generalize hF2 : (q.items.take (kk + 1)).filter (fun x => !oldB now x) = F2 at *
        go_wp2_with (refine wpl_fresh rfl (.tmp 8) (.tmp 23) rfl _ _ rfl rfl (by kernel_rfl) rfl (by simp [Value.oneCell']) ?_)
        intro w8 k8 b8 s8
        obtain ⟨⟨ai, ni, ci, ah, nh2, ch, kx, oi, oh⟩, GG⟩ := HS.out.on b8
        have hp8 := hp.keep (.of_below b8)
        have d6 : w8.cell? ⟨wt.heap.size, 6, none⟩ = some (.int .i64 x.msg.til) := k8.cell 6
        have x5 : w8.cell? ⟨g, 5, none⟩ = some (.slice ai ni ci) := kx.cell 5
        have HF2 : Hid (List.filter (fun x => !oldB now x) (List.take (kk + 1) q.items) = F2) := hF2
        clear HS hp c0 c1 c2 c3 c4 c5 c6 b8 s8 hF1 hF2
        generalize wt.heap.size = bi at *
        cases hpx : oldB now x with
        | true =>
          have hyes : (x.msg.til == 0) = false ∧ ¬ x.msg.til > now := by
            simp only [oldB, Bool.and_eq_true, decide_eq_true_eq] at hpx
            refine ⟨?_, by omega⟩
            simp
            omega
          obtain ⟨q1, q2⟩ := hyes
          have S9 : StS w w7 w8 g w7.heap.size w.heap.size q F2 q.held := by
            rw [HALL.out, hpx]
            simp only [Bool.not_true, Bool.false_eq_true, if_false, List.append_nil]
            exact ⟨⟨ai, ni, ci, ah, nh2, ch, kx, oi, oh⟩, GG⟩
          clear kx oi oh GG hp8 k8 x5
          go_wp2_with fail
          go_roundg (nh - (kk + 1))
          case measure => omega
          case rel => exact ⟨kk + 1, by omega, by omega, by go_num, by rw [HF2.out]; exact S9⟩
        | false =>
          have hno : (x.msg.til == 0) = true ∨ ((x.msg.til == 0) = false ∧ (x.msg.til == 0) = false ∧ x.msg.til > now) ∨ ((x.msg.til == 0) = false ∧ ¬ x.msg.til > now ∧ x.msg.til < 0) := by
            simp only [oldB, Bool.and_eq_false_iff, decide_eq_false_iff_not] at hpx
            by_cases h1 : x.msg.til = 0
            · exact .inl (by simp [h1])
            · right
              by_cases h2 : x.msg.til > now
              · exact .inl ⟨by simp [h1], by simp [h1], h2⟩
              · exact .inr ⟨by simp [h1], h2, by omega⟩
          have hneg : ¬ x.msg.til < 0 := by have := HTIL.out; omega
          rcases hno with q1 | ⟨q1, q0, q2⟩ | ⟨_, _, q3⟩
          · go_wp2_with (first | (refine wpl_load43 rfl (.tmp 8) rfl _ _ rfl k8 rfl ?_) | (at_builtin; refine wpl_halt ?_))
            intro _
            refine StS.appI kx oi oh GG rfl (.tmp 36) (.tmp 38) rfl rfl x (.slice pa pn pc) rfl hp8 HLN.out ?_
            intro v10 w10 kx10 oi10 oh10 G10
            have e10 : F1 ++ [x] = F2 := by rw [HALL.out, hpx]; simp
            rw [e10] at oi10
            obtain ⟨a10, c10, rfl⟩ := ownZI_len oi10
            generalize F2.length = n10 at *
            clear kx oi oh GG hp8 k8 d6 x5 e10
            go_wp2_with (refine wpl_set rfl (.tmp 40) (.tmp 39) rfl _ 5 _ rfl rfl kx10 (by kernel_rfl) rfl rfl (by simp) ?_)
            intro w11 k11 g11 s11
            have k11' : Blk w11 g #[tx q.name, .bool q.dur, .int .i64 q.depth, .int .i64 q.seq, .int .i64 q.tag, .slice a10 n10 c10, .slice ah nh2 ch] 25 := k11
            have S11 : StS w w7 w11 g w7.heap.size w.heap.size q F2 q.held := StS.setI kx10 k11' oi10 oh10 G10 g11
            clear kx10 oi10 oh10 G10 k11 k11' g11 s11
            go_wp2_with fail
            go_roundg (nh - (kk + 1))
            case measure => omega
            case rel => exact ⟨kk + 1, by omega, by omega, by go_num, by rw [HF2.out]; exact S11⟩
          · go_wp2_with (first | (refine wpl_load43 rfl (.tmp 8) rfl _ _ rfl k8 rfl ?_) | (at_builtin; refine wpl_halt ?_))
            intro _
            refine StS.appI kx oi oh GG rfl (.tmp 36) (.tmp 38) rfl rfl x (.slice pa pn pc) rfl hp8 HLN.out ?_
            intro v10 w10 kx10 oi10 oh10 G10
            have e10 : F1 ++ [x] = F2 := by rw [HALL.out, hpx]; simp
            rw [e10] at oi10
            obtain ⟨a10, c10, rfl⟩ := ownZI_len oi10
            generalize F2.length = n10 at *
            clear kx oi oh GG hp8 k8 d6 x5 e10
            go_wp2_with (refine wpl_set rfl (.tmp 40) (.tmp 39) rfl _ 5 _ rfl rfl kx10 (by kernel_rfl) rfl rfl (by simp) ?_)
            intro w11 k11 g11 s11
            have k11' : Blk w11 g #[tx q.name, .bool q.dur, .int .i64 q.depth, .int .i64 q.seq, .int .i64 q.tag, .slice a10 n10 c10, .slice ah nh2 ch] 25 := k11
            have S11 : StS w w7 w11 g w7.heap.size w.heap.size q F2 q.held := StS.setI kx10 k11' oi10 oh10 G10 g11
            clear kx10 oi10 oh10 G10 k11 k11' g11 s11
            go_wp2_with fail
            go_roundg (nh - (kk + 1))
            case measure => omega
            case rel => exact ⟨kk + 1, by omega, by omega, by go_num, by rw [HF2.out]; exact S11⟩
          · exact absurd q3 hneg
      · have hltz : ¬ (kk : Int) < (nh : Int) := by omega
        have hkn : kk = nh := by omega
        have HT : Hid (q.items.take kk = q.items) := List.take_of_length_le (by rw [HNH.out]; omega)
        obtain ⟨⟨ai, ni, ci, ah, nh2, ch, kx, oi, oh⟩, GG⟩ := HS.out
        have b9 := HR7.out.b.grown GG HR7.out.b.size (fun k hk => by injection hk with hk; omega)
        have r9 := HR7.out.r.grown GG (fun e => by injection e with e; omega)
        clear HS
        have e0 : relC q = 0 := by simp [relC, hg]
        have oiQ : ∃ zs : Zs Itm, zs.map (·.2) = (expireQ q now).items ∧ OwnZ 43 7 (ItR (OwnP wt w.heap.size)) wt w.heap.size (.slice ai ni ci) zs := by
          obtain ⟨z, ez, hz⟩ := oi
          refine ⟨z, ?_, hz.low HR7.out.b.size⟩
          rw [ez, HT.out]
          rfl
        have ohQ : ∃ zs : Zs Hld, zs.map (·.2) = (expireQ q now).held ∧ OwnZ 61 10 (HeR (OwnP wt w.heap.size)) wt w.heap.size (.slice ah nh2 ch) zs := oh
        have HE : Hid (relC q = 0) := e0
        clear oi oh e0
        go_wp2_with (first | (refine wpl_load25 rfl (.tmp 6) rfl _ _ rfl kx rfl ?_) | (refine wpl_put rfl (.tmp 4) (.tmp 42) rfl _ _ rfl rfl r9 (by kernel_rfl) rfl (by simp [Value.oneCell']) ?_))
        intro w12 k12 g12 s12
        go_wp2_with fail
        refine ret25t rfl k12 rfl rfl rfl ⟨_, by first | rfl | rw [HE.out], ?_, b9.grown g12 b9.size (fun k hk => by injection hk with hk; omega)⟩
        try rw [HE.out, if_pos rfl]
        exact ⟨_, _, rfl, ziKeep oiQ (kt_grown r9 g12 (by decide)) (kt_grown r9 g12 (by decide)), zhKeep ohQ (kt_grown r9 g12 (by decide)) (kt_grown r9 g12 (by decide))⟩
end Go.Proofs.YtlbcefocmdnlgaaGreatDoor
