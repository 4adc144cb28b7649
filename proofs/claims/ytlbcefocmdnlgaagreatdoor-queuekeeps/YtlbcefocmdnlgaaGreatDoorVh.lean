/- The document's Settle and Release. Conditions: those that each row states. -/
import Derived.Test.YtlbcefocmdnlgaaGreatDoorVf
import Derived.Test.YtlbcefocmdnlgaaGreatDoorRg
namespace Go.Proofs.YtlbcefocmdnlgaaGreatDoor
open Go.RowKit Go.Lib
set_option maxRecDepth 100000

set_option maxHeartbeats 4000000 in
theorem rrelease_any (w : World) (v : Value) (q : Que) (h : RdQ w v q) (hf : FitQ q) (conn sub : Int) (hbig : lenQ q ≤ 1000) :
    Calls Tryz.prog 46 #[v, .int .i64 conn, .int .i64 sub] w fun e w' => ∃ v', e = .returned (.tuple #[v', .int .i64 (relC q)]) ∧ OwnQ w' w.heap.size v' (if (relC q) = 0 then releaseQ q conn sub else zeroQ) ∧ Below w.heap.size w w' := by
  have hR := h
  obtain ⟨iv, hv, rfl, hi, hh⟩ := h
  have OI : ∃ a c, iv = .slice a q.items.length c := hi.len
  have OH : ∃ a c, hv = .slice a q.held.length c := hh.len
  clear hi hh
  have HG : ∀ W, Below w.heap.size w W → Calls Tryz.prog 14 #[queV q iv hv] W fun e w' => e = .returned (.bool (goodQ q)) ∧ Below W.heap.size W w' := fun W b => rgoodq_any W _ q (hR.on b) hf hbig
  have S0 := Ou2.start w #[tx q.name, .bool q.dur, .int .i64 q.depth, .int .i64 q.seq, .int .i64 q.tag, iv, hv]
  unfold queV at *
  go_enter Tryz.func46, Tryz.ntmps46
  go_upto_region 1 with fail
  generalize (w.alloc (.cells #[tx q.name, .bool q.dur, .int .i64 q.depth, .int .i64 q.seq, .int .i64 q.tag, iv, hv] 25)).alloc (.cells #[.string ⟨#[]⟩, .bool false, .int .i64 0, .int .i64 0, .int .i64 0, .slice none 0 0, .slice none 0 0] 25) = w1 at *
  go_wp2_with (refine wpl_load25 rfl (.tmp 3) rfl _ _ rfl S0.q rfl ?_)
  refine (HG _ S0.b).mono ?_
  rintro e w2 ⟨rfl, b2⟩
  have S2 := S0.on b2
  clear S0 b2
  cases hg : goodQ q with
  | false =>
    have e0 : (relC q) = 1 := by simp [relC, hg]
    go_wp2_with (refine wpl_put rfl (.tmp 6) (.tmp 14) rfl _ _ rfl rfl S2.r (by kernel_rfl) rfl (by simp [Value.oneCell']) ?_)
    intro W' k' g' s'
    go_wp2_with fail
    refine ret25t rfl k' rfl rfl rfl ⟨_, rfl, own_zero _ _, S2.b.grown g' S2.b.size (fun k hk => by injection hk with hk; omega)⟩
  | true =>
    obtain ⟨hsm, hl64, _, _, hq1, hq2⟩ := goodQ_small hg
    have HGP : Hid (GoodP q) := (goodQ_iff q).1 hg
    have hcp := rcopy_any w2 _ q (hR.on S2.b) hsm
    unfold queV at hcp
    go_wp2_with (refine wpl_load25 rfl (.tmp 3) rfl _ _ rfl S2.q rfl ?_)
    refine hcp.mono ?_
    rintro e w4 ⟨v4, rfl, ⟨iv4, hv4, rfl, oi4, oh4⟩, b4⟩
    obtain ⟨ai4, ci4, rfl⟩ := oi4.rd.len
    obtain ⟨ah4, ch4, rfl⟩ := oh4.rd.len
    have S4 := S2.on b4
    have oi5 := oi4.low S2.b.size
    clear hcp S2 b4 oi4 oh4
    generalize q.held.length = nh4 at *
    generalize q.items.length = ni4 at *
    unfold queV
    go_wp2_with (refine wpl_fresh rfl (.tmp 8) (.tmp 16) rfl _ _ rfl rfl (by kernel_rfl) rfl (by simp [Value.oneCell']) ?_)
    intro w5 k5 b5 s5
    have S5 := S4.on b5
    have oi6 := oi5.keep (Kt.of_below b5) (Kt.of_below b5)
    have hgw : w.heap.size + 1 < w4.heap.size := S4.r.lt
    generalize w4.heap.size = g at *
    clear S4 oi5 b5 s5
    go_wp2_with (refine wpl_set rfl (.tmp 17) (.const (.slice none 0 0)) rfl _ 6 _ rfl rfl k5 (by kernel_rfl) rfl rfl (by simp) ?_)
    intro w6 k6 g6 s6
    have k6' : Blk w6 g #[tx q.name, .bool q.dur, .int .i64 q.depth, .int .i64 q.seq, .int .i64 q.tag, .slice ai4 ni4 ci4, .slice none 0 0] 25 := k6
    have q6 := S5.q.grown g6 (fun e => by injection e with e; omega)
    have r6 := S5.r.grown g6 (fun e => by injection e with e; omega)
    have b6 := S5.b.grown g6 S5.b.size (fun k hk => by injection hk with hk; omega)
    have oi7 := oi6.keep (kt_grown k5 g6 (by decide)) (kt_grown k5 g6 (by decide))
    have S6 : Ou2 w w6 #[tx q.name, .bool q.dur, .int .i64 q.depth, .int .i64 q.seq, .int .i64 q.tag, iv, hv] := ⟨q6, r6, b6⟩
    clear S5 oi6 k5 k6 g6 s6 q6 r6 b6
    have hcp := rcopy_any w6 _ q (hR.on S6.b) hsm
    unfold queV at hcp
    go_wp2_with (refine wpl_load25 rfl (.tmp 3) rfl _ _ rfl S6.q rfl ?_)
    refine hcp.mono ?_
    rintro e w7 ⟨v7, rfl, ⟨iv7, hv7, rfl, oi8, oh8⟩, b7⟩
    obtain ⟨ah7, ch7, rfl⟩ := oh8.rd.len
    obtain ⟨ai7, ci7, rfl⟩ := oi8.rd.len
    generalize q.items.length = ni7 at *
    obtain ⟨zs, ezs, hzs⟩ := oh8.low S6.b.size
    have S7 := S6.on b7
    have k7 := k6'.on b7
    have oi9 := oi7.keep (Kt.of_below b7) (Kt.of_below b7)
    have hzl : zs.length = q.held.length := by rw [← ezs, List.length_map]
    obtain ⟨nh, hnh⟩ : ∃ n, q.held.length = n := ⟨_, rfl⟩
    have hnh64 : nh ≤ 64 := by rw [← hnh]; unfold lenQ at hl64; omega
    rw [hnh] at hzs ⊢
    have HZS : Hid (OwnZ 61 10 (HeR (OwnP w7 w.heap.size)) w7 w.heap.size (.slice ah7 nh ch7) zs) := hzs
    have HZ : Hid (zs.map (·.2) = q.held) := ezs
    have HNH : Hid (q.held.length = nh) := hnh
    have HKG : Hid (Blk w7 g #[tx q.name, .bool q.dur, .int .i64 q.depth, .int .i64 q.seq, .int .i64 q.tag, .slice ai4 ni4 ci4, .slice none 0 0] 25) := k7
    have HR7 : Hid (Ou2 w w7 #[tx q.name, .bool q.dur, .int .i64 q.depth, .int .i64 q.seq, .int .i64 q.tag, iv, hv]) := S7
    have HL : Hid (lenQ q ≤ 64) := hl64
    have H0 : Hid (StS w w7 w7 g w.heap.size w7.heap.size q (itsK q (isR conn sub) true 0) (hsK q (isR conn sub) 0)) := by
      refine ⟨⟨ai4, ni4, ci4, none, 0, 0, k7, ?_, ⟨[], by simp [hsK], World.ownsRow_nil .., by simp⟩⟩, World.grownBy.refl _ _⟩
      rw [itsK_zero]
      exact oi9
    clear hcp S6 k6' oi7 oi8 oh8 b7 S7 k7 oi9 hzl hnh hzs ezs hl64
    unfold queV
    have hfd : (Instr.field 25 (.agg #[tx q.name, .bool q.dur, .int .i64 q.depth, .int .i64 q.seq, .int .i64 q.tag, .slice ai7 ni7 ci7, .slice ah7 nh ch7]) 6).run Tryz.prog w7 = .ok (.slice ah7 nh ch7) w7 := by kernel_rfl
    go_wp2_with fail
    clear hfd
    go_loopg [10, 22] nh (fun gg _ s22 wr => ∃ kk : Nat, kk ≤ nh ∧ nh - kk ≤ gg ∧ s22 = .int .i64 kk ∧ Hid (StS w w7 wr g w.heap.size w7.heap.size q (itsK q (isR conn sub) true kk) (hsK q (isR conn sub) kk)))
    case atStart => exact ⟨0, Nat.zero_le _, by omega, rfl, H0.out⟩
    case round =>
      obtain ⟨kk, hkk, hgg, rfl, HS⟩ := hrel
      clear H0
      obtain ⟨wt, hwt⟩ : ∃ W, W = wr := ⟨_, rfl⟩
      subst hwt
      by_cases hlt : kk < nh
      · have hltz : (kk : Int) < (nh : Int) := by omega
        have hl2 : kk < q.held.length := by rw [HNH.out]; exact hlt
        have hjz : kk < zs.length := by rw [← HZ.out, List.length_map] at hl2; exact hl2
        have hsrc : OwnZ 61 10 (HeR (OwnP wt w.heap.size)) wt w.heap.size (.slice ah7 nh ch7) zs := (HZS.out.keep (kt_grown HKG.out HS.out.G (by decide))).imp fun _ _ h => h.keep (kt_grown HKG.out HS.out.G (by decide))
        obtain ⟨b, o, pv, rfl, hz1, hp, c0, c1, c2, c3, c4, c5, c6, c7, c8, c9⟩ := hld_atP hsrc.rd (Below.refl _ _) (i := kk) hjz
        have e2 : q.held[kk] = (zs[kk]).2 := by simp only [← HZ.out, List.getElem_map]
        have HIY := fun (hp : (isR conn sub) (zs[kk]).2 = true) => itsK_yes (q := q) (p := (isR conn sub)) hl2 (by rw [e2]; exact hp)
        have HIN := fun (hp : (isR conn sub) (zs[kk]).2 = false) => itsK_no (q := q) (p := (isR conn sub)) true hl2 (by rw [e2]; exact hp)
        have HHY := fun (hp : (isR conn sub) (zs[kk]).2 = true) => hsK_yes (q := q) (p := (isR conn sub)) hl2 (by rw [e2]; exact hp)
        have HHN := fun (hp : (isR conn sub) (zs[kk]).2 = false) => hsK_no (q := q) (p := (isR conn sub)) hl2 (by rw [e2]; exact hp)
        have HOUT := back_out HGP.out (isR conn sub) kk hl2
        skip
        rw [e2] at HIY HHN HOUT
        generalize (zs[kk]).2 = x at *
        have HALL : Hid (((isR conn sub) x = true → itsK q (isR conn sub) true (kk + 1) = putB (itsK q (isR conn sub) true kk) x.itm) ∧ ((isR conn sub) x = false → itsK q (isR conn sub) true (kk + 1) = itsK q (isR conn sub) true kk) ∧ ((isR conn sub) x = true → hsK q (isR conn sub) (kk + 1) = hsK q (isR conn sub) kk) ∧ ((isR conn sub) x = false → hsK q (isR conn sub) (kk + 1) = hsK q (isR conn sub) kk ++ [x]) ∧ x.itm.seq ∉ (itsK q (isR conn sub) true kk).map (·.seq)) := ⟨HIY, HIN, HHY, HHN, HOUT⟩
        clear HIY HIN HHY HHN HOUT e2 hsrc
        obtain ⟨pa, pc, rfl⟩ := hp.shape
        obtain ⟨pn, hpn⟩ : ∃ n, x.itm.msg.props.length = n := ⟨_, rfl⟩
        rw [hpn] at c7 hp
        clear hz1 hpn
        go_wp2_with (refine wpl_fresh rfl (.tmp 10) (.tmp 25) rfl _ _ rfl rfl (by kernel_rfl) rfl (by simp [Value.oneCell']) ?_)
        intro w8 k8 b8 s8
        obtain ⟨⟨ai, ni, ci, ah, nh2, ch, kx, oi, oh⟩, GG⟩ := HS.out.on b8
        have hp8 := hp.keep (.of_below b8)
        have d0 : w8.cell? ⟨wt.heap.size, 0, none⟩ = some (.int .i64 x.tag) := k8.cell 0
        have d1 : w8.cell? ⟨wt.heap.size, 1, none⟩ = some (.int .i64 x.conn) := k8.cell 1
        have d2 : w8.cell? ⟨wt.heap.size, 2, none⟩ = some (.int .i64 x.sub) := k8.cell 2
        have d3 : w8.cell? ⟨wt.heap.size, 3, none⟩ = some (.int .i64 x.itm.seq) := k8.cell 3
        have d4 : w8.cell? ⟨wt.heap.size, 4, none⟩ = some (.bool x.itm.again) := k8.cell 4
        have d5 : w8.cell? ⟨wt.heap.size, 5, none⟩ = some (tx x.itm.msg.topic) := k8.cell 5
        have d6 : w8.cell? ⟨wt.heap.size, 6, none⟩ = some (tx x.itm.msg.body) := k8.cell 6
        have d7 : w8.cell? ⟨wt.heap.size, 7, none⟩ = some (.slice pa pn pc) := k8.cell 7
        have d8 : w8.cell? ⟨wt.heap.size, 8, none⟩ = some (.bool x.itm.msg.dur) := k8.cell 8
        have d9 : w8.cell? ⟨wt.heap.size, 9, none⟩ = some (.int .i64 x.itm.msg.til) := k8.cell 9
        have x5 : w8.cell? ⟨g, 5, none⟩ = some (.slice ai ni ci) := kx.cell 5
        have x6 : w8.cell? ⟨g, 6, none⟩ = some (.slice ah nh2 ch) := kx.cell 6
        clear HS hp c0 c1 c2 c3 c4 c5 c6 c7 c8 c9 b8 s8
        generalize wt.heap.size = bi at *
        cases hpx : (isR conn sub) x with
        | true =>
          have hyes : (x.conn == conn) = true ∧ ((sub == -1) = true ∨ ((sub == -1) = false ∧ (x.sub == sub) = true)) := by
            simp only [isR, Bool.and_eq_true, Bool.or_eq_true, decide_eq_true_eq] at hpx
            refine ⟨by simp [hpx.1], ?_⟩
            by_cases h1 : sub = -1
            · left
              simp [h1]
            · right
              refine ⟨by simp [h1], ?_⟩
              rcases hpx.2 with h2 | h2
              · simp [h2]
              · exact absurd h2 h1
          obtain ⟨q1, hy2⟩ := hyes
          rcases hy2 with q2 | ⟨q2, q3⟩
          all_goals
            obtain ⟨zi, ei, hzi⟩ := oi
            have hbk := rback_any w8 w.heap.size _ zi hzi.rd x.itm _ hp8 (by rw [ei]; exact HALL.out.2.2.2.2) (by rw [← List.length_map (f := (·.2)), ei]; exact Nat.le_trans (itsK_len HGP.out HL.out (isR conn sub) true kk) (by decide))
            rw [ei] at hbk
            unfold itmV at hbk
            go_wp2_with fail
            refine hbk.mono ?_
            rintro e w10 ⟨v10, rfl, o10, b10⟩
            have oi10 : ∃ zs : Zs Itm, zs.map (·.2) = itsK q (isR conn sub) true (kk + 1) ∧ OwnZ 43 7 (ItR (OwnP w10 w.heap.size)) w10 w.heap.size v10 zs := by
              obtain ⟨z10, e10, h10⟩ := o10
              exact ⟨z10, by rw [e10, HALL.out.1 hpx], h10.low (Nat.le_trans HR7.out.b.size GG.size)⟩
            obtain ⟨a10, c10, rfl⟩ := ownZI_len oi10
            generalize (itsK q (isR conn sub) true (kk + 1)).length = n10 at *
            have kx10 := kx.on b10
            have oh10 := zhKeep oh (.of_below b10) (.of_below b10)
            have G10 := gb_trans GG (gb_below b10 _)
            clear hbk hzi kx oh GG b10 o10 hp8 k8 d0 d1 d2 d3 d4 d5 d6 d7 d8 d9 x5 x6
            go_wp2_with (refine wpl_set rfl (.tmp 45) (.tmp 44) rfl _ 5 _ rfl rfl kx10 (by kernel_rfl) rfl rfl (by simp) ?_)
            intro w11 k11 g11 s11
            have k11' : Blk w11 g #[tx q.name, .bool q.dur, .int .i64 q.depth, .int .i64 q.seq, .int .i64 q.tag, .slice a10 n10 c10, .slice ah nh2 ch] 25 := k11
            have S11 : StS w w7 w11 g w.heap.size w7.heap.size q (itsK q (isR conn sub) true (kk + 1)) (hsK q (isR conn sub) (kk + 1)) := by
              rw [HALL.out.2.2.1 hpx]
              exact StS.setI kx10 k11' oi10 oh10 G10 g11
            clear kx10 oi10 oh10 G10 k11 k11' g11 s11
            go_wp2_with fail
            go_roundg (nh - (kk + 1))
            case measure => omega
            case rel => exact ⟨kk + 1, by omega, by omega, by go_num, S11⟩
        | false =>
          have hno : (x.conn == conn) = false ∨ ((x.conn == conn) = true ∧ (sub == -1) = false ∧ (x.sub == sub) = false) := by
            by_cases h1 : x.conn = conn
            · right
              simp only [isR, h1, decide_true, Bool.true_and, Bool.or_eq_false_iff, decide_eq_false_iff_not] at hpx
              simp [h1, hpx.1, hpx.2]
            · left
              simp [h1]
          rcases hno with q1 | ⟨q1, q2, q3⟩
          all_goals
            go_wp2_with (first | (refine wpl_load61 rfl (.tmp 10) rfl _ _ rfl k8 rfl ?_) | (at_builtin; refine wpl_halt ?_))
            intro _
            refine StS.appH kx oi oh GG rfl (.tmp 47) (.tmp 49) rfl rfl x (.slice pa pn pc) rfl hp8 (Nat.le_trans (hsK_len HL.out (isR conn sub) kk) (by decide)) ?_
            intro v10 w10 kx10 oi10 oh10 G10
            rw [← HALL.out.2.2.2.1 hpx] at oh10
            obtain ⟨a10, c10, rfl⟩ := ownZH_len oh10
            generalize (hsK q (isR conn sub) (kk + 1)).length = n10 at *
            clear kx oi oh GG hp8 k8 d0 d1 d2 d3 d4 d5 d6 d7 d8 d9 x5 x6
            go_wp2_with (refine wpl_set rfl (.tmp 51) (.tmp 50) rfl _ 6 _ rfl rfl kx10 (by kernel_rfl) rfl rfl (by simp) ?_)
            intro w11 k11 g11 s11
            have k11' : Blk w11 g #[tx q.name, .bool q.dur, .int .i64 q.depth, .int .i64 q.seq, .int .i64 q.tag, .slice ai ni ci, .slice a10 n10 c10] 25 := k11
            have S11 : StS w w7 w11 g w.heap.size w7.heap.size q (itsK q (isR conn sub) true (kk + 1)) (hsK q (isR conn sub) (kk + 1)) := by
              rw [HALL.out.2.1 hpx]
              exact StS.setI kx10 k11' oi10 oh10 G10 g11
            clear kx10 oi10 oh10 G10 k11 k11' g11 s11
            go_wp2_with fail
            go_roundg (nh - (kk + 1))
            case measure => omega
            case rel => exact ⟨kk + 1, by omega, by omega, by go_num, S11⟩
      · have hltz : ¬ (kk : Int) < (nh : Int) := by omega
        have hkn : kk = nh := by omega
        have HT : Hid (q.held.take kk = q.held) := List.take_of_length_le (by rw [HNH.out]; omega)
        obtain ⟨⟨ai, ni, ci, ah, nh2, ch, kx, oi, oh⟩, GG⟩ := HS.out
        have b9 := HR7.out.b.grown GG HR7.out.b.size (fun k hk => by injection hk with hk; omega)
        have r9 := HR7.out.r.grown GG (fun e => by injection e with e; omega)
        clear HS
        have e0 : relC q = 0 := by simp [relC, hg]
        have oiQ : ∃ zs : Zs Itm, zs.map (·.2) = (releaseQ q conn sub).items ∧ OwnZ 43 7 (ItR (OwnP wt w.heap.size)) wt w.heap.size (.slice ai ni ci) zs := by
          obtain ⟨z, ez, hz⟩ := oi
          refine ⟨z, ?_, hz⟩
          rw [ez, itsK, HT.out]
          rfl
        have ohQ : ∃ zs : Zs Hld, zs.map (·.2) = (releaseQ q conn sub).held ∧ OwnZ 61 10 (HeR (OwnP wt w.heap.size)) wt w.heap.size (.slice ah nh2 ch) zs := by
          obtain ⟨z, ez, hz⟩ := oh
          refine ⟨z, ?_, hz.low HR7.out.b.size⟩
          rw [ez, hsK, HT.out]
          rfl
        have HE : Hid (relC q = 0) := e0
        clear oi oh e0
        go_wp2_with (first | (refine wpl_load25 rfl (.tmp 8) rfl _ _ rfl kx rfl ?_) | (refine wpl_put rfl (.tmp 6) (.tmp 53) rfl _ _ rfl rfl r9 (by kernel_rfl) rfl (by simp [Value.oneCell']) ?_))
        intro w12 k12 g12 s12
        go_wp2_with fail
        refine ret25t rfl k12 rfl rfl rfl ⟨_, by first | rfl | rw [HE.out], ?_, b9.grown g12 b9.size (fun k hk => by injection hk with hk; omega)⟩
        try rw [HE.out, if_pos rfl]
        exact ⟨_, _, rfl, ziKeep oiQ (kt_grown r9 g12 (by decide)) (kt_grown r9 g12 (by decide)), zhKeep ohQ (kt_grown r9 g12 (by decide)) (kt_grown r9 g12 (by decide))⟩
end Go.Proofs.YtlbcefocmdnlgaaGreatDoor
