/- What New and Push answer. Conditions: To.Vars, what the library's variables hold, and those that each row states. -/
import Derived.Test.YtlbcefocmdnlgaaGreatDoorGd
import Derived.Test.YtlbcefocmdnlgaaGreatDoorZf
namespace Go.Proofs.YtlbcefocmdnlgaaGreatDoor
open Go.RowKit Go.Lib
set_option maxRecDepth 100000
set_option linter.unusedSimpArgs false

theorem own_zero (w : World) (B : Nat) : OwnQ w B (.agg #[.string ⟨#[]⟩, .bool false, .int .i64 0, .int .i64 0, .int .i64 0, .slice none 0 0, .slice none 0 0]) zeroQ :=
  ⟨.slice none 0 0, .slice none 0 0, rfl, ⟨[], rfl, World.ownsRow_nil .., by simp⟩, ⟨[], rfl, World.ownsRow_nil .., by simp⟩⟩
def newC (name : List UInt8) (depth : Int) : Int := if !nameL name then 31 else if !depB depth then 1 else 0
def newQ (name : List UInt8) (dur : Bool) (depth : Int) : Que := ⟨name, dur, depth, 0, 0, [], []⟩
theorem own_new (w : World) (B : Nat) (name : List UInt8) (dur : Bool) (depth : Int) : OwnQ w B (.agg #[tx name, .bool dur, .int .i64 depth, .int .i64 0, .int .i64 0, .slice none 0 0, .slice none 0 0]) (newQ name dur depth) :=
  ⟨.slice none 0 0, .slice none 0 0, rfl, ⟨[], rfl, World.ownsRow_nil .., by simp⟩, ⟨[], rfl, World.ownsRow_nil .., by simp⟩⟩
theorem name_any (W : World) (l : List UInt8) : Calls Tryz.prog 29 #[tx l] W fun e w' => e = .returned (.bool (nameL l)) ∧ w' = W := (name7 W ⟨l.toArray⟩).mono fun e w' ⟨h1, h2⟩ => ⟨by rw [h1, Go.ByteArray.toList_mk], h2⟩

theorem ret_tup {v : Value} {c c' : Int} (h : c = c') : Ending.returned (.tuple #[v, .int .i64 c]) = .returned (.tuple #[v, .int .i64 c']) := by rw [h]

theorem new_any (w : World) (name : List UInt8) (dur : Bool) (depth : Int) :
    Calls Tryz.prog 8 #[tx name, .bool dur, .int .i64 depth] w fun e w' => ∃ v', e = .returned (.tuple #[v', .int .i64 (newC name depth)]) ∧ OwnQ w' w.heap.size v' (if newC name depth = 0 then newQ name dur depth else zeroQ) ∧ Below w.heap.size w w' := by
  have k0 := Blk.new w #[.string ⟨#[]⟩, .bool false, .int .i64 0, .int .i64 0, .int .i64 0, .slice none 0 0, .slice none 0 0] 25
  have b0 := (Below.refl w.heap.size w).alloc (Nat.le_refl _) (.cells #[.string ⟨#[]⟩, .bool false, .int .i64 0, .int .i64 0, .int .i64 0, .slice none 0 0, .slice none 0 0] 25)
  have H1 := fun W => name_any W name
  have H2 := fun W => dep_any W depth
  go_enter Tryz.func8, Tryz.ntmps8
  go_upto_region 1 with fail
  generalize w.alloc (.cells #[.string ⟨#[]⟩, .bool false, .int .i64 0, .int .i64 0, .int .i64 0, .slice none 0 0, .slice none 0 0] 25) = w1 at *
  go_wp2_with fail
  refine (H1 _).mono ?_
  rintro e w2 ⟨rfl, rfl⟩
  cases h1 : nameL name with
  | false =>
    have e0 : newC name depth = 31 := by simp [newC, h1]
    go_wp2_with (refine wpl_put rfl (.tmp 6) (.tmp 11) rfl _ _ rfl rfl k0 (by kernel_rfl) rfl (by simp [Value.oneCell']) ?_)
    intro W' k' g' s'
    go_wp2_with fail
    refine ret25t rfl k' rfl rfl rfl ⟨_, rfl, own_zero _ _, b0.grown g' b0.size (fun k hk => by injection hk with hk; omega)⟩
  | true =>
    go_wp2_with fail
    refine (H2 _).mono ?_
    rintro e w3 ⟨rfl, rfl⟩
    cases h2 : depB depth with
    | false =>
      have e0 : newC name depth = 1 := by simp [newC, h1, h2]
      go_wp2_with (refine wpl_put rfl (.tmp 6) (.tmp 15) rfl _ _ rfl rfl k0 (by kernel_rfl) rfl (by simp [Value.oneCell']) ?_)
      intro W' k' g' s'
      go_wp2_with fail
      refine ret25t rfl k' rfl rfl rfl ⟨_, rfl, own_zero _ _, b0.grown g' b0.size (fun k hk => by injection hk with hk; omega)⟩
    | true =>
      have e0 : newC name depth = 0 := by simp [newC, h1, h2]
      go_wp2_with (refine wpl_put rfl (.tmp 6) (.tmp 19) rfl _ _ rfl rfl k0 (by kernel_rfl) rfl (by simp [Value.oneCell']) ?_)
      intro W' k' g' s'
      go_wp2_with fail
      refine ret25t rfl k' rfl rfl rfl ⟨_, rfl, own_new _ _ _ _ _, b0.grown g' b0.size (fun k hk => by injection hk with hk; omega)⟩

theorem goodQ_small {q : Que} (h : goodQ q = true) : Small q ∧ lenQ q ≤ 64 ∧ 0 ≤ q.seq ∧ q.seq ≤ 1099511627776 ∧ 0 ≤ q.tag ∧ q.tag ≤ 1099511627776 := by
  simp only [goodQ, Bool.and_eq_true, decide_eq_true_eq, depB, numB] at h
  obtain ⟨⟨⟨⟨⟨⟨⟨h1, h2⟩, h3⟩, h4⟩, h5⟩, h6⟩, h7⟩, h8⟩ := h
  have hl : lenQ q ≤ 64 := by omega
  refine ⟨⟨by unfold lenQ at hl; omega, by unfold lenQ at hl; omega, fun x hx => ?_, fun x hx => ?_⟩, hl, h3.1, h3.2, h4.1, h4.2⟩
  · have := itms_seqs h6 x hx
    simp only [itmB, msgB, Bool.and_eq_true] at this
    have := (valid_parts this.2.1.2).1
    omega
  · have := hlds_seqs h7 x hx
    simp only [hldB, itmB, msgB, Bool.and_eq_true] at this
    have := (valid_parts this.2.2.1.2).1
    omega
/-- The three blocks of Push, beside what was there. -/
structure PuS (w W : World) (qs ms : Array Value) : Prop where
  q : Blk W w.heap.size qs 25
  m : Blk W (w.heap.size + 1) ms 28
  r : Blk W (w.heap.size + 2) #[.string ⟨#[]⟩, .bool false, .int .i64 0, .int .i64 0, .int .i64 0, .slice none 0 0, .slice none 0 0] 25
  b : Below w.heap.size w W
theorem PuS.on {w W W' : World} {qs ms : Array Value} (h : PuS w W qs ms) (hb : Below W.heap.size W W') : PuS w W' qs ms := ⟨h.q.on hb, h.m.on hb, h.r.on hb, nxt h.b hb⟩

set_option maxHeartbeats 4000000 in
theorem push_any (w : World) (hva : To.Vars w) (v : Value) (q : Que) (h : RdQ w v q) (m : Msg) (pv : Value) (hp : RdP w pv m.props) (hbig : lenQ q ≤ 1000000) :
    Calls Tryz.prog 26 #[v, .agg (msgV m pv).toArray] w fun e w' => ∃ v', e = .returned (.tuple #[v', .int .i64 (pushC q m)]) ∧ OwnQ w' w.heap.size v' (if pushC q m = 0 then pushQ q m else zeroQ) ∧ Below w.heap.size w w' := by
  have hR := h
  obtain ⟨iv, hv, rfl, hi, hh⟩ := h
  have OI : ∃ a c, iv = .slice a q.items.length c := hi.len
  have OH : ∃ a c, hv = .slice a q.held.length c := hh.len
  clear hi hh
  have HG : ∀ W, Below w.heap.size w W → Calls Tryz.prog 13 #[queV q iv hv] W fun e w' => e = .returned (.bool (goodQ q)) ∧ Below W.heap.size W w' := fun W b => good_any W (hva.below b) _ q (hR.on b) hbig
  have HM : ∀ W, Below w.heap.size w W → Calls Tryz.prog 10 #[.agg (msgV m pv).toArray] W fun e w' => e = .returned (.bool (msgB m)) ∧ Below W.heap.size W w' := fun W b => message_any W (hva.below b) m pv (hp.on b)
  have HL : ∀ W, Below w.heap.size w W → Calls Tryz.prog 15 #[queV q iv hv] W fun e w' => e = .returned (.int .i64 (lenQ q)) ∧ Below W.heap.size W w' := fun W b => len_any W _ q (hR.on b) (by omega)
  have S0 : PuS w (((w.alloc (.cells #[tx q.name, .bool q.dur, .int .i64 q.depth, .int .i64 q.seq, .int .i64 q.tag, iv, hv] 25)).alloc (.cells #[tx m.topic, tx m.body, pv, .bool m.dur, .int .i64 m.til] 28)).alloc (.cells #[.string ⟨#[]⟩, .bool false, .int .i64 0, .int .i64 0, .int .i64 0, .slice none 0 0, .slice none 0 0] 25)) #[tx q.name, .bool q.dur, .int .i64 q.depth, .int .i64 q.seq, .int .i64 q.tag, iv, hv] #[tx m.topic, tx m.body, pv, .bool m.dur, .int .i64 m.til] := by
    refine ⟨((Blk.new _ _ _).alloc _).alloc _, ?_, ?_, (((Below.refl _ w).alloc (Nat.le_refl _) _).alloc (by simp) _).alloc (by simp; omega) _⟩
    · have := (Blk.new (w.alloc (.cells #[tx q.name, .bool q.dur, .int .i64 q.depth, .int .i64 q.seq, .int .i64 q.tag, iv, hv] 25)) #[tx m.topic, tx m.body, pv, .bool m.dur, .int .i64 m.til] 28).alloc (.cells #[.string ⟨#[]⟩, .bool false, .int .i64 0, .int .i64 0, .int .i64 0, .slice none 0 0, .slice none 0 0] 25)
      rwa [World.size_alloc] at this
    · have := Blk.new ((w.alloc (.cells #[tx q.name, .bool q.dur, .int .i64 q.depth, .int .i64 q.seq, .int .i64 q.tag, iv, hv] 25)).alloc (.cells #[tx m.topic, tx m.body, pv, .bool m.dur, .int .i64 m.til] 28)) #[.string ⟨#[]⟩, .bool false, .int .i64 0, .int .i64 0, .int .i64 0, .slice none 0 0, .slice none 0 0] 25
      rwa [World.size_alloc, World.size_alloc] at this
  unfold msgV queV at *
  go_enter Tryz.func26, Tryz.ntmps26
  go_upto_region 1 with fail
  generalize ((w.alloc (.cells #[tx q.name, .bool q.dur, .int .i64 q.depth, .int .i64 q.seq, .int .i64 q.tag, iv, hv] 25)).alloc (.cells #[tx m.topic, tx m.body, pv, .bool m.dur, .int .i64 m.til] 28)).alloc (.cells #[.string ⟨#[]⟩, .bool false, .int .i64 0, .int .i64 0, .int .i64 0, .slice none 0 0, .slice none 0 0] 25) = w1 at *
  go_wp2_with (refine wpl_load25 rfl (.tmp 2) rfl _ _ rfl S0.q rfl ?_)
  refine (HG _ S0.b).mono ?_
  rintro e w2 ⟨rfl, b2⟩
  have S2 := S0.on b2
  clear S0 b2
  cases hg : goodQ q with
  | false =>
    have e0 : pushC q m = 1 := by simp [pushC, hg]
    go_wp2_with (refine wpl_put rfl (.tmp 4) (.tmp 14) rfl _ _ rfl rfl S2.r (by kernel_rfl) rfl (by simp [Value.oneCell']) ?_)
    intro W' k' g' s'
    go_wp2_with fail
    refine ret25t rfl k' rfl rfl rfl ⟨_, rfl, own_zero _ _, S2.b.grown g' S2.b.size (fun k hk => by injection hk with hk; omega)⟩
  | true =>
    obtain ⟨hsm, hl64, hq1, hq2, _, _⟩ := goodQ_small hg
    obtain ⟨c0, c1, c2, c3, c4, c5, c6⟩ := S2.q.c7
    by_cases hsq : q.seq = 1099511627776
    · have e0 : pushC q m = 1 := by simp [pushC, hg, hsq]
      rw [hsq] at c3
      go_wp2_with (refine wpl_put rfl (.tmp 4) (.tmp 14) rfl _ _ rfl rfl S2.r (by kernel_rfl) rfl (by simp [Value.oneCell']) ?_)
      intro W' k' g' s'
      go_wp2_with fail
      refine ret25t rfl k' rfl rfl rfl ⟨_, rfl, own_zero _ _, S2.b.grown g' S2.b.size (fun k hk => by injection hk with hk; omega)⟩
    · go_wp2_with (refine wpl_load28 rfl (.tmp 3) rfl _ _ rfl S2.m rfl ?_)
      refine (HM _ S2.b).mono ?_
      rintro e w3 ⟨rfl, b3⟩
      have S3 := S2.on b3
      clear S2 b3 c0 c1 c2 c3 c4 c5 c6
      cases hm : msgB m with
      | false =>
        have e0 : pushC q m = 36 := by simp [pushC, hg, hsq, hm]
        go_wp2_with (refine wpl_put rfl (.tmp 4) (.tmp 18) rfl _ _ rfl rfl S3.r (by kernel_rfl) rfl (by simp [Value.oneCell']) ?_)
        intro W' k' g' s'
        go_wp2_with fail
        refine ret25t rfl k' rfl rfl rfl ⟨_, rfl, own_zero _ _, S3.b.grown g' S3.b.size (fun k hk => by injection hk with hk; omega)⟩
      | true =>
        go_upto_region 5 with fail
        refine wp_region_held (S := fun W => PuS w W #[tx q.name, .bool q.dur, .int .i64 q.depth, .int .i64 q.seq, .int .i64 q.tag, iv, hv] #[tx m.topic, tx m.body, pv, .bool m.dur, .int .i64 m.til]) hmix ?_
        show wpAnyH _ _ _ _ _ _ _ _ (World.drew _)
        have hS : PuS w w3.drew #[tx q.name, .bool q.dur, .int .i64 q.depth, .int .i64 q.seq, .int .i64 q.tag, iv, hv] #[tx m.topic, tx m.body, pv, .bool m.dur, .int .i64 m.til] := ⟨⟨S3.q.h⟩, ⟨S3.m.h⟩, ⟨S3.r.h⟩, S3.b.drew⟩
        clear S3
        generalize w3.drew = w4 at *
        refine wpAnyH_take (i := 0) (v := .agg #[tx q.name, .bool q.dur, .int .i64 q.depth, .int .i64 q.seq, .int .i64 q.tag, iv, hv]) rfl (by kernel_rfl) (by kernel_rfl) (by kernel_rfl) (fun _ _ _ h => h) (.inl ⟨by rfl, fun W' hW' => ?_⟩) hS ?_
        · obtain ⟨d0, d1, d2, d3, d4, d5, d6⟩ := hW'.q.c7
          go_simp
        simp only [Act.put, List.getElem_toArray, List.getElem_cons_zero, List.setIfInBounds_toArray, List.set_cons_succ, List.set_cons_zero]
        refine wpAnyH_take (i := 2) (v := .pointer (some ⟨w.heap.size, 2, none⟩)) rfl (by kernel_rfl) (by kernel_rfl) (by kernel_rfl) (fun _ _ _ h => h) (.inl ⟨by rfl, fun W' hW' => ?_⟩) hS ?_
        · obtain ⟨d0, d1, d2, d3, d4, d5, d6⟩ := hW'.q.c7
          go_simp
        simp only [Act.put, List.getElem_toArray, List.getElem_cons_succ, List.getElem_cons_zero, List.setIfInBounds_toArray, List.set_cons_succ, List.set_cons_zero]
        refine wpAnyH_take (i := 3) (v := .int .i64 q.depth) rfl (by kernel_rfl) (by kernel_rfl) (by kernel_rfl) (fun _ _ _ h => h) (.inl ⟨by rfl, fun W' hW' => ?_⟩) hS ?_
        · obtain ⟨d0, d1, d2, d3, d4, d5, d6⟩ := hW'.q.c7
          go_simp
        simp only [Act.put, List.getElem_toArray, List.getElem_cons_succ, List.getElem_cons_zero, List.setIfInBounds_toArray, List.set_cons_succ, List.set_cons_zero]
        refine wpAnyH_one (i := 1) (by kernel_rfl) rfl (by rfl) (fun K hK => ?_)
        go_simp
        refine (HL _ hS.b).mono ?_
        rintro e w5 ⟨rfl, b5⟩
        replace hS := hS.on b5
        show K _ _
        refine hK _ _ hS ?_
        clear hK K b5
        by_cases hd : (lenQ q : Int) = q.depth
        · have hdd : ((lenQ q : Int) == q.depth) = true := by simp [hd]
          refine wpAnyH_take (i := 4) (v := .bool true) rfl (by kernel_rfl) (by kernel_rfl) (by kernel_rfl) (fun _ _ _ h => h) (.inl ⟨by rfl, fun W' hW' => ?_⟩) hS ?_
          · obtain ⟨d0, d1, d2, d3, d4, d5, d6⟩ := hW'.q.c7
            go_simp
          simp only [Act.put, List.getElem_toArray, List.getElem_cons_succ, List.getElem_cons_zero, List.setIfInBounds_toArray, List.set_cons_succ, List.set_cons_zero]
          refine wpAnyH_done (by kernel_rfl) ?_ _
          have e0 : pushC q m = 35 := by simp [pushC, hg, hsq, hm, hd]
          go_wp2_with (refine wpl_put rfl (.tmp 4) (.tmp 24) rfl _ _ rfl rfl hS.r (by kernel_rfl) rfl (by simp [Value.oneCell']) ?_)
          intro W' k' g' s'
          go_wp2_with fail
          refine ret25t rfl k' rfl rfl rfl ⟨_, rfl, own_zero _ _, hS.b.grown g' hS.b.size (fun k hk => by injection hk with hk; omega)⟩
        · have hdd : ((lenQ q : Int) == q.depth) = false := by simp [hd]
          refine wpAnyH_take (i := 4) (v := .bool false) rfl (by kernel_rfl) (by kernel_rfl) (by kernel_rfl) (fun _ _ _ h => h) (.inl ⟨by rfl, fun W' hW' => ?_⟩) hS ?_
          · obtain ⟨d0, d1, d2, d3, d4, d5, d6⟩ := hW'.q.c7
            go_simp
          simp only [Act.put, List.getElem_toArray, List.getElem_cons_succ, List.getElem_cons_zero, List.setIfInBounds_toArray, List.set_cons_succ, List.set_cons_zero]
          refine wpAnyH_done (by kernel_rfl) ?_ _
          have hcp := copy_any w5 _ q (hR.on hS.b) hsm
          unfold queV at hcp
          go_wp2_with (refine wpl_load25 rfl (.tmp 2) rfl _ _ rfl hS.q rfl ?_)
          refine hcp.mono ?_
          rintro e w6 ⟨v6, rfl, ⟨iv6, hv6, rfl, oi6, oh6⟩, b6⟩
          obtain ⟨ai6, ci6, rfl⟩ := oi6.rd.len
          obtain ⟨ah6, ch6, rfl⟩ := oh6.rd.len
          have S6 := hS.on b6
          have oi7 := oi6.low hS.b.size
          have oh7 := oh6.low hS.b.size
          clear hcp hS b6 oi6 oh6
          generalize q.items.length = ni at *
          generalize q.held.length = nh at *
          unfold queV
          go_wp2_with (refine wpl_put rfl (.tmp 2) (.tmp 26) rfl _ _ rfl rfl S6.q (by kernel_rfl) rfl (by simp [Value.oneCell']) ?_)
          intro w7 k7 g7 s7
          have m7 := S6.m.grown g7 (fun e => by injection e with e; omega)
          have r7 := S6.r.grown g7 (fun e => by injection e with e; omega)
          have b7 := S6.b.grown g7 S6.b.size (fun k hk => by injection hk with hk; omega)
          have oi8 := oi7.keep (kt_grown S6.q g7 (by decide)) (kt_grown S6.q g7 (by decide))
          have oh8 := oh7.keep (kt_grown S6.q g7 (by decide)) (kt_grown S6.q g7 (by decide))
          clear S6 oi7 oh7 g7 s7
          obtain ⟨c0, c1, c2, c3, c4, c5, c6⟩ := k7.c7
          go_wp2_with (refine wpl_set rfl (.tmp 30) (.tmp 29) rfl _ 3 _ rfl rfl k7 (by kernel_rfl) rfl rfl (by simp) ?_)
          intro w8 k8 g8 s8
          have m8 := m7.grown g8 (fun e => by injection e with e; omega)
          have r8 := r7.grown g8 (fun e => by injection e with e; omega)
          have b8 := b7.grown g8 b7.size (fun k hk => by injection hk with hk; omega)
          have oi9 := oi8.keep (kt_grown k7 g8 (by decide)) (kt_grown k7 g8 (by decide))
          have oh9 := oh8.keep (kt_grown k7 g8 (by decide)) (kt_grown k7 g8 (by decide))
          have k9 : Blk w8 w.heap.size #[tx q.name, .bool q.dur, .int .i64 q.depth, .int .i64 (q.seq + 1), .int .i64 q.tag, .slice ai6 ni ci6, .slice ah6 nh ch6] 25 := k8
          clear k7 m7 r7 b7 oi8 oh8 g8 s8 k8 c0 c1 c2 c3 c4 c5 c6
          go_upto_region 9 with fail
          have hS : PuS w w8.drew #[tx q.name, .bool q.dur, .int .i64 q.depth, .int .i64 (q.seq + 1), .int .i64 q.tag, .slice ai6 ni ci6, .slice ah6 nh ch6] #[tx m.topic, tx m.body, pv, .bool m.dur, .int .i64 m.til] := ⟨⟨k9.h⟩, ⟨m8.h⟩, ⟨r8.h⟩, b8.drew⟩
          have oi10 : OwnI w8.drew w.heap.size (.slice ai6 ni ci6) q.items := oi9
          have oh10 : OwnH w8.drew w.heap.size (.slice ah6 nh ch6) q.held := oh9
          clear k9 m8 r8 b8 oi9 oh9
          refine wp_region_to (S := fun W => PuS w W #[tx q.name, .bool q.dur, .int .i64 q.depth, .int .i64 (q.seq + 1), .int .i64 q.tag, .slice ai6 ni ci6, .slice ah6 nh ch6] #[tx m.topic, tx m.body, pv, .bool m.dur, .int .i64 m.til]) (z := 10) hmix ?_
          show wpTo _ _ _ _ _ _ _ _ _ (World.drew _)
          generalize w8.drew = w9 at *
          refine wpTo.take (i := 0) (z := 10) (v := .pointer (some ⟨w.heap.size, 5, none⟩)) rfl (by kernel_rfl) (by kernel_rfl) (by kernel_rfl) (by kernel_rfl) (fun _ _ _ h => h) (.inl ⟨by rfl, fun W' hW' => ?_⟩) hS ?_
          · obtain ⟨d0, d1, d2, d3, d4, d5, d6⟩ := hW'.q.c7
            go_simp
          simp only [Act.put, List.getElem_toArray, List.getElem_cons_zero, List.setIfInBounds_toArray, List.set_cons_succ, List.set_cons_zero]
          refine wpTo.take (i := 1) (z := 10) (v := .slice ai6 ni ci6) rfl (by kernel_rfl) (by kernel_rfl) (by kernel_rfl) (by kernel_rfl) (fun _ _ _ h => h) (.inl ⟨by rfl, fun W' hW' => ?_⟩) hS ?_
          · obtain ⟨d0, d1, d2, d3, d4, d5, d6⟩ := hW'.q.c7
            go_simp
          simp only [Act.put, List.getElem_toArray, List.getElem_cons_succ, List.getElem_cons_zero, List.setIfInBounds_toArray, List.set_cons_succ, List.set_cons_zero]
          refine wpTo.take (i := 2) (z := 10) (v := .pointer (some ⟨w.heap.size, 3, none⟩)) rfl (by kernel_rfl) (by kernel_rfl) (by kernel_rfl) (by kernel_rfl) (fun _ _ _ h => h) (.inl ⟨by rfl, fun W' hW' => ?_⟩) hS ?_
          · obtain ⟨d0, d1, d2, d3, d4, d5, d6⟩ := hW'.q.c7
            go_simp
          simp only [Act.put, List.getElem_toArray, List.getElem_cons_succ, List.getElem_cons_zero, List.setIfInBounds_toArray, List.set_cons_succ, List.set_cons_zero]
          refine wpTo.take (i := 3) (z := 10) (v := .int .i64 (q.seq + 1)) rfl (by kernel_rfl) (by kernel_rfl) (by kernel_rfl) (by kernel_rfl) (fun _ _ _ h => h) (.inl ⟨by rfl, fun W' hW' => ?_⟩) hS ?_
          · obtain ⟨d0, d1, d2, d3, d4, d5, d6⟩ := hW'.q.c7
            go_simp
          simp only [Act.put, List.getElem_toArray, List.getElem_cons_succ, List.getElem_cons_zero, List.setIfInBounds_toArray, List.set_cons_succ, List.set_cons_zero]
          refine wpTo.take (i := 4) (z := 10) (v := .agg #[tx m.topic, tx m.body, pv, .bool m.dur, .int .i64 m.til]) rfl (by kernel_rfl) (by kernel_rfl) (by kernel_rfl) (by kernel_rfl) (fun _ _ _ h => h) (.inl ⟨by rfl, fun W' hW' => ?_⟩) hS ?_
          · obtain ⟨d0, d1, d2, d3, d4⟩ := hW'.m.c5
            go_simp
          simp only [Act.put, List.getElem_toArray, List.getElem_cons_succ, List.getElem_cons_zero, List.setIfInBounds_toArray, List.set_cons_succ, List.set_cons_zero]
          refine wpTo.take (i := 5) (z := 10) (v := .agg #[.int .i64 (q.seq + 1), .bool false, tx m.topic, tx m.body, pv, .bool m.dur, .int .i64 m.til]) rfl (by kernel_rfl) (by kernel_rfl) (by kernel_rfl) (by kernel_rfl) (fun _ _ _ h => h) (.inl ⟨by rfl, fun W' hW' => ?_⟩) hS ?_
          · obtain ⟨d0, d1, d2, d3, d4⟩ := hW'.m.c5
            go_simp
          simp only [Act.put, List.getElem_toArray, List.getElem_cons_succ, List.getElem_cons_zero, List.setIfInBounds_toArray, List.set_cons_succ, List.set_cons_zero]
          refine wpTo.one (i := 6) (by kernel_rfl) rfl (by rfl) (fun K hK => ?_)
          go_simp
          refine (copyItem_any w9 ⟨q.seq + 1, false, m⟩ pv (hp.on hS.b) (by simp only [msgB, Bool.and_eq_true] at hm; have := (valid_parts hm.1.2).1; show m.props.length ≤ 2513169434916; omega)).mono ?_
          rintro e w10 ⟨pv2, rfl, op2, b10⟩
          have hS2 := hS.on b10
          have oi11 := oi10.keep (Kt.of_below b10) (Kt.of_below b10)
          have oh11 := oh10.keep (Kt.of_below b10) (Kt.of_below b10)
          have op3 : OwnP w10 w.heap.size pv2 m.props := op2.low hS.b.size
          show K _ _
          refine hK _ _ (fun _ => hS2) ?_
          clear hK K hS oi10 oh10 op2 b10
          unfold itmV
          obtain ⟨pa2, pc2, rfl⟩ := op3.shape
          generalize m.props.length = pn at *
          refine wpTo.one (i := 7) (by kernel_rfl) rfl (by rfl) (fun K hK => ?_)
          go_simp
          have b11 := (Below.refl w10.heap.size w10).alloc (Nat.le_refl _) (.cells #[.int .i64 (q.seq + 1), .bool false, tx m.topic, tx m.body, .slice pa2 pn pc2, .bool m.dur, .int .i64 m.til] 43)
          have kN := Blk.new w10 #[.int .i64 (q.seq + 1), .bool false, tx m.topic, tx m.body, .slice pa2 pn pc2, .bool m.dur, .int .i64 m.til] 43
          have hS3 := hS2.on b11
          have oi12 := oi11.keep (Kt.of_below b11) (Kt.of_below b11)
          have oh12 := oh11.keep (Kt.of_below b11) (Kt.of_below b11)
          have op4 := op3.keep (Kt.of_below b11)
          show K _ _
          refine hK _ _ (fun _ => hS3) ?_
          obtain ⟨nb, hnb⟩ : ∃ nb, w10.heap.size = nb := ⟨_, rfl⟩
          rw [hnb] at kN ⊢
          generalize w10.alloc (.cells #[.int .i64 (q.seq + 1), .bool false, tx m.topic, tx m.body, .slice pa2 pn pc2, .bool m.dur, .int .i64 m.til] 43) = w11 at *
          clear hK K hS2 oi11 oh11 op3 b11 hnb
          obtain ⟨zs, ezs, hzs⟩ := oi12
          refine wpTo.one (i := 8) (by kernel_rfl) rfl (by rfl) (fun K hK => ?_)
          refine appI_one hzs hS3.b (.tmp 32) (.tmp 38) rfl rfl nb rfl ⟨q.seq + 1, false, m⟩ (.slice pa2 pn pc2) kN op4 (by have := hsm.items; rw [← ezs, List.length_map] at this; omega) ?_
          intro v12 w12 o12 g12
          have t25 : Kt 25 w11 w12 := Kt.of_grown hzs.1 g12 (by decide)
          have t28 : Kt 28 w11 w12 := Kt.of_grown hzs.1 g12 (by decide)
          have t61 : Kt 61 w11 w12 := Kt.of_grown hzs.1 g12 (by decide)
          have t54 : Kt 54 w11 w12 := Kt.of_grown hzs.1 g12 (by decide)
          have hS4 : PuS w w12 #[tx q.name, .bool q.dur, .int .i64 q.depth, .int .i64 (q.seq + 1), .int .i64 q.tag, .slice ai6 ni ci6, .slice ah6 nh ch6] #[tx m.topic, tx m.body, pv, .bool m.dur, .int .i64 m.til] := ⟨hS3.q.kt t25, hS3.m.kt t28, hS3.r.kt t25, hS3.b.grown g12 hS3.b.size (fun k hk => (World.ownsRow.lt hzs.1 k hk).1)⟩
          have oh13 := oh12.keep t61 t54
          have oi13 : OwnI w12 w.heap.size v12 (q.items ++ [⟨q.seq + 1, false, m⟩]) := ⟨_, by rw [List.map_append, ezs]; rfl, o12⟩
          refine hK _ _ (fun _ => hS4) ?_
          clear hK K hS3 oh12 op4 kN hzs ezs g12 o12 t25 t28 t61 t54
          obtain ⟨a12, c12, rfl⟩ := oi13.rd.len
          generalize hL12 : (q.items ++ [(⟨q.seq + 1, false, m⟩ : Itm)]).length = n12 at *
          clear hL12
          simp only [Act.put, List.getElem_toArray, List.getElem_cons_succ, List.getElem_cons_zero, List.setIfInBounds_toArray, List.set_cons_succ, List.set_cons_zero]
          refine wpTo.take (i := 9) (z := 10) (v := .pointer (some ⟨w.heap.size, 5, none⟩)) rfl (by kernel_rfl) (by kernel_rfl) (by kernel_rfl) (by kernel_rfl) (fun _ _ _ h => h) (.inl ⟨by rfl, fun W' hW' => ?_⟩) hS4 ?_
          · obtain ⟨d0, d1, d2, d3, d4, d5, d6⟩ := hW'.q.c7
            go_simp
          simp only [Act.put, List.getElem_toArray, List.getElem_cons_succ, List.getElem_cons_zero, List.setIfInBounds_toArray, List.set_cons_succ, List.set_cons_zero]
          refine wpTo.one (i := 10) (by kernel_rfl) rfl (by rfl) (fun K hK => ?_)
          have f5 := hS4.q.frozen 5
          obtain ⟨d0, d1, d2, d3, d4, d5, d6⟩ := hS4.q.c7
          go_simp
          show K _ _
          refine hK _ _ (fun h => absurd rfl h) ?_
          clear hK K d0 d1 d2 d3 d4 d5 d6
          have k14 : Blk (w12.setCell ⟨w.heap.size, 5, none⟩ (.slice a12 n12 c12)) w.heap.size #[tx q.name, .bool q.dur, .int .i64 q.depth, .int .i64 (q.seq + 1), .int .i64 q.tag, .slice a12 n12 c12, .slice ah6 nh ch6] 25 := hS4.q.set 5 (.slice a12 n12 c12)
          have r14 := hS4.r.setO (g' := w.heap.size) (j := 5) (by omega) (.slice a12 n12 c12)
          have b14 := hS4.b.setCell (p := ⟨w.heap.size, 5, none⟩) (Nat.le_refl _) (.slice a12 n12 c12)
          have oi14 := oi13.keep (kt_setCell (j := 5) hS4.q (by decide) (.slice a12 n12 c12)) (kt_setCell (j := 5) hS4.q (by decide) (.slice a12 n12 c12))
          have oh14 := oh13.keep (kt_setCell (j := 5) hS4.q (by decide) (.slice a12 n12 c12)) (kt_setCell (j := 5) hS4.q (by decide) (.slice a12 n12 c12))
          generalize w12.setCell ⟨w.heap.size, 5, none⟩ (.slice a12 n12 c12) = w14 at *
          clear hS4 oi13 oh13 f5
          refine wpTo.done (by kernel_rfl) ?_ _
          have e0 : pushC q m = 0 := by simp [pushC, hg, hsq, hm, hd]
          have HE : Hid (pushC q m = 0) := e0
          clear e0
          go_wp2_with (first | (refine wpl_load25 rfl (.tmp 2) rfl _ _ rfl k14 rfl ?_) | (refine wpl_put rfl (.tmp 4) (.tmp 41) rfl _ _ rfl rfl r14 (by kernel_rfl) rfl (by simp [Value.oneCell']) ?_))
          intro w15 k15 g15 s15
          go_wp2_with fail
          refine ret25t rfl k15 rfl rfl rfl ⟨_, rfl, ?_, b14.grown g15 b14.size (fun k hk => by injection hk with hk; omega)⟩
          exact ⟨_, _, rfl, oi14.keep (kt_grown r14 g15 (by decide)) (kt_grown r14 g15 (by decide)), oh14.keep (kt_grown r14 g15 (by decide)) (kt_grown r14 g15 (by decide))⟩
end Go.Proofs.YtlbcefocmdnlgaaGreatDoor
