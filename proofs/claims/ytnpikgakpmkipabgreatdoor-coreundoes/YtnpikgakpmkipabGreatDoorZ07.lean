/- What New and Push answer. Conditions: To.Vars, what the library's variables hold, and those that each row states. -/
import Derived.Test.YtnpikgakpmkipabGreatDoorZ04
import Derived.Test.YtnpikgakpmkipabGreatDoorZ03
import Derived.Test.YtnpikgakpmkipabGreatDoorZ06
import Derived.Test.YtnpikgakpmkipabGreatDoorZ05
import Derived.Deep.RegionLaw
namespace Go.Proofs.YtnpikgakpmkipabGreatDoor
open Go.RowKit Go.Lib
set_option maxRecDepth 100000
set_option linter.unusedSimpArgs false
theorem own_zero (w : World) (B : Nat) : OwnQ w B (.agg #[.string ⟨#[]⟩, .bool false, .int .i64 0, .int .i64 0, .int .i64 0, .slice none 0 0, .slice none 0 0]) zeroQ :=
 ⟨.slice none 0 0, .slice none 0 0, rfl, ⟨[], rfl, World.ownsRow_nil .., by simp⟩, ⟨[], rfl, World.ownsRow_nil .., by simp⟩⟩
def newC (name : List UInt8) (depth : Int) : Int := if !nameL name then 31 else if !depB depth then 1 else 0
def newQ (name : List UInt8) (dur : Bool) (depth : Int) : Que := ⟨name, dur, depth, 0, 0, [], []⟩
theorem own_new (w : World) (B : Nat) (name : List UInt8) (dur : Bool) (depth : Int) : OwnQ w B (.agg #[tx name, .bool dur, .int .i64 depth, .int .i64 0, .int .i64 0, .slice none 0 0, .slice none 0 0]) (newQ name dur depth) :=
 ⟨.slice none 0 0, .slice none 0 0, rfl, ⟨[], rfl, World.ownsRow_nil .., by simp⟩, ⟨[], rfl, World.ownsRow_nil .., by simp⟩⟩
theorem name_any (W : World) (l : List UInt8) : Calls Tryz.prog 128 #[tx l] W fun e w' => e = .returned (.bool (nameL l)) ∧ w' = W := (name7 W ⟨l.toArray⟩).mono fun e w' ⟨h1, h2⟩ => ⟨by rw [h1, Go.ByteArray.toList_mk], h2⟩
theorem new_any (w : World) (name : List UInt8) (dur : Bool) (depth : Int) :
  Calls Tryz.prog 112 #[tx name, .bool dur, .int .i64 depth] w fun e w' => ∃ v', e = .returned (.tuple #[v', .int .i64 (newC name depth)]) ∧ OwnQ w' w.heap.size v' (if newC name depth = 0 then newQ name dur depth else zeroQ) ∧ Bw w w' := by
 have k0 := Blk.new w quZ 82
 have b0 := (Below.refl w.heap.size w).alloc (Nat.le_refl _) (.cells quZ 82)
 have H1 := fun W => name_any W name
 have H2 := fun W => dep_any W depth
 go_enter Tryz.func112, Tryz.ntmps112
 go_upto_region 1 with fail
 generalize w.alloc (.cells quZ 82) = w1 at *
 go_wp2_with fail
 refine (H1 _).mono ?_
 rintro e w2 ⟨rfl, rfl⟩
 cases h1 : nameL name with
 | false =>
  have e0 : newC name depth = 31 := by simp [newC, h1]
  go_wp2_with (refine wpl_put rfl (.tmp 6) (.tmp 11) rfl _ _ rfl rfl k0 (by kernel_rfl) rfl (by simp [Value.oneCell']) ?_)
  intro W' k' g' s'
  go_wp2_with fail
  refine ret25t rfl k' rfl rfl rfl ⟨_, rfl, own_zero _ _, b0.grown g' b0.size (fun k hk => by injection hk with hk; omega)⟩
 | true =>
  go_wp2_with fail
  refine (H2 _).mono ?_
  rintro e w3 ⟨rfl, rfl⟩
  cases h2 : depB depth with
  | false =>
   have e0 : newC name depth = 1 := by simp [newC, h1, h2]
   go_wp2_with (refine wpl_put rfl (.tmp 6) (.tmp 15) rfl _ _ rfl rfl k0 (by kernel_rfl) rfl (by simp [Value.oneCell']) ?_)
   intro W' k' g' s'
   go_wp2_with fail
   refine ret25t rfl k' rfl rfl rfl ⟨_, rfl, own_zero _ _, b0.grown g' b0.size (fun k hk => by injection hk with hk; omega)⟩
  | true =>
   have e0 : newC name depth = 0 := by simp [newC, h1, h2]
   go_wp2_with (refine wpl_put rfl (.tmp 6) (.tmp 19) rfl _ _ rfl rfl k0 (by kernel_rfl) rfl (by simp [Value.oneCell']) ?_)
   intro W' k' g' s'
   go_wp2_with fail
   refine ret25t rfl k' rfl rfl rfl ⟨_, rfl, own_new _ _ _ _ _, b0.grown g' b0.size (fun k hk => by injection hk with hk; omega)⟩
theorem goodQ_small {q : Que} (h : goodQ q = true) : Small q ∧ lenQ q ≤ 64 ∧ 0 ≤ q.seq ∧ q.seq ≤ 1099511627776 ∧ 0 ≤ q.tag ∧ q.tag ≤ 1099511627776 := by
 simp only [goodQ, Bool.and_eq_true, decide_eq_true_eq, depB, numB] at h
 obtain ⟨⟨⟨⟨⟨⟨⟨h1, h2⟩, h3⟩, h4⟩, h5⟩, h6⟩, h7⟩, h8⟩ := h
 have hl : lenQ q ≤ 64 := by omega
 refine ⟨⟨by unfold lenQ at hl; omega, by unfold lenQ at hl; omega, fun x hx => ?_, fun x hx => ?_⟩, hl, h3.1, h3.2, h4.1, h4.2⟩
 ·have := itms_seqs h6 x hx
  simp only [itmB, msgB, Bool.and_eq_true] at this
  have := (valid_parts this.2.1.2).1
  omega
 ·have := hlds_seqs h7 x hx
  simp only [hldB, itmB, msgB, Bool.and_eq_true] at this
  have := (valid_parts this.2.2.1.2).1
  omega
structure PuS (w W : World) (qs ms : Array Value) : Prop where
 q : Blk W w.heap.size qs 82
 m : Blk W (w.heap.size + 1) ms 33
 r : Blk W (w.heap.size + 2) quZ 82
 b : Bw w W
theorem PuS.on {w W W' : World} {qs ms : Array Value} (h : PuS w W qs ms) (hb : Bw W W') : PuS w W' qs ms := ⟨h.q.on hb, h.m.on hb, h.r.on hb, nxt h.b hb⟩
set_option maxHeartbeats 4000000 in
theorem push_any (w : World) (hva : To.Vars w) (v : Value) (q : Que) (h : RdQ w v q) (m : Msg) (pv : Value) (hp : RdP w pv m.props) (hbig : lenQ q ≤ 1000000) :
  Calls Tryz.prog 194 #[v, .agg (msgV m pv).toArray] w fun e w' => ∃ v', e = .returned (.tuple #[v', .int .i64 (pushC q m)]) ∧ OwnQ w' w.heap.size v' (if pushC q m = 0 then pushQ q m else zeroQ) ∧ Bw w w' := by
 have hR := h
 obtain ⟨iv, hv, rfl, hi, hh⟩ := h
 have OI : ∃ a c, iv = .slice a q.items.length c := hi.len
 have OH : ∃ a c, hv = .slice a q.held.length c := hh.len
 clear hi hh
 have HG : ∀ W, Bw w W → Calls Tryz.prog 64 #[queV q iv hv] W fun e w' => e = .returned (.bool (goodQ q)) ∧ Bw W w' := fun W b => good_any W (hva.below b) _ q (hR.on b) hbig
 have HM : ∀ W, Bw w W → Calls Tryz.prog 77 #[.agg (msgV m pv).toArray] W fun e w' => e = .returned (.bool (msgB m)) ∧ Bw W w' := fun W b => message_any W (hva.below b) m pv (hp.on b)
 have HL : ∀ W, Bw w W → Calls Tryz.prog 146 #[queV q iv hv] W fun e w' => e = .returned (.int .i64 (lenQ q)) ∧ Bw W w' := fun W b => len_any W _ q (hR.on b) (by omega)
 have S0 : PuS w (((w.alloc (.cells (quA q iv hv) 82)).alloc (.cells (msA m pv) 33)).alloc (.cells quZ 82)) (quA q iv hv) (msA m pv) := by
  refine ⟨((Blk.new _ _ _).alloc _).alloc _, ?_, ?_, (((Below.refl _ w).alloc (Nat.le_refl _) _).alloc (by simp) _).alloc (by simp; omega) _⟩
  ·have := (Blk.new (w.alloc (.cells (quA q iv hv) 82)) (msA m pv) 33).alloc (.cells quZ 82)
   rwa [World.size_alloc] at this
  ·have := Blk.new ((w.alloc (.cells (quA q iv hv) 82)).alloc (.cells (msA m pv) 33)) quZ 82
   rwa [World.size_alloc, World.size_alloc] at this
 unfold msgV queV at *
 go_enter Tryz.func194, Tryz.ntmps194
 go_upto_region 1 with fail
 generalize ((w.alloc (.cells (quA q iv hv) 82)).alloc (.cells (msA m pv) 33)).alloc (.cells quZ 82) = w1 at *
 go_wp2_with (refine wpl_load25 rfl (.tmp 2) rfl _ _ rfl S0.q rfl ?_)
 refine (HG _ S0.b).mono ?_
 rintro e w2 ⟨rfl, b2⟩
 have S2 := S0.on b2
 clear S0 b2
 cases hg : goodQ q with
 | false =>
  have e0 : pushC q m = 1 := by simp [pushC, hg]
  go_wp2_with (refine wpl_put rfl (.tmp 4) (.tmp 14) rfl _ _ rfl rfl S2.r (by kernel_rfl) rfl (by simp [Value.oneCell']) ?_)
  intro W' k' g' s'
  go_wp2_with fail
  refine ret25t rfl k' rfl rfl rfl ⟨_, rfl, own_zero _ _, S2.b.grown g' S2.b.size (fun k hk => by injection hk with hk; omega)⟩
 | true =>
  obtain ⟨hsm, hl64, hq1, hq2, _, _⟩ := goodQ_small hg
  obtain ⟨c0, c1, c2, c3, c4, c5, c6⟩ := S2.q.c7
  by_cases hsq : q.seq = 1099511627776
  ·have e0 : pushC q m = 1 := by simp [pushC, hg, hsq]
   rw [hsq] at c3
   go_wp2_with (refine wpl_put rfl (.tmp 4) (.tmp 14) rfl _ _ rfl rfl S2.r (by kernel_rfl) rfl (by simp [Value.oneCell']) ?_)
   intro W' k' g' s'
   go_wp2_with fail
   refine ret25t rfl k' rfl rfl rfl ⟨_, rfl, own_zero _ _, S2.b.grown g' S2.b.size (fun k hk => by injection hk with hk; omega)⟩
  ·go_wp2_with (refine wpl_load28 rfl (.tmp 3) rfl _ _ rfl S2.m rfl ?_)
   refine (HM _ S2.b).mono ?_
   rintro e w3 ⟨rfl, b3⟩
   have S3 := S2.on b3
   clear S2 b3 c0 c1 c2 c3 c4 c5 c6
   cases hm : msgB m with
   | false =>
    have e0 : pushC q m = 36 := by simp [pushC, hg, hsq, hm]
    go_wp2_with (refine wpl_put rfl (.tmp 4) (.tmp 18) rfl _ _ rfl rfl S3.r (by kernel_rfl) rfl (by simp [Value.oneCell']) ?_)
    intro W' k' g' s'
    go_wp2_with fail
    refine ret25t rfl k' rfl rfl rfl ⟨_, rfl, own_zero _ _, S3.b.grown g' S3.b.size (fun k hk => by injection hk with hk; omega)⟩
   | true =>
    go_upto_region 5 with fail
    refine rh (fun W => PuS w W (quA q iv hv) (msA m pv)) ?_
    have hS : PuS w w3.drew (quA q iv hv) (msA m pv) := ⟨⟨S3.q.h⟩, ⟨S3.m.h⟩, ⟨S3.r.h⟩, S3.b.drew⟩
    clear S3
    generalize w3.drew = w4 at *
    refine tks [0, 2, 3] [.agg #[tx q.name, .bool q.dur, .int .i64 q.depth, .int .i64 q.seq, .int .i64 q.tag, iv, hv], .pointer (some ⟨w.heap.size, 2, none⟩), .int .i64 q.depth] 2 ?_ hS ?_
    ·simp only [tkY, tkf]
     refine ⟨.yes ?_, .yes ?_, .yes ?_, trivial⟩
     all_goals
      intro W' hW'
      obtain ⟨d0, d1, d2, d3, d4, d5, d6⟩ := hW'.q.c7
      go_simp
    simp only [tkA, tkf]
    refine ak 1 fun K hK => ?_
    go_simp
    refine (HL _ hS.b).mono ?_
    rintro e w5 ⟨rfl, b5⟩
    replace hS := hS.on b5
    show K _ _
    refine hK _ _ hS ?_
    clear hK K b5
    by_cases hd : (lenQ q : Int) = q.depth
    ·have hdd : ((lenQ q : Int) == q.depth) = true := by simp [hd]
     refine tks [4] [.bool true] 0 ?_ hS ?_
     ·simp only [tkY, tkf]
      refine ⟨.yes ?_, trivial⟩
      all_goals
       intro W' hW'
       obtain ⟨d0, d1, d2, d3, d4, d5, d6⟩ := hW'.q.c7
       go_simp
     simp only [tkA, tkf]
     refine ad ?_
     have e0 : pushC q m = 35 := by simp [pushC, hg, hsq, hm, hd]
     go_wp2_with (refine wpl_put rfl (.tmp 4) (.tmp 24) rfl _ _ rfl rfl hS.r (by kernel_rfl) rfl (by simp [Value.oneCell']) ?_)
     intro W' k' g' s'
     go_wp2_with fail
     refine ret25t rfl k' rfl rfl rfl ⟨_, rfl, own_zero _ _, hS.b.grown g' hS.b.size (fun k hk => by injection hk with hk; omega)⟩
    ·have hdd : ((lenQ q : Int) == q.depth) = false := by simp [hd]
     refine tks [4] [.bool false] 0 ?_ hS ?_
     ·simp only [tkY, tkf]
      refine ⟨.yes ?_, trivial⟩
      all_goals
       intro W' hW'
       obtain ⟨d0, d1, d2, d3, d4, d5, d6⟩ := hW'.q.c7
       go_simp
     simp only [tkA, tkf]
     refine ad ?_
     have hcp := copy_any w5 _ q (hR.on hS.b) hsm
     unfold queV at hcp
     go_wp2_with (refine wpl_load25 rfl (.tmp 2) rfl _ _ rfl hS.q rfl ?_)
     refine hcp.mono ?_
     rintro e w6 ⟨v6, rfl, ⟨iv6, hv6, rfl, oi6, oh6⟩, b6⟩
     obtain ⟨ai6, ci6, rfl⟩ := oi6.rd.len
     obtain ⟨ah6, ch6, rfl⟩ := oh6.rd.len
     have S6 := hS.on b6
     have oi7 := oi6.low hS.b.size
     have oh7 := oh6.low hS.b.size
     clear hcp hS b6 oi6 oh6
     generalize q.items.length = ni at *
     generalize q.held.length = nh at *
     unfold queV
     go_wp2_with (refine wpl_put rfl (.tmp 2) (.tmp 26) rfl _ _ rfl rfl S6.q (by kernel_rfl) rfl (by simp [Value.oneCell']) ?_)
     intro w7 k7 g7 s7
     have m7 := S6.m.grown g7 (fun e => by injection e with e; omega)
     have r7 := S6.r.grown g7 (fun e => by injection e with e; omega)
     have b7 := S6.b.grown g7 S6.b.size (fun k hk => by injection hk with hk; omega)
     have oi8 := oi7.keep (kt_grown S6.q g7 (by decide)) (kt_grown S6.q g7 (by decide))
     have oh8 := oh7.keep (kt_grown S6.q g7 (by decide)) (kt_grown S6.q g7 (by decide))
     clear S6 oi7 oh7 g7 s7
     obtain ⟨c0, c1, c2, c3, c4, c5, c6⟩ := k7.c7
     go_wp2_with (refine wpl_set rfl (.tmp 30) (.tmp 29) rfl _ 3 _ rfl rfl k7 (by kernel_rfl) rfl rfl (by simp) ?_)
     intro w8 k8 g8 s8
     have m8 := m7.grown g8 (fun e => by injection e with e; omega)
     have r8 := r7.grown g8 (fun e => by injection e with e; omega)
     have b8 := b7.grown g8 b7.size (fun k hk => by injection hk with hk; omega)
     have oi9 := oi8.keep (kt_grown k7 g8 (by decide)) (kt_grown k7 g8 (by decide))
     have oh9 := oh8.keep (kt_grown k7 g8 (by decide)) (kt_grown k7 g8 (by decide))
     have k9 : Blk w8 w.heap.size #[tx q.name, .bool q.dur, .int .i64 q.depth, .int .i64 (q.seq + 1), .int .i64 q.tag, .slice ai6 ni ci6, .slice ah6 nh ch6] 82 := k8
     clear k7 m7 r7 b7 oi8 oh8 g8 s8 k8 c0 c1 c2 c3 c4 c5 c6
     go_upto_region 9 with fail
     have hS : PuS w w8.drew #[tx q.name, .bool q.dur, .int .i64 q.depth, .int .i64 (q.seq + 1), .int .i64 q.tag, .slice ai6 ni ci6, .slice ah6 nh ch6] (msA m pv) := ⟨⟨k9.h⟩, ⟨m8.h⟩, ⟨r8.h⟩, b8.drew⟩
     have oi10 : OwnI w8.drew w.heap.size (.slice ai6 ni ci6) q.items := oi9
     have oh10 : OwnH w8.drew w.heap.size (.slice ah6 nh ch6) q.held := oh9
     clear k9 m8 r8 b8 oi9 oh9
     refine wp_region_to (S := fun W => PuS w W #[tx q.name, .bool q.dur, .int .i64 q.depth, .int .i64 (q.seq + 1), .int .i64 q.tag, .slice ai6 ni ci6, .slice ah6 nh ch6] (msA m pv)) (z := 10) hmix ?_
     show wpTo _ _ _ _ _ _ _ _ _ (World.drew _)
     generalize w8.drew = w9 at *
     refine wpTo.take (i := 0) (z := 10) (v := .pointer (some ⟨w.heap.size, 5, none⟩)) rfl (by kernel_rfl) (by kernel_rfl) (by kernel_rfl) (by kernel_rfl) (fun _ _ _ h => h) (.inl ⟨by rfl, fun W' hW' => ?_⟩) hS ?_
     ·obtain ⟨d0, d1, d2, d3, d4, d5, d6⟩ := hW'.q.c7
      go_simp
     simp only [tkf]
     refine wpTo.take (i := 1) (z := 10) (v := .slice ai6 ni ci6) rfl (by kernel_rfl) (by kernel_rfl) (by kernel_rfl) (by kernel_rfl) (fun _ _ _ h => h) (.inl ⟨by rfl, fun W' hW' => ?_⟩) hS ?_
     ·obtain ⟨d0, d1, d2, d3, d4, d5, d6⟩ := hW'.q.c7
      go_simp
     simp only [tkf]
     refine wpTo.take (i := 2) (z := 10) (v := .pointer (some ⟨w.heap.size, 3, none⟩)) rfl (by kernel_rfl) (by kernel_rfl) (by kernel_rfl) (by kernel_rfl) (fun _ _ _ h => h) (.inl ⟨by rfl, fun W' hW' => ?_⟩) hS ?_
     ·obtain ⟨d0, d1, d2, d3, d4, d5, d6⟩ := hW'.q.c7
      go_simp
     simp only [tkf]
     refine wpTo.take (i := 3) (z := 10) (v := .int .i64 (q.seq + 1)) rfl (by kernel_rfl) (by kernel_rfl) (by kernel_rfl) (by kernel_rfl) (fun _ _ _ h => h) (.inl ⟨by rfl, fun W' hW' => ?_⟩) hS ?_
     ·obtain ⟨d0, d1, d2, d3, d4, d5, d6⟩ := hW'.q.c7
      go_simp
     simp only [tkf]
     refine wpTo.take (i := 4) (z := 10) (v := .agg #[tx m.topic, tx m.body, pv, .bool m.dur, .int .i64 m.til]) rfl (by kernel_rfl) (by kernel_rfl) (by kernel_rfl) (by kernel_rfl) (fun _ _ _ h => h) (.inl ⟨by rfl, fun W' hW' => ?_⟩) hS ?_
     ·obtain ⟨d0, d1, d2, d3, d4⟩ := hW'.m.c5
      go_simp
     simp only [tkf]
     refine wpTo.take (i := 5) (z := 10) (v := .agg #[.int .i64 (q.seq + 1), .bool false, tx m.topic, tx m.body, pv, .bool m.dur, .int .i64 m.til]) rfl (by kernel_rfl) (by kernel_rfl) (by kernel_rfl) (by kernel_rfl) (fun _ _ _ h => h) (.inl ⟨by rfl, fun W' hW' => ?_⟩) hS ?_
     ·obtain ⟨d0, d1, d2, d3, d4⟩ := hW'.m.c5
      go_simp
     simp only [tkf]
     refine wpTo.one (i := 6) (by kernel_rfl) rfl (by rfl) (fun K hK => ?_)
     go_simp
     refine (copyItem_any w9 ⟨q.seq + 1, false, m⟩ pv (hp.on hS.b) (by simp only [msgB, Bool.and_eq_true] at hm; have := (valid_parts hm.1.2).1; show m.props.length ≤ 2513169434916; omega)).mono ?_
     rintro e w10 ⟨pv2, rfl, op2, b10⟩
     have hS2 := hS.on b10
     have oi11 := oi10.keep (Kt.of_below b10) (Kt.of_below b10)
     have oh11 := oh10.keep (Kt.of_below b10) (Kt.of_below b10)
     have op3 : OwnP w10 w.heap.size pv2 m.props := op2.low hS.b.size
     show K _ _
     refine hK _ _ (fun _ => hS2) ?_
     clear hK K hS oi10 oh10 op2 b10
     unfold itmV
     obtain ⟨pa2, pc2, rfl⟩ := op3.shape
     generalize m.props.length = pn at *
     refine wpTo.one (i := 7) (by kernel_rfl) rfl (by rfl) (fun K hK => ?_)
     go_simp
     have b11 := (Below.refl w10.heap.size w10).alloc (Nat.le_refl _) (.cells #[.int .i64 (q.seq + 1), .bool false, tx m.topic, tx m.body, .slice pa2 pn pc2, .bool m.dur, .int .i64 m.til] 131)
     have kN := Blk.new w10 #[.int .i64 (q.seq + 1), .bool false, tx m.topic, tx m.body, .slice pa2 pn pc2, .bool m.dur, .int .i64 m.til] 131
     have hS3 := hS2.on b11
     have oi12 := oi11.keep (Kt.of_below b11) (Kt.of_below b11)
     have oh12 := oh11.keep (Kt.of_below b11) (Kt.of_below b11)
     have op4 := op3.keep (Kt.of_below b11)
     show K _ _
     refine hK _ _ (fun _ => hS3) ?_
     obtain ⟨nb, hnb⟩ : ∃ nb, w10.heap.size = nb := ⟨_, rfl⟩
     rw [hnb] at kN ⊢
     generalize w10.alloc (.cells #[.int .i64 (q.seq + 1), .bool false, tx m.topic, tx m.body, .slice pa2 pn pc2, .bool m.dur, .int .i64 m.til] 131) = w11 at *
     clear hK K hS2 oi11 oh11 op3 b11 hnb
     obtain ⟨zs, ezs, hzs⟩ := oi12
     refine wpTo.one (i := 8) (by kernel_rfl) rfl (by rfl) (fun K hK => ?_)
     refine appI_one hzs hS3.b (.tmp 32) (.tmp 38) rfl rfl nb rfl ⟨q.seq + 1, false, m⟩ (.slice pa2 pn pc2) kN op4 (by have := hsm.items; rw [← ezs, List.length_map] at this; omega) ?_
     intro v12 w12 o12 g12
     have t25 : Kt 82 w11 w12 := Kt.of_grown hzs.1 g12 (by decide)
     have t28 : Kt 33 w11 w12 := Kt.of_grown hzs.1 g12 (by decide)
     have t61 : Kt 133 w11 w12 := Kt.of_grown hzs.1 g12 (by decide)
     have t54 : Kt 66 w11 w12 := Kt.of_grown hzs.1 g12 (by decide)
     have hS4 : PuS w w12 #[tx q.name, .bool q.dur, .int .i64 q.depth, .int .i64 (q.seq + 1), .int .i64 q.tag, .slice ai6 ni ci6, .slice ah6 nh ch6] (msA m pv) := ⟨hS3.q.kt t25, hS3.m.kt t28, hS3.r.kt t25, hS3.b.grown g12 hS3.b.size (fun k hk => (World.ownsRow.lt hzs.1 k hk).1)⟩
     have oh13 := oh12.keep t61 t54
     have oi13 : OwnI w12 w.heap.size v12 (q.items ++ [⟨q.seq + 1, false, m⟩]) := ⟨_, by rw [List.map_append, ezs]; rfl, o12⟩
     refine hK _ _ (fun _ => hS4) ?_
     clear hK K hS3 oh12 op4 kN hzs ezs g12 o12 t25 t28 t61 t54
     obtain ⟨a12, c12, rfl⟩ := oi13.rd.len
     generalize hL12 : (q.items ++ [(⟨q.seq + 1, false, m⟩ : Itm)]).length = n12 at *
     clear hL12
     simp only [tkf]
     refine wpTo.take (i := 9) (z := 10) (v := .pointer (some ⟨w.heap.size, 5, none⟩)) rfl (by kernel_rfl) (by kernel_rfl) (by kernel_rfl) (by kernel_rfl) (fun _ _ _ h => h) (.inl ⟨by rfl, fun W' hW' => ?_⟩) hS4 ?_
     ·obtain ⟨d0, d1, d2, d3, d4, d5, d6⟩ := hW'.q.c7
      go_simp
     simp only [tkf]
     refine wpTo.one (i := 10) (by kernel_rfl) rfl (by rfl) (fun K hK => ?_)
     have f5 := hS4.q.frozen 5
     obtain ⟨d0, d1, d2, d3, d4, d5, d6⟩ := hS4.q.c7
     go_simp
     show K _ _
     refine hK _ _ (fun h => absurd rfl h) ?_
     clear hK K d0 d1 d2 d3 d4 d5 d6
     have k14 : Blk (w12.setCell ⟨w.heap.size, 5, none⟩ (.slice a12 n12 c12)) w.heap.size #[tx q.name, .bool q.dur, .int .i64 q.depth, .int .i64 (q.seq + 1), .int .i64 q.tag, .slice a12 n12 c12, .slice ah6 nh ch6] 82 := hS4.q.set 5 (.slice a12 n12 c12)
     have r14 := hS4.r.setO (g' := w.heap.size) (j := 5) (by omega) (.slice a12 n12 c12)
     have b14 := hS4.b.setCell (p := ⟨w.heap.size, 5, none⟩) (Nat.le_refl _) (.slice a12 n12 c12)
     have oi14 := oi13.keep (kt_setCell (j := 5) hS4.q (by decide) (.slice a12 n12 c12)) (kt_setCell (j := 5) hS4.q (by decide) (.slice a12 n12 c12))
     have oh14 := oh13.keep (kt_setCell (j := 5) hS4.q (by decide) (.slice a12 n12 c12)) (kt_setCell (j := 5) hS4.q (by decide) (.slice a12 n12 c12))
     generalize w12.setCell ⟨w.heap.size, 5, none⟩ (.slice a12 n12 c12) = w14 at *
     clear hS4 oi13 oh13 f5
     refine wpTo.done (by kernel_rfl) ?_ _
     have e0 : pushC q m = 0 := by simp [pushC, hg, hsq, hm, hd]
     have HE : Hid (pushC q m = 0) := e0
     clear e0
     go_wp2_with (first | (refine wpl_load25 rfl (.tmp 2) rfl _ _ rfl k14 rfl ?_) | (refine wpl_put rfl (.tmp 4) (.tmp 41) rfl _ _ rfl rfl r14 (by kernel_rfl) rfl (by simp [Value.oneCell']) ?_))
     intro w15 k15 g15 s15
     go_wp2_with fail
     refine ret25t rfl k15 rfl rfl rfl ⟨_, rfl, ?_, b14.grown g15 b14.size (fun k hk => by injection hk with hk; omega)⟩
     exact ⟨_, _, rfl, oi14.keep (kt_grown r14 g15 (by decide)) (kt_grown r14 g15 (by decide)), oh14.keep (kt_grown r14 g15 (by decide)) (kt_grown r14 g15 (by decide))⟩
theorem step_app_row {ops : Array Oper} {o : Oper} {a : Act} {w : World} {K : Act → World → Prop} {Q : Exit → Act → World → Prop} {E : Prop}
  (hg : o.guard = none) (s x : Operand) (t : TypeId) (hop : o.op = Op.call { callee := Callee.builtin Builtin.append, args := #[s, x], argTypes := #[t, t] })
  (e : TypeId) (i : TypeInfo) (size : Nat) (h1 : Tryz.prog.underlying t = some (.slice e)) (h2 : Tryz.prog.info? e = some i) (h4 : i.size = size)
  (g n cap : Nat) (cur : Array Value) (hb : Blk w g cur e) (hs : a.eval s = .slice (some ⟨g, 0, none⟩) n cap)
  (ad : Addr) (m c : Nat) (news : List Value) (hx : a.eval x = .slice (some ad) m c) (hn : news.length = m * size) (hc : ∀ j u, news[j]? = some u → w.cell? (ad.add j) = some u) (h1c : ∀ u ∈ news, u.oneCell' = true)
  (hroom : n + m ≤ cap) (hfit : n * size + news.length ≤ cur.size)
  (hK : K (a.put o.dst (.slice (some ⟨g, 0, none⟩) (n + m) cap)) (w.setRow g (cur.toList.take (n * size) ++ news ++ cur.toList.drop (n * size + news.length)).toArray)) :
  if Region.wanted o (yielded ops a.tmps) = true then Oper.wp Tryz.prog o a w K Q else E := by
 have hw : Region.wanted o (yielded ops a.tmps) = true := by simp [Region.wanted, hg]
 rw [if_pos hw]
 subst h4
 have hrun := run_append_room (P := Tryz.prog) w t o.type e i h1 h2 g n cap cur hb.h ad m c news hn hc h1c hroom hfit
 unfold Oper.wp execOp
 simp only [hop, resolve, invoke, builtin, Sem.run_bind, Sem.run_pure, Result.andThen_ok, List.map_toArray, List.map_cons, List.map_nil, hs, hx, hrun]
 exact hK
theorem zero43 (w : World) : (zeroValue 131).run Tryz.prog w = .ok (.agg #[.int .i64 0, .bool false, .string ⟨#[]⟩, .string ⟨#[]⟩, .slice none 0 0, .bool false, .int .i64 0]) w := by kernel_rfl
theorem ownI_some {w : World} {B : Nat} {v : Value} {zs : Zs Itm} {R : List Value → Itm → Prop} (h : OwnZ 131 7 R w B v zs) (h0 : 0 < zs.length) :
  ∃ g cap cur, v = .slice (some ⟨g, 0, none⟩) zs.length cap ∧ B ≤ g ∧ Blk w g cur 131 ∧ zs.length ≤ cap ∧ cap ≤ maxLen ∧ cur.size = cap * 7 ∧ cur.toList.take (zs.length * 7) = cellsZ zs := by
 obtain ⟨_, h1 | ⟨g, cap, cur, hv, hb, hg, hc, hm, hs, ht⟩⟩ := h.1
 ·omega
 ·exact ⟨g, cap, cur, hv, hb, ⟨hg⟩, hc, hm, hs, ht⟩
set_option maxHeartbeats 2000000 in
theorem deleteI_any (w : World) (B : Nat) (v : Value) (zs : Zs Itm) (R : List Value → Itm → Prop) (h : OwnZ 131 7 R w B v zs) (i j : Nat) (hij : j = i + 1) (hi : i < zs.length) (hn : zs.length ≤ 1000000) :
  Calls Tryz.prog 226 #[v, .int .i64 i, .int .i64 (j : Nat)] w fun e w' => ∃ v', e = .returned v' ∧ OwnZ 131 7 R w' B v' (zs.take i ++ zs.drop j) ∧ w.grownBy w' v.ownBlock ∧ v'.ownBlock = v.ownBlock := by
 obtain ⟨g, cap, cur, rfl, hBg, kg, hc, hm, hs, ht⟩ := ownI_some h (by omega)
 obtain ⟨i0, hi0, hz0, hz1, hz2⟩ := info_parts info43
 have hk : ∀ z ∈ zs, z.1.length = 7 := fun z hz => (h.2 z hz).1.1
 have hcl := cellsZ_len hk
 have hkd : ∀ z ∈ zs.drop j, z.1.length = 7 := fun z hz => hk z (List.mem_of_mem_drop hz)
 have hnl : (cellsZ (zs.drop j)).length = (zs.length - j) * 7 := by rw [cellsZ_len hkd, List.length_drop]
 have hcell : ∀ t u, (cellsZ (zs.drop j))[t]? = some u → w.drew.cell? ⟨g, j * 7 + t, none⟩ = some u := fun t u hu => by
  show w.cell? _ = _
  rw [kg.cell, ← hu, ← cellsZ_drop hk, List.getElem?_drop, ← ht]
  have ht2 : j * 7 + t < zs.length * 7 := by
   have := (List.getElem?_eq_some_iff.1 hu).1
   rw [hnl] at this
   omega
  rw [List.getElem?_take_of_lt ht2]
  simp
 have hone : ∀ u ∈ cellsZ (zs.drop j), u.oneCell' = true := fun u hu => by
  obtain ⟨z, hz, hu⟩ := List.mem_flatMap.1 hu
  exact (h.2 z (List.mem_of_mem_drop hz)).1.2 u hu
 obtain ⟨A, hA, hsrc⟩ : ∃ A : Addr, (if cap = j then some (⟨g, 0, none⟩ : Addr) else some ⟨g, j * 7, none⟩) = some A ∧ Hid (∀ t u, (cellsZ (zs.drop j))[t]? = some u → w.drew.cell? (A.add t) = some u) := by
  by_cases e : cap = j
  ·refine ⟨⟨g, 0, none⟩, by simp [e], fun t u hu => ?_⟩
   have h0 : zs.drop j = [] := List.drop_eq_nil_of_le (by omega)
   rw [h0] at hu
   simp [cellsZ] at hu
  ·refine ⟨⟨g, j * 7, none⟩, by simp [e], fun t u hu => ?_⟩
   rw [Addr.add_lit]
   exact hcell t u hu
 have HN : Hid ((cellsZ (zs.drop j)).length = (zs.length - j) * 7) := hnl
 have HO : Hid (∀ u ∈ cellsZ (zs.drop j), u.oneCell' = true) := hone
 have HZ : Hid (∀ z ∈ zs, (z.1.length = 7 ∧ ∀ u ∈ z.1, u.oneCell' = true) ∧ R z.1 z.2) := h.2
 have HT : Hid (cur.toList.take (zs.length * 7) = cellsZ zs) := ht
 have HK : Hid (∀ z ∈ zs, z.1.length = 7) := hk
 have HS : Hid (cur.size = cap * 7) := hs
 obtain ⟨news, hnews⟩ : ∃ news, cellsZ (zs.drop j) = news := ⟨_, rfl⟩
 rw [hnews] at hsrc HN HO
 have HW : Hid (cellsZ (zs.drop j) = news) := hnews
 have kd : Blk w.drew g cur 131 := ⟨kg.h⟩
 have k1 := kd.row (cur.toList.take (i * 7) ++ news ++ cur.toList.drop (i * 7 + news.length)).toArray
 obtain ⟨W1, hW1⟩ : ∃ W1, w.drew.setRow g (cur.toList.take (i * 7) ++ news ++ cur.toList.drop (i * 7 + news.length)).toArray = W1 := ⟨_, rfl⟩
 rw [hW1] at k1
 have g1 : w.grownBy W1 (some g) := by
  rw [← hW1]
  exact ⟨rfl, rfl, rfl, (grown_setRow w.drew g _).size, fun k hk hne => (grown_setRow w.drew g _).block k hk hne⟩
 have HW1 : Hid (w.drew.setRow g (cur.toList.take (i * 7) ++ news ++ cur.toList.drop (i * 7 + news.length)).toArray = W1) := hW1
 have hsz : (cur.toList.take (i * 7) ++ news ++ cur.toList.drop (i * 7 + news.length)).toArray.size = cap * 7 := by
  have := HN.out
  have : i * 7 + (zs.length - j) * 7 ≤ cap * 7 := by omega
  simp
  omega
 obtain ⟨zz, hzz, hclr⟩ := run_clear_row (P := Tryz.prog) W1 79 131 0 (.agg #[.int .i64 0, .bool false, .string ⟨#[]⟩, .string ⟨#[]⟩, .slice none 0 0, .bool false, .int .i64 0]) Tryz.underlying79 zero43 (by simp [Value.cells, Value.oneCell']) g ((zs.length - 1) * 7) 1 (cap - (zs.length - 1)) (by omega) _ k1.h (by rw [hsz]; simp [Value.cells]; omega)
 have k2 := k1.row (((cur.toList.take (i * 7) ++ news ++ cur.toList.drop (i * 7 + news.length)).toArray.toList.take ((zs.length - 1) * 7) ++ zz ++ (cur.toList.take (i * 7) ++ news ++ cur.toList.drop (i * 7 + news.length)).toArray.toList.drop ((zs.length - 1) * 7 + zz.length)).toArray)
 obtain ⟨W2, hW2⟩ : ∃ W2, W1.setRow g (((cur.toList.take (i * 7) ++ news ++ cur.toList.drop (i * 7 + news.length)).toArray.toList.take ((zs.length - 1) * 7) ++ zz ++ (cur.toList.take (i * 7) ++ news ++ cur.toList.drop (i * 7 + news.length)).toArray.toList.drop ((zs.length - 1) * 7 + zz.length)).toArray) = W2 := ⟨_, rfl⟩
 rw [hW2] at k2 hclr
 have g2 : W1.grownBy W2 (some g) := by rw [← hW2]; exact grown_setRow W1 g _
 have hfin : OwnZ 131 7 R W2 B (.slice (some ⟨g, 0, none⟩) (zs.length - 1) cap) (zs.take i ++ zs.drop j) := by
  have hlen : (zs.take i ++ zs.drop j).length = zs.length - 1 := by simp; omega
  have hks : ∀ z ∈ zs.take i ++ zs.drop j, z ∈ zs := fun z hz => by
   rcases List.mem_append.1 hz with hz | hz
   ·exact List.mem_of_mem_take hz
   ·exact List.mem_of_mem_drop hz
  refine ⟨⟨by rw [cellsZ_len (fun z hz => HK.out z (hks z hz)), hlen], .inr ⟨g, cap, _, by rw [hlen], hBg, k2.h, by omega, hm, ?_, ?_⟩⟩, fun z hz => HZ.out z (hks z hz)⟩
  ·simp only [List.size_toArray, List.length_append, List.length_take, List.length_drop, Array.length_toList] at hsz ⊢
   have e7 : (Value.agg #[.int .i64 0, .bool false, .string ⟨#[]⟩, .string ⟨#[]⟩, .slice none 0 0, .bool false, .int .i64 0]).cells.size = 7 := rfl
   rw [e7] at hzz
   simp only [hsz]
   omega
  ·rw [hlen]
   have h1 := HN.out
   have hci : (cur.toList.take (i * 7)).length = i * 7 := by rw [List.length_take, Array.length_toList, HS.out]; omega
   have hl2 : (zs.length - 1) * 7 = (cur.toList.take (i * 7) ++ news).length := by rw [List.length_append, hci, h1]; omega
   rw [List.toList_toArray, List.append_assoc, List.take_append_of_le_length (by rw [List.length_take, List.toList_toArray, List.length_append]; omega), List.take_take, Nat.min_self, List.toList_toArray, hl2, List.take_left' rfl, cellsZ_app]
   congr 1
   ·rw [← cellsZ_take HK.out, ← HT.out, List.take_take]
    congr 1
    omega
   ·exact HW.out.symm
 obtain ⟨n, hnn⟩ : ∃ n, zs.length = n := ⟨_, rfl⟩
 have hgg := gb_trans g1 g2
 have hsp : i * 7 + news.length ≤ cur.size := by rw [HN.out, HS.out]; omega
 rw [hnn] at hi hn hc hclr hfin HN ⊢
 clear hnews hone hnl hcell hk hcl hkd ht hs kg h k1 hW1 hW2 k2 g1 g2 hsz hzz HT HK HS HZ HW hnn
 have e1 : i + (n - j) = n - 1 := by omega
 have hi0' : i < j := by omega
 have hi1 : j ≤ n := by omega
 have hi2 : i ≤ cap := by omega
 have hi3 : j ≤ cap := by omega
 have hne : ¬ ((i : Int) = (j : Int)) := by omega
 have mixed := hmix
 have E1 : Hid (i + (n - j) = n - 1) := e1
 clear hij e1
 go_enter Tryz.func226, Tryz.ntmps226
 go_wp2_with fail
 go_region_law_o (refine step_app_row rfl (.tmp 22) (.tmp 25) 79 rfl 131 i0 7 Tryz.underlying79 hi0 hz1 g i cap cur kd (by simp [Act.eval, Act.put]) A (n - j) (cap - j) news (by simp [Act.eval, Act.put]) HN.out hsrc.out HO.out (by omega) hsp ?_; rw [HW1.out])
 have e1 := E1.out
 simp only [e1]
 have hn1 : n - 1 ≤ n := by omega
 have hn2 : n - (n - 1) = 1 := by omega
 go_wp2
 go_ret
 exact ⟨_, rfl, hfin, hgg, rfl⟩
theorem zero61 (w : World) : (zeroValue 133).run Tryz.prog w = .ok (.agg #[.int .i64 0, .int .i64 0, .int .i64 0, .int .i64 0, .bool false, .string ⟨#[]⟩, .string ⟨#[]⟩, .slice none 0 0, .bool false, .int .i64 0]) w := by kernel_rfl
theorem ownH_some {w : World} {B : Nat} {v : Value} {zs : Zs Hld} {R : List Value → Hld → Prop} (h : OwnZ 133 10 R w B v zs) (h0 : 0 < zs.length) :
  ∃ g cap cur, v = .slice (some ⟨g, 0, none⟩) zs.length cap ∧ B ≤ g ∧ Blk w g cur 133 ∧ zs.length ≤ cap ∧ cap ≤ maxLen ∧ cur.size = cap * 10 ∧ cur.toList.take (zs.length * 10) = cellsZ zs := by
 obtain ⟨_, h1 | ⟨g, cap, cur, hv, hb, hg, hc, hm, hs, ht⟩⟩ := h.1
 ·omega
 ·exact ⟨g, cap, cur, hv, hb, ⟨hg⟩, hc, hm, hs, ht⟩
set_option maxHeartbeats 2000000 in
theorem deleteH_any (w : World) (B : Nat) (v : Value) (zs : Zs Hld) (R : List Value → Hld → Prop) (h : OwnZ 133 10 R w B v zs) (i j : Nat) (hij : j = i + 1) (hi : i < zs.length) (hn : zs.length ≤ 1000000) :
  Calls Tryz.prog 214 #[v, .int .i64 i, .int .i64 (j : Nat)] w fun e w' => ∃ v', e = .returned v' ∧ OwnZ 133 10 R w' B v' (zs.take i ++ zs.drop j) ∧ w.grownBy w' v.ownBlock ∧ v'.ownBlock = v.ownBlock := by
 obtain ⟨g, cap, cur, rfl, hBg, kg, hc, hm, hs, ht⟩ := ownH_some h (by omega)
 obtain ⟨i0, hi0, hz0, hz1, hz2⟩ := info_parts info61
 have hk : ∀ z ∈ zs, z.1.length = 10 := fun z hz => (h.2 z hz).1.1
 have hcl := cellsZ_len hk
 have hkd : ∀ z ∈ zs.drop j, z.1.length = 10 := fun z hz => hk z (List.mem_of_mem_drop hz)
 have hnl : (cellsZ (zs.drop j)).length = (zs.length - j) * 10 := by rw [cellsZ_len hkd, List.length_drop]
 have hcell : ∀ t u, (cellsZ (zs.drop j))[t]? = some u → w.drew.cell? ⟨g, j * 10 + t, none⟩ = some u := fun t u hu => by
  show w.cell? _ = _
  rw [kg.cell, ← hu, ← cellsZ_drop hk, List.getElem?_drop, ← ht]
  have ht2 : j * 10 + t < zs.length * 10 := by
   have := (List.getElem?_eq_some_iff.1 hu).1
   rw [hnl] at this
   omega
  rw [List.getElem?_take_of_lt ht2]
  simp
 have hone : ∀ u ∈ cellsZ (zs.drop j), u.oneCell' = true := fun u hu => by
  obtain ⟨z, hz, hu⟩ := List.mem_flatMap.1 hu
  exact (h.2 z (List.mem_of_mem_drop hz)).1.2 u hu
 obtain ⟨A, hA, hsrc⟩ : ∃ A : Addr, (if cap = j then some (⟨g, 0, none⟩ : Addr) else some ⟨g, j * 10, none⟩) = some A ∧ Hid (∀ t u, (cellsZ (zs.drop j))[t]? = some u → w.drew.cell? (A.add t) = some u) := by
  by_cases e : cap = j
  ·refine ⟨⟨g, 0, none⟩, by simp [e], fun t u hu => ?_⟩
   have h0 : zs.drop j = [] := List.drop_eq_nil_of_le (by omega)
   rw [h0] at hu
   simp [cellsZ] at hu
  ·refine ⟨⟨g, j * 10, none⟩, by simp [e], fun t u hu => ?_⟩
   rw [Addr.add_lit]
   exact hcell t u hu
 have HN : Hid ((cellsZ (zs.drop j)).length = (zs.length - j) * 10) := hnl
 have HO : Hid (∀ u ∈ cellsZ (zs.drop j), u.oneCell' = true) := hone
 have HZ : Hid (∀ z ∈ zs, (z.1.length = 10 ∧ ∀ u ∈ z.1, u.oneCell' = true) ∧ R z.1 z.2) := h.2
 have HT : Hid (cur.toList.take (zs.length * 10) = cellsZ zs) := ht
 have HK : Hid (∀ z ∈ zs, z.1.length = 10) := hk
 have HS : Hid (cur.size = cap * 10) := hs
 obtain ⟨news, hnews⟩ : ∃ news, cellsZ (zs.drop j) = news := ⟨_, rfl⟩
 rw [hnews] at hsrc HN HO
 have HW : Hid (cellsZ (zs.drop j) = news) := hnews
 have kd : Blk w.drew g cur 133 := ⟨kg.h⟩
 have k1 := kd.row (cur.toList.take (i * 10) ++ news ++ cur.toList.drop (i * 10 + news.length)).toArray
 obtain ⟨W1, hW1⟩ : ∃ W1, w.drew.setRow g (cur.toList.take (i * 10) ++ news ++ cur.toList.drop (i * 10 + news.length)).toArray = W1 := ⟨_, rfl⟩
 rw [hW1] at k1
 have g1 : w.grownBy W1 (some g) := by
  rw [← hW1]
  exact ⟨rfl, rfl, rfl, (grown_setRow w.drew g _).size, fun k hk hne => (grown_setRow w.drew g _).block k hk hne⟩
 have HW1 : Hid (w.drew.setRow g (cur.toList.take (i * 10) ++ news ++ cur.toList.drop (i * 10 + news.length)).toArray = W1) := hW1
 have hsz : (cur.toList.take (i * 10) ++ news ++ cur.toList.drop (i * 10 + news.length)).toArray.size = cap * 10 := by
  have := HN.out
  have : i * 10 + (zs.length - j) * 10 ≤ cap * 10 := by omega
  simp
  omega
 obtain ⟨zz, hzz, hclr⟩ := run_clear_row (P := Tryz.prog) W1 80 133 0 (.agg #[.int .i64 0, .int .i64 0, .int .i64 0, .int .i64 0, .bool false, .string ⟨#[]⟩, .string ⟨#[]⟩, .slice none 0 0, .bool false, .int .i64 0]) Tryz.underlying80 zero61 (by simp [Value.cells, Value.oneCell']) g ((zs.length - 1) * 10) 1 (cap - (zs.length - 1)) (by omega) _ k1.h (by rw [hsz]; simp [Value.cells]; omega)
 have k2 := k1.row (((cur.toList.take (i * 10) ++ news ++ cur.toList.drop (i * 10 + news.length)).toArray.toList.take ((zs.length - 1) * 10) ++ zz ++ (cur.toList.take (i * 10) ++ news ++ cur.toList.drop (i * 10 + news.length)).toArray.toList.drop ((zs.length - 1) * 10 + zz.length)).toArray)
 obtain ⟨W2, hW2⟩ : ∃ W2, W1.setRow g (((cur.toList.take (i * 10) ++ news ++ cur.toList.drop (i * 10 + news.length)).toArray.toList.take ((zs.length - 1) * 10) ++ zz ++ (cur.toList.take (i * 10) ++ news ++ cur.toList.drop (i * 10 + news.length)).toArray.toList.drop ((zs.length - 1) * 10 + zz.length)).toArray) = W2 := ⟨_, rfl⟩
 rw [hW2] at k2 hclr
 have g2 : W1.grownBy W2 (some g) := by rw [← hW2]; exact grown_setRow W1 g _
 have hfin : OwnZ 133 10 R W2 B (.slice (some ⟨g, 0, none⟩) (zs.length - 1) cap) (zs.take i ++ zs.drop j) := by
  have hlen : (zs.take i ++ zs.drop j).length = zs.length - 1 := by simp; omega
  have hks : ∀ z ∈ zs.take i ++ zs.drop j, z ∈ zs := fun z hz => by
   rcases List.mem_append.1 hz with hz | hz
   ·exact List.mem_of_mem_take hz
   ·exact List.mem_of_mem_drop hz
  refine ⟨⟨by rw [cellsZ_len (fun z hz => HK.out z (hks z hz)), hlen], .inr ⟨g, cap, _, by rw [hlen], hBg, k2.h, by omega, hm, ?_, ?_⟩⟩, fun z hz => HZ.out z (hks z hz)⟩
  ·simp only [List.size_toArray, List.length_append, List.length_take, List.length_drop, Array.length_toList] at hsz ⊢
   have e7 : (Value.agg #[.int .i64 0, .int .i64 0, .int .i64 0, .int .i64 0, .bool false, .string ⟨#[]⟩, .string ⟨#[]⟩, .slice none 0 0, .bool false, .int .i64 0]).cells.size = 10 := rfl
   rw [e7] at hzz
   simp only [hsz]
   omega
  ·rw [hlen]
   have h1 := HN.out
   have hci : (cur.toList.take (i * 10)).length = i * 10 := by rw [List.length_take, Array.length_toList, HS.out]; omega
   have hl2 : (zs.length - 1) * 10 = (cur.toList.take (i * 10) ++ news).length := by rw [List.length_append, hci, h1]; omega
   rw [List.toList_toArray, List.append_assoc, List.take_append_of_le_length (by rw [List.length_take, List.toList_toArray, List.length_append]; omega), List.take_take, Nat.min_self, List.toList_toArray, hl2, List.take_left' rfl, cellsZ_app]
   congr 1
   ·rw [← cellsZ_take HK.out, ← HT.out, List.take_take]
    congr 1
    omega
   ·exact HW.out.symm
 obtain ⟨n, hnn⟩ : ∃ n, zs.length = n := ⟨_, rfl⟩
 have hgg := gb_trans g1 g2
 have hsp : i * 10 + news.length ≤ cur.size := by rw [HN.out, HS.out]; omega
 rw [hnn] at hi hn hc hclr hfin HN ⊢
 clear hnews hone hnl hcell hk hcl hkd ht hs kg h k1 hW1 hW2 k2 g1 g2 hsz hzz HT HK HS HZ HW hnn
 have e1 : i + (n - j) = n - 1 := by omega
 have hi0' : i < j := by omega
 have hi1 : j ≤ n := by omega
 have hi2 : i ≤ cap := by omega
 have hi3 : j ≤ cap := by omega
 have hne : ¬ ((i : Int) = (j : Int)) := by omega
 have mixed := hmix
 have E1 : Hid (i + (n - j) = n - 1) := e1
 clear hij e1
 go_enter Tryz.func214, Tryz.ntmps214
 go_wp2_with fail
 go_region_law_o (refine step_app_row rfl (.tmp 22) (.tmp 25) 80 rfl 133 i0 10 Tryz.underlying80 hi0 hz1 g i cap cur kd (by simp [Act.eval, Act.put]) A (n - j) (cap - j) news (by simp [Act.eval, Act.put]) HN.out hsrc.out HO.out (by omega) hsp ?_; rw [HW1.out])
 have e1 := E1.out
 simp only [e1]
 have hn1 : n - 1 ≤ n := by omega
 have hn2 : n - (n - 1) = 1 := by omega
 go_wp2
 go_ret
 exact ⟨_, rfl, hfin, hgg, rfl⟩
end Go.Proofs.YtnpikgakpmkipabGreatDoor
