/- (*turn).publish. Conditions: those that each row states. -/
import Derived.Test.YtnpikgakpmkipabGreatDoorZ15
import Derived.Test.YtnpikgakpmkipabGreatDoorZ03
import Derived.Test.YtnpikgakpmkipabGreatDoorZ21
import Derived.Test.YtnpikgakpmkipabGreatDoorZ23
import Derived.Test.YtnpikgakpmkipabGreatDoorZ20
import Derived.Test.YtnpikgakpmkipabGreatDoorZ04
import Derived.Test.YtnpikgakpmkipabGreatDoorZ22
import Derived.Test.YtnpikgakpmkipabGreatDoorZ14
import Derived.Test.YtnpikgakpmkipabGreatDoorZ09
namespace Go.Proofs.YtnpikgakpmkipabGreatDoor
open Go.RowKit Go.Lib
set_option maxRecDepth 100000
set_option linter.unusedSimpArgs false
set_option linter.unusedVariables false
theorem pub_none {c : Cor} {o : Opr} (h1 : ¬ o.queue = []) (h2 : hasNm c.queues o.queue = false) : publish2 c o = .error 33 := by
 simp [publish2, ins, h1, h2]
theorem pub_go {c : Cor} {o : Opr} (h : o.queue = [] ∨ hasNm c.queues o.queue = true) : publish2 c o = bnd (pushAll c (meantB c o) o.msg) fun c2 => if o.keep then retainC c2 o.msg else .ok c2 := by
 rcases h with h | h <;> simp [publish2, ins, h]
theorem noO_err {x : Except Int Cor} {n : Int} (h : noO x = .error n) : x = .error n := by
 cases x with
 | error m =>
  injection h with h
  rw [h]
 | ok c => cases h
theorem noO_ok' {x : Except Int Cor} {r : Cor × List Ot} (h : noO x = .ok r) : x = .ok r.1 ∧ r.2 = [] := by
 cases x with
 | error m => cases h
 | ok c =>
  injection h with h
  rw [← h]
  exact ⟨rfl, rfl⟩
set_option maxHeartbeats 4000000 in
theorem publish_op (w : World) (B g : Nat) (c : Cor) (os : List Ot) (qv bv sv kv cv ov : Value) (zs : Zs Cli) (hT : TA w B g c os qv bv sv kv cv ov zs) (hg : GoodC c) (hV : VB B w) (o : Opr) (pv : Value) (hp : pv.oneCell' = true) (hR : ∀ W, Below B w W → RdP W pv o.msg.props) (hpl : o.msg.props.length ≤ 2513169434916) :
  Calls Tryz.prog 50 #[.pointer (some ⟨g, 0, none⟩), opV o pv] w fun e w' => Led w B g os (noO (publishC c o)) e w' := by
 have HGC : Hid (GoodC c ∧ VB B w) := ⟨hg, hV⟩
 have HPO : Hid (pv.oneCell' = true ∧ (∀ W, Below B w W → RdP W pv o.msg.props) ∧ o.msg.props.length ≤ 2513169434916) := ⟨hp, hR, hpl⟩
 clear hg hp hR hpl hV
 have b0 := (Below.refl w.heap.size w).alloc (Nat.le_refl _) (.cells (opA o pv) 35)
 have hO := Blk.new w (opA o pv) 35
 have hT1 := hT.on b0
 have hF1 : FrT B w (w.alloc (.cells (opA o pv) 35)) := .of_below b0 hT.t.lt
 unfold opV
 go_enter Tryz.func50, Tryz.ntmps50
 go_upto_region 1 with fail
 generalize w.alloc (.cells (opA o pv) 35) = w1 at *
 obtain ⟨gx, egx⟩ : ∃ g, w.heap.size = g := ⟨_, rfl⟩
 rw [egx] at hO ⊢
 clear egx b0 hT
 obtain ⟨d0, d1, d2, d3, d4, d5, d6, d7, d8, d9, d10, d11, d12, d13⟩ := hO.c14
 have HT1 : Hid (TA w1 B g c os qv bv sv kv cv ov zs ∧ FrT B w w1 ∧ Blk w1 gx (opA o pv) 35) := ⟨hT1, hF1, hO⟩
 have HS := message_any w1 (HGC.out.2.fr hF1).now o.msg pv (HPO.out.2.1 _ hF1.below)
 unfold msgV at HS
 clear hT1 hF1 hO
 go_wp2_with fail
 refine HS.mono ?_
 rintro e w2 ⟨rfl, b2⟩
 have HT2 : Hid (TA w2 B g c os qv bv sv kv cv ov zs ∧ FrT B w w2 ∧ Blk w2 gx (opA o pv) 35) := ⟨HT1.out.1.on b2, HT1.out.2.1.trans (.of_below b2 HT1.out.1.t.lt), HT1.out.2.2.on b2⟩
 clear HT1 HS b2 d0 d1 d2 d3 d4 d5 d6 d7 d8 d9 d10 d11 d12 d13 w1
 have HI := insist_any w2 (msgB o.msg) 36
 go_wp2_with fail
 refine HI.mono ?_
 rintro e wI ⟨hI, hb⟩
 rw [hI]
 clear hI wI HI
 rcases hb with ⟨hb, he⟩ | ⟨hb, he⟩
 rotate_left
 ·subst he
  exact ⟨rfl, .inr ⟨36, by simp [publishC, noO, bnd, ins, hb], rfl, HT2.out.2.1⟩⟩
 subst he
 have H1 : Hid (msgB o.msg = true) := hb
 clear hb
 have d5 : w2.cell? ⟨gx, 5, none⟩ = some (tx o.text) := HT2.out.2.2.cell 5
 have d3 : w2.cell? ⟨gx, 3, none⟩ = some (.int .i64 o.n) := HT2.out.2.2.cell 3
 by_cases hqn : o.text = []
 ·have hqe : o.text.isEmpty = true := by rw [hqn]; rfl
  have HX : Hid (publishC c o = publish2 c o) := by
   show publishC c o = _
   simp [publishC, ins, H1.out, hqn]
  have H2 : Hid (T w2 B g c os ∧ FrT B w w2 ∧ Blk w2 gx (opA o pv) 35 ∧ GoodC c) := ⟨⟨_, _, _, _, _, _, HT2.out.1.t⟩, HT2.out.2.1, HT2.out.2.2, HGC.out.1⟩
  clear HT2 hqn
  go_upto_region 3 with fail
  refine rh (fun W => Blk W gx (opA o pv) 35) ?_
  have hS : Blk (World.drew w2) gx (opA o pv) 35 := ⟨H2.out.2.2.1.h⟩
  have h5 : T (World.drew w2) B g c os ∧ FrT B w (World.drew w2) ∧ GoodC c := ⟨by obtain ⟨q1, b1, s1, k1, c1, o1, h1⟩ := H2.out.1; exact ⟨_, _, _, _, _, _, h1.drew⟩, H2.out.2.1.drew, H2.out.2.2.2⟩
  clear H2
  generalize World.drew w2 = w5 at *
  refine tks [0, 1, 2, 3, 4] [.pointer (some ⟨g, 0, none⟩), .pointer (some ⟨gx, 9, none⟩), .agg #[tx o.msg.topic, tx o.msg.body, pv, .bool o.msg.dur, .int .i64 o.msg.til], .pointer (some ⟨g, 0, none⟩), .agg #[.int .i64 o.kind, .int .i64 o.conn, .int .i64 o.sub, .int .i64 o.n, tx o.queue, tx o.text, .bool o.dur, .bool o.auto, .bool o.keep, tx o.msg.topic, tx o.msg.body, pv, .bool o.msg.dur, .int .i64 o.msg.til]] 2 ?_ hS ?_
  ·simp only [tkY, tkf]
   refine ⟨.yes ?_, .yes ?_, .yes ?_, .yes ?_, .yes ?_, trivial⟩
   all_goals
    intro W' hW'
    have := hW'.ce 9
    have := hW'.ce 10
    have := hW'.ce 11
    have := hW'.ce 12
    have := hW'.ce 13
    have := hW'.ce 0
    have := hW'.ce 1
    have := hW'.ce 2
    have := hW'.ce 3
    have := hW'.ce 4
    have := hW'.ce 5
    have := hW'.ce 6
    have := hW'.ce 7
    have := hW'.ce 8
    have := hW'.ce 9
    have := hW'.ce 10
    have := hW'.ce 11
    have := hW'.ce 12
    have := hW'.ce 13
    go_simp
  simp only [tkA, tkf]
  refine ak 5 fun K hK => ?_
  go_simp
  refine (route_any _ B g c os h5.1 h5.2.2 (HGC.out.2.fr h5.2.1) o pv HPO.out.1).mono ?_
  rintro e w6 ⟨F6, T6, hr⟩
  rcases hr with ⟨ff, lb, hef, hq, he, hcall⟩ | ⟨he, hq1, hq2⟩
  rotate_left
  ·subst he
   exact ⟨rfl, .inr ⟨33, by rw [HX.out, pub_none hq1 hq2]; rfl, rfl, h5.2.1.trans F6⟩⟩
  subst he
  have HX6 : Hid (publishC c o = bnd (pushAll c (meantB c o) o.msg) fun c2 => if o.keep then retainC c2 o.msg else .ok c2) := by
   show publishC c o = _
   rw [HX.out, pub_go hq]
  have f6 := h5.2.1.trans F6
  have hS6 : Blk w6 gx (opA o pv) 35 := hS.kt (F6.kt _ rfl)
  have HC6 := pushAll_any w6 B g c os T6 h5.2.2 (HGC.out.2.fr f6) o.msg pv HPO.out.1 (fun W hb => HPO.out.2.1 W (f6.below.trans hb)) ff hef lb (meantB c o) hcall
  clear hS hcall HX
  have hS := hS6
  clear hS6
  show K _ _
  refine hK _ _ hS ?_
  clear hK K
  try simp only [tkf]
  refine ak 6 fun K hK => ?_
  go_simp
  refine HC6.mono ?_
  rintro e w7 h7
  rcases h7 with ⟨r, h7, he, T7, F7⟩ | ⟨m, h7, he, F7⟩
  rotate_left
  ·subst he
   exact ⟨rfl, .inr ⟨m, by rw [HX6.out, noO_err h7]; rfl, rfl, f6.trans F7⟩⟩
  subst he
  obtain ⟨h7b, hr2⟩ := noO_ok' h7
  clear h7
  obtain ⟨c3, os3⟩ := r
  simp only at hr2 h7b
  subst hr2
  rw [List.append_nil] at T7
  have H7 : Hid (T w7 B g c3 os ∧ FrT B w w7 ∧ GoodC c3 ∧ publishC c o = if o.keep then retainC c3 o.msg else .ok c3) := ⟨T7, f6.trans F7, (good_pushAll h5.2.2 h7b).1, by rw [HX6.out, h7b]; rfl⟩
  have hS7 : Blk w7 gx (opA o pv) 35 := hS.kt (F7.kt _ rfl)
  clear hS T7 F7 h7b HC6 h5 f6 T6 F6 HX6
  have hS := hS7
  clear hS7
  show K _ _
  refine hK _ _ hS ?_
  clear hK K
  try simp only [tkf]
  refine ad ?_
  have d8 : w7.cell? ⟨gx, 8, none⟩ = some (.bool o.keep) := hS.cell 8
  cases hkp : o.keep
  ·rw [hkp] at d8 H7
   have HX : Hid (Led w B g os (noO (publishC c o)) (.returned (.tuple #[])) w7) := led_ok H7.out.2.2.2 H7.out.1 H7.out.2.1
   clear H7 hS hkp
   go_wp2_with fail
   go_end0
   exact HX.out
  ·rw [hkp] at d8 H7
   have HC8 := retain_any w7 B g c3 os H7.out.1 H7.out.2.2.1 o.msg pv (HPO.out.2.1 _ H7.out.2.1.below) HPO.out.2.2
   obtain ⟨e0, e1, e2, e3, e4, e5, e6, e7, e8, e9, e10, e11, e12, e13⟩ := hS.c14
   clear hS hkp
   go_wp2_with fail
   refine HC8.mono ?_
   rintro e w8 h8
   have h9 : Led w B g os (noO (publishC c o)) e w8 := by
    have hx := H7.out.2.2.2
    first | rw [if_pos rfl] at hx | rw [if_pos trivial] at hx
    rw [hx]
    exact led_on H7.out.2.1 h8
   rcases h9 with ⟨r, h1, he, h3⟩ | ⟨m, h1, he, h3⟩
   ·subst he
    have HX : Hid (Led w B g os (noO (publishC c o)) (.returned (.tuple #[])) w8) := .inl ⟨r, h1, rfl, h3⟩
    clear h1 h3 h8 HC8 H7 e0 e1 e2 e3 e4 e5 e6 e7 e8 e9 e10 e11 e12 e13 d8
    go_wp2_with fail
    go_end0
    exact HX.out
   ·subst he
    exact ⟨rfl, .inr ⟨m, h1, rfl, h3⟩⟩
 ·have hqe : o.text.isEmpty = false := by cases hm : o.text with
   | nil => exact absurd hm hqn
   | cons a l => rfl
  have HC := isNew_any w2 B g c os qv bv sv kv cv ov zs HT2.out.1 HGC.out.1 o.text o.n
  have HQ : Hid (publishC c o = bnd (isNewC c o.text o.n) fun r => if r.1 then publish2 r.2 o else .ok r.2) := by
   show publishC c o = _
   simp [publishC, ins, H1.out, hqn]
  clear hqn
  go_wp2_with fail
  refine HC.mono ?_
  rintro e w4 h4
  rcases h4 with ⟨r, h4, he, T4, F4⟩ | ⟨m, h4, he, F4⟩
  rotate_left
  ·subst he
   exact ⟨rfl, .inr ⟨m, by rw [HQ.out, h4]; rfl, rfl, HT2.out.2.1.trans F4⟩⟩
  subst he
  obtain ⟨bb, c4⟩ := r
  have hx := HQ.out
  rw [h4] at hx
  simp only [bnd] at hx T4
  cases bb
  ·have HX : Hid (Led w B g os (noO (publishC c o)) (.returned (.tuple #[])) w4) := led_ok (by rw [hx]; rfl) T4 (HT2.out.2.1.trans F4)
   clear HC HQ h4 T4 F4 HT2 hx d3 d5
   go_wp2_with fail
   go_end0
   exact HX.out
  ·have HX : Hid (publishC c o = publish2 c4 o) := by
    show publishC c o = _
    rw [hx]
    rfl
   have H2 : Hid (T w4 B g c4 os ∧ FrT B w w4 ∧ Blk w4 gx (opA o pv) 35 ∧ GoodC c4) := ⟨T4, HT2.out.2.1.trans F4, HT2.out.2.2.kt (F4.kt _ rfl), (good_new HGC.out.1 h4).1⟩
   clear HC HQ h4 T4 F4 HT2 hx d3 d5
   go_upto_region 3 with fail
   refine rh (fun W => Blk W gx (opA o pv) 35) ?_
   have hS : Blk (World.drew w4) gx (opA o pv) 35 := ⟨H2.out.2.2.1.h⟩
   have h5 : T (World.drew w4) B g c4 os ∧ FrT B w (World.drew w4) ∧ GoodC c4 := ⟨by obtain ⟨q1, b1, s1, k1, c1, o1, h1⟩ := H2.out.1; exact ⟨_, _, _, _, _, _, h1.drew⟩, H2.out.2.1.drew, H2.out.2.2.2⟩
   clear H2
   generalize World.drew w4 = w5 at *
   refine tks [0, 1, 2, 3, 4] [.pointer (some ⟨g, 0, none⟩), .pointer (some ⟨gx, 9, none⟩), .agg #[tx o.msg.topic, tx o.msg.body, pv, .bool o.msg.dur, .int .i64 o.msg.til], .pointer (some ⟨g, 0, none⟩), .agg #[.int .i64 o.kind, .int .i64 o.conn, .int .i64 o.sub, .int .i64 o.n, tx o.queue, tx o.text, .bool o.dur, .bool o.auto, .bool o.keep, tx o.msg.topic, tx o.msg.body, pv, .bool o.msg.dur, .int .i64 o.msg.til]] 2 ?_ hS ?_
   ·simp only [tkY, tkf]
    refine ⟨.yes ?_, .yes ?_, .yes ?_, .yes ?_, .yes ?_, trivial⟩
    all_goals
     intro W' hW'
     have := hW'.ce 9
     have := hW'.ce 10
     have := hW'.ce 11
     have := hW'.ce 12
     have := hW'.ce 13
     have := hW'.ce 0
     have := hW'.ce 1
     have := hW'.ce 2
     have := hW'.ce 3
     have := hW'.ce 4
     have := hW'.ce 5
     have := hW'.ce 6
     have := hW'.ce 7
     have := hW'.ce 8
     have := hW'.ce 9
     have := hW'.ce 10
     have := hW'.ce 11
     have := hW'.ce 12
     have := hW'.ce 13
     go_simp
   simp only [tkA, tkf]
   refine ak 5 fun K hK => ?_
   go_simp
   refine (route_any _ B g c4 os h5.1 h5.2.2 (HGC.out.2.fr h5.2.1) o pv HPO.out.1).mono ?_
   rintro e w6 ⟨F6, T6, hr⟩
   rcases hr with ⟨ff, lb, hef, hq, he, hcall⟩ | ⟨he, hq1, hq2⟩
   rotate_left
   ·subst he
    exact ⟨rfl, .inr ⟨33, by rw [HX.out, pub_none hq1 hq2]; rfl, rfl, h5.2.1.trans F6⟩⟩
   subst he
   have HX6 : Hid (publishC c o = bnd (pushAll c4 (meantB c4 o) o.msg) fun c2 => if o.keep then retainC c2 o.msg else .ok c2) := by
    show publishC c o = _
    rw [HX.out, pub_go hq]
   have f6 := h5.2.1.trans F6
   have hS6 : Blk w6 gx (opA o pv) 35 := hS.kt (F6.kt _ rfl)
   have HC6 := pushAll_any w6 B g c4 os T6 h5.2.2 (HGC.out.2.fr f6) o.msg pv HPO.out.1 (fun W hb => HPO.out.2.1 W (f6.below.trans hb)) ff hef lb (meantB c4 o) hcall
   clear hS hcall HX
   have hS := hS6
   clear hS6
   show K _ _
   refine hK _ _ hS ?_
   clear hK K
   try simp only [tkf]
   refine ak 6 fun K hK => ?_
   go_simp
   refine HC6.mono ?_
   rintro e w7 h7
   rcases h7 with ⟨r, h7, he, T7, F7⟩ | ⟨m, h7, he, F7⟩
   rotate_left
   ·subst he
    exact ⟨rfl, .inr ⟨m, by rw [HX6.out, noO_err h7]; rfl, rfl, f6.trans F7⟩⟩
   subst he
   obtain ⟨h7b, hr2⟩ := noO_ok' h7
   clear h7
   obtain ⟨c3, os3⟩ := r
   simp only at hr2 h7b
   subst hr2
   rw [List.append_nil] at T7
   have H7 : Hid (T w7 B g c3 os ∧ FrT B w w7 ∧ GoodC c3 ∧ publishC c o = if o.keep then retainC c3 o.msg else .ok c3) := ⟨T7, f6.trans F7, (good_pushAll h5.2.2 h7b).1, by rw [HX6.out, h7b]; rfl⟩
   have hS7 : Blk w7 gx (opA o pv) 35 := hS.kt (F7.kt _ rfl)
   clear hS T7 F7 h7b HC6 h5 f6 T6 F6 HX6
   have hS := hS7
   clear hS7
   show K _ _
   refine hK _ _ hS ?_
   clear hK K
   try simp only [tkf]
   refine ad ?_
   have d8 : w7.cell? ⟨gx, 8, none⟩ = some (.bool o.keep) := hS.cell 8
   cases hkp : o.keep
   ·rw [hkp] at d8 H7
    have HX : Hid (Led w B g os (noO (publishC c o)) (.returned (.tuple #[])) w7) := led_ok H7.out.2.2.2 H7.out.1 H7.out.2.1
    clear H7 hS hkp
    go_wp2_with fail
    go_end0
    exact HX.out
   ·rw [hkp] at d8 H7
    have HC8 := retain_any w7 B g c3 os H7.out.1 H7.out.2.2.1 o.msg pv (HPO.out.2.1 _ H7.out.2.1.below) HPO.out.2.2
    obtain ⟨e0, e1, e2, e3, e4, e5, e6, e7, e8, e9, e10, e11, e12, e13⟩ := hS.c14
    clear hS hkp
    go_wp2_with fail
    refine HC8.mono ?_
    rintro e w8 h8
    have h9 : Led w B g os (noO (publishC c o)) e w8 := by
     have hx := H7.out.2.2.2
     first | rw [if_pos rfl] at hx | rw [if_pos trivial] at hx
     rw [hx]
     exact led_on H7.out.2.1 h8
    rcases h9 with ⟨r, h1, he, h3⟩ | ⟨m, h1, he, h3⟩
    ·subst he
     have HX : Hid (Led w B g os (noO (publishC c o)) (.returned (.tuple #[])) w8) := .inl ⟨r, h1, rfl, h3⟩
     clear h1 h3 h8 HC8 H7 e0 e1 e2 e3 e4 e5 e6 e7 e8 e9 e10 e11 e12 e13 d8
     go_wp2_with fail
     go_end0
     exact HX.out
    ·subst he
     exact ⟨rfl, .inr ⟨m, h1, rfl, h3⟩⟩
theorem set_cells {zs : Zs Cli} {p : Nat} (hk : ∀ z ∈ zs, z.1.length = 2) (hp : p < zs.length) {a nv : Value} (hz : (zs[p]).1 = [a, nv]) (v : Value) (x : Cli) : (cellsZ zs).set (p * 2 + 1) v = cellsZ (zs.set p ([a, v], x)) := by
 have e0 : cellsZ zs = (cellsZ zs).take (p * 2) ++ [a, nv] ++ (cellsZ zs).drop (p * 2 + 2) := by
  have h1 := cellsZ_set (k := 2) hk hp (zs[p])
  rw [List.set_getElem_self, hz] at h1
  exact h1
 have hl : ((cellsZ zs).take (p * 2)).length = p * 2 := by
  rw [List.length_take, cellsZ_len hk]
  omega
 rw [cellsZ_set hk hp]
 generalize (cellsZ zs).take (p * 2) = A at *
 generalize (cellsZ zs).drop (p * 2 + 2) = D at *
 rw [e0, List.append_assoc, List.set_append_right _ _ (by omega), hl]
 simp
theorem cli_row {w : World} {B gc cap : Nat} {zs : Zs Cli} {n : List UInt8} {p : Nat} {nv v : Value} {ps' : List Int} (h : OwnZ 88 2 (ClX w B n) w B (.slice (some ⟨gc, 0, none⟩) zs.length cap) zs) (hp : p < zs.length) (hn : (zs[p]).2.name = n) (hz : (zs[p]).1 = [tx n, nv]) (hu : ∀ i (hi : i < zs.length), i ≠ p → (zs[i]).2.name ≠ n) (hv : OwnNu w B v ps') :
  w.cell? ⟨gc, p * 2 + 1, none⟩ = some nv ∧ w.frozen? ⟨gc, p * 2 + 1, none⟩ = false ∧ OwnZ 88 2 (ClR (OwnNu (w.setCell ⟨gc, p * 2 + 1, none⟩ v) B)) (w.setCell ⟨gc, p * 2 + 1, none⟩ v) B (.slice (some ⟨gc, 0, none⟩) zs.length cap) (zs.set p ([tx n, v], ⟨n, ps'⟩)) ∧ KX 88 w (w.setCell ⟨gc, p * 2 + 1, none⟩ v) := by
 have h1 := World.ownsRow.stored h.1 (p * 2 + 1) v
 obtain ⟨a, c, ev⟩ := hv.shape
 have kx : KX 88 w (w.setCell ⟨gc, p * 2 + 1, none⟩ v) := .of_grown h.1 h1.2
 refine ⟨h.at hp 1 nv (by rw [hz]; rfl), World.ownsRow.frozenAt h.1 _, ⟨?_, fun z hm => ?_⟩, kx⟩
 ·rw [← set_cells (fun z hm => (h.2 z hm).1.1) hp hz v ⟨n, ps'⟩, List.length_set]
  exact h1.1
 ·obtain ⟨i, hi, rfl⟩ := List.getElem_of_mem hm
  rw [List.length_set] at hi
  rw [List.getElem_set]
  split
  ·exact ⟨⟨rfl, by rw [ev]; simp [Value.oneCell']⟩, v, rfl, hv.keep (kx.kt _ (by decide))⟩
  ·rename_i hne
   have h2 := h.2 _ (List.getElem_mem hi)
   obtain ⟨nv', h3, h4⟩ := h2.2
   exact ⟨h2.1, nv', h3, (h4 (hu i hi (fun e => hne e.symm))).keep (kx.kt _ (by decide))⟩
theorem names_ne {l : List Cli} (hl : Inc oC l) {p : Nat} (hp : p < l.length) {i : Nat} (hi : i < l.length) (hne : i ≠ p) : (l[i]).name ≠ (l[p]).name := fun e => by
 have hr := List.pairwise_iff_getElem.1 hl
 rcases Nat.lt_or_gt_of_ne hne with h | h
 ·have h1 := hr i p hi hp h
  rw [oC_zero.2 e] at h1
  omega
 ·have h1 := hr p i hp hi h
  rw [oC_zero.2 e.symm] at h1
  omega
theorem cli_en {l : List Cli} (hl : Inc oC l) {p : Nat} (hp : p < l.length) {q' : Cli} (hn : q'.name = (l[p]).name) : l.set p q' = enL oC q' l := by
 have hr := List.pairwise_iff_getElem.1 hl
 refine en_there linC (x := l[p]) hl (fun i hi hip => hr i p hi hp hip) (fun i hi hpi => ?_) hp (linC.refl _) (oC_zero.2 hn)
 by_cases e : i = p
 ·subst e
  rw [linC.refl]
  omega
 ·have h1 := (linC.anti _ _).1 (hr p i hp hi (by omega))
  omega
theorem cli_le {l : List Cli} {p : Nat} (hp : p < l.length) {q' : Cli} {n : List UInt8} (hn : q'.name = n) (hn2 : (l[p]).name = n) : leL oC ⟨n, []⟩ (l.set p q') = leL oC ⟨n, []⟩ l := by
 have e0 : l = l.take p ++ l[p] :: l.drop (p + 1) := by simp
 have h1 : oC q' ⟨n, []⟩ = 0 := oC_zero.2 hn
 have h2 : oC l[p] ⟨n, []⟩ = 0 := oC_zero.2 hn2
 have e1 := congrArg (List.filter fun y => decide (oC y ⟨n, []⟩ ≠ 0)) e0
 rw [List.filter_append, List.filter_cons_of_neg (by simp [h2])] at e1
 rw [List.set_eq_take_append_cons_drop, if_pos hp]
 show List.filter (fun y => decide (oC y ⟨n, []⟩ ≠ 0)) _ = List.filter (fun y => decide (oC y ⟨n, []⟩ ≠ 0)) _
 rw [List.filter_append, List.filter_cons_of_neg (by simp [h1])]
 exact e1.symm
set_option maxHeartbeats 4000000 in
theorem release_op (w : World) (B g : Nat) (c : Cor) (os : List Ot) (qv bv sv kv cv ov : Value) (zs : Zs Cli) (hT : TA w B g c os qv bv sv kv cv ov zs) (hg : GoodC c) (o : Opr) (pv : Value) (hp : pv.oneCell' = true) :
  Calls Tryz.prog 51 #[.pointer (some ⟨g, 0, none⟩), opV o pv] w fun e w' => Led w B g os (noO (releaseC c o)) e w' := by
 have HGC : Hid (GoodC c) := hg
 have HPO : Hid (pv.oneCell' = true) := hp
 clear hg hp
 have b0 := (Below.refl w.heap.size w).alloc (Nat.le_refl _) (.cells (opA o pv) 35)
 have hO := Blk.new w (opA o pv) 35
 have hT1 := hT.on b0
 have hF1 : FrT B w (w.alloc (.cells (opA o pv) 35)) := .of_below b0 hT.t.lt
 unfold opV
 go_enter Tryz.func51, Tryz.ntmps51
 go_upto_region 1 with fail
 generalize w.alloc (.cells (opA o pv) 35) = w1 at *
 obtain ⟨gx, egx⟩ : ∃ g, w.heap.size = g := ⟨_, rfl⟩
 rw [egx] at hO ⊢
 clear egx b0 hT
 have d5 : w1.cell? ⟨gx, 5, none⟩ = some (tx o.text) := hO.cell 5
 have HT1 : Hid (TA w1 B g c os qv bv sv kv cv ov zs ∧ FrT B w w1 ∧ Blk w1 gx (opA o pv) 35) := ⟨hT1, hF1, hO⟩
 have HS := name_any w1 o.text
 clear hT1 hF1 hO
 go_wp2_with fail
 refine HS.mono ?_
 rintro e wA ⟨rfl, hA⟩
 rw [hA]
 clear hA wA HS
 have HI := insist_any w1 (nameL o.text) 31
 go_wp2_with fail
 refine HI.mono ?_
 rintro e wI ⟨hI, hb⟩
 rw [hI]
 clear hI wI HI
 rcases hb with ⟨hb, he⟩ | ⟨hb, he⟩
 rotate_left
 ·subst he
  exact ⟨rfl, .inr ⟨31, by simp [releaseC, noO, bnd, ins, hb], rfl, HT1.out.2.1⟩⟩
 subst he
 have H1 : Hid (nameL o.text = true) := hb
 clear d5 hb
 obtain ⟨hT2, hF2, hO⟩ := HT1.out
 clear HT1
 go_upto_region 2 with fail
 refine rh (fun W => Blk W g #[.int .i64 c.now, qv, bv, sv, kv, cv, ov] 77 ∧ Blk W gx (opA o pv) 35) ?_
 have hS : Blk (World.drew w1) g #[.int .i64 c.now, qv, bv, sv, kv, cv, ov] 77 ∧ Blk (World.drew w1) gx (opA o pv) 35 := ⟨⟨hT2.t.blk.h⟩, ⟨hO.h⟩⟩
 have hT4 := hT2.drew
 have hF4 := hF2.drew
 clear hT2 hF2 hO
 generalize w1.drew = w4 at *
 obtain ⟨p, hp, HC⟩ := findCs w4 B cv zs _ hT4.z (by rw [hT4.e]; exact HGC.out.ci) (by have := HGC.out.cl; have h2 := congrArg List.length hT4.e; rw [List.length_map] at h2; omega) o.text
 rw [hT4.e] at HC
 obtain ⟨th, eth⟩ : ∃ b, hasL oC ⟨o.text, []⟩ c.clients = b := ⟨_, rfl⟩
 rw [eth] at HC
 clear hp
 refine tks [0, 1, 2, 3, 4, 5, 6, 7] [.pointer (some ⟨g, 0, none⟩), .pointer (some ⟨g, 0, none⟩), .pointer (some ⟨g, 0, none⟩), .pointer (some ⟨g, 5, none⟩), cv, .pointer (some ⟨gx, 5, none⟩), tx o.text, .agg #[tx o.text, .slice none 0 0]] 6 ?_ hS ?_
 ·simp only [tkY, tkf]
  refine ⟨.yes ?_, .yes ?_, .yes ?_, .yes ?_, .yes ?_, .yes ?_, .yes ?_, .yes ?_, trivial⟩
  all_goals
   intro W' hW'
   have := hW'.1.ce 5
   have := hW'.2.ce 5
   go_simp
 simp only [tkA, tkf]
 refine ak 8 fun K hK => ?_
 go_simp
 refine HC.mono ?_
 rintro e w5 ⟨⟨rfl, hiff⟩, b5⟩
 have hS5 : Blk w5 g #[.int .i64 c.now, qv, bv, sv, kv, cv, ov] 77 ∧ Blk w5 gx (opA o pv) 35 := ⟨hS.1.on b5, hS.2.on b5⟩
 have hT5 := hT4.on b5
 have hF5 := hF4.trans (.of_below b5 hT4.t.lt)
 clear hT4 hF4 hS b5 HC
 have hS := hS5
 clear hS5
 show K _ _
 refine hK _ _ hS ?_
 clear hK K
 try simp only [tkf]
 refine tks [9, 10, 11, 12, 13] [.tuple #[.int .i64 (p : Nat), .bool th], .int .i64 (p : Nat), .bool th, .int .i64 (p : Nat), .bool th] 0 ?_ hS ?_
 ·simp only [tkY, tkf]
  refine ⟨.yes ?_, .yes ?_, .yes ?_, .yes ?_, .yes ?_, trivial⟩
  all_goals
   intro W' hW'
   go_simp
 simp only [tkA, tkf]
 refine ad ?_
 have HF : Hid ((c.clients.find? (fun k => decide (k.name = o.text)) = none → releaseC c o = .ok c)) := fun h => by simp [releaseC, ins, H1.out, h]
 cases th
 ·have HX : Hid (Led w B g os (noO (releaseC c o)) (.returned (.tuple #[])) w5) := led_ok (HF.out (cliP_no eth).1) ⟨_, _, _, _, _, _, hT5.t⟩ hF5
  clear hT5 hF5 hS hiff eth
  go_wp2_with fail
  go_end0
  exact HX.out
 ·obtain ⟨hpz, hpn⟩ := hiff.1 rfl
  have HP0 := (cliP_at hT5.e HGC.out.ci hpz hpn).1
  obtain ⟨ca, cc, ecv⟩ := hT5.z.rd.len
  obtain ⟨gc, ega⟩ : ∃ gc, ca = some ⟨gc, 0, none⟩ := by
   rcases hT5.z.1.2 with ⟨h1, h2⟩ | ⟨gc, cap, cur, h1, _⟩
   ·omega
   ·rw [ecv] at h1
    injection h1 with h1
    exact ⟨gc, h1⟩
  subst ega
  subst ecv
  obtain ⟨nv, hz1, hnv5⟩ := (hT5.z.2 _ (List.getElem_mem hpz)).2
  rw [hpn] at hz1
  obtain ⟨ps, eps⟩ : ∃ l : List Int, (zs[p]).2.packets = l := ⟨_, rfl⟩
  rw [eps] at hnv5
  have HZ : Hid (∃ hpz : p < zs.length, (zs[p]).2.name = o.text ∧ (zs[p]).1 = [tx o.text, nv] ∧ (zs[p]).2.packets = ps) := ⟨hpz, hpn, hz1, eps⟩
  have hcell : w5.cell? ⟨gc, p * 2 + 1, none⟩ = some nv := hT5.z.at hpz 1 nv (by rw [hz1]; rfl)
  have HU : Hid (∀ i (hi : i < zs.length), i ≠ p → (zs[i]).2.name ≠ o.text) := fun i hi hne => by
   have h1 := names_ne (l := zs.map (·.2)) (by rw [hT5.e]; exact HGC.out.ci) (p := p) (by rw [List.length_map]; exact hpz) (i := i) (by rw [List.length_map]; exact hi) hne
   rw [List.getElem_map, List.getElem_map, hpn] at h1
   exact h1
  have HD : Hid (((ps.length : Int) ≤ 32) ∧ Inc cmpZ ps) := by
   have h1 := cliP_good HGC.out o.text
   rw [(cliP_at hT5.e HGC.out.ci hpz hpn).2, eps] at h1
   exact ⟨h1.1, h1.2.2⟩
  have HR : Hid (∀ ps', leL cmpZ o.n ps = ps' → releaseC c o = if ps' = [] then forgetC c o else .ok { c with clients := enL oC ⟨o.text, ps'⟩ c.clients }) := fun ps' e => by
   simp only [releaseC, ins, H1.out, HP0, if_true, hpn, eps, e]
  obtain ⟨d0, d1, d2, d3, d4, d5, d6⟩ := hS.1.c7
  have hpi : (p : Int) < (zs.length : Int) := by omega
  have kx := hS.2
  have HE : Hid (zs.map (·.2) = c.clients) := hT5.e
  have H5 : Hid (TA w5 B g c os qv bv sv kv (.slice (some ⟨gc, 0, none⟩) zs.length cc) ov zs ∧ FrT B w w5 ∧ OwnNu w5 B nv ps) := ⟨hT5, hF5, hnv5⟩
  clear hT5 hF5 hnv5 hiff eth HP0 hz1 eps hS hpn hcell hpz
  go_upto_region 5 with fail
  clear d0 d1 d2 d3 d4 d5 d6
  refine rh (fun W => Blk W gx (opA o pv) 35) ?_
  have hS : Blk (World.drew w5) gx (opA o pv) 35 := ⟨kx.h⟩
  have hcell : (World.drew w5).cell? ⟨gc, p * 2 + 1, none⟩ = some nv := H5.out.1.drew.z.at HZ.out.choose 1 nv (by rw [HZ.out.choose_spec.2.1]; rfl)
  have h5 : TA (World.drew w5) B g c os qv bv sv kv (.slice (some ⟨gc, 0, none⟩) zs.length cc) ov zs ∧ FrT B w (World.drew w5) ∧ OwnNu (World.drew w5) B nv ps := ⟨H5.out.1.drew, H5.out.2.1.drew, H5.out.2.2.keep ((KX.drew (e := 0)).kt _ (by decide))⟩
  clear H5 kx
  generalize World.drew w5 = w9 at *
  refine tks [0, 1, 2, 3, 5, 6] [.pointer (some ⟨gc, p * 2, none⟩), .pointer (some ⟨gc, p * 2, none⟩), .pointer (some ⟨gc, p * 2, none⟩), .pointer (some ⟨gc, p * 2 + 1, none⟩), .pointer (some ⟨gx, 3, none⟩), .int .i64 o.n] 5 ?_ hS ?_
  ·simp only [tkY, tkf]
   refine ⟨.yes ?_, .yes ?_, .yes ?_, .yes ?_, .yes ?_, .yes ?_, trivial⟩
   all_goals
    intro W' hW'
    have := hW'.ce 3
    go_simp
  simp only [tkA, tkf]
  refine ak 4 fun K hK => ?_
  have d0 : w9.cell? ⟨gc, p * 2 + 1, none⟩ = some nv := hcell
  go_simp
  refine hK _ _ hS ?_
  clear hK K
  try simp only [tkf]
  refine ak 7 fun K hK => ?_
  go_simp
  refine (lePs _ B h5.1.t.lt nv ps h5.2.2 HD.out.2 (by have := HD.out.1; omega) o.n).mono ?_
  rintro e w6 ⟨v6, rfl, o6, g6⟩
  have k6 := h5.2.2.kx g6
  have z6 := clx_of h5.1.z h5.1.a HZ.out.choose HZ.out.choose_spec.1 HZ.out.choose_spec.2.1 k6 g6
  obtain ⟨a6, c6, rfl⟩ := o6.shape
  have R6 := cli_row z6 HZ.out.choose HZ.out.choose_spec.1 HZ.out.choose_spec.2.1 HU.out o6
  have t6 := ((Tw.of h5.1.t).kx k6 (by decide))
  have f6 := h5.2.1.trans (h5.2.2.fr g6 h5.1.t.lt)
  have hS6 : Blk w6 gx (opA o pv) 35 := hS.kt (k6.kt _ (by decide))
  clear hS
  have hS := hS6
  clear hS6
  show K _ _
  refine hK _ _ hS ?_
  clear hK K
  try simp only [tkf]
  refine tks [8, 9] [.pointer (some ⟨gc, p * 2, none⟩), .pointer (some ⟨gc, p * 2 + 1, none⟩)] 1 ?_ hS ?_
  ·simp only [tkY, tkf]
   refine ⟨.yes ?_, .yes ?_, trivial⟩
   all_goals
    intro W' hW'
    go_simp
  simp only [tkA, tkf]
  refine ak 10 fun K hK => ?_
  go_simp
  have f7 := R6.2.1
  have c7 := R6.1
  go_simp
  refine hK _ _ (hS.kt (R6.2.2.2.kt _ (by decide))) ?_
  clear hK K f7 c7
  try simp only [tkf]
  refine ad ?_
  have T7 := (t6.kx R6.2.2.2 (by decide)).with_c (l := c.clients.set p ⟨o.text, leL cmpZ o.n ps⟩) ⟨_, by rw [List.map_set, HE.out], R6.2.2.1⟩
  have F7 := f6.trans (FrT.of_grown z6.1 (World.ownsRow.stored z6.1 (p * 2 + 1) (.slice a6 (leL cmpZ o.n ps).length c6)).2 rfl t6.lt)
  have c7 := R6.2.2.1.at (i := p) (by rw [List.length_set]; exact HZ.out.choose) 1 (.slice a6 (leL cmpZ o.n ps).length c6) (by simp)
  have kO := hS.kt (R6.2.2.2.kt _ (by decide))
  have hR := HR.out _ rfl
  have HM : Hid (∃ hm : p < c.clients.length, (c.clients[p]).name = o.text) := by
   have h1 : p < c.clients.length := by rw [← HE.out, List.length_map]; exact HZ.out.choose
   refine ⟨h1, ?_⟩
   have h2 : c.clients[p] = (zs[p]'HZ.out.choose).2 := by simp [← HE.out]
   rw [h2]
   exact HZ.out.choose_spec.1
  clear R6 z6 o6 g6 k6 hS h5 t6 f6 HR HU HD HZ HE hcell hpi
  obtain ⟨m, em⟩ : ∃ m, (leL cmpZ o.n ps).length = m := ⟨_, rfl⟩
  rw [em] at c7 T7 F7 kO ⊢
  generalize w6.setCell ⟨gc, p * 2 + 1, none⟩ (.slice a6 m c6) = X at *
  obtain ⟨ps', eps'⟩ : ∃ l, leL cmpZ o.n ps = l := ⟨_, rfl⟩
  rw [eps'] at em hR T7
  have H7 : Hid (Tv X B g { c with clients := c.clients.set p ⟨o.text, ps'⟩ } os qv bv sv kv (.slice (some ⟨gc, 0, none⟩) zs.length cc) ov ∧ FrT B w X ∧ (releaseC c o = if ps' = [] then forgetC c o else .ok { c with clients := enL oC ⟨o.text, ps'⟩ c.clients })) := ⟨T7, F7, hR⟩
  have HEn : Hid (c.clients.set p ⟨o.text, ps'⟩ = enL oC ⟨o.text, ps'⟩ c.clients) := cli_en HGC.out.ci HM.out.choose HM.out.choose_spec.symm
  clear T7 F7 hR eps'
  by_cases hem : ps' = []
  ·have hm0 : m = 0 := by rw [← em, hem]; rfl
   subst hm0
   have HC := forget_any X B g _ os ⟨_, _, _, _, _, _, H7.out.1⟩ ⟨by show Inc oC (c.clients.set p _); rw [HEn.out]; exact inc_enL linC HGC.out.ci, by show ((c.clients.set p _).length : Int) ≤ 16; rw [List.length_set]; exact HGC.out.cl⟩ o pv HPO.out
   unfold opV at HC
   obtain ⟨e0, e1, e2, e3, e4, e5, e6, e7, e8, e9, e10, e11, e12, e13⟩ := kO.c14
   have HL : Hid (releaseC c o = forgetC { c with clients := c.clients.set p ⟨o.text, ps'⟩ } o) := by
    show releaseC c o = _
    rw [H7.out.2.2, if_pos hem]
    unfold forgetC
    show _ = ins _ 31 (.ok { c with clients := leL oC ⟨o.text, []⟩ (c.clients.set p ⟨o.text, ps'⟩) })
    rw [cli_le (q' := ⟨o.text, ps'⟩) (n := o.text) HM.out.choose rfl HM.out.choose_spec]
   clear kO em hem
   go_wp2_with fail
   refine HC.mono ?_
   rintro e w8 h8
   have h9 : Led w B g os (noO (releaseC c o)) e w8 := by
    rw [HL.out]
    exact led_on H7.out.2.1 h8
   rcases h9 with ⟨r, h1, he, h3⟩ | ⟨m, h1, he, h3⟩
   ·subst he
    have HX : Hid (Led w B g os (noO (releaseC c o)) (.returned (.tuple #[])) w8) := .inl ⟨r, h1, rfl, h3⟩
    clear h1 h3 h8 HC H7 e0 e1 e2 e3 e4 e5 e6 e7 e8 e9 e10 e11 e12 e13 c7
    go_wp2_with fail
    go_end0
    exact HX.out
   ·subst he
    exact ⟨rfl, .inr ⟨m, h1, rfl, h3⟩⟩
  ·have hm0 : ¬ (m : Int) = 0 := by
    intro h
    have h1 : ps'.length = 0 := by omega
    exact hem (List.eq_nil_of_length_eq_zero h1)
   have HX : Hid (Led w B g os (noO (releaseC c o)) (.returned (.tuple #[])) X) := led_ok (c := { c with clients := c.clients.set p ⟨o.text, ps'⟩ }) (by rw [H7.out.2.2, if_neg hem, HEn.out]) ⟨_, _, _, _, _, _, H7.out.1⟩ H7.out.2.1
   clear kO em hem H7
   go_wp2_with fail
   go_end0
   exact HX.out
theorem findT (w : World) (B g : Nat) (c : Cor) (os : List Ot) (qv bv sv kv cv ov : Value) (hT : Tv w B g c os qv bv sv kv cv ov) (hg : GoodC c) (n : List UInt8) :
  ∃ p, Calls Tryz.prog 110 #[qv, .agg #[tx n, .bool false, .int .i64 0, .int .i64 0, .int .i64 0, .slice none 0 0, .slice none 0 0], .func (.func 63) #[] #[]] w fun e w' =>
   (e = .returned (.tuple #[.int .i64 (p : Nat), .bool (hasNm c.queues n)]) ∧ (hasNm c.queues n = true → ∃ hi : p < c.queues.length, (c.queues[p]).name = n)) ∧ Bw w w' := by
 obtain ⟨zs, e, hz⟩ := hT.q
 have hl : zs.length = c.queues.length := by rw [← e, List.length_map]
 have hql := hg.ql
 obtain ⟨p, hp, HC⟩ := findQs w B qv zs hz (by rw [e]; exact hg.qi) (by omega) n
 rw [e] at HC
 refine ⟨p, HC.mono ?_⟩
 rintro e2 w' ⟨⟨h1, h2⟩, h3⟩
 refine ⟨⟨h1, fun h => ?_⟩, h3⟩
 obtain ⟨hi, hn⟩ := h2.1 h
 refine ⟨by omega, ?_⟩
 have e5 : (zs.map (·.2))[p]'(by rw [List.length_map]; exact hi) = c.queues[p] := by simp only [e]
 rw [← e5, List.getElem_map]
 exact hn
set_option maxHeartbeats 4000000 in
theorem declare_op (w : World) (B g : Nat) (c : Cor) (os : List Ot) (hT : T w B g c os) (hg : GoodC c) (hV : VB B w) (o : Opr) (pv : Value) (hp : pv.oneCell' = true) :
  Calls Tryz.prog 46 #[.pointer (some ⟨g, 0, none⟩), opV o pv] w fun e w' => Led w B g os (noO (declareC c o)) e w' := by
 obtain ⟨qv, bv, sv, kv, cv, ov, hT⟩ := hT
 have b0 := (Below.refl w.heap.size w).alloc (Nat.le_refl _) (.cells (opA o pv) 35)
 have hO := Blk.new w (opA o pv) 35
 have hT1 := hT.on b0
 have hF1 : FrT B w (w.alloc (.cells (opA o pv) 35)) := .of_below b0 hT.lt
 unfold opV
 go_enter Tryz.func46, Tryz.ntmps46
 go_upto_region 1 with fail
 generalize w.alloc (.cells (opA o pv) 35) = w1 at *
 obtain ⟨gx, egx⟩ : ∃ g, w.heap.size = g := ⟨_, rfl⟩
 rw [egx] at hO ⊢
 clear egx b0 hT
 have hT2 := hT1
 have hF2 := hF1
 clear hT1 hF1
 refine rh (fun W => Blk W g #[.int .i64 c.now, qv, bv, sv, kv, cv, ov] 77 ∧ Blk W gx (opA o pv) 35) ?_
 have hS : Blk (World.drew w1) g #[.int .i64 c.now, qv, bv, sv, kv, cv, ov] 77 ∧ Blk (World.drew w1) gx (opA o pv) 35 := ⟨⟨hT2.blk.h⟩, ⟨hO.h⟩⟩
 have hT3 := hT2.drew
 have hF3 := hF2.drew
 clear hT2 hF2
 clear hO
 generalize w1.drew = w3 at *
 refine tks [0, 1, 2, 3, 4, 5, 6, 7] [.pointer (some ⟨g, 0, none⟩), .pointer (some ⟨g, 0, none⟩), .pointer (some ⟨g, 0, none⟩), .pointer (some ⟨g, 1, none⟩), qv, .pointer (some ⟨gx, 4, none⟩), tx o.queue, .agg #[tx o.queue, .bool false, .int .i64 0, .int .i64 0, .int .i64 0, .slice none 0 0, .slice none 0 0]] 6 ?_ hS ?_
 ·simp only [tkY, tkf]
  refine ⟨.yes ?_, .yes ?_, .yes ?_, .yes ?_, .yes ?_, .yes ?_, .yes ?_, .yes ?_, trivial⟩
  all_goals
   intro W' hW'
   have := hW'.1.ce 1
   have := hW'.2.ce 4
   go_simp
 simp only [tkA, tkf]
 refine ak 8 fun K hK => ?_
 go_simp
 obtain ⟨p, HFD⟩ := findT _ B g c os qv bv sv kv cv ov hT3 hg o.queue
 refine (HFD).mono ?_
 rintro e w4 ⟨⟨rfl, hat⟩, b4⟩
 have hS4 : Blk w4 g #[.int .i64 c.now, qv, bv, sv, kv, cv, ov] 77 ∧ Blk w4 gx (opA o pv) 35 := ⟨hS.1.on b4, hS.2.on b4⟩
 have hT4 := hT3.on b4
 have hF4 := hF3.trans (.of_below b4 hT3.lt)
 clear hT3 hF3 hS b4
 have hS := hS4
 clear hS4
 show K _ _
 refine hK _ _ hS ?_
 clear hK K
 try simp only [tkf]
 refine tks [9, 10, 11, 12, 13] [.tuple #[.int .i64 (p : Nat), .bool (hasNm c.queues o.queue)], .int .i64 (p : Nat), .bool (hasNm c.queues o.queue), .int .i64 (p : Nat), .bool (hasNm c.queues o.queue)] 0 ?_ hS ?_
 ·simp only [tkY, tkf]
  refine ⟨.yes ?_, .yes ?_, .yes ?_, .yes ?_, .yes ?_, trivial⟩
  all_goals
   intro W' hW'
   go_simp
 simp only [tkA, tkf]
 refine ad ?_
 obtain ⟨d0, d1, d2, d3, d4, d5, d6, d7, d8, d9, d10, d11, d12, d13⟩ := hS.2.c14
 rcases Bool.eq_false_or_eq_true (hasNm c.queues o.queue) with hh | hh
 ·obtain ⟨hpl, hnm⟩ := hat hh
  rw [hh]
  obtain ⟨gq, cap, cur, iv, hv, hE⟩ := hT4.el hpl
  obtain ⟨q, hq⟩ : ∃ q, c.queues[p] = q := ⟨_, rfl⟩
  have hfd := find_at hg.qi hpl hnm
  rw [hq] at hfd
  obtain ⟨e0, e1, e2, e3, e4, e5, e6⟩ := hE.c7 hpl hq
  have c1 : w4.cell? ⟨g, 1, none⟩ = some (.slice (some ⟨gq, 0, none⟩) c.queues.length cap) := by rw [← hE.eq]; exact hT4.blk.cell 1
  have hpi : (p : Int) < (c.queues.length : Int) := by omega
  have hOW := hE.own
  rw [hq] at hOW
  have hcl := own_cells hOW
  have HX : Hid (Tv w4 B g c os qv bv sv kv cv ov ∧ FrT B w w4 ∧ Blk w4 gx (opA o pv) 35) := ⟨hT4, hF4, hS.2⟩
  have HD : Hid (declareC c o = ins (decide (q.dur = o.dur) && decide (q.depth = o.n)) 32 (.ok c)) := by
   show declareC c o = _
   unfold declareC
   rw [hfd]
  unfold queV at hcl
  clear hT4 hF4 hS hat hE hOW hfd hnm
  go_wp2_with (refine wpl_fresh rfl (.tmp 6) (.tmp 28) rfl _ _ rfl rfl (by kernel_rfl) rfl hcl ?_)
  intro w5 k5 b5 s5
  obtain ⟨hT4, hF4, hO4⟩ := HX.out
  have hO5 := hO4.on b5
  have HX5 : Hid (Tv w5 B g c os qv bv sv kv cv ov ∧ FrT B w w5) := ⟨hT4.on b5, hF4.trans (.of_below b5 hT4.lt)⟩
  obtain ⟨g0, g1, g2, g3, g4, g5, g6⟩ := k5.c7
  clear hT4 hF4 hO4 HX k5 s5 b5 d0 d1 d2 d3 d4 d5 d6 d7 d8 d9 d10 d11 d12 d13 e0 e1 e2 e3 e4 e5 e6 c1
  obtain ⟨d0, d1, d2, d3, d4, d5, d6, d7, d8, d9, d10, d11, d12, d13⟩ := hO5.c14
  clear hO5
  by_cases hd : q.dur = o.dur
  ·have hdb : (q.dur == o.dur) = true := by simpa using hd
   by_cases hn : q.depth = o.n
   ·have hnb : (q.depth == o.n) = true := by simpa using hn
    have HI := insist_ok w5 32
    go_wp2_with fail
    refine HI.mono ?_
    rintro e wI ⟨rfl, hI⟩
    rw [hI]
    go_wp2_with fail
    go_end0
    exact led_ok (by rw [HD.out]; simp [ins, hd, hn]) ⟨_, _, _, _, _, _, HX5.out.1⟩ HX5.out.2
   ·have hnb : (q.depth == o.n) = false := by simpa using hn
    have HI := insist_no w5 32
    go_wp2_with fail
    refine HI.mono ?_
    rintro e wI ⟨rfl, hI⟩
    rw [hI]
    exact ⟨rfl, led_no (by rw [HD.out]; simp [ins, hd, hn]) HX5.out.2⟩
  ·have hdb : (q.dur == o.dur) = false := by simpa using hd
   have HI := insist_no w5 32
   go_wp2_with fail
   refine HI.mono ?_
   rintro e wI ⟨rfl, hI⟩
   rw [hI]
   exact ⟨rfl, led_no (by rw [HD.out]; simp [ins, hd]) HX5.out.2⟩
 ·rw [hh]
  have HNW := new_any w4 o.queue o.dur o.n
  have HD : Hid (declareC c o = bnd (sureE (newC o.queue o.n) (newQ o.queue o.dur o.n)) fun q => bnd (enE oQ 16 q c.queues) fun l => .ok { c with queues := l }) := by
   show declareC c o = _
   unfold declareC
   rw [find_none hh]
  have HX : Hid (Tv w4 B g c os qv bv sv kv cv ov ∧ FrT B w w4) := ⟨hT4, hF4⟩
  clear hT4 hF4 hS hat
  go_wp2_with fail
  refine HNW.mono ?_
  rintro e w5 ⟨v5, rfl, o5, b5⟩
  clear HNW d0 d1 d2 d3 d4 d5 d6 d7 d8 d9 d10 d11 d12 d13
  obtain ⟨hT4, hF4⟩ := HX.out
  have hT5 := hT4.on b5
  have hF5 := hF4.trans (.of_below b5 hT4.lt)
  have o5' := o5.low hT4.lt
  have HSU := sure_any w5 B v5 _ o5' (newC o.queue o.n)
  have HX5 : Hid (Tv w5 B g c os qv bv sv kv cv ov ∧ FrT B w w5 ∧ OwnQ w5 B v5 (if newC o.queue o.n = 0 then newQ o.queue o.dur o.n else zeroQ)) := ⟨hT5, hF5, o5'⟩
  clear HX hT4 hF4 hT5 hF5 o5 o5' b5
  go_wp2_with fail
  refine HSU.mono ?_
  rintro e w6 ⟨h6, b6⟩
  clear HSU
  obtain ⟨hT5, hF5, o5⟩ := HX5.out
  have hT6 := hT5.on b6
  have hF6 := hF5.trans (.of_below b6 hT5.lt)
  have o6 := o5.on b6
  clear HX5 hT5 hF5 o5 b6
  rcases h6 with ⟨h6, he⟩ | ⟨h6, he⟩
  rotate_left
  ·subst he
   exact ⟨rfl, led_no (by rw [HD.out]; simp [sureE, h6, bnd]) hF6⟩
  subst he
  rw [if_pos h6] at o6
  have hdc : declareC c o = bnd (enE oQ 16 (newQ o.queue o.dur o.n) c.queues) fun l => .ok { c with queues := l } := by
   rw [HD.out, h6]
   rfl
  clear HD
  generalize newQ o.queue o.dur o.n = q at *
  obtain ⟨iv, hv, rfl, n6, o6'⟩ := own_open o6
  have hcl := own_cells o6'
  have HX6 : Hid (Tv w6 B g c os qv bv sv kv cv ov ∧ FrT B w w6 ∧ OwnQ w6 B (queV q iv hv) q) := ⟨hT6, hF6, o6'⟩
  unfold queV at hcl ⊢
  clear hT6 hF6 o6 o6'
  go_wp2_with (refine wpl_fresh rfl (.tmp 7) (.tmp 51) rfl _ _ rfl rfl (by kernel_rfl) rfl hcl ?_)
  intro W7 k7 b7 s7
  obtain ⟨hT6, hF6, o6⟩ := HX6.out
  have hT2 := hT6.on b7
  have hF2 := hF6.trans (.of_below b7 hT6.lt)
  have o7 := o6.on b7
  have HN : Hid (some w6.heap.size ≠ qv.ownBlock) := fun e => by
   obtain ⟨zs, _, hz⟩ := hT6.q
   have := (World.ownsRow.lt hz.1 _ e.symm).2
   omega
  have HG : Hid (w6.heap.size ≠ g) := fun e => by have := hT6.blk.lt; omega
  clear HX6 hT6 hF6 o6 b7 s7
  obtain ⟨gb, egb⟩ : ∃ g, w6.heap.size = g := ⟨_, rfl⟩
  rw [egb] at k7 HN HG ⊢
  clear egb
  go_upto_region 6 with fail
  refine rh (fun W => Blk W gb (quA q iv hv) 82) ?_
  have hS : Blk (World.drew W7) gb (quA q iv hv) 82 := ⟨k7.h⟩
  have hT3 := hT2.drew
  have hF3 := hF2.drew
  clear hT2 hF2
  have hoq : OwnQ W7.drew B (queV q iv hv) q := o7.keep (fun k cur h => rfl) (fun k cur h => rfl) (fun k cur h => rfl)
  clear k7 o7
  generalize W7.drew = w5 at *
  refine tks [0, 1, 2, 3, 4, 6] [.pointer (some ⟨g, 0, none⟩), .pointer (some ⟨g, 0, none⟩), .pointer (some ⟨g, 0, none⟩), .pointer (some ⟨g, 0, none⟩), .pointer (some ⟨g, 1, none⟩), .agg #[tx q.name, .bool q.dur, .int .i64 q.depth, .int .i64 q.seq, .int .i64 q.tag, iv, hv]] 6 ?_ hS ?_
  ·simp only [tkY, tkf]
   refine ⟨.yes ?_, .yes ?_, .yes ?_, .yes ?_, .yes ?_, .yes ?_, trivial⟩
   all_goals
    intro W' hW'
    have := hW'.ce 0
    have := hW'.ce 1
    have := hW'.ce 2
    have := hW'.ce 3
    have := hW'.ce 4
    have := hW'.ce 5
    have := hW'.ce 6
    go_simp
  simp only [tkA, tkf]
  refine ak 5 fun K hK => ?_
  have d0 : w5.cell? ⟨g, 1, none⟩ = some qv := hT3.blk.cell 1
  go_simp
  refine hK _ _ hS ?_
  clear hK K
  try simp only [tkf]
  refine ak 7 fun K hK => ?_
  go_simp
  refine (enQs _ B hT3.lt qv c.queues hT3.q hg.qi (by have := hg.ql; omega) (queV q iv hv) q hoq).mono ?_
  rintro e w6 h6
  rcases h6 with ⟨v6, hen, he, o6, g6⟩ | ⟨hen, he, b6⟩
  rotate_left
  ·subst he
   exact ⟨rfl, .inr ⟨34, by rw [hdc, hen]; rfl, rfl, hF3.trans (.of_below b6 hT3.lt)⟩⟩
  subst he
  obtain ⟨a6, n6, cc6, rfl⟩ := OwnL.shape o6
  obtain ⟨T7, F7, k7⟩ := hT3.row_q g6 o6
  have hS6 : Blk w6 gb (quA q iv hv) 82 := hS.grown g6 HN.out
  clear hS
  have hS := hS6
  clear hS6
  show K _ _
  refine hK _ _ hS ?_
  clear hK K
  try simp only [tkf]
  refine tks [8, 9, 10] [.pointer (some ⟨g, 0, none⟩), .pointer (some ⟨g, 0, none⟩), .pointer (some ⟨g, 1, none⟩)] 1 ?_ hS ?_
  ·simp only [tkY, tkf]
   refine ⟨.yes ?_, .yes ?_, .yes ?_, trivial⟩
   all_goals
    intro W' hW'
    go_simp
  simp only [tkA, tkf]
  refine ak 11 fun K hK => ?_
  go_simp
  have f7 := k7.frozen 1
  have c7 : w6.cell? ⟨g, 1, none⟩ = some qv := k7.cell 1
  go_simp
  refine hK _ _ (hS.setO (fun e => HG.out e) _) ?_
  clear hK K f7 c7
  try simp only [tkf]
  refine ad ?_
  go_end0
  exact led_ok (c := { c with queues := enL oQ q c.queues }) (by rw [hdc, hen]; rfl) ⟨_, _, _, _, _, _, T7⟩ (hF3.trans F7)
structure MidS {α : Type} (w W : World) (row : Nat) (cap n : Nat) (zs : Zs α) (p : α → Bool) (i j : Nat) : Prop where
 blk : ∃ cur, Blk W row cur 85 ∧ cur.size = cap * 5 ∧ cur.toList.take (i * 5) = cellsZ ((zs.take j).filter (fun z => !p z.2)) ∧ (cur.toList.drop (j * 5)).take ((n - j) * 5) = cellsZ (zs.drop j)
 num : i = ((zs.take j).filter (fun z => !p z.2)).length
 gr : w.grownBy W (some row)
theorem MidS.on {α : Type} {w W W' : World} {row cap n : Nat} {zs : Zs α} {p : α → Bool} {i j : Nat} (h : MidS w W row cap n zs p i j) (hb : Bw W W') : MidS w W' row cap n zs p i j := by
 obtain ⟨cur, h1, h2⟩ := h.blk
 exact ⟨⟨cur, h1.on hb, h2⟩, h.num, gb_trans h.gr (gb_below hb _)⟩
theorem MidS.skip {α : Type} {w W : World} {row cap n : Nat} {zs : Zs α} {p : α → Bool} {i j : Nat} (h : MidS w W row cap n zs p i j) (hk : ∀ z ∈ zs, z.1.length = 5) (hn : zs.length = n) (hj : j < zs.length) (hp : p (zs[j]).2 = true) : MidS w W row cap n zs p i (j + 1) := by
 obtain ⟨cur, h1, h2, h3, h4⟩ := h.blk
 have e : (zs.take (j + 1)).filter (fun z => !p z.2) = (zs.take j).filter (fun z => !p z.2) := by
  rw [List.take_succ_eq_append_getElem hj, List.filter_append]
  simp [hp]
 refine ⟨⟨cur, h1, h2, by rw [e]; exact h3, ?_⟩, by rw [e]; exact h.num, h.gr⟩
 have := congrArg (List.drop 5) h4
 have hd := cellsZ_drop (fun z hz => hk z (List.mem_of_mem_drop hz)) (zs := zs.drop j) 1
 rw [Nat.one_mul, List.drop_drop] at hd
 rw [hd, List.drop_take, List.drop_drop] at this
 rw [show (j + 1) * 5 = j * 5 + 5 by omega, show (n - (j + 1)) * 5 = (n - j) * 5 - 5 by omega]
 exact this
theorem MidS.cells {α : Type} {w W : World} {row cap n : Nat} {zs : Zs α} {p : α → Bool} {i j : Nat} (h : MidS w W row cap n zs p i j) (hk : ∀ z ∈ zs, z.1.length = 5) (hn : zs.length = n) (hj : j < zs.length) : ∀ t u, ((zs[j]).1)[t]? = some u → W.cell? ⟨row, j * 5 + t, none⟩ = some u := fun t u hu => by
 obtain ⟨cur, h1, h2, h3, h4⟩ := h.blk
 have ht : t < 5 := by
  have := (List.getElem?_eq_some_iff.1 hu).1
  rwa [hk _ (List.getElem_mem hj)] at this
 have e := cellsZ_at (fun z hz => hk z (List.mem_of_mem_drop hz)) (zs := zs.drop j) 0 (by rw [List.length_drop]; omega) t ht
 rw [Nat.zero_mul, Nat.zero_add, List.getElem_drop, ← h4, List.getElem?_take_of_lt (by omega), List.getElem?_drop] at e
 rw [h1.cell, ← hu]
 simpa using e
theorem MidS.keepit {α : Type} {w W W' : World} {row cap n : Nat} {zs : Zs α} {p : α → Bool} {i j : Nat} (h : MidS w W row cap n zs p i j) (hk : ∀ z ∈ zs, z.1.length = 5) (hn : zs.length = n) (hij : i < j) (hjn : n ≤ cap) (hj : j < zs.length) (hp : p (zs[j]).2 = false)
  {cur : Array Value} (hb : Blk W row cur 85) (cells : Array Value) (hc : cells.toList = (zs[j]).1) (hW : Blk W' row (cur.toList.take (i * 5) ++ cells.toList ++ cur.toList.drop (i * 5 + cells.size)).toArray 85) (hg : W.grownBy W' (some row)) : MidS w W' row cap n zs p (i + 1) (j + 1) := by
 obtain ⟨cur', h1, h2, h3, h4⟩ := h.blk
 have ec : cur' = cur := by
  have := h1.h
  rw [hb.h] at this
  injection this with e
  injection e with e _ _
  exact e.symm
 subst ec
 have hcs : cells.size = 5 := by rw [← Array.length_toList, hc, hk _ (List.getElem_mem hj)]
 have e : (zs.take (j + 1)).filter (fun z => !p z.2) = (zs.take j).filter (fun z => !p z.2) ++ [zs[j]] := by
  rw [List.take_succ_eq_append_getElem hj, List.filter_append]
  simp [hp]
 have hti : (cur'.toList.take (i * 5)).length = i * 5 := by rw [List.length_take, Array.length_toList]; omega
 refine ⟨⟨_, hW, ?_, ?_, ?_⟩, by rw [e, List.length_append, ← h.num]; rfl, gb_trans h.gr hg⟩
 ·simp
  omega
 ·have hl : (i + 1) * 5 = (cur'.toList.take (i * 5) ++ cells.toList).length := by rw [List.length_append, hti, Array.length_toList, hcs]; omega
  rw [List.toList_toArray, hl, List.take_left' rfl, e, cellsZ_app, h3, hc]
  simp [cellsZ]
 ·have hl : (cur'.toList.take (i * 5) ++ cells.toList).length = i * 5 + cells.size := by rw [List.length_append, hti, Array.length_toList]
  have hd : (cur'.toList.take (i * 5) ++ cells.toList ++ cur'.toList.drop (i * 5 + cells.size)).drop ((j + 1) * 5) = cur'.toList.drop ((j + 1) * 5) := by
   rw [List.drop_append, List.drop_of_length_le (by rw [hl, hcs]; omega), List.nil_append, List.drop_drop, hl]
   congr 1
   omega
  rw [List.toList_toArray, hd]
  have := congrArg (List.drop 5) h4
  have hd2 := cellsZ_drop (fun z hz => hk z (List.mem_of_mem_drop hz)) (zs := zs.drop j) 1
  rw [Nat.one_mul, List.drop_drop] at hd2
  rw [hd2, List.drop_take, List.drop_drop] at this
  rw [show (j + 1) * 5 = j * 5 + 5 by omega, show (n - (j + 1)) * 5 = (n - j) * 5 - 5 by omega]
  exact this
set_option maxHeartbeats 8000000 in
theorem dfS_any {α : Type} (w : World) (B : Nat) (v : Value) (zs : Zs α) (R : List Value → α → Prop) (h : OwnZ 85 5 R w B v zs) (hn : zs.length ≤ 1000) (gg : Nat) (lb : Array Value) (eg : ∀ args w, (callFunc gg args).run Tryz.prog w = .ok (.enter gg args) w) (p : α → Bool)
  (hcall : ∀ W z, w.grownBy W v.ownBlock → z ∈ zs → Calls Tryz.prog gg (#[.agg z.1.toArray] ++ lb) W fun e W' => e = .returned (.bool (p z.2)) ∧ Bw W W') :
  Calls Tryz.prog 118 #[v, .func (.func gg) #[] lb] w fun e w' => ∃ v', e = .returned v' ∧ OwnZ 85 5 R w' B v' (zs.filter (fun z => !p z.2)) ∧ w.grownBy w' v.ownBlock ∧ (v'.ownBlock = v.ownBlock) := by
 have hx := ixS w v zs R h.rd (by omega) gg lb eg p (fun W z hb hm => hcall W z (gb_below hb _) hm)
 by_cases hK : zs.findIdx (fun z : List Value × α => p z.2) < zs.length
 ·obtain ⟨g, cap, cur, rfl, hBg, kg, hc, hm, hs, ht⟩ := ownG_some kiS h (by omega)
  rw [if_pos hK] at hx
  have hk : ∀ z ∈ zs, z.1.length = 5 := fun z hz => (h.2 z hz).1.1
  have M0 : MidS w w g cap zs.length zs p (zs.findIdx (fun z : List Value × α => p z.2)) (zs.findIdx (fun z : List Value × α => p z.2)) := by
   refine ⟨⟨cur, kg, hs, ?_, ?_⟩, ?_, World.grownBy.refl _ _⟩
   ·rw [filt_take (fun z : List Value × α => p z.2), ← cellsZ_take hk, ← ht, List.take_take]
    congr 1
    omega
   ·rw [← cellsZ_drop hk, ← ht, List.drop_take]
    congr 1
    omega
   ·rw [filt_take (fun z : List Value × α => p z.2), List.length_take]
    omega
  have M1 := fun (W : World) (b : Bw w W) => (M0.on b).skip hk rfl hK (List.findIdx_getElem (p := fun z : List Value × α => p z.2) (w := hK))
  obtain ⟨K, hKK⟩ : ∃ K, zs.findIdx (fun z : List Value × α => p z.2) = K := ⟨_, rfl⟩
  rw [hKK] at hK hx M1
  have HZ : Hid (∀ z ∈ zs, (z.1.length = 5 ∧ ∀ u ∈ z.1, u.oneCell' = true) ∧ R z.1 z.2) := h.2
  have HK : Hid (∀ z ∈ zs, z.1.length = 5) := hk
  have HC : Hid (∀ W z, w.grownBy W (some g) → z ∈ zs → Calls Tryz.prog gg (#[.agg z.1.toArray] ++ lb) W fun e W' => e = .returned (.bool (p z.2)) ∧ Bw W W') := hcall
  obtain ⟨n, hnn⟩ : ∃ n, zs.length = n := ⟨_, rfl⟩
  have HN : Hid (zs.length = n) := hnn
  rw [hnn] at hx hc hn hK M1 ⊢
  have M2 : Hid (∀ (W : World), Bw w W → MidS w W g cap n zs p K (K + 1)) := M1
  clear h hcall hnn M0 M1 hs ht kg hKK hk
  go_enter Tryz.func118, Tryz.ntmps118
  go_wp2_with fail
  refine hx.mono ?_
  rintro e w1 ⟨rfl, b1⟩
  have M3 : Hid (MidS w w1 g cap n zs p K (K + 1)) := M2.out w1 b1
  have hK1 : ¬ ((K : Int) = -1) := by omega
  have hcp : cap ≤ 9223372036854775807 := by unfold maxLen at hm; exact hm
  clear hx M2 b1
  go_wp2_with fail
  go_loopg [5, 6, 7] n (fun g2 s5 s6 _ wr => ∃ i j : Nat, i < j ∧ j ≤ n ∧ n - j ≤ g2 ∧ s5 = .int .i64 i ∧ s6 = .int .i64 j ∧ Hid (MidS w wr g cap n zs p i j))
  case atStart => exact ⟨K, K + 1, by omega, by omega, by omega, rfl, by go_num, M3.out⟩
  case round =>
   obtain ⟨i, j, hij, hjn, hg2, rfl, rfl, HS⟩ := hrel
   clear M3
   by_cases hlt : j < n
   ·have hltz : (j : Int) < (n : Int) := by omega
    have hjz : j < zs.length := by rw [HN.out]; exact hlt
    obtain ⟨⟨hkl, hone⟩, hR⟩ := HZ.out (zs[j]) (List.getElem_mem hjz)
    obtain ⟨v0, v1, v2, v3, v4, hv⟩ := list5 hkl
    have hcell := HS.out.cells HK.out HN.out hjz
    rw [hv] at hcell hone
    have HKP : Hid (∀ (W W' : World) (cur : Array Value) (i : Nat), MidS w W g cap n zs p i j → i < j → p (zs[j]).2 = false → Blk W g cur 85 → Blk W' g (cur.toList.take (i * 5) ++ [v0, v1, v2, v3, v4] ++ cur.toList.drop (i * 5 + 5)).toArray 85 → W.grownBy W' (some g) → MidS w W' g cap n zs p (i + 1) (j + 1)) := fun W W' cur i h1 h2 h3 h4 h5 h6 =>
     h1.keepit HK.out HN.out h2 hc hjz h3 h4 #[v0, v1, v2, v3, v4] (by rw [hv]) h5 h6
    have HSK : Hid (∀ (W : World) (i : Nat), MidS w W g cap n zs p i j → p (zs[j]).2 = true → MidS w W g cap n zs p i (j + 1)) := fun W i h1 h2 => h1.skip HK.out HN.out hjz h2
    have hcl := fun W (h : w.grownBy W (some g)) => HC.out W (zs[j]) h (List.getElem_mem hjz)
    rw [hv] at hcl
    generalize (zs[j]).2 = x at *
    have hal : (#[v0, v1, v2, v3, v4] : Array Value).all (·.oneCell') = true := by
     rw [Array.all_eq_true_iff_forall_mem]
     intro u hu
     exact hone u (by simpa using hu)
    have a0 := hcell 0 _ rfl
    have a1 := hcell 1 _ rfl
    have a2 := hcell 2 _ rfl
    have a3 := hcell 3 _ rfl
    have a4 := hcell 4 _ rfl
    rw [Nat.add_zero] at a0
    clear hcell hv hkl hone hR
    obtain ⟨wt, hwt⟩ : ∃ W, W = wr := ⟨_, rfl⟩
    subst hwt
    go_wp2_with (refine wpl_fresh rfl (.tmp 7) (.tmp 25) rfl _ _ rfl rfl (by kernel_rfl) rfl hal ?_)
    intro w2 k2 b2 s2
    have S2 := HS.out.on b2
    have hclx := hcl w2 S2.gr
    obtain ⟨bi, hbi⟩ : ∃ b, wt.heap.size = b := ⟨_, rfl⟩
    have hgb : bi ≠ g := by
     obtain ⟨cur, kc, _⟩ := HS.out.blk
     have := kc.lt
     omega
    rw [hbi] at k2 ⊢
    clear a0 a1 a2 a3 a4 HS b2 s2 hcl hbi
    go_wp2_with (refine wpList_load_row rfl 85 (.tmp 7) rfl bi rfl 85 _ (0, 0) _ k2.h Tryz.underlying85 rfl (by kernel_rfl) ?_)
    refine hclx.mono ?_
    rintro e w3 ⟨rfl, b3⟩
    have S3 := S2.on b3
    have k3 := k2.on b3
    clear hclx S2 k2 b3
    cases hq : p x with
    | true =>
     have S4 := HSK.out w3 i S3 hq
     clear S3 k3 HKP HSK
     go_wp2
     go_roundg (n - (j + 1))
     case measure => omega
     case rel => exact ⟨i, j + 1, by omega, by omega, by omega, rfl, by go_num, S4⟩
    | false =>
     obtain ⟨cur, kc, hcs, h3, h4⟩ := S3.blk
     have hin : (i : Int) < (n : Int) := by omega
     have HF := fun W' => HKP.out w3 W' cur i S3 hij hq kc
     clear HKP HSK S3 h3 h4
     go_wp2_with (first | (refine wpList_load_row rfl 85 (.tmp 7) rfl bi rfl 85 _ (0, 0) _ k3.h Tryz.underlying85 rfl (by kernel_rfl) ?_) | (refine wpl_putAt rfl (.tmp 33) (.tmp 32) rfl g (i * 5) _ rfl rfl kc (by kernel_rfl) (by simp; omega) hal ?_))
     intro w4 k4 g4 s4
     have S4 := HF w4 (by simpa [List.append_assoc] using k4) g4
     clear k3 kc k4 g4 s4 HF hcs
     go_wp2
     go_roundg (n - (j + 1))
     case measure => omega
     case rel => exact ⟨i + 1, j + 1, by omega, by omega, by omega, by go_num, by go_num, S4⟩
   ·have hltz : ¬ (j : Int) < (n : Int) := by omega
    have hje : j = n := by omega
    subst hje
    obtain ⟨cur, kc, hcs, h3, h4⟩ := HS.out.blk
    have hnum := HS.out.num
    have hgr := HS.out.gr
    have ezt : zs.take j = zs := List.take_of_length_le (by rw [HN.out]; exact Nat.le_refl _)
    rw [ezt] at h3 hnum
    obtain ⟨zz, hzz, hclr⟩ := run_clear_row (P := Tryz.prog) wr 26 85 0 (.agg #[.int .i64 0, .int .i64 0, .string ⟨#[]⟩, .int .i64 0, .bool false]) Tryz.underlying26 kiS.zr (by simp [Value.cells, Value.oneCell']) g (i * 5) (j - i) (cap - i) (by omega) _ kc.h (by rw [hcs]; simp [Value.cells]; omega)
    have e7 : (Value.agg #[.int .i64 0, .int .i64 0, .string ⟨#[]⟩, .int .i64 0, .bool false]).cells.size = 5 := rfl
    rw [e7] at hzz
    have k2 := kc.row (cur.toList.take (i * 5) ++ zz ++ cur.toList.drop (i * 5 + zz.length)).toArray
    have g2 := gb_trans hgr (grown_setRow wr g (cur.toList.take (i * 5) ++ zz ++ cur.toList.drop (i * 5 + zz.length)).toArray)
    obtain ⟨W2, hW2⟩ : ∃ W2, wr.setRow g (cur.toList.take (i * 5) ++ zz ++ cur.toList.drop (i * 5 + zz.length)).toArray = W2 := ⟨_, rfl⟩
    rw [hW2] at k2 g2 hclr
    have hfin : OwnZ 85 5 (R) W2 B (.slice (some ⟨g, 0, none⟩) i cap) (zs.filter (fun z => !p z.2)) := by
     have hm2 : ∀ z ∈ zs.filter (fun z => !p z.2), z ∈ zs := fun z hz => (List.mem_filter.1 hz).1
     refine ⟨⟨cellsZ_len (fun z hz => HK.out z (hm2 z hz)), .inr ⟨g, cap, _, by rw [hnum], hBg, k2.h, by omega, hm, ?_, ?_⟩⟩, fun z hz => HZ.out z (hm2 z hz)⟩
     ·simp
      omega
     ·rw [← hnum, List.toList_toArray, List.append_assoc, List.take_append_of_le_length (by rw [List.length_take, Array.length_toList, hcs]; omega), List.take_take, Nat.min_self, h3]
    have hi1 : i ≤ j := by omega
    have hi2 : i ≤ cap := by omega
    have hi3 : ¬ (cap = i) := by omega
    have hiz : (i : Int) ≤ (j : Int) := by omega
    clear HS kc hcs h3 h4 hgr hW2 k2 hnum hzz HZ HK HC HN
    go_wp2
    go_ret
    exact ⟨_, rfl, hfin, g2, rfl⟩
 ·rw [if_neg hK] at hx
  have e : zs.filter (fun z => !p z.2) = zs := filt_none (fun z : List Value × α => p z.2) zs hK
  obtain ⟨a, c, hv⟩ := h.rd.len
  have HO : Hid (OwnZ 85 5 (R) w B v zs) := h
  have HE : Hid (zs.filter (fun z => !p z.2) = zs) := e
  have HV : Hid (v = .slice a zs.length c) := hv
  clear h hcall e hK
  rw [hv] at hx ⊢
  obtain ⟨n, hnn⟩ : ∃ n, zs.length = n := ⟨_, rfl⟩
  have HNN : Hid (zs.length = n) := hnn
  rw [hnn] at hx ⊢
  clear hv hnn
  go_enter Tryz.func118, Tryz.ntmps118
  go_wp2_with fail
  refine hx.mono ?_
  rintro e w1 ⟨rfl, b1⟩
  go_wp2
  go_ret
  refine ⟨_, rfl, ?_, ?_, rfl⟩
  ·have h2 := HO.out.keep (.of_below b1)
   rw [HV.out] at h2
   rw [← HNN.out, HE.out]
   exact h2
  ·exact gb_below b1 _
end Go.Proofs.YtnpikgakpmkipabGreatDoor
