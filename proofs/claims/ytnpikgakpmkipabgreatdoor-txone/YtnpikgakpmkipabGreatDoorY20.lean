/- (*turn).settle and its two closures. Conditions: those that each row states. -/
import Derived.Test.YtnpikgakpmkipabGreatDoorY15
import Derived.Test.YtnpikgakpmkipabGreatDoorY03
import Derived.Test.YtnpikgakpmkipabGreatDoorY19
import Derived.Test.YtnpikgakpmkipabGreatDoorY11
import Derived.Test.YtnpikgakpmkipabGreatDoorY09
import Derived.Test.YtnpikgakpmkipabGreatDoorY08
import Derived.Test.YtnpikgakpmkipabGreatDoorY18
import Derived.Test.YtnpikgakpmkipabGreatDoorY04
import Derived.Test.YtnpikgakpmkipabGreatDoorY14
import Derived.Test.YtnpikgakpmkipabGreatDoorY13
namespace Go.Proofs.YtnpikgakpmkipabGreatDoor
open Go.RowKit Go.Lib
set_option maxRecDepth 100000
set_option linter.unusedSimpArgs false
set_option linter.unusedVariables false
def VB (B : Nat) (w : World) : Prop := ∀ W, Below B w W → To.Vars W
theorem VB.of {w : World} (h : To.Vars w) : VB w.heap.size w := fun W hb => h.below hb
theorem VB.on {B : Nat} {w w' : World} (h : VB B w) (hb : Below B w w') : VB B w' := fun W hb2 => h W (hb.trans hb2)
theorem VB.fr {B : Nat} {w w' : World} (h : VB B w) (hb : FrT B w w') : VB B w' := h.on hb.below
theorem VB.now {B : Nat} {w : World} (h : VB B w) : To.Vars w := h w (.refl _ _)
theorem El.c7 {w : World} {B : Nat} {qv : Value} {l : List Que} {p gq cap : Nat} {cur : Array Value} {iv hv : Value} (h : El w B qv l p gq cap cur iv hv) {q : Que} (hp : p < l.length) (hq : l[p] = q) : w.cell? ⟨gq, p * 7, none⟩ = some (tx q.name) ∧ w.cell? ⟨gq, p * 7 + 1, none⟩ = some (.bool q.dur) ∧ w.cell? ⟨gq, p * 7 + 2, none⟩ = some (.int .i64 q.depth) ∧ w.cell? ⟨gq, p * 7 + 3, none⟩ = some (.int .i64 q.seq) ∧ w.cell? ⟨gq, p * 7 + 4, none⟩ = some (.int .i64 q.tag) ∧ w.cell? ⟨gq, p * 7 + 5, none⟩ = some iv ∧ w.cell? ⟨gq, p * 7 + 6, none⟩ = some hv := by
 subst hq
 exact ⟨(h.blk.cell _).trans (h.at7 0 _ rfl), (h.blk.cell _).trans (h.at7 1 _ rfl), (h.blk.cell _).trans (h.at7 2 _ rfl), (h.blk.cell _).trans (h.at7 3 _ rfl), (h.blk.cell _).trans (h.at7 4 _ rfl), (h.blk.cell _).trans (h.at7 5 _ rfl), (h.blk.cell _).trans (h.at7 6 _ rfl)⟩
theorem set_en {l : List Que} (hl : Inc oQ l) {p : Nat} (hp : p < l.length) {q' : Que} (hn : q'.name = (l[p]).name) : l.set p q' = enL oQ q' l := by
 have hr := List.pairwise_iff_getElem.1 hl
 refine en_there linQ (x := l[p]) hl (fun i hi hip => hr i p hi hp hip) (fun i hi hpi => ?_) hp (linQ.refl _) (oQ_zero.2 hn)
 by_cases e : i = p
 ·subst e
  rw [linQ.refl]
  omega
 ·have h1 := (linQ.anti _ _).1 (hr p i hp hi (by omega))
  omega
theorem good_len {c : Cor} (h : GoodC c) {p : Nat} (hp : p < c.queues.length) : lenQ c.queues[p] ≤ 1000000 := by
 have h1 := (goodQ_iff _).1 (h.qg _ (List.getElem_mem hp))
 have h2 := h1.len
 have h3 := h1.dep
 simp only [depB, Bool.and_eq_true, decide_eq_true_eq] at h3
 omega
theorem own_cells {w : World} {B : Nat} {q : Que} {iv hv : Value} (h : OwnQ w B (queV q iv hv) q) : (queV q iv hv).cells.all (·.oneCell') = true := by
 obtain ⟨iv', hv', e, h1, h2⟩ := h
 injection e with e
 have e2 := congrArg Array.toList e
 simp at e2
 obtain ⟨rfl, rfl⟩ := e2
 obtain ⟨ia, ic, ei⟩ := h1.rd.len
 obtain ⟨ja, jc, ej⟩ := h2.rd.len
 simp [queV, Value.cells, Value.oneCell', ei, ej]
theorem own_open {w : World} {B : Nat} {v : Value} {q : Que} (h : OwnQ w B v q) : ∃ iv hv, v = queV q iv hv ∧ (iv.oneCell' = true ∧ hv.oneCell' = true) ∧ OwnQ w B (queV q iv hv) q := by
 have h0 := h
 obtain ⟨iv, hv, rfl, h1, h2⟩ := h
 obtain ⟨ia, ic, ei⟩ := h1.rd.len
 obtain ⟨ja, jc, ej⟩ := h2.rd.len
 exact ⟨iv, hv, rfl, ⟨by rw [ei]; rfl, by rw [ej]; rfl⟩, h0⟩
theorem Blk.c14 {W : World} {g : Nat} {t : TypeId} {a0 a1 a2 a3 a4 a5 a6 a7 a8 a9 a10 a11 a12 a13 : Value} (h : Blk W g #[a0, a1, a2, a3, a4, a5, a6, a7, a8, a9, a10, a11, a12, a13] t) : W.cell? ⟨g, 0, none⟩ = some a0 ∧ W.cell? ⟨g, 1, none⟩ = some a1 ∧ W.cell? ⟨g, 2, none⟩ = some a2 ∧ W.cell? ⟨g, 3, none⟩ = some a3 ∧ W.cell? ⟨g, 4, none⟩ = some a4 ∧ W.cell? ⟨g, 5, none⟩ = some a5 ∧ W.cell? ⟨g, 6, none⟩ = some a6 ∧ W.cell? ⟨g, 7, none⟩ = some a7 ∧ W.cell? ⟨g, 8, none⟩ = some a8 ∧ W.cell? ⟨g, 9, none⟩ = some a9 ∧ W.cell? ⟨g, 10, none⟩ = some a10 ∧ W.cell? ⟨g, 11, none⟩ = some a11 ∧ W.cell? ⟨g, 12, none⟩ = some a12 ∧ W.cell? ⟨g, 13, none⟩ = some a13 :=
 ⟨h.cell 0, h.cell 1, h.cell 2, h.cell 3, h.cell 4, h.cell 5, h.cell 6, h.cell 7, h.cell 8, h.cell 9, h.cell 10, h.cell 11, h.cell 12, h.cell 13⟩
theorem led_on {w w1 w2 : World} {B g : Nat} {os : List Ot} {res : Except Int (Cor × List Ot)} {e : Ending} (hf : FrT B w w1) (h : Led w1 B g os res e w2) : Led w B g os res e w2 := by
 rcases h with ⟨r, h1, h2, h3, h4⟩ | ⟨n, h1, h2, h3⟩
 ·exact .inl ⟨r, h1, h2, h3, hf.trans h4⟩
 ·exact .inr ⟨n, h1, h2, hf.trans h3⟩
set_option maxHeartbeats 2000000 in
theorem settle_op (w : World) (B g : Nat) (c : Cor) (os : List Ot) (hT : T w B g c os) (hg : GoodC c) (hV : VB B w) (o : Opr) (pv : Value) (hp : pv.oneCell' = true) (again : Bool) :
  Calls Tryz.prog 57 #[.pointer (some ⟨g, 0, none⟩), opV o pv, .bool again] w fun e w' => Led w B g os (noO (settleK c o again)) e w' := by
 obtain ⟨qv, bv, sv, kv, cv, ov, hT⟩ := hT
 have b0 := (Below.refl w.heap.size w).alloc (Nat.le_refl _) (.cells (opA o pv) 35)
 have hO := Blk.new w (opA o pv) 35
 have hT1 := hT.on b0
 have hF1 : FrT B w (w.alloc (.cells (opA o pv) 35)) := .of_below b0 hT.lt
 unfold opV
 go_enter Tryz.func57, Tryz.ntmps57
 go_upto_region 1 with fail
 generalize w.alloc (.cells (opA o pv) 35) = w1 at *
 obtain ⟨gx, egx⟩ : ∃ g, w.heap.size = g := ⟨_, rfl⟩
 rw [egx] at hO ⊢
 have d4 : w1.cell? ⟨gx, 4, none⟩ = some (tx o.queue) := hO.cell 4
 have HN := named_any w1 B g c os qv bv sv kv cv ov hT1 hg o.queue
 have HT1 : Hid (Tv w1 B g c os qv bv sv kv cv ov ∧ FrT B w w1 ∧ Blk w1 gx (opA o pv) 35) := ⟨hT1, hF1, hO⟩
 clear hT hT1 hF1 egx b0 hO
 go_wp2_with fail
 refine HN.mono ?_
 rintro e w2 ⟨h2, b2⟩
 clear HN d4
 obtain ⟨hT1, hF1, hO⟩ := HT1.out
 have hT2 := hT1.on b2
 have hF2 := hF1.trans (.of_below b2 hT1.lt)
 have hO2 := hO.on b2
 clear hT1 hF1 hO HT1 b2
 rcases h2 with ⟨p, gq, cap, cur, iv, hv, hpl, hnm, he, hEL2⟩ | ⟨hnm, he⟩
 rotate_left
 ·subst he
  exact ⟨rfl, led_no (by unfold settleK; rw [hnm]; rfl) hF2⟩
 subst he
 have hbig := good_len hg hpl
 have hgq := hg.qg _ (List.getElem_mem hpl)
 obtain ⟨q, hq⟩ : ∃ q, c.queues[p] = q := ⟨_, rfl⟩
 rw [hq] at hnm hbig hgq
 have HG : Hid (some gx ≠ some gq) := fun e => by
  injection e with e
  have h1 := hO2.h
  rw [e, hEL2.blk.h] at h1
  injection h1 with h1
  injection h1 with _ h1
  cases h1
 go_upto_region 2 with fail
 refine rh (fun W => Blk W gx (opA o pv) 35) ?_
 have hS : Blk (World.drew w2) gx (opA o pv) 35 := ⟨hO2.h⟩
 have hT3 := hT2.drew
 have hF3 := hF2.drew
 have hEL := hEL2.kx (e := 0) (w' := w2.drew) .drew (by decide)
 clear hT2 hF2 hO2 hEL2
 generalize w2.drew = w3 at *
 have hOW := hEL.own
 rw [hq] at hOW
 refine tks [0, 1, 2, 4, 5, 6, 7, 8] [.pointer (some ⟨gq, p * 7, none⟩), .pointer (some ⟨gq, p * 7, none⟩), .pointer (some ⟨gq, p * 7, none⟩), .pointer (some ⟨gx, 1, none⟩), .int .i64 o.conn, .pointer (some ⟨gx, 3, none⟩), .int .i64 o.n, .bool again] 7 ?_ hS ?_
 ·simp only [tkY, tkf]
  refine ⟨.yes ?_, .yes ?_, .yes ?_, .yes ?_, .yes ?_, .yes ?_, .yes ?_, .yes ?_, trivial⟩
  all_goals
   intro W' hW'
   have := hW'.ce 1
   have := hW'.ce 3
   go_simp
 simp only [tkA, tkf]
 refine ak 3 fun K hK => ?_
 obtain ⟨d0, d1, d2, d3, d4, d5, d6⟩ := hEL.c7 hpl hq
 go_simp
 refine hK _ _ hS ?_
 clear hK K
 try simp only [tkf]
 refine ak 9 fun K hK => ?_
 go_simp
 refine (settle_any _ (hV.fr hF3).now _ q (OwnQ.rd hOW) o.conn o.n again hbig).mono ?_
 rintro e w4 ⟨v4, rfl, o4, b4⟩
 obtain ⟨iv4, hv4, rfl, n4, o4'⟩ := own_open o4
 clear o4
 have hT4 := hT3.on b4
 have hF4 := hF3.trans (.of_below b4 hT3.lt)
 have hEL4 := hEL.on b4
 have hS4 : Blk w4 gx (opA o pv) 35 := hS.on b4
 have o4 := o4'.low hT3.lt
 clear hT3 hF3 hEL hS b4 o4'
 have hS := hS4
 clear hS4
 show K _ _
 refine hK _ _ hS ?_
 clear hK K
 try simp only [tkf]
 refine tks [10, 11] [queV (if settleC q o.conn o.n = 0 then settleQ q o.conn o.n again else zeroQ) iv4 hv4, .int .i64 (settleC q o.conn o.n)] 3 ?_ hS ?_
 ·simp only [tkY, tkf]
  refine ⟨.yes ?_, .yes ?_, trivial⟩
  all_goals
   intro W' hW'
   go_simp
 simp only [tkA, tkf]
 refine ak 12 fun K hK => ?_
 go_simp
 refine (sure_any _ B _ _ o4 _).mono ?_
 rintro e w5 ⟨h5, b5⟩
 have hT5 := hT4.on b5
 have hF5 := hF4.trans (.of_below b5 hT4.lt)
 have hEL5 := hEL4.on b5
 have hS5 : Blk w5 gx (opA o pv) 35 := hS.on b5
 have o5 := o4.on b5
 clear hT4 hF4 hEL4 hS b5 o4
 have hS := hS5
 clear hS5
 rcases h5 with ⟨h5, he⟩ | ⟨h5, he⟩
 rotate_left
 ·subst he
  exact ⟨rfl, led_no (by unfold settleK; rw [hnm]; simp [bnd, sureE, h5]) hF5⟩
 subst he
 show K _ _
 rw [if_pos h5] at o5 ⊢
 refine hK _ _ hS ?_
 clear hK K
 try simp only [tkf]
 refine tks [13] [.pointer (some ⟨gq, p * 7, none⟩)] 1 ?_ hS ?_
 ·simp only [tkY, tkf]
  refine ⟨.yes ?_, trivial⟩
  all_goals
   intro W' hW'
   go_simp
 simp only [tkA, tkf]
 refine ak 14 fun K hK => ?_
 refine opw_putAt (.tmp 24) (.tmp 23) rfl gq (p * 7) (queV (settleQ q o.conn o.n again) iv4 hv4).cells rfl ?_ hEL5.blk (by kernel_rfl) hEL5.fit (own_cells o5) ?_
 ·skip
  simp only [Act.eval, Act.put]
  rfl
 intro w6 k6 g6 s6
 obtain ⟨T6, F6, E6⟩ := hT5.put hEL5 o5 k6 g6
 refine hK _ _ (hS.grown g6 HG.out) ?_
 clear hK K
 try simp only [tkf]
 refine ad ?_
 go_end0
 rw [set_en hg.qi hpl (q' := settleQ q o.conn o.n again) (by rw [hq]; rfl)] at T6
 exact led_ok (c := setQ c (settleQ q o.conn o.n again)) (by unfold settleK; rw [hnm]; simp [bnd, sureE, h5]) ⟨_, _, _, _, _, _, T6⟩ (hF5.trans F6)
set_option maxHeartbeats 1000000 in
theorem ack_op (w : World) (B g : Nat) (c : Cor) (os : List Ot) (hT : T w B g c os) (hg : GoodC c) (hV : VB B w) (o : Opr) (pv : Value) (hp : pv.oneCell' = true) :
  Calls Tryz.prog 56 #[.pointer (some ⟨g, 0, none⟩), opV o pv] w fun e w' => Led w B g os (noO (settleK c o false)) e w' := by
 have hBw : B ≤ w.heap.size := by obtain ⟨_, _, _, _, _, _, h⟩ := hT; exact h.lt
 have b0 := (Below.refl w.heap.size w).alloc (Nat.le_refl _) (.cells (opA o pv) 35)
 have hO := Blk.new w (opA o pv) 35
 have hF1 : FrT B w (w.alloc (.cells (opA o pv) 35)) := .of_below b0 hBw
 have HS := settle_op _ B g c os (hT.on b0) hg (hV.fr hF1) o pv hp false
 unfold opV at HS ⊢
 clear hT
 go_enter Tryz.func56, Tryz.ntmps56
 go_upto_region 1 with fail
 generalize w.alloc (.cells (opA o pv) 35) = w1 at *
 obtain ⟨d0, d1, d2, d3, d4, d5, d6, d7, d8, d9, d10, d11, d12, d13⟩ := hO.c14
 clear hO
 go_wp2_with fail
 refine HS.mono ?_
 intro e w2 h2
 have h3 := led_on hF1 h2
 rcases h2 with ⟨r, h1, he, h4⟩ | ⟨n, h1, he, h4⟩
 ·subst he
  go_wp2_with fail
  go_end0
  exact h3
 ·subst he
  exact ⟨rfl, h3⟩
set_option maxHeartbeats 1000000 in
theorem nack_op (w : World) (B g : Nat) (c : Cor) (os : List Ot) (hT : T w B g c os) (hg : GoodC c) (hV : VB B w) (o : Opr) (pv : Value) (hp : pv.oneCell' = true) :
  Calls Tryz.prog 58 #[.pointer (some ⟨g, 0, none⟩), opV o pv] w fun e w' => Led w B g os (noO (settleK c o o.auto)) e w' := by
 have hBw : B ≤ w.heap.size := by obtain ⟨_, _, _, _, _, _, h⟩ := hT; exact h.lt
 have b0 := (Below.refl w.heap.size w).alloc (Nat.le_refl _) (.cells (opA o pv) 35)
 have hO := Blk.new w (opA o pv) 35
 have hF1 : FrT B w (w.alloc (.cells (opA o pv) 35)) := .of_below b0 hBw
 have HS := settle_op _ B g c os (hT.on b0) hg (hV.fr hF1) o pv hp o.auto
 unfold opV at HS ⊢
 clear hT
 go_enter Tryz.func58, Tryz.ntmps58
 go_upto_region 1 with fail
 generalize w.alloc (.cells (opA o pv) 35) = w1 at *
 obtain ⟨d0, d1, d2, d3, d4, d5, d6, d7, d8, d9, d10, d11, d12, d13⟩ := hO.c14
 clear hO
 go_wp2_with fail
 refine HS.mono ?_
 intro e w2 h2
 have h3 := led_on hF1 h2
 rcases h2 with ⟨r, h1, he, h4⟩ | ⟨n, h1, he, h4⟩
 ·subst he
  go_wp2_with fail
  go_end0
  exact h3
 ·subst he
  exact ⟨rfl, h3⟩
theorem leCs (w : World) (B : Nat) (hB : B ≤ w.heap.size) (v : Value) (l : List Cli) (h : OCw w B v l) (hi : Inc oC l) (hn : l.length ≤ 1000) (n : List UInt8) :
  Calls Tryz.prog 132 #[v, .agg #[tx n, .slice none 0 0], .func (.func 79) #[] #[]] w fun e w' => LeA OCw oC w B v ⟨n, []⟩ l e w' := by
 obtain ⟨zs, rfl, hz⟩ := h
 obtain ⟨a, c, rfl⟩ := hz.rd.len
 rw [List.length_map] at hn
 obtain ⟨p, hp⟩ := plc_any linC (⟨n, []⟩ : Cli) hi
 have hx : ClR (fun _ _ => True) [tx n, .slice none 0 0] (⟨n, []⟩ : Cli) := ⟨_, rfl, trivial⟩
 refine (leC w B hB a zs.length c zs _ hz rfl hn _ _ ⟨rfl, rfl⟩ 79 e79' (fun z => oC z ⟨n, []⟩) (fun W z hm => cC W (hz.2 z hm).2 hx) p hp.le hp.lo hp.hi).mono ?_
 intro e w' hr
 obtain ⟨v', h4, h5, h6⟩ := ler_of (y := ([], (⟨n, []⟩ : Cli))) linC hz hi hp hr
 have kt : ∀ t, t ≠ 88 → Kt t w w' := fun t ht => .of_grown hz.1 h6 ht
 refine ⟨v', h4, ⟨_, leL_map Prod.snd _ zs, h5.imp ?_⟩, h6⟩
 rintro ys x ⟨pv, h7, h8⟩
 exact ⟨pv, h7, h8.keep (kt _ (by decide))⟩
set_option maxHeartbeats 4000000 in
theorem forget_any (w : World) (B g : Nat) (c : Cor) (os : List Ot) (hT : T w B g c os) (hc : Inc oC c.clients ∧ (c.clients.length : Int) ≤ 16) (o : Opr) (pv : Value) (hp : pv.oneCell' = true) :
  Calls Tryz.prog 52 #[.pointer (some ⟨g, 0, none⟩), opV o pv] w fun e w' => Led w B g os (noO (forgetC c o)) e w' := by
 have hg : Hid (Inc oC c.clients ∧ (c.clients.length : Int) ≤ 16) := hc
 clear hc
 obtain ⟨qv, bv, sv, kv, cv, ov, hT⟩ := hT
 have b0 := (Below.refl w.heap.size w).alloc (Nat.le_refl _) (.cells (opA o pv) 35)
 have hO := Blk.new w (opA o pv) 35
 have hT1 := hT.on b0
 have hF1 : FrT B w (w.alloc (.cells (opA o pv) 35)) := .of_below b0 hT.lt
 unfold opV
 go_enter Tryz.func52, Tryz.ntmps52
 go_upto_region 1 with fail
 generalize w.alloc (.cells (opA o pv) 35) = w1 at *
 obtain ⟨gx, egx⟩ : ∃ g, w.heap.size = g := ⟨_, rfl⟩
 rw [egx] at hO ⊢
 clear egx b0 hT
 have d5 : w1.cell? ⟨gx, 5, none⟩ = some (tx o.text) := hO.cell 5
 have HG : Hid (gx ≠ g) := fun e => by
  have h1 := hO.h
  rw [e, hT1.blk.h] at h1
  injection h1 with h1
  injection h1 with _ h1
  cases h1
 have HT1 : Hid (Tv w1 B g c os qv bv sv kv cv ov ∧ FrT B w w1 ∧ Blk w1 gx (opA o pv) 35) := ⟨hT1, hF1, hO⟩
 have HS := name_any w1 o.text
 clear hT1 hF1 hO
 go_wp2_with fail
 refine HS.mono ?_
 rintro e wA ⟨rfl, hA⟩
 rw [hA]
 clear hA wA HS
 have HI := insist_any w1 (nameL o.text) 31
 go_wp2_with fail
 refine HI.mono ?_
 rintro e wI ⟨hI, hb⟩
 rw [hI]
 clear hI wI HI
 rcases hb with ⟨hb, he⟩ | ⟨hb, he⟩
 rotate_left
 ·subst he
  exact ⟨rfl, .inr ⟨31, by simp [forgetC, noO, bnd, ins, hb], rfl, HT1.out.2.1⟩⟩
 subst he
 clear d5
 obtain ⟨hT2, hF2, hO⟩ := HT1.out
 clear HT1
 go_upto_region 2 with fail
 refine rh (fun W => Blk W gx (opA o pv) 35) ?_
 have hS : Blk (World.drew w1) gx (opA o pv) 35 := ⟨hO.h⟩
 have hT3 := hT2.drew
 have hF3 := hF2.drew
 clear hT2 hF2
 clear hO
 generalize w1.drew = w5 at *
 refine tks [0, 1, 2, 3, 4, 6, 7, 8] [.pointer (some ⟨g, 0, none⟩), .pointer (some ⟨g, 0, none⟩), .pointer (some ⟨g, 0, none⟩), .pointer (some ⟨g, 0, none⟩), .pointer (some ⟨g, 5, none⟩), .pointer (some ⟨gx, 5, none⟩), tx o.text, .agg #[tx o.text, .slice none 0 0]] 6 ?_ hS ?_
 ·simp only [tkY, tkf]
  refine ⟨.yes ?_, .yes ?_, .yes ?_, .yes ?_, .yes ?_, .yes ?_, .yes ?_, .yes ?_, trivial⟩
  all_goals
   intro W' hW'
   have := hW'.ce 5
   go_simp
 simp only [tkA, tkf]
 refine ak 5 fun K hK => ?_
 have d0 : w5.cell? ⟨g, 5, none⟩ = some cv := hT3.blk.cell 5
 go_simp
 refine hK _ _ hS ?_
 clear hK K
 try simp only [tkf]
 refine ak 9 fun K hK => ?_
 go_simp
 refine (leCs _ B hT3.lt cv c.clients hT3.c hg.out.1 (by have := hg.out.2; omega) o.text).mono ?_
 rintro e w6 ⟨v6, rfl, o6, g6⟩
 obtain ⟨a6, n6, cc6, rfl⟩ := OwnL.shape o6
 have kx6 : KX 88 w5 w6 := by
  obtain ⟨zs, _, hz⟩ := hT3.c
  exact .of_grown hz.1 g6
 obtain ⟨T7, F7, k7⟩ := hT3.row_c g6 o6
 have hS6 : Blk w6 gx (opA o pv) 35 := hS.kt (kx6.kt _ (by decide))
 clear hS kx6
 have hS := hS6
 clear hS6
 show K _ _
 refine hK _ _ hS ?_
 clear hK K
 try simp only [tkf]
 refine tks [10, 11, 12] [.pointer (some ⟨g, 0, none⟩), .pointer (some ⟨g, 0, none⟩), .pointer (some ⟨g, 5, none⟩)] 1 ?_ hS ?_
 ·simp only [tkY, tkf]
  refine ⟨.yes ?_, .yes ?_, .yes ?_, trivial⟩
  all_goals
   intro W' hW'
   go_simp
 simp only [tkA, tkf]
 refine ak 13 fun K hK => ?_
 go_simp
 have f7 := k7.frozen 5
 have c7 : w6.cell? ⟨g, 5, none⟩ = some cv := k7.cell 5
 go_simp
 refine hK _ _ (hS.setO (fun e => HG.out e) _) ?_
 clear hK K f7 c7
 try simp only [tkf]
 refine ad ?_
 go_end0
 exact led_ok (c := { c with clients := leL oC ⟨o.text, []⟩ c.clients }) (by simp [forgetC, ins, hb]) ⟨_, _, _, _, _, _, T7⟩ (hF3.trans F7)
theorem forget_op (w : World) (B g : Nat) (c : Cor) (os : List Ot) (hT : T w B g c os) (hg : GoodC c) (hV : VB B w) (o : Opr) (pv : Value) (hp : pv.oneCell' = true) :
  Calls Tryz.prog 52 #[.pointer (some ⟨g, 0, none⟩), opV o pv] w fun e w' => Led w B g os (noO (forgetC c o)) e w' := forget_any w B g c os hT ⟨hg.ci, hg.cl⟩ o pv hp
theorem e131' : ∀ args w, (callFunc 131 args).run Tryz.prog w = .ok (.enter 131 args) w := fun args w => by go_simp
theorem cN (W : World) {z : List Value × Int} {v0 : Value} (hz : NuR z.1 z.2) (h : z.1 = [v0]) (x : Int) : Calls Tryz.prog 131 #[v0, .int .i64 x] W fun e w' => e = .returned (.int .i64 (cmpZ z.2 x)) ∧ Bw W w' := by
 unfold NuR at hz
 rw [hz] at h
 injection h with h _
 subst h
 exact (cmpI_any W z.2 x).mono fun e w' ⟨h1, h2⟩ => ⟨h1, by rw [h2]; exact Below.refl _ _⟩
theorem hasPs (w : World) (B : Nat) (v : Value) (l : List Int) (h : OwnNu w B v l) (hi : Inc cmpZ l) (hn : l.length ≤ 1000) (x : Int) :
  Calls Tryz.prog 191 #[v, .int .i64 x, .func (.func 131) #[] #[]] w fun e w' => e = .returned (.bool (hasL cmpZ x l)) ∧ Bw w w' := by
 obtain ⟨zs, rfl, hz⟩ := h
 obtain ⟨a, c, rfl⟩ := hz.rd.len
 rw [List.length_map] at hn
 obtain ⟨p, hp⟩ := plc_any linZ x hi
 refine (hasN w a zs.length c zs _ hz.rd rfl (by omega) (.int .i64 x) 131 e131' (fun z => cmpZ z x) (fun W z v0 hm h => cN W (hz.2 z hm).2 h x) p hp.le hp.lo hp.hi).mono ?_
 rintro e w' ⟨hr, b⟩
 exact ⟨har_of linZ hi hp hr, b⟩
theorem enPs (w : World) (B : Nat) (hB : B ≤ w.heap.size) (v : Value) (l : List Int) (h : OwnNu w B v l) (hi : Inc cmpZ l) (hn : l.length ≤ 1000) (x : Int) :
  Calls Tryz.prog 192 #[v, .int .i64 x, .func (.func 131) #[] #[], .int .i64 32] w fun e w' => EnA OwnNu cmpZ 32 w B v x l e w' := by
 obtain ⟨zs, rfl, hz⟩ := h
 obtain ⟨a, c, rfl⟩ := hz.rd.len
 rw [List.length_map] at hn
 obtain ⟨p, hp⟩ := plc_any linZ x hi
 refine (enN w B hB a zs.length c zs _ hz rfl hn x 131 e131' (fun z => cmpZ z x) (fun W z v0 hm h => cN W (hz.2 z hm).2 h x) p hp.le hp.lo hp.hi x rfl 32).mono ?_
 intro e w' hr
 rcases enr_of linZ hi hp hr with ⟨v', h3, h4, h5, h6⟩ | h3
 ·rw [enL_map Prod.snd] at h3
  exact .inl ⟨v', h3, h4, ⟨_, enL_map Prod.snd _ zs, h5⟩, h6⟩
 ·exact .inr h3
theorem lePs (w : World) (B : Nat) (hB : B ≤ w.heap.size) (v : Value) (l : List Int) (h : OwnNu w B v l) (hi : Inc cmpZ l) (hn : l.length ≤ 1000) (x : Int) :
  Calls Tryz.prog 130 #[v, .int .i64 x, .func (.func 131) #[] #[]] w fun e w' => LeA OwnNu cmpZ w B v x l e w' := by
 obtain ⟨zs, rfl, hz⟩ := h
 obtain ⟨a, c, rfl⟩ := hz.rd.len
 rw [List.length_map] at hn
 obtain ⟨p, hp⟩ := plc_any linZ x hi
 refine (leN w B hB a zs.length c zs _ hz rfl hn (.int .i64 x) rfl 131 e131' (fun z => cmpZ z x) (fun W z v0 hm h => cN W (hz.2 z hm).2 h x) p hp.le hp.lo hp.hi).mono ?_
 intro e w' hr
 obtain ⟨v', h4, h5, h6⟩ := ler_of (y := ([], x)) linZ hz hi hp hr
 exact ⟨v', h4, ⟨_, leL_map Prod.snd _ zs, h5⟩, h6⟩
theorem oC_zero {a b : Cli} : oC a b = 0 ↔ a.name = b.name := cmpL_zero
theorem findCs (w : World) (B : Nat) (v : Value) (zs : Zs Cli) (p0 : Value → List Int → Prop) (hz : OwnZ 88 2 (ClR p0) w B v zs) (hi : Inc oC (zs.map (·.2))) (hn : zs.length ≤ 1000) (n : List UInt8) :
  ∃ p, Plc oC ⟨n, []⟩ zs p ∧ Calls Tryz.prog 129 #[v, .agg #[tx n, .slice none 0 0], .func (.func 79) #[] #[]] w fun e w' =>
   (e = .returned (.tuple #[.int .i64 (p : Nat), .bool (hasL oC ⟨n, []⟩ (zs.map (·.2)))]) ∧ (hasL oC ⟨n, []⟩ (zs.map (·.2)) = true ↔ ∃ hi : p < zs.length, (zs[p]).2.name = n)) ∧ Bw w w' := by
 obtain ⟨a, c, rfl⟩ := hz.rd.len
 obtain ⟨p, hp⟩ := plc_any linC (⟨n, []⟩ : Cli) hi
 have hx : ClR (fun _ _ => True) [tx n, .slice none 0 0] (⟨n, []⟩ : Cli) := ⟨_, rfl, trivial⟩
 refine ⟨p, hp, (findC w a zs.length c zs _ hz.rd rfl (by omega) _ _ ⟨rfl, rfl⟩ 79 e79' (fun z => oC z ⟨n, []⟩) (fun W z hm => cC W (hz.2 z hm).2 hx) p hp.le hp.lo hp.hi).mono ?_⟩
 rintro e w' ⟨hr, b⟩
 have := bsr_of linC hi hp hr
 refine ⟨⟨this.1, this.2.trans ?_⟩, b⟩
 simp only [oC_zero]
def ClX (w : World) (B : Nat) (n : List UInt8) (vs : List Value) (x : Cli) : Prop := ∃ nv, vs = [tx x.name, nv] ∧ (x.name ≠ n → OwnNu w B nv x.packets)
theorem OwnNu.kept {w w' : World} {B : Nat} {v : Value} {l : List Int} {row : Option Nat} (h : OwnNu w B v l) (hg : w.grownBy w' row) (hne : v.ownBlock = none ∨ v.ownBlock ≠ row) : OwnNu w' B v l := by
 obtain ⟨zs, e, h1, h2⟩ := h
 exact ⟨zs, e, h1.kept hg hne, h2⟩
theorem OwnNu.kx {w w' : World} {B : Nat} {v : Value} {l : List Int} (h : OwnNu w B v l) (hg : w.grownBy w' v.ownBlock) : KX 3 w w' := by
 obtain ⟨zs, e, h1, h2⟩ := h
 exact .of_grown h1 hg
theorem OwnNu.fr {w w' : World} {B : Nat} {v : Value} {l : List Int} (h : OwnNu w B v l) (hg : w.grownBy w' v.ownBlock) (hB : B ≤ w.heap.size) : FrT B w w' := by
 obtain ⟨zs, e, h1, h2⟩ := h
 exact .of_grown h1 hg rfl hB
theorem clx_of {w w' : World} {B : Nat} {cv nv : Value} {zs : Zs Cli} {n : List UInt8} {p : Nat} (hz : OwnZ 88 2 (ClR (OwnNu w B)) w B cv zs) (ha : ApT blC w zs) (hp : p < zs.length) (hpn : (zs[p]).2.name = n) (hnv : (zs[p]).1 = [tx n, nv]) (k : KX 3 w w') (hg : w.grownBy w' nv.ownBlock) : OwnZ 88 2 (ClX w' B n) w' B cv zs := by
 refine ⟨(hz.keep (k.kt 88 (by decide))).1, fun z hm => ⟨(hz.2 z hm).1, ?_⟩⟩
 obtain ⟨i, hi, rfl⟩ := List.getElem_of_mem hm
 obtain ⟨nv', h1, h2⟩ := (hz.2 _ hm).2
 refine ⟨nv', h1, fun hne => h2.kept hg ?_⟩
 cases hb : nv'.ownBlock with
 | none => exact .inl rfl
 | some b =>
  refine .inr fun e => ?_
  have b1 : blC (zs[i]).1 = some b := by rw [h1]; exact hb
  have b2 : blC (zs[p]).1 = some b := by rw [hnv]; exact e.symm
  have hr := List.pairwise_iff_getElem.1 ha.1
  rcases Nat.lt_trichotomy i p with h | h | h
  ·exact hr i p hi hp h b b1 b2
  ·subst h
   exact hne hpn
  ·exact hr p i hp hi h b b2 b1
theorem clx_new {w w' : World} {B : Nat} {cv : Value} {zs : Zs Cli} {n : List UInt8} (hz : OwnZ 88 2 (ClR (OwnNu w B)) w B cv zs) (k : KX 3 w w') (hg : w.grownBy w' none) : OwnZ 88 2 (ClX w' B n) w' B cv zs := by
 refine ⟨(hz.keep (k.kt 88 (by decide))).1, fun z hm => ⟨(hz.2 z hm).1, ?_⟩⟩
 obtain ⟨nv', h1, h2⟩ := (hz.2 _ hm).2
 refine ⟨nv', h1, fun hne => h2.kept hg ?_⟩
 cases hb : nv'.ownBlock with
 | none => exact .inl rfl
 | some b => exact .inr (by simp)
theorem enCs (w : World) (B : Nat) (hB : B ≤ w.heap.size) (v : Value) (zs : Zs Cli) (n : List UInt8) (hz : OwnZ 88 2 (ClX w B n) w B v zs) (hi : Inc oC (zs.map (·.2))) (hn : zs.length ≤ 1000) (nv : Value) (ps : List Int) (hnv : OwnNu w B nv ps) :
  Calls Tryz.prog 193 #[v, .agg #[tx n, nv], .func (.func 79) #[] #[], .int .i64 16] w fun e w' => EnA OCw oC 16 w B v ⟨n, ps⟩ (zs.map (·.2)) e w' := by
 obtain ⟨a, c, rfl⟩ := hz.rd.len
 obtain ⟨p, hp⟩ := plc_any linC (⟨n, ps⟩ : Cli) hi
 obtain ⟨na, nc, en⟩ := hnv.shape
 refine (enC w B hB a zs.length c zs _ hz rfl hn (tx n) nv ⟨rfl, by rw [en]; rfl⟩ 79 e79' (fun z => oC z ⟨n, ps⟩) (fun W z hm => ?_) p hp.le hp.lo hp.hi ⟨n, ps⟩ ⟨nv, rfl, fun h => absurd rfl h⟩ 16).mono ?_
 ·obtain ⟨nv', h1, _⟩ := (hz.2 z hm).2
  exact cC (p := fun _ _ => True) (p' := fun _ _ => True) W ⟨nv', h1, trivial⟩ ⟨nv, rfl, trivial⟩
 intro e w' hr
 rcases enr_of linC hi hp hr with ⟨v', h3, h4, h5, h6⟩ | h3
 ·have kt : ∀ t, t ≠ 88 → Kt t w w' := fun t ht => .of_grown hz.1 h6 ht
  rw [enL_map Prod.snd] at h3
  refine .inl ⟨v', h3, h4, ⟨_, enL_map Prod.snd _ zs, h5.1, fun z hm => ⟨(h5.2 z hm).1, ?_⟩⟩, h6⟩
  rcases mem_enL.1 hm with rfl | ⟨h7, h8⟩
  ·exact ⟨nv, rfl, hnv.keep (kt _ (by decide))⟩
  ·obtain ⟨nv', h9, h10⟩ := (hz.2 z h7).2
   exact ⟨nv', h9, (h10 (fun e => h8 (oC_zero.2 e))).keep (kt _ (by decide))⟩
 ·exact .inr h3
structure TA (w : World) (B g : Nat) (c : Cor) (os : List Ot) (qv bv sv kv cv ov : Value) (zs : Zs Cli) : Prop where
 t : Tv w B g c os qv bv sv kv cv ov
 e : zs.map (·.2) = c.clients
 z : OwnZ 88 2 (ClR (OwnNu w B)) w B cv zs
 a : ApT blC w zs
theorem TA.kx {e : TypeId} {w w' : World} {B g : Nat} {c : Cor} {os : List Ot} {qv bv sv kv cv ov : Value} {zs : Zs Cli} (h : TA w B g c os qv bv sv kv cv ov zs) (k : KX e w w') (he : (tyT e = false ∧ 131 ≠ e) ∧ (133 ≠ e ∧ 66 ≠ e)) : TA w' B g c os qv bv sv kv cv ov zs := by
 have hne : ∀ t, tyT t = true → t ≠ e := fun t ht e1 => by rw [e1, he.1.1] at ht; cases ht
 refine ⟨h.t.kx k he, h.e, (h.z.keep (k.kt _ (hne _ rfl))).imp ?_, h.a.on k.size⟩
 rintro ys x ⟨pv, h3, h4⟩
 exact ⟨pv, h3, h4.keep (k.kt _ (hne _ rfl))⟩
theorem TA.on {w w' : World} {B g : Nat} {c : Cor} {os : List Ot} {qv bv sv kv cv ov : Value} {zs : Zs Cli} (h : TA w B g c os qv bv sv kv cv ov zs) (hb : Bw w w') : TA w' B g c os qv bv sv kv cv ov zs := h.kx (e := 0) (.of_below hb) (by decide)
theorem TA.drew {w : World} {B g : Nat} {c : Cor} {os : List Ot} {qv bv sv kv cv ov : Value} {zs : Zs Cli} (h : TA w B g c os qv bv sv kv cv ov zs) : TA w.drew B g c os qv bv sv kv cv ov zs := h.kx (e := 0) .drew (by decide)
structure Tw (w : World) (B g : Nat) (c : Cor) (os : List Ot) (qv bv sv kv cv ov : Value) : Prop where
 blk : Blk w g #[.int .i64 c.now, qv, bv, sv, kv, cv, ov] 77
 low : B ≤ g
 q : OQc w B qv c.queues
 b : OBc w B bv c.binds
 s : OSc w B sv c.subs
 k : OKc w B kv c.kept
 o : OOc w B ov os
theorem Tw.of {w : World} {B g : Nat} {c : Cor} {os : List Ot} {qv bv sv kv cv ov : Value} (h : Tv w B g c os qv bv sv kv cv ov) : Tw w B g c os qv bv sv kv cv ov := ⟨h.blk, h.low, h.q, h.b, h.s, h.k, h.o⟩
theorem Tw.lt {w : World} {B g : Nat} {c : Cor} {os : List Ot} {qv bv sv kv cv ov : Value} (h : Tw w B g c os qv bv sv kv cv ov) : B ≤ w.heap.size := Nat.le_trans h.low (Nat.le_of_lt h.blk.lt)
theorem Tw.kx {e : TypeId} {w w' : World} {B g : Nat} {c : Cor} {os : List Ot} {qv bv sv kv cv ov : Value} (h : Tw w B g c os qv bv sv kv cv ov) (k : KX e w w') (he : ((77 ≠ e ∧ 82 ≠ e) ∧ (131 ≠ e ∧ 133 ≠ e)) ∧ (66 ≠ e ∧ 43 ≠ e) ∧ (85 ≠ e ∧ 33 ≠ e) ∧ 61 ≠ e) : Tw w' B g c os qv bv sv kv cv ov :=
 ⟨h.blk.kt (k.kt _ he.1.1.1), h.low, h.q.kx k ⟨⟨he.1.1.2, he.1.2.1⟩, he.1.2.2, he.2.1.1⟩, h.b.kx k he.2.1.2, h.s.kx k he.2.2.1.1, h.k.kx k ⟨he.2.2.1.2, he.2.1.1⟩, h.o.kx k ⟨he.2.2.2, he.2.1.1⟩⟩
theorem Tw.set_c {w : World} {B g : Nat} {c : Cor} {os : List Ot} {qv bv sv kv cv ov v' : Value} {l : List Cli} (h : Tw w B g c os qv bv sv kv cv ov) (hq : OCw w B v' l) : Tv (w.setCell ⟨g, 5, none⟩ v') B g { c with clients := l } os qv bv sv kv v' ov := by
 have k2 : KX 77 w (w.setCell ⟨g, 5, none⟩ v') := .cell h.blk v'
 exact ⟨by simpa using h.blk.set 5 v', h.low, h.q.kx k2 (by decide), h.b.kx k2 (by decide), h.s.kx k2 (by decide), h.k.kx k2 (by decide), hq.kx k2 (by decide), h.o.kx k2 (by decide)⟩
theorem Tw.with_c {w : World} {B g : Nat} {c : Cor} {os : List Ot} {qv bv sv kv cv ov : Value} {l : List Cli} (h : Tw w B g c os qv bv sv kv cv ov) (hq : OCw w B cv l) : Tv w B g { c with clients := l } os qv bv sv kv cv ov := ⟨h.blk, h.low, h.q, h.b, h.s, h.k, hq, h.o⟩
theorem FrT.cellT {B : Nat} {w : World} {g j : Nat} {cs : Array Value} {e : TypeId} (h : Blk w g cs e) (he : tyT e = true) (hB : B ≤ g) (u : Value) : FrT B w (w.setCell ⟨g, j, none⟩ u) :=
 ⟨(Below.refl B w).setCell (p := ⟨g, j, none⟩) hB u, fun t ht => kt_setCell h (fun e1 => by rw [e1, he] at ht; cases ht) u⟩
theorem ClX.kx {e : TypeId} {w w' : World} {B : Nat} {n : List UInt8} {vs : List Value} {x : Cli} (h : ClX w B n vs x) (k : KX e w w') (he : 3 ≠ e) : ClX w' B n vs x := by
 obtain ⟨nv, h1, h2⟩ := h
 exact ⟨nv, h1, fun hn => (h2 hn).keep (k.kt _ he)⟩
theorem clx_set {w : World} {B gk j : Nat} {cs : Array Value} {cv u : Value} {n : List UInt8} {zs : Zs Cli} (h : OwnZ 88 2 (ClX w B n) w B cv zs) (hk : Blk w gk cs 88) (hne : cv.ownBlock ≠ some gk) : OwnZ 88 2 (ClX (w.setCell ⟨gk, j, none⟩ u) B n) (w.setCell ⟨gk, j, none⟩ u) B cv zs :=
 ⟨h.1.kept (gb_setCell w gk j u) (.inr hne), fun z hm => ⟨(h.2 z hm).1, (h.2 z hm).2.kx (KX.cell hk u) (by decide)⟩⟩
theorem cliP_at {c : Cor} {zs : Zs Cli} (e : zs.map (·.2) = c.clients) (hi : Inc oC c.clients) {p : Nat} (hp : p < zs.length) {n : List UInt8} (hn : (zs[p]).2.name = n) : c.clients.find? (fun q => decide (q.name = n)) = some (zs[p]).2 ∧ cliP c n = (zs[p]).2.packets := by
 have h0 : c.clients.find? (fun q => decide (q.name = n)) = some (zs[p]).2 := by
  have hr := List.pairwise_iff_getElem.1 hi
  have hlp : p < c.clients.length := by rw [← e, List.length_map]; exact hp
  rw [List.find?_eq_some_iff_getElem]
  refine ⟨by simpa using hn, p, hlp, by simp [← e], fun j hj => ?_⟩
  have hlj : j < c.clients.length := by omega
  have h1 := hr j p hlj hlp hj
  simp only [Bool.not_eq_true', decide_eq_false_iff_not]
  intro e2
  have : oC c.clients[j] c.clients[p] = 0 := oC_zero.2 (by rw [e2, ← hn]; simp [← e])
  omega
 refine ⟨h0, ?_⟩
 unfold cliP
 rw [h0]
 rfl
theorem cliP_no {c : Cor} {n : List UInt8} (h : hasL oC ⟨n, []⟩ c.clients = false) : c.clients.find? (fun q => decide (q.name = n)) = none ∧ cliP c n = [] := by
 have h0 : c.clients.find? (fun q => decide (q.name = n)) = none := by
  rw [List.find?_eq_none]
  intro x hx e
  have : hasL oC ⟨n, []⟩ c.clients = true := by
   simp only [hasL, List.any_eq_true, decide_eq_true_eq]
   exact ⟨x, hx, oC_zero.2 (by simpa using e)⟩
  rw [this] at h
  cases h
 refine ⟨h0, ?_⟩
 unfold cliP
 rw [h0]
 rfl
def NewA (w : World) (B g : Nat) (c : Cor) (os : List Ot) (n : List UInt8) (pk : Int) (e : Ending) (w' : World) : Prop :=
 (∃ r, isNewC c n pk = .ok r ∧ e = .returned (.bool r.1) ∧ T w' B g r.2 os ∧ FrT B w w') ∨ (∃ m, isNewC c n pk = .error m ∧ e = .panicked (gup m) ∧ FrT B w w')
theorem new_has {c : Cor} {n : List UInt8} {pk : Int} {ps : List Int} (h0 : cliP c n = ps) (h1 : nameL n = true) (h2 : pktB pk = true) (h3 : hasL cmpZ pk ps = true) : isNewC c n pk = .ok (false, c) := by
 simp [isNewC, ins, h0, h1, h2, h3]
theorem new_full {c : Cor} {n : List UInt8} {pk : Int} {ps : List Int} (h0 : cliP c n = ps) (h1 : nameL n = true) (h2 : pktB pk = true) (h3 : hasL cmpZ pk ps = false) (h4 : enE cmpZ 32 pk ps = .error 34) : isNewC c n pk = .error 34 := by
 simp [isNewC, ins, h0, h1, h2, h3, h4, bnd]
theorem new_room {c : Cor} {n : List UInt8} {pk : Int} {ps ps' : List Int} (h0 : cliP c n = ps) (h1 : nameL n = true) (h2 : pktB pk = true) (h3 : hasL cmpZ pk ps = false) (h4 : enE cmpZ 32 pk ps = .ok ps') (h5 : enE oC 16 ⟨n, ps'⟩ c.clients = .error 34) : isNewC c n pk = .error 34 := by
 simp [isNewC, ins, h0, h1, h2, h3, h4, h5, bnd]
theorem new_ok {c : Cor} {n : List UInt8} {pk : Int} {ps ps' : List Int} {l : List Cli} (h0 : cliP c n = ps) (h1 : nameL n = true) (h2 : pktB pk = true) (h3 : hasL cmpZ pk ps = false) (h4 : enE cmpZ 32 pk ps = .ok ps') (h5 : enE oC 16 ⟨n, ps'⟩ c.clients = .ok l) : isNewC c n pk = .ok (true, { c with clients := l }) := by
 simp [isNewC, ins, h0, h1, h2, h3, h4, h5, bnd]
structure NwI (w X : World) (B g gk : Nat) (c : Cor) (os : List Ot) (qv bv sv kv cv ov v9 : Value) (zs : Zs Cli) (n : List UInt8) (ps : List Int) : Prop where
 t : Tw X B g c os qv bv sv kv cv ov
 z : OwnZ 88 2 (ClX X B n) X B cv zs
 p : OwnNu X B v9 ps
 k : Blk X gk #[tx n, v9] 88
 f : FrT B w X
theorem NwI.drew {w X : World} {B g gk : Nat} {c : Cor} {os : List Ot} {qv bv sv kv cv ov v9 : Value} {zs : Zs Cli} {n : List UInt8} {ps : List Int} (h : NwI w X B g gk c os qv bv sv kv cv ov v9 zs n ps) : NwI w X.drew B g gk c os qv bv sv kv cv ov v9 zs n ps :=
 ⟨h.t.kx (e := 0) .drew (by decide), (h.z.keep ((KX.drew (e := 0)).kt _ (by decide))).imp fun _ _ h => h.kx (e := 0) .drew (by decide), h.p.keep ((KX.drew (e := 0)).kt _ (by decide)), ⟨h.k.h⟩, h.f.drew⟩
theorem nwi_of {w W X : World} {B g gk : Nat} {c : Cor} {os : List Ot} {qv bv sv kv cv ov nv v9 : Value} {zs : Zs Cli} {n : List UInt8} {ps ps' : List Int} (hT : Tv W B g c os qv bv sv kv cv ov) (hf : FrT B w W) (hp : OwnNu W B nv ps) (hg : W.grownBy X nv.ownBlock) (hz : OwnZ 88 2 (ClX X B n) X B cv zs) (hq : OwnNu X B v9 ps') (hk : Blk X gk #[tx n, nv] 88) (hB : B ≤ gk) (hne : cv.ownBlock ≠ some gk) : NwI w (X.setCell ⟨gk, 1, none⟩ v9) B g gk c os qv bv sv kv cv ov v9 zs n ps' := by
 have k0 := hp.kx hg
 have k1 : KX 88 X (X.setCell ⟨gk, 1, none⟩ v9) := .cell hk v9
 exact ⟨((Tw.of hT).kx k0 (by decide)).kx k1 (by decide), clx_set hz hk hne, hq.keep (k1.kt _ (by decide)), by simpa using hk.set 1 v9, (hf.trans (hp.fr hg hT.lt)).trans (.cellT hk rfl hB v9)⟩
set_option maxHeartbeats 4000000 in
theorem isNew_any (w : World) (B g : Nat) (c : Cor) (os : List Ot) (qv bv sv kv cv ov : Value) (zs : Zs Cli) (hT : TA w B g c os qv bv sv kv cv ov zs) (hg : GoodC c) (n : List UInt8) (pk : Int) :
  Calls Tryz.prog 124 #[.pointer (some ⟨g, 0, none⟩), tx n, .int .i64 pk] w fun e w' => NewA w B g c os n pk e w' := by
 have HT : Hid (TA w B g c os qv bv sv kv cv ov zs ∧ GoodC c) := ⟨hT, hg⟩
 clear hT hg
 go_enter Tryz.func124, Tryz.ntmps124
 go_upto_region 1 with fail
 have HS := name_any w n
 go_wp2_with fail
 refine HS.mono ?_
 rintro e wA ⟨rfl, hA⟩
 rw [hA]
 clear hA wA HS
 have HI := insist_any w (nameL n) 31
 go_wp2_with fail
 refine HI.mono ?_
 rintro e wI ⟨hI, hb⟩
 rw [hI]
 clear hI wI HI
 rcases hb with ⟨hb, he⟩ | ⟨hb, he⟩
 rotate_left
 ·subst he
  exact ⟨rfl, .inr ⟨31, by simp [isNewC, ins, hb], rfl, .refl _ _⟩⟩
 subst he
 have H1 : Hid (nameL n = true) := hb
 clear hb
 go_upto_region 2 with fail
 have HS := isPkt_any w pk
 go_wp2_with fail
 refine HS.mono ?_
 rintro e wA ⟨rfl, hA⟩
 rw [hA]
 clear hA wA HS
 have HI := insist_any w (pktB pk) 1
 go_wp2_with fail
 refine HI.mono ?_
 rintro e wI ⟨hI, hb⟩
 rw [hI]
 clear hI wI HI
 rcases hb with ⟨hb, he⟩ | ⟨hb, he⟩
 rotate_left
 ·subst he
  exact ⟨rfl, .inr ⟨1, by simp [isNewC, ins, H1.out, hb], rfl, .refl _ _⟩⟩
 subst he
 have H2 : Hid (pktB pk = true) := hb
 clear hb
 go_wp2_with (refine wpl_fresh rfl (.tmp 7) (.tmp 17) rfl _ _ rfl rfl (by kernel_rfl) rfl (by simp [Value.oneCell']) ?_)
 intro w3 k3 b3 s3
 have HL : Hid (w.heap.size ≤ w.heap.size) := Nat.le_refl _
 have hT3 := HT.out.1.on b3
 have HN : Hid (cv.ownBlock ≠ some w.heap.size) := fun e => by
  have := (World.ownsRow.lt HT.out.1.z.1 _ e).2
  omega
 have HB : Hid (B ≤ w.heap.size) := HT.out.1.t.lt
 obtain ⟨gk, egk⟩ : ∃ x, w.heap.size = x := ⟨_, rfl⟩
 have b3' := b3
 have b3 : Below w.heap.size w w3 := b3
 rw [egk] at k3 HN HB HL b3 ⊢
 have HG : Hid (gk ≠ g) := fun e => by
  have h1 := k3.h
  rw [e, hT3.t.blk.h] at h1
  injection h1 with h1
  injection h1 with _ h1
  cases h1
 have HE : Hid (w.heap.size = gk) := egk
 clear egk s3 HL b3
 go_upto_region 4 with fail
 refine rh (fun W => Blk W g #[.int .i64 c.now, qv, bv, sv, kv, cv, ov] 77 ∧ Blk W gk #[tx n, .slice none 0 0] 88) ?_
 have hS : Blk (World.drew w3) g #[.int .i64 c.now, qv, bv, sv, kv, cv, ov] 77 ∧ Blk (World.drew w3) gk #[tx n, .slice none 0 0] 88 := ⟨⟨hT3.t.blk.h⟩, ⟨k3.h⟩⟩
 have hT4 := hT3.drew
 have hB4 := b3'.drew
 clear hT3 b3' k3
 generalize w3.drew = w4 at *
 obtain ⟨p, hp, HC⟩ := findCs w4 B cv zs _ hT4.z (by rw [hT4.e]; exact HT.out.2.ci) (by have := HT.out.2.cl; have h2 := congrArg List.length hT4.e; rw [List.length_map] at h2; omega) n
 rw [hT4.e] at HC
 obtain ⟨th, eth⟩ : ∃ b, hasL oC ⟨n, []⟩ c.clients = b := ⟨_, rfl⟩
 rw [eth] at HC
 clear hp
 refine tks [0, 1, 2, 3, 4, 5] [.pointer (some ⟨g, 0, none⟩), .pointer (some ⟨g, 0, none⟩), .pointer (some ⟨g, 0, none⟩), .pointer (some ⟨g, 5, none⟩), cv, .agg #[tx n, .slice none 0 0]] 6 ?_ hS ?_
 ·simp only [tkY, tkf]
  refine ⟨.yes ?_, .yes ?_, .yes ?_, .yes ?_, .yes ?_, .yes ?_, trivial⟩
  all_goals
   intro W' hW'
   have := hW'.1.ce 5
   have := hW'.2.ce 0
   have := hW'.2.ce 1
   go_simp
 simp only [tkA, tkf]
 refine ak 6 fun K hK => ?_
 go_simp
 refine HC.mono ?_
 rintro e w5 ⟨⟨rfl, hiff⟩, b5⟩
 have hS5 : Blk w5 g #[.int .i64 c.now, qv, bv, sv, kv, cv, ov] 77 ∧ Blk w5 gk #[tx n, .slice none 0 0] 88 := ⟨hS.1.on b5, hS.2.on b5⟩
 have hT5 := hT4.on b5
 have hB5 := nxt hB4 b5
 clear hT4 hB4 hS b5 HC
 have hS := hS5
 clear hS5
 show K _ _
 refine hK _ _ hS ?_
 clear hK K
 try simp only [tkf]
 refine tks [7, 8, 9, 10, 11] [.tuple #[.int .i64 (p : Nat), .bool th], .int .i64 (p : Nat), .bool th, .int .i64 (p : Nat), .bool th] 0 ?_ hS ?_
 ·simp only [tkY, tkf]
  refine ⟨.yes ?_, .yes ?_, .yes ?_, .yes ?_, .yes ?_, trivial⟩
  all_goals
   intro W' hW'
   go_simp
 simp only [tkA, tkf]
 refine ad ?_
 obtain ⟨ca, cc, ecv⟩ := hT5.z.rd.len
 cases th
 have HP : Hid (cliP c n = []) := (cliP_no eth).2
 have kW := hS.2
 have hW := hT5
 have bW := hB5
 have hnv : OwnNu w5 B (.slice none 0 0) [] := ⟨[], rfl, World.ownsRow_nil .., by simp⟩
 have HCX : Hid (∀ W, Below w5.heap.size w5 W → ∀ W', W.grownBy W' (Value.slice none 0 0).ownBlock → KX 3 W W' → OwnZ 88 2 (ClX W' B n) W' B cv zs) := fun W hb W' hgr hk => clx_new (hW.on hb).z hk hgr
 clear hT5 hB5 hS hiff eth ecv
 obtain ⟨nv, env⟩ : ∃ v, Value.slice none 0 0 = v := ⟨_, rfl⟩
 rw [env] at kW hnv HCX
 clear env
 obtain ⟨ps, eps⟩ : ∃ l : List Int, [] = l := ⟨_, rfl⟩
 rw [eps] at HP hnv
 clear eps
 have c1 : w5.cell? ⟨gk, 1, none⟩ = some nv := kW.cell 1
 have hgd := cliP_good HT.out.2 n
 rw [HP.out] at hgd
 have HD : Hid (((ps.length : Int) ≤ 32) ∧ Inc cmpZ ps) := ⟨hgd.1, hgd.2.2⟩
 clear hgd
 have HC := hasPs w5 B nv ps hnv HD.out.2 (by have := HD.out.1; omega) pk
 rotate_left
 obtain ⟨hpz, hpn⟩ := hiff.1 rfl
 have HP0 := cliP_at hT5.e HT.out.2.ci hpz hpn
 subst ecv
 obtain ⟨b, o, v0, v1, e0, hz1, hR, hone, hcl⟩ := el2_at hT5.z.rd hpz
 obtain ⟨nv, e1, hnv5⟩ := hR
 injection e1 with e1 e2
 injection e2 with e2 _
 have e3 := e2.symm
 subst e3
 subst e1 e0
 rw [hpn] at hz1 hcl
 obtain ⟨ps, eps⟩ : ∃ l : List Int, (zs[p]).2.packets = l := ⟨_, rfl⟩
 rw [eps] at hnv5 HP0
 have HP : Hid (cliP c n = ps) := HP0.2
 have HZ : Hid (∃ hpz : p < zs.length, (zs[p]).2.name = n ∧ (zs[p]).1 = [tx n, nv] ∧ (zs[p]).2.packets = ps) := ⟨hpz, hpn, hz1, eps⟩
 obtain ⟨c0, c1⟩ := hcl w5 (.refl _ _)
 obtain ⟨d0, d1, d2, d3, d4, d5, d6⟩ := hS.1.c7
 have hpi : (p : Int) < (zs.length : Int) := by omega
 have kk := hS.2
 have HH5 : Hid (TA w5 B g c os qv bv sv kv (.slice (some ⟨b, o, none⟩) zs.length cc) ov zs ∧ Below w.heap.size w w5 ∧ OwnNu w5 B nv ps) := ⟨hT5, hB5, hnv5⟩
 have hn1 := hone.2
 clear hT5 hB5 hnv5 hiff eth HP0 hcl hz1 eps hS hpn hone
 go_upto_region 6 with fail
 go_wp2_with (refine wpl_put rfl (.tmp 7) (.tmp 36) rfl gk _ rfl rfl kk (by kernel_rfl) rfl (by simp [show (tx n).oneCell' = true from rfl, hn1]) ?_)
 intro w6 kW g6 s6
 have bW : Below w.heap.size w w6 := HH5.out.2.1.grown g6 HH5.out.2.1.size (fun k hk => by injection hk with hk; have := HE.out; omega)
 have hW := HT.out.1.on bW
 have hnv : OwnNu w6 B nv ps := by
  obtain ⟨nv', e3, h3⟩ := (hW.z.2 _ (List.getElem_mem HZ.out.choose)).2
  rw [HZ.out.choose_spec.2.1] at e3
  injection e3 with _ e3
  injection e3 with e3 _
  rw [HZ.out.choose_spec.2.2, ← e3] at h3
  exact h3
 have HCX : Hid (∀ W, Below w6.heap.size w6 W → ∀ W', W.grownBy W' nv.ownBlock → KX 3 W W' → OwnZ 88 2 (ClX W' B n) W' B (.slice (some ⟨b, o, none⟩) zs.length cc) zs) := fun W hb W' hgr hk => clx_of (hW.on hb).z (hW.on hb).a HZ.out.choose HZ.out.choose_spec.1 HZ.out.choose_spec.2.1 hk hgr
 clear HH5 kk g6 s6 c0 c1 d0 d1 d2 d3 d4 d5 d6 hn1 hpi
 obtain ⟨cv, ecv⟩ : ∃ v, Value.slice (some ⟨b, o, none⟩) zs.length cc = v := ⟨_, rfl⟩
 rw [ecv] at HT HN HCX hW
 clear ecv
 have c1 : w6.cell? ⟨gk, 1, none⟩ = some nv := kW.cell 1
 have hgd := cliP_good HT.out.2 n
 rw [HP.out] at hgd
 have HD : Hid (((ps.length : Int) ≤ 32) ∧ Inc cmpZ ps) := ⟨hgd.1, hgd.2.2⟩
 clear hgd
 have HC := hasPs w6 B nv ps hnv HD.out.2 (by have := HD.out.1; omega) pk
 all_goals
  go_upto_region 7 with fail
  go_wp2_with fail
  refine HC.mono ?_
  rintro e W7 ⟨rfl, b7⟩
  have k7 := kW.on b7
  have T7 := hW.on b7
  have B7 := nxt bW b7
  have N7 := OwnNu.keep hnv (Kt.of_below b7)
  have HCX7 : Hid (∀ W', W7.grownBy W' nv.ownBlock → KX 3 W7 W' → OwnZ 88 2 (ClX W' B n) W' B cv zs) := fun W' hg hk => HCX.out W7 b7 W' hg hk
  clear kW hW bW hnv HC c1 HCX b7
  cases hh : hasL cmpZ pk ps
  rotate_left
  ·have HX : Hid (NewA w B g c os n pk (.returned (.bool false)) W7) := .inl ⟨(false, c), new_has HP.out H1.out H2.out hh, rfl, ⟨_, _, _, _, _, _, T7.t⟩, .of_below B7 HT.out.1.t.lt⟩
   clear T7 B7 N7 k7 hh
   go_wp2_with fail
   go_ret
   exact HX.out
  have HH : Hid (hasL cmpZ pk ps = false) := hh
  clear hh
  go_upto_region 9 with fail
  have c1 : W7.cell? ⟨gk, 1, none⟩ = some nv := k7.cell 1
  have HC := enPs W7 B T7.t.lt nv ps N7 HD.out.2 (by have := HD.out.1; omega) pk
  go_wp2_with fail
  refine HC.mono ?_
  rintro e W9 h9
  rcases h9 with ⟨v9, hen, he, o9, g9⟩ | ⟨hen, he, b9⟩
  rotate_left
  ·subst he
   exact ⟨rfl, .inr ⟨34, new_full HP.out H1.out H2.out HH.out hen, rfl, (FrT.of_below B7 HT.out.1.t.lt).trans (.of_below b9 T7.t.lt)⟩⟩
  subst he
  have HE9 : Hid (enE cmpZ 32 pk ps = .ok (enL cmpZ pk ps)) := hen
  obtain ⟨a9, c9, rfl⟩ := o9.shape
  have k9 := k7.kt ((N7.kx g9).kt 88 (by decide))
  have c9' : W9.cell? ⟨gk, 1, none⟩ = some nv := k9.cell 1
  have f9 := k9.frozen 1
  have h9 := nwi_of (gk := gk) T7.t (FrT.of_below B7 HT.out.1.t.lt) N7 g9 (HCX7.out _ g9 (N7.kx g9)) o9 k9 HB.out HN.out
  generalize (enL cmpZ pk ps).length = ps9 at *
  clear HC c1 T7 B7 N7 k7 hen o9 g9 HCX7 k9
  go_upto_region 10 with fail
  clear c9' f9
  generalize W9.setCell ⟨gk, 1, none⟩ (.slice a9 ps9 c9) = X at *
  refine rh (fun W => Blk W gk #[tx n, .slice a9 ps9 c9] 88) ?_
  have hS : Blk (World.drew X) gk #[tx n, .slice a9 ps9 c9] 88 := ⟨h9.k.h⟩
  have h5 := h9.drew
  clear h9
  generalize X.drew = w5 at *
  refine tks [0, 1, 2, 3, 4, 6] [.pointer (some ⟨g, 0, none⟩), .pointer (some ⟨g, 0, none⟩), .pointer (some ⟨g, 0, none⟩), .pointer (some ⟨g, 0, none⟩), .pointer (some ⟨g, 5, none⟩), .agg #[tx n, .slice a9 ps9 c9]] 6 ?_ hS ?_
  ·simp only [tkY, tkf]
   refine ⟨.yes ?_, .yes ?_, .yes ?_, .yes ?_, .yes ?_, .yes ?_, trivial⟩
   all_goals
    intro W' hW'
    have := hW'.ce 0
    have := hW'.ce 1
    go_simp
  simp only [tkA, tkf]
  refine ak 5 fun K hK => ?_
  have d0 : w5.cell? ⟨g, 5, none⟩ = some cv := h5.t.blk.cell 5
  go_simp
  refine hK _ _ hS ?_
  clear hK K
  try simp only [tkf]
  refine ak 7 fun K hK => ?_
  go_simp
  refine (enCs _ B h5.t.lt cv zs n h5.z (by rw [HT.out.1.e]; exact HT.out.2.ci) (by have := HT.out.2.cl; have h2 := congrArg List.length HT.out.1.e; rw [List.length_map] at h2; omega) _ _ h5.p).mono ?_
  rintro e w6 h6
  rcases h6 with ⟨v6, hen6, he, o6, g6⟩ | ⟨hen6, he, b6⟩
  rotate_left
  ·subst he
   rw [HT.out.1.e] at hen6
   exact ⟨rfl, .inr ⟨34, new_room HP.out H1.out H2.out HH.out HE9.out hen6, rfl, h5.f.trans (.of_below b6 h5.t.lt)⟩⟩
  subst he
  rw [HT.out.1.e] at hen6 o6
  obtain ⟨a6, n6, cc6, rfl⟩ := OwnL.shape o6
  have t6 := h5.t.kx (KX.of_grown h5.z.1 g6) (by decide)
  have hS6 : Blk w6 gk #[tx n, .slice a9 ps9 c9] 88 := hS.grown g6 (fun e => HN.out e.symm)
  have T7 := t6.set_c o6
  have F7 : FrT B w (w6.setCell ⟨g, 5, none⟩ (.slice a6 n6 cc6)) := (h5.f.trans (.of_grown h5.z.1 g6 rfl h5.t.lt)).trans (.cell t6.blk t6.low _)
  have k7 := t6.blk
  clear hS
  have hS := hS6
  clear hS6
  show K _ _
  refine hK _ _ hS ?_
  clear hK K
  try simp only [tkf]
  refine tks [8, 9, 10] [.pointer (some ⟨g, 0, none⟩), .pointer (some ⟨g, 0, none⟩), .pointer (some ⟨g, 5, none⟩)] 1 ?_ hS ?_
  ·simp only [tkY, tkf]
   refine ⟨.yes ?_, .yes ?_, .yes ?_, trivial⟩
   all_goals
    intro W' hW'
    go_simp
  simp only [tkA, tkf]
  refine ak 11 fun K hK => ?_
  go_simp
  have f7 := k7.frozen 5
  have c7 : w6.cell? ⟨g, 5, none⟩ = some cv := k7.cell 5
  go_simp
  refine hK _ _ (hS.setO (fun e => HG.out e) _) ?_
  clear hK K f7 c7
  try simp only [tkf]
  refine ad ?_
  have HX : Hid (NewA w B g c os n pk (.returned (.bool true)) (w6.setCell ⟨g, 5, none⟩ (.slice a6 n6 cc6))) := .inl ⟨(true, _), new_ok HP.out H1.out H2.out HH.out HE9.out hen6, rfl, ⟨_, _, _, _, _, _, T7⟩, F7⟩
  clear T7 F7 k7 hS o6 g6 t6 hen6 h5
  go_wp2_with fail
  go_ret
  exact HX.out
end Go.Proofs.YtnpikgakpmkipabGreatDoor
