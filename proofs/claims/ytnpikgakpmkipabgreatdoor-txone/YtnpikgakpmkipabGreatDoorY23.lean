/- (*turn).subscribe. Conditions: those that each row states. -/
import Derived.Test.YtnpikgakpmkipabGreatDoorY15
import Derived.Test.YtnpikgakpmkipabGreatDoorY03
import Derived.Test.YtnpikgakpmkipabGreatDoorY20
import Derived.Test.YtnpikgakpmkipabGreatDoorY04
import Derived.Test.YtnpikgakpmkipabGreatDoorY22
import Derived.Test.YtnpikgakpmkipabGreatDoorY16
namespace Go.Proofs.YtnpikgakpmkipabGreatDoor
open Go.RowKit Go.Lib
set_option maxRecDepth 100000
set_option linter.unusedSimpArgs false
set_option linter.unusedVariables false
theorem rdq_own {w : World} {B : Nat} {v : Value} {l : List Que} (h : OQc w B v l) : RdL 7 (QuR (RdQ w)) w v l := by
 obtain ⟨zs, e, hz⟩ := h
 exact ⟨zs, e, hz.rd.imp fun _ _ h => OwnQ.rd h⟩
set_option maxHeartbeats 4000000 in
theorem subscribe_op (w : World) (B g : Nat) (c : Cor) (os : List Ot) (hT : T w B g c os) (hg : GoodC c) (hV : VB B w) (o : Opr) (pv : Value) (hp : pv.oneCell' = true) :
  Calls Tryz.prog 53 #[.pointer (some ⟨g, 0, none⟩), opV o pv] w fun e w' => Led w B g os (noO (subscribeC c o)) e w' := by
 obtain ⟨qv, bv, sv, kv, cv, ov, hT⟩ := hT
 have b0 := (Below.refl w.heap.size w).alloc (Nat.le_refl _) (.cells (opA o pv) 35)
 have hO := Blk.new w (opA o pv) 35
 have hT1 := hT.on b0
 have hF1 : FrT B w (w.alloc (.cells (opA o pv) 35)) := .of_below b0 hT.lt
 unfold opV
 go_enter Tryz.func53, Tryz.ntmps53
 go_upto_region 1 with fail
 generalize w.alloc (.cells (opA o pv) 35) = w1 at *
 obtain ⟨gx, egx⟩ : ∃ g, w.heap.size = g := ⟨_, rfl⟩
 rw [egx] at hO ⊢
 clear egx b0 hT
 have d1 : w1.cell? ⟨gx, 1, none⟩ = some (.int .i64 o.conn) := hO.cell 1
 have d2 : w1.cell? ⟨gx, 2, none⟩ = some (.int .i64 o.sub) := hO.cell 2
 have d3 : w1.cell? ⟨gx, 3, none⟩ = some (.int .i64 o.n) := hO.cell 3
 have HT1 : Hid (Tv w1 B g c os qv bv sv kv cv ov ∧ FrT B w w1 ∧ Blk w1 gx (opA o pv) 35) := ⟨hT1, hF1, hO⟩
 have HS := isSub_any w1 o.conn o.sub
 have HW := isWin_any w1 o.n
 clear hT1 hF1 hO
 rcases Bool.eq_false_or_eq_true (subB o.conn o.sub) with hsb | hsb
 rotate_left
 ·rw [hsb] at HS
  go_wp2_with fail
  refine HS.mono ?_
  rintro e wA ⟨rfl, hA⟩
  rw [hA]
  clear hA wA HS HW
  have HI := insist_no w1 1
  go_wp2_with fail
  refine HI.mono ?_
  rintro e wA ⟨rfl, hA⟩
  rw [hA]
  exact ⟨rfl, .inr ⟨1, by simp [subscribeC, noO, bnd, ins, hsb], rfl, HT1.out.2.1⟩⟩
 rw [hsb] at HS
 go_wp2_with fail
 refine HS.mono ?_
 rintro e wA ⟨rfl, hA⟩
 rw [hA]
 clear hA wA HS
 go_wp2_with fail
 refine HW.mono ?_
 rintro e wA ⟨rfl, hA⟩
 rw [hA]
 clear hA wA HW
 have HI := insist_any w1 (winB o.n) 1
 go_wp2_with fail
 refine HI.mono ?_
 rintro e wI ⟨hI, hb⟩
 rw [hI]
 clear hI wI HI
 rcases hb with ⟨hb, he⟩ | ⟨hb, he⟩
 rotate_left
 ·subst he
  exact ⟨rfl, .inr ⟨1, by simp [subscribeC, noO, bnd, ins, hb], rfl, HT1.out.2.1⟩⟩
 subst he
 have hb : (subB o.conn o.sub && winB o.n) = true := by rw [hsb, hb]; rfl
 clear d1 d2 d3
 obtain ⟨hT2, hF2, hO⟩ := HT1.out
 clear HT1
 go_upto_region 2 with fail
 refine rh (fun W => Blk W g #[.int .i64 c.now, qv, bv, sv, kv, cv, ov] 77 ∧ Blk W gx (opA o pv) 35) ?_
 have hS : Blk (World.drew w1) g #[.int .i64 c.now, qv, bv, sv, kv, cv, ov] 77 ∧ Blk (World.drew w1) gx (opA o pv) 35 := ⟨⟨hT2.blk.h⟩, ⟨hO.h⟩⟩
 have hT3 := hT2.drew
 have hF3 := hF2.drew
 clear hT2 hF2
 clear hO
 generalize w1.drew = w3 at *
 refine tks [0, 1, 2, 3, 4, 5] [.pointer (some ⟨g, 0, none⟩), .pointer (some ⟨g, 0, none⟩), .pointer (some ⟨g, 0, none⟩), .agg #[.int .i64 c.now, qv, bv, sv, kv, cv], .pointer (some ⟨gx, 4, none⟩), tx o.queue] 2 ?_ hS ?_
 ·simp only [tkY, tkf]
  refine ⟨.yes ?_, .yes ?_, .yes ?_, .yes ?_, .yes ?_, .yes ?_, trivial⟩
  all_goals
   intro W' hW'
   have := hW'.1.ce 0
   have := hW'.1.ce 1
   have := hW'.1.ce 2
   have := hW'.1.ce 3
   have := hW'.1.ce 4
   have := hW'.1.ce 5
   have := hW'.2.ce 4
   go_simp
 simp only [tkA, tkf]
 refine ak 6 fun K hK => ?_
 go_simp
 refine (hasQueue_any _ c qv bv sv kv cv (rdq_own hT3.q) ((risB_inc linQ _).2 hg.qi) (by have := hg.ql; omega) o.queue).mono ?_
 rintro e w4 ⟨rfl, b4⟩
 have hS4 : Blk w4 g #[.int .i64 c.now, qv, bv, sv, kv, cv, ov] 77 ∧ Blk w4 gx (opA o pv) 35 := ⟨hS.1.on b4, hS.2.on b4⟩
 have hT4 := hT3.on b4
 have hF4 := hF3.trans (.of_below b4 hT3.lt)
 clear hT3 hF3 hS b4
 have hS := hS4
 clear hS4
 show K _ _
 refine hK _ _ hS ?_
 clear hK K
 try simp only [tkf]
 refine ak 7 fun K hK => ?_
 go_simp
 refine (insist_any _ _ 33).mono ?_
 rintro e wI ⟨hI, hb0⟩
 rcases hb0 with ⟨hb2, he⟩ | ⟨hb2, he⟩
 rotate_left
 ·subst he
  rw [hI]
  exact ⟨rfl, .inr ⟨33, by simp [subscribeC, noO, bnd, ins, hb, hb2], rfl, hF4⟩⟩
 subst he
 show K _ _
 rw [hI]
 refine hK _ _ hS ?_
 clear hK K hI wI
 try simp only [tkf]
 refine ad ?_
 go_upto_region 3 with fail
 have HX : Hid (Tv w4 B g c os qv bv sv kv cv ov ∧ FrT B w w4 ∧ Blk w4 gx (opA o pv) 35) := ⟨hT4, hF4, hS.2⟩
 obtain ⟨d0, d1, d2, d3, d4, d5, d6, d7, d8, d9, d10, d11, d12, d13⟩ := hS.2.c14
 clear hT4 hF4 hS
 go_wp2_with (refine wpl_fresh rfl (.tmp 4) (.tmp 34) rfl _ _ rfl rfl (by kernel_rfl) rfl (by simp [Value.oneCell']) ?_)
 intro W5 k5 b5 s5
 clear d0 d1 d2 d3 d4 d5 d6 d7 d8 d9 d10 d11 d12 d13
 obtain ⟨hT4, hF4, hO4⟩ := HX.out
 have hT2 := hT4.on b5
 have hF2 := hF4.trans (.of_below b5 hT4.lt)
 have hO5 := hO4.on b5
 have HN : Hid (some w4.heap.size ≠ sv.ownBlock) := fun e => by
  obtain ⟨zs, _, hz⟩ := hT4.s
  have := (World.ownsRow.lt hz.1 _ e.symm).2
  omega
 have HG : Hid (w4.heap.size ≠ g) := fun e => by have := hT4.blk.lt; omega
 clear HX hT4 hF4 hO4 b5 s5
 obtain ⟨gb, egb⟩ : ∃ g, w4.heap.size = g := ⟨_, rfl⟩
 rw [egb] at k5 HN HG ⊢
 clear egb
 go_upto_region 4 with fail
 refine rh (fun W => (Blk W g #[.int .i64 c.now, qv, bv, sv, kv, cv, ov] 77 ∧ Blk W gx (opA o pv) 35) ∧ Blk W gb #[.int .i64 o.conn, .int .i64 o.sub, tx o.queue, .int .i64 o.n, .bool o.auto] 85) ?_
 have hS : (Blk (World.drew W5) g #[.int .i64 c.now, qv, bv, sv, kv, cv, ov] 77 ∧ Blk (World.drew W5) gx (opA o pv) 35) ∧ Blk (World.drew W5) gb #[.int .i64 o.conn, .int .i64 o.sub, tx o.queue, .int .i64 o.n, .bool o.auto] 85 := ⟨⟨⟨hT2.blk.h⟩, ⟨hO5.h⟩⟩, ⟨k5.h⟩⟩
 have hT3 := hT2.drew
 have hF3 := hF2.drew
 clear hT2 hF2
 clear hO5 k5
 generalize W5.drew = w5 at *
 refine tks [0, 1, 2, 3, 4, 5] [.pointer (some ⟨g, 0, none⟩), .pointer (some ⟨g, 0, none⟩), .pointer (some ⟨g, 0, none⟩), .pointer (some ⟨g, 3, none⟩), sv, .agg #[.int .i64 o.conn, .int .i64 o.sub, tx o.queue, .int .i64 o.n, .bool o.auto]] 3 ?_ hS ?_
 ·simp only [tkY, tkf]
  refine ⟨.yes ?_, .yes ?_, .yes ?_, .yes ?_, .yes ?_, .yes ?_, trivial⟩
  all_goals
   intro W' hW'
   have := hW'.1.1.ce 3
   have := hW'.2.ce 0
   have := hW'.2.ce 1
   have := hW'.2.ce 2
   have := hW'.2.ce 3
   have := hW'.2.ce 4
   go_simp
 simp only [tkA, tkf]
 refine ak 6 fun K hK => ?_
 go_simp
 refine (hasSs _ B sv c.subs hT3.s hg.si (by have := hg.sl; omega) ⟨o.conn, o.sub, o.queue, o.n, o.auto⟩).mono ?_
 rintro e w4 ⟨rfl, b4⟩
 have hS4 : (Blk w4 g #[.int .i64 c.now, qv, bv, sv, kv, cv, ov] 77 ∧ Blk w4 gx (opA o pv) 35) ∧ Blk w4 gb #[.int .i64 o.conn, .int .i64 o.sub, tx o.queue, .int .i64 o.n, .bool o.auto] 85 := ⟨⟨hS.1.1.on b4, hS.1.2.on b4⟩, hS.2.on b4⟩
 have hT4 := hT3.on b4
 have hF4 := hF3.trans (.of_below b4 hT3.lt)
 clear hT3 hF3 hS b4
 have hS := hS4
 clear hS4
 show K _ _
 refine hK _ _ hS ?_
 clear hK K
 try simp only [tkf]
 refine tks [7] [.bool (!hasL oS ⟨o.conn, o.sub, o.queue, o.n, o.auto⟩ c.subs)] 1 ?_ hS ?_
 ·simp only [tkY, tkf]
  refine ⟨.yes ?_, trivial⟩
  all_goals
   intro W' hW'
   go_simp
 simp only [tkA, tkf]
 refine ak 8 fun K hK => ?_
 go_simp
 refine (insist_any _ _ 32).mono ?_
 rintro e wI ⟨hI, hb0⟩
 rcases hb0 with ⟨hb3, he⟩ | ⟨hb3, he⟩
 rotate_left
 ·subst he
  rw [hI]
  exact ⟨rfl, .inr ⟨32, by simp [subscribeC, noO, bnd, ins, hb, hb2, hb3], rfl, hF4⟩⟩
 subst he
 show K _ _
 rw [hI]
 refine hK _ _ hS ?_
 clear hK K hI wI
 try simp only [tkf]
 refine ad ?_
 have hT2 := hT4
 have hF2 := hF4
 have k9 := hS.2
 clear hT4 hF4 hS
 go_upto_region 5 with fail
 refine rh (fun W => Blk W gb #[.int .i64 o.conn, .int .i64 o.sub, tx o.queue, .int .i64 o.n, .bool o.auto] 85) ?_
 have hS : Blk (World.drew w4) gb #[.int .i64 o.conn, .int .i64 o.sub, tx o.queue, .int .i64 o.n, .bool o.auto] 85 := ⟨k9.h⟩
 have hT3 := hT2.drew
 have hF3 := hF2.drew
 clear hT2 hF2
 clear k9
 generalize w4.drew = w5 at *
 refine tks [0, 1, 2, 3, 4, 6] [.pointer (some ⟨g, 0, none⟩), .pointer (some ⟨g, 0, none⟩), .pointer (some ⟨g, 0, none⟩), .pointer (some ⟨g, 0, none⟩), .pointer (some ⟨g, 3, none⟩), .agg #[.int .i64 o.conn, .int .i64 o.sub, tx o.queue, .int .i64 o.n, .bool o.auto]] 6 ?_ hS ?_
 ·simp only [tkY, tkf]
  refine ⟨.yes ?_, .yes ?_, .yes ?_, .yes ?_, .yes ?_, .yes ?_, trivial⟩
  all_goals
   intro W' hW'
   have := hW'.ce 0
   have := hW'.ce 1
   have := hW'.ce 2
   have := hW'.ce 3
   have := hW'.ce 4
   go_simp
 simp only [tkA, tkf]
 refine ak 5 fun K hK => ?_
 have d0 : w5.cell? ⟨g, 3, none⟩ = some sv := hT3.blk.cell 3
 go_simp
 refine hK _ _ hS ?_
 clear hK K
 try simp only [tkf]
 refine ak 7 fun K hK => ?_
 go_simp
 refine (enSs _ B hT3.lt sv c.subs hT3.s hg.si (by have := hg.sl; omega) ⟨o.conn, o.sub, o.queue, o.n, o.auto⟩).mono ?_
 rintro e w6 h6
 rcases h6 with ⟨v6, hen, he, o6, g6⟩ | ⟨hen, he, b6⟩
 rotate_left
 ·subst he
  exact ⟨rfl, .inr ⟨34, by simp only [subscribeC, ins, hb, hb2, hb3, if_true, hen, bnd, noO], rfl, hF3.trans (.of_below b6 hT3.lt)⟩⟩
 subst he
 obtain ⟨a6, n6, cc6, rfl⟩ := OwnL.shape o6
 obtain ⟨T7, F7, k7⟩ := hT3.row_s g6 o6
 have hS6 : Blk w6 gb #[.int .i64 o.conn, .int .i64 o.sub, tx o.queue, .int .i64 o.n, .bool o.auto] 85 := hS.grown g6 HN.out
 clear hS
 have hS := hS6
 clear hS6
 show K _ _
 refine hK _ _ hS ?_
 clear hK K
 try simp only [tkf]
 refine tks [8, 9, 10] [.pointer (some ⟨g, 0, none⟩), .pointer (some ⟨g, 0, none⟩), .pointer (some ⟨g, 3, none⟩)] 1 ?_ hS ?_
 ·simp only [tkY, tkf]
  refine ⟨.yes ?_, .yes ?_, .yes ?_, trivial⟩
  all_goals
   intro W' hW'
   go_simp
 simp only [tkA, tkf]
 refine ak 11 fun K hK => ?_
 go_simp
 have f7 := k7.frozen 3
 have c7 : w6.cell? ⟨g, 3, none⟩ = some sv := k7.cell 3
 go_simp
 refine hK _ _ (hS.setO (fun e => HG.out e) _) ?_
 clear hK K f7 c7
 try simp only [tkf]
 refine ad ?_
 go_end0
 exact led_ok (c := { c with subs := enL oS ⟨o.conn, o.sub, o.queue, o.n, o.auto⟩ c.subs }) (by simp only [subscribeC, ins, hb, hb2, hb3, if_true, hen, bnd]) ⟨_, _, _, _, _, _, T7⟩ (hF3.trans F7)
def RouA (w : World) (B g : Nat) (c : Cor) (os : List Ot) (o : Opr) (e : Ending) (w' : World) : Prop :=
 FrT B w w' ∧ T w' B g c os ∧ ((∃ (ff : Nat) (lb : Array Value), (∀ args w, (callFunc ff args).run Tryz.prog w = .ok (.enter ff args) w) ∧ (o.queue = [] ∨ hasNm c.queues o.queue = true) ∧ e = .returned (.func (.func ff) #[] lb) ∧
  ∀ W l v q, T W B g { c with queues := l } os → FrT B w' W → RdQ W v q → Calls Tryz.prog ff (#[v] ++ lb) W fun e W' => e = .returned (.bool (meantB c o q)) ∧ Bw W W') ∨ (e = .panicked (gup 33) ∧ ¬ o.queue = [] ∧ hasNm c.queues o.queue = false))
set_option maxHeartbeats 4000000 in
theorem route_any (w : World) (B g : Nat) (c : Cor) (os : List Ot) (hT : T w B g c os) (hg : GoodC c) (hV : VB B w) (o : Opr) (pv : Value) (hp : pv.oneCell' = true) :
  Calls Tryz.prog 126 #[.pointer (some ⟨g, 0, none⟩), opV o pv] w fun e w' => RouA w B g c os o e w' := by
 obtain ⟨qv, bv, sv, kv, cv, ov, hT⟩ := hT
 have b0 : Bw w ((w.alloc (.cells #[.pointer (some ⟨g, 0, none⟩)] 75)).alloc (.cells (opA o pv) 35)) := ((Below.refl _ w).alloc (Nat.le_refl _) _).alloc (by simp) _
 have kP := (Blk.new w #[.pointer (some ⟨g, 0, none⟩)] 75).alloc (.cells (opA o pv) 35)
 have kO := Blk.new (w.alloc (.cells #[.pointer (some ⟨g, 0, none⟩)] 75)) (opA o pv) 35
 rw [World.size_alloc] at kO
 have hT1 := hT.on b0
 have hF1 : FrT B w ((w.alloc (.cells #[.pointer (some ⟨g, 0, none⟩)] 75)).alloc (.cells (opA o pv) 35)) := .of_below b0 hT.lt
 unfold opV
 go_enter Tryz.func126, Tryz.ntmps126
 go_upto_region 1 with fail
 generalize (w.alloc (.cells #[.pointer (some ⟨g, 0, none⟩)] 75)).alloc (.cells (opA o pv) 35) = w1 at *
 obtain ⟨gp, egp⟩ : ∃ x, w.heap.size = x := ⟨_, rfl⟩
 obtain ⟨gx, egx⟩ : ∃ x, w.heap.size + 1 = x := ⟨_, rfl⟩
 rw [egx] at kO ⊢
 rw [egp] at kP ⊢
 have d4 : w1.cell? ⟨gx, 4, none⟩ = some (tx o.queue) := kO.cell 4
 clear hT b0 egp egx
 by_cases hqn : o.queue = []
 ·have hqe : o.queue.isEmpty = true := by rw [hqn]; rfl
  have HX : Hid (RouA w B g c os o (.returned (.func (.func 196) #[] #[.pointer (some ⟨gp, 0, none⟩), .pointer (some ⟨gx, 0, none⟩)])) w1) := by
   refine ⟨hF1, ⟨_, _, _, _, _, _, hT1⟩, .inl ⟨196, _, e196, .inl hqn, rfl, fun W l v q hTW hFW hRW => ?_⟩⟩
   obtain ⟨q1, b1, s1, k1, c1, o1, hTW⟩ := hTW
   have e1 : meantB c o q = c.binds.any fun b => decide (b.queue = q.name) && mat b.pat o.msg.topic := by
    unfold meantB
    rw [if_neg (by simp [hqn])]
   rw [e1]
   exact rt2_any W (hV.fr (hF1.trans hFW)).now B g { c with queues := l } os q1 b1 s1 k1 c1 o1 hTW (by have := hg.bl; show c.binds.length ≤ 1000; omega) o pv gx gp (kO.kt (hFW.kt _ rfl)) (kP.kt (hFW.kt _ rfl)) v q hRW
  clear hT1 hF1 kP kO hqn
  go_wp2_with fail
  go_ret
  exact HX.out
 ·have hqe : o.queue.isEmpty = false := by cases hm : o.queue with
   | nil => exact absurd hm hqn
   | cons a l => rfl
  go_upto_region 2 with fail
  clear d4
  have hT2 := hT1
  have hF2 := hF1
  clear hT1 hF1
  refine rh (fun W => (Blk W g #[.int .i64 c.now, qv, bv, sv, kv, cv, ov] 77 ∧ Blk W gx (opA o pv) 35) ∧ Blk W gp #[.pointer (some ⟨g, 0, none⟩)] 75) ?_
  have hS : (Blk (World.drew w1) g #[.int .i64 c.now, qv, bv, sv, kv, cv, ov] 77 ∧ Blk (World.drew w1) gx (opA o pv) 35) ∧ Blk (World.drew w1) gp #[.pointer (some ⟨g, 0, none⟩)] 75 := ⟨⟨⟨hT2.blk.h⟩, ⟨kO.h⟩⟩, ⟨kP.h⟩⟩
  have hT3 := hT2.drew
  have hF3 := hF2.drew
  clear hT2 hF2
  clear kO kP
  generalize w1.drew = w3 at *
  refine tks [0, 1, 2, 3, 4, 5] [.pointer (some ⟨g, 0, none⟩), .pointer (some ⟨g, 0, none⟩), .pointer (some ⟨g, 0, none⟩), .agg #[.int .i64 c.now, qv, bv, sv, kv, cv], .pointer (some ⟨gx, 4, none⟩), tx o.queue] 2 ?_ hS ?_
  ·simp only [tkY, tkf]
   refine ⟨.yes ?_, .yes ?_, .yes ?_, .yes ?_, .yes ?_, .yes ?_, trivial⟩
   all_goals
    intro W' hW'
    have := hW'.2.ce 0
    have := hW'.1.1.ce 0
    have := hW'.1.1.ce 1
    have := hW'.1.1.ce 2
    have := hW'.1.1.ce 3
    have := hW'.1.1.ce 4
    have := hW'.1.1.ce 5
    have := hW'.1.2.ce 4
    go_simp
  simp only [tkA, tkf]
  refine ak 6 fun K hK => ?_
  go_simp
  refine (hasQueue_any _ c qv bv sv kv cv (rdq_own hT3.q) ((risB_inc linQ _).2 hg.qi) (by have := hg.ql; omega) o.queue).mono ?_
  rintro e w4 ⟨rfl, b4⟩
  have hS4 : (Blk w4 g #[.int .i64 c.now, qv, bv, sv, kv, cv, ov] 77 ∧ Blk w4 gx (opA o pv) 35) ∧ Blk w4 gp #[.pointer (some ⟨g, 0, none⟩)] 75 := ⟨⟨hS.1.1.on b4, hS.1.2.on b4⟩, hS.2.on b4⟩
  have hT4 := hT3.on b4
  have hF4 := hF3.trans (.of_below b4 hT3.lt)
  clear hT3 hF3 hS b4
  have hS := hS4
  clear hS4
  show K _ _
  refine hK _ _ hS ?_
  clear hK K
  try simp only [tkf]
  refine ak 7 fun K hK => ?_
  go_simp
  refine (insist_any _ _ 33).mono ?_
  rintro e wI ⟨hI, hb⟩
  rcases hb with ⟨hb, he⟩ | ⟨hb, he⟩
  rotate_left
  ·subst he
   rw [hI]
   exact ⟨rfl, hF4, ⟨_, _, _, _, _, _, hT4⟩, .inr ⟨rfl, hqn, hb⟩⟩
  subst he
  show K _ _
  rw [hI]
  refine hK _ _ hS ?_
  clear hK K hI wI
  try simp only [tkf]
  refine ad ?_
  have HX : Hid (RouA w B g c os o (.returned (.func (.func 195) #[] #[.pointer (some ⟨gx, 0, none⟩)])) w4) := by
   refine ⟨hF4, ⟨_, _, _, _, _, _, hT4⟩, .inl ⟨195, _, e195, .inr hb, rfl, fun W l v q hTW hFW hRW => ?_⟩⟩
   have e1 : meantB c o q = decide (q.name = o.queue) := by
    unfold meantB
    rw [if_pos (by simpa using hqn)]
   rw [e1]
   exact rt1_any W o pv gx (hS.1.2.kt (hFW.kt _ rfl)) v q hRW
  clear hT4 hF4 hS
  go_wp2_with fail
  go_ret
  exact HX.out
set_option maxHeartbeats 4000000 in
theorem retain_any (w : World) (B g : Nat) (c : Cor) (os : List Ot) (hT : T w B g c os) (hg : GoodC c) (m : Msg) (pm : Value) (hR : RdP w pm m.props) (hpl : m.props.length ≤ 2513169434916) :
  Calls Tryz.prog 127 #[.pointer (some ⟨g, 0, none⟩), .agg #[tx m.topic, tx m.body, pm, .bool m.dur, .int .i64 m.til]] w fun e w' => Led w B g os (noO (retainC c m)) e w' := by
 obtain ⟨qv, bv, sv, kv, cv, ov, hT⟩ := hT
 have b0 := (Below.refl w.heap.size w).alloc (Nat.le_refl _) (.cells (msA m pm) 33)
 have hO := Blk.new w (msA m pm) 33
 have hT1 := hT.on b0
 have hF1 : FrT B w (w.alloc (.cells (msA m pm) 33)) := .of_below b0 hT.lt
 have HN : Hid (some w.heap.size ≠ kv.ownBlock) := fun e => by
  obtain ⟨zs, _, hz⟩ := hT.k
  have := (World.ownsRow.lt hz.1 _ e.symm).2
  omega
 have HG : Hid (w.heap.size ≠ g) := fun e => by have := hT.blk.lt; omega
 have HPM : Hid (RdP w pm m.props) := hR
 go_enter Tryz.func127, Tryz.ntmps127
 go_upto_region 1 with fail
 generalize w.alloc (.cells (msA m pm) 33) = w1 at *
 have HBB : Hid (Bw w w1) := b0
 obtain ⟨gm, egm⟩ : ∃ x, w.heap.size = x := ⟨_, rfl⟩
 rw [egm] at hO HN HG ⊢
 have d1 : w1.cell? ⟨gm, 1, none⟩ = some (tx m.body) := hO.cell 1
 have HT1 : Hid (Tv w1 B g c os qv bv sv kv cv ov ∧ FrT B w w1 ∧ Blk w1 gm (msA m pm) 33) := ⟨hT1, hF1, hO⟩
 clear b0 hT hT1 hF1 hO egm hR
 by_cases hbd : m.body = []
 ·have hbe : m.body.isEmpty = true := by rw [hbd]; rfl
  have HBD : Hid (m.body = []) := hbd
  clear hbd
  go_upto_region 2 with fail
  clear d1
  obtain ⟨hT2, hF2, hO2⟩ := HT1.out
  refine rh (fun W => Blk W gm (msA m pm) 33) ?_
  have hS : Blk (World.drew w1) gm (msA m pm) 33 := ⟨hO2.h⟩
  have hT3 := hT2.drew
  have hF3 := hF2.drew
  clear hT2 hF2
  have hbb := HBB.out.drew
  clear hO2
  generalize w1.drew = w5 at *
  refine tks [0, 1, 2, 3, 4, 6] [.pointer (some ⟨g, 0, none⟩), .pointer (some ⟨g, 0, none⟩), .pointer (some ⟨g, 0, none⟩), .pointer (some ⟨g, 0, none⟩), .pointer (some ⟨g, 4, none⟩), .agg #[tx m.topic, tx m.body, pm, .bool m.dur, .int .i64 m.til]] 6 ?_ hS ?_
  ·simp only [tkY, tkf]
   refine ⟨.yes ?_, .yes ?_, .yes ?_, .yes ?_, .yes ?_, .yes ?_, trivial⟩
   all_goals
    intro W' hW'
    have := hW'.ce 0
    have := hW'.ce 1
    have := hW'.ce 2
    have := hW'.ce 3
    have := hW'.ce 4
    go_simp
  simp only [tkA, tkf]
  refine ak 5 fun K hK => ?_
  have d0 : w5.cell? ⟨g, 4, none⟩ = some kv := hT3.blk.cell 4
  go_simp
  refine hK _ _ hS ?_
  clear hK K
  try simp only [tkf]
  refine ak 7 fun K hK => ?_
  go_simp
  refine (leMs _ B hT3.lt kv c.kept hT3.k hg.ki (by have := hg.kl; omega) m pm (RdP.on HPM.out hbb)).mono ?_
  rintro e w6 ⟨v6, rfl, o6, g6⟩
  obtain ⟨a6, n6, cc6, rfl⟩ := OwnL.shape o6
  obtain ⟨T7, F7, k7⟩ := hT3.row_k g6 o6
  have hS6 : Blk w6 gm (msA m pm) 33 := hS.grown g6 HN.out
  clear hS
  have hS := hS6
  clear hS6
  show K _ _
  refine hK _ _ hS ?_
  clear hK K
  try simp only [tkf]
  refine tks [8, 9, 10] [.pointer (some ⟨g, 0, none⟩), .pointer (some ⟨g, 0, none⟩), .pointer (some ⟨g, 4, none⟩)] 1 ?_ hS ?_
  ·simp only [tkY, tkf]
   refine ⟨.yes ?_, .yes ?_, .yes ?_, trivial⟩
   all_goals
    intro W' hW'
    go_simp
  simp only [tkA, tkf]
  refine ak 11 fun K hK => ?_
  go_simp
  have f7 := k7.frozen 4
  have c7 : w6.cell? ⟨g, 4, none⟩ = some kv := k7.cell 4
  go_simp
  refine hK _ _ (hS.setO (fun e => HG.out e) _) ?_
  clear hK K f7 c7
  try simp only [tkf]
  refine ad ?_
  go_wp2_with fail
  go_end0
  exact led_ok (c := { c with kept := leL oM m c.kept }) (by unfold retainC; rw [if_pos HBD.out]) ⟨_, _, _, _, _, _, T7⟩ (hF3.trans F7)
 ·have hbe : m.body.isEmpty = false := by cases hm : m.body with
   | nil => exact absurd hm hbd
   | cons a l => rfl
  go_upto_region 3 with fail
  clear d1
  obtain ⟨hT2, hF2, hO2⟩ := HT1.out
  refine wp_region_to (S := fun W => Blk W g #[.int .i64 c.now, qv, bv, sv, kv, cv, ov] 77 ∧ Blk W gm (msA m pm) 33) (z := 12) hmix ?_
  show wpTo _ _ _ _ _ _ _ _ _ (World.drew _)
  have hS : Blk w1.drew g #[.int .i64 c.now, qv, bv, sv, kv, cv, ov] 77 ∧ Blk w1.drew gm (msA m pm) 33 := ⟨⟨hT2.blk.h⟩, ⟨hO2.h⟩⟩
  have hT3 := hT2.drew
  have hF3 := hF2.drew
  have hbb := HBB.out.drew
  clear hT2 hF2 hO2
  generalize w1.drew = w5 at *
  refine wpTo.take (i := 0) (z := 12) (v := .pointer (some ⟨g, 0, none⟩)) rfl (by kernel_rfl) (by kernel_rfl) (by kernel_rfl) (by kernel_rfl) (fun _ _ _ h => h) (.inl ⟨by rfl, fun W' hW' => ?_⟩) hS ?_
  ·skip
   go_simp
  try simp only [tkf]
  refine wpTo.take (i := 1) (z := 12) (v := .pointer (some ⟨g, 0, none⟩)) rfl (by kernel_rfl) (by kernel_rfl) (by kernel_rfl) (by kernel_rfl) (fun _ _ _ h => h) (.inl ⟨by rfl, fun W' hW' => ?_⟩) hS ?_
  ·skip
   go_simp
  try simp only [tkf]
  refine wpTo.take (i := 2) (z := 12) (v := .pointer (some ⟨g, 0, none⟩)) rfl (by kernel_rfl) (by kernel_rfl) (by kernel_rfl) (by kernel_rfl) (fun _ _ _ h => h) (.inl ⟨by rfl, fun W' hW' => ?_⟩) hS ?_
  ·skip
   go_simp
  try simp only [tkf]
  refine wpTo.take (i := 3) (z := 12) (v := .pointer (some ⟨g, 0, none⟩)) rfl (by kernel_rfl) (by kernel_rfl) (by kernel_rfl) (by kernel_rfl) (fun _ _ _ h => h) (.inl ⟨by rfl, fun W' hW' => ?_⟩) hS ?_
  ·skip
   go_simp
  try simp only [tkf]
  refine wpTo.take (i := 4) (z := 12) (v := .pointer (some ⟨g, 4, none⟩)) rfl (by kernel_rfl) (by kernel_rfl) (by kernel_rfl) (by kernel_rfl) (fun _ _ _ h => h) (.inl ⟨by rfl, fun W' hW' => ?_⟩) hS ?_
  ·skip
   go_simp
  try simp only [tkf]
  refine wpTo.take (i := 5) (z := 12) (v := kv) rfl (by kernel_rfl) (by kernel_rfl) (by kernel_rfl) (by kernel_rfl) (fun _ _ _ h => h) (.inl ⟨by rfl, fun W' hW' => ?_⟩) hS ?_
  ·have d0 : W'.cell? ⟨g, 4, none⟩ = some (kv) := hW'.1.cell 4
   go_simp
  try simp only [tkf]
  refine wpTo.take (i := 6) (z := 12) (v := .agg #[tx m.topic, tx m.body, pm, .bool m.dur, .int .i64 m.til]) rfl (by kernel_rfl) (by kernel_rfl) (by kernel_rfl) (by kernel_rfl) (fun _ _ _ h => h) (.inl ⟨by rfl, fun W' hW' => ?_⟩) hS ?_
  ·have d0 : W'.cell? ⟨gm, 0, none⟩ = some (tx m.topic) := hW'.2.cell 0
   have d1 : W'.cell? ⟨gm, 1, none⟩ = some (tx m.body) := hW'.2.cell 1
   have d2 : W'.cell? ⟨gm, 2, none⟩ = some (pm) := hW'.2.cell 2
   have d3 : W'.cell? ⟨gm, 3, none⟩ = some (.bool m.dur) := hW'.2.cell 3
   have d4 : W'.cell? ⟨gm, 4, none⟩ = some (.int .i64 m.til) := hW'.2.cell 4
   go_simp
  try simp only [tkf]
  refine wpTo.one (i := 7) (by kernel_rfl) rfl (by rfl) (fun K hK => ?_)
  go_simp
  refine (copyMsg_any _ m pm (RdP.on HPM.out hbb) hpl).mono ?_
  rintro e w8 ⟨pm2, rfl, o8, b8⟩
  have hS8 : Blk w8 g #[.int .i64 c.now, qv, bv, sv, kv, cv, ov] 77 ∧ Blk w8 gm (msA m pm) 33 := ⟨hS.1.on b8, hS.2.on b8⟩
  have hT8 := hT3.on b8
  have hF8 := hF3.trans (.of_below b8 hT3.lt)
  have p8 := o8.low hT3.lt
  clear hS hT3 hF3 o8 b8 hbb
  have hS := hS8
  clear hS8
  show K _ _
  refine hK _ _ (fun _ => hS) ?_
  clear hK K
  try simp only [tkf]
  refine wpTo.one (i := 8) (by kernel_rfl) rfl (by rfl) (fun K hK => ?_)
  go_simp
  refine (enMs _ B hT8.lt kv c.kept hT8.k hg.ki (by have := hg.kl; omega) m pm2 p8).mono ?_
  rintro e w6 h6
  rcases h6 with ⟨v6, hen, he, o6, g6⟩ | ⟨hen, he, b6⟩
  rotate_left
  ·subst he
   exact ⟨rfl, led_no (by unfold retainC; rw [if_neg hbd, hen]; rfl) (hF8.trans (.of_below b6 hT8.lt))⟩
  subst he
  obtain ⟨a6, n6, cc6, rfl⟩ := OwnL.shape o6
  obtain ⟨T7, F7, k7⟩ := hT8.row_k g6 o6
  have hS6 : Blk w6 g #[.int .i64 c.now, qv, bv, sv, kv, cv, ov] 77 ∧ Blk w6 gm (msA m pm) 33 := ⟨k7, hS.2.grown g6 HN.out⟩
  clear hS
  have hS := hS6
  clear hS6
  show K _ _
  refine hK _ _ (fun _ => hS) ?_
  clear hK K
  try simp only [tkf]
  refine wpTo.one (i := 9) (by kernel_rfl) rfl (by rfl) (fun K hK => ?_)
  skip
  go_simp
  refine hK _ _ (fun _ => hS) ?_
  clear hK K
  try simp only [tkf]
  refine wpTo.one (i := 10) (by kernel_rfl) rfl (by rfl) (fun K hK => ?_)
  skip
  go_simp
  refine hK _ _ (fun _ => hS) ?_
  clear hK K
  try simp only [tkf]
  refine wpTo.one (i := 11) (by kernel_rfl) rfl (by rfl) (fun K hK => ?_)
  skip
  go_simp
  refine hK _ _ (fun _ => hS) ?_
  clear hK K
  try simp only [tkf]
  refine wpTo.one (i := 12) (by kernel_rfl) rfl (by rfl) (fun K hK => ?_)
  go_simp
  have f7 := k7.frozen 4
  have c7 : w6.cell? ⟨g, 4, none⟩ = some kv := k7.cell 4
  go_simp
  show K _ _
  refine hK _ _ (fun h => absurd rfl h) ?_
  clear hK K f7 c7
  try simp only [tkf]
  refine wpTo.done (by kernel_rfl) ?_ _
  go_end0
  exact led_ok (c := { c with kept := enL oM m c.kept }) (by unfold retainC; rw [if_neg hbd, hen]; rfl) ⟨_, _, _, _, _, _, T7⟩ (hF8.trans F7)
theorem pub_none {c : Cor} {o : Opr} (h1 : ¬ o.queue = []) (h2 : hasNm c.queues o.queue = false) : publish2 c o = .error 33 := by
 simp [publish2, ins, h1, h2]
theorem pub_go {c : Cor} {o : Opr} (h : o.queue = [] ∨ hasNm c.queues o.queue = true) : publish2 c o = bnd (pushAll c (meantB c o) o.msg) fun c2 => if o.keep then retainC c2 o.msg else .ok c2 := by
 rcases h with h | h <;> simp [publish2, ins, h]
theorem noO_err {x : Except Int Cor} {n : Int} (h : noO x = .error n) : x = .error n := by
 cases x with
 | error m =>
  injection h with h
  rw [h]
 | ok c => cases h
theorem noO_ok' {x : Except Int Cor} {r : Cor × List Ot} (h : noO x = .ok r) : x = .ok r.1 ∧ r.2 = [] := by
 cases x with
 | error m => cases h
 | ok c =>
  injection h with h
  rw [← h]
  exact ⟨rfl, rfl⟩
set_option maxHeartbeats 4000000 in
theorem publish_op (w : World) (B g : Nat) (c : Cor) (os : List Ot) (qv bv sv kv cv ov : Value) (zs : Zs Cli) (hT : TA w B g c os qv bv sv kv cv ov zs) (hg : GoodC c) (hV : VB B w) (o : Opr) (pv : Value) (hp : pv.oneCell' = true) (hR : ∀ W, Below B w W → RdP W pv o.msg.props) (hpl : o.msg.props.length ≤ 2513169434916) :
  Calls Tryz.prog 50 #[.pointer (some ⟨g, 0, none⟩), opV o pv] w fun e w' => Led w B g os (noO (publishC c o)) e w' := by
 have HGC : Hid (GoodC c ∧ VB B w) := ⟨hg, hV⟩
 have HPO : Hid (pv.oneCell' = true ∧ (∀ W, Below B w W → RdP W pv o.msg.props) ∧ o.msg.props.length ≤ 2513169434916) := ⟨hp, hR, hpl⟩
 clear hg hp hR hpl hV
 have b0 := (Below.refl w.heap.size w).alloc (Nat.le_refl _) (.cells (opA o pv) 35)
 have hO := Blk.new w (opA o pv) 35
 have hT1 := hT.on b0
 have hF1 : FrT B w (w.alloc (.cells (opA o pv) 35)) := .of_below b0 hT.t.lt
 unfold opV
 go_enter Tryz.func50, Tryz.ntmps50
 go_upto_region 1 with fail
 generalize w.alloc (.cells (opA o pv) 35) = w1 at *
 obtain ⟨gx, egx⟩ : ∃ g, w.heap.size = g := ⟨_, rfl⟩
 rw [egx] at hO ⊢
 clear egx b0 hT
 obtain ⟨d0, d1, d2, d3, d4, d5, d6, d7, d8, d9, d10, d11, d12, d13⟩ := hO.c14
 have HT1 : Hid (TA w1 B g c os qv bv sv kv cv ov zs ∧ FrT B w w1 ∧ Blk w1 gx (opA o pv) 35) := ⟨hT1, hF1, hO⟩
 have HS := message_any w1 (HGC.out.2.fr hF1).now o.msg pv (HPO.out.2.1 _ hF1.below)
 unfold msgV at HS
 clear hT1 hF1 hO
 go_wp2_with fail
 refine HS.mono ?_
 rintro e w2 ⟨rfl, b2⟩
 have HT2 : Hid (TA w2 B g c os qv bv sv kv cv ov zs ∧ FrT B w w2 ∧ Blk w2 gx (opA o pv) 35) := ⟨HT1.out.1.on b2, HT1.out.2.1.trans (.of_below b2 HT1.out.1.t.lt), HT1.out.2.2.on b2⟩
 clear HT1 HS b2 d0 d1 d2 d3 d4 d5 d6 d7 d8 d9 d10 d11 d12 d13 w1
 have HI := insist_any w2 (msgB o.msg) 36
 go_wp2_with fail
 refine HI.mono ?_
 rintro e wI ⟨hI, hb⟩
 rw [hI]
 clear hI wI HI
 rcases hb with ⟨hb, he⟩ | ⟨hb, he⟩
 rotate_left
 ·subst he
  exact ⟨rfl, .inr ⟨36, by simp [publishC, noO, bnd, ins, hb], rfl, HT2.out.2.1⟩⟩
 subst he
 have H1 : Hid (msgB o.msg = true) := hb
 clear hb
 have d5 : w2.cell? ⟨gx, 5, none⟩ = some (tx o.text) := HT2.out.2.2.cell 5
 have d3 : w2.cell? ⟨gx, 3, none⟩ = some (.int .i64 o.n) := HT2.out.2.2.cell 3
 by_cases hqn : o.text = []
 ·have hqe : o.text.isEmpty = true := by rw [hqn]; rfl
  have HX : Hid (publishC c o = publish2 c o) := by
   show publishC c o = _
   simp [publishC, ins, H1.out, hqn]
  have H2 : Hid (T w2 B g c os ∧ FrT B w w2 ∧ Blk w2 gx (opA o pv) 35 ∧ GoodC c) := ⟨⟨_, _, _, _, _, _, HT2.out.1.t⟩, HT2.out.2.1, HT2.out.2.2, HGC.out.1⟩
  clear HT2 hqn
  go_upto_region 3 with fail
  refine rh (fun W => Blk W gx (opA o pv) 35) ?_
  have hS : Blk (World.drew w2) gx (opA o pv) 35 := ⟨H2.out.2.2.1.h⟩
  have h5 : T (World.drew w2) B g c os ∧ FrT B w (World.drew w2) ∧ GoodC c := ⟨by obtain ⟨q1, b1, s1, k1, c1, o1, h1⟩ := H2.out.1; exact ⟨_, _, _, _, _, _, h1.drew⟩, H2.out.2.1.drew, H2.out.2.2.2⟩
  clear H2
  generalize World.drew w2 = w5 at *
  refine tks [0, 1, 2, 3, 4] [.pointer (some ⟨g, 0, none⟩), .pointer (some ⟨gx, 9, none⟩), .agg #[tx o.msg.topic, tx o.msg.body, pv, .bool o.msg.dur, .int .i64 o.msg.til], .pointer (some ⟨g, 0, none⟩), .agg #[.int .i64 o.kind, .int .i64 o.conn, .int .i64 o.sub, .int .i64 o.n, tx o.queue, tx o.text, .bool o.dur, .bool o.auto, .bool o.keep, tx o.msg.topic, tx o.msg.body, pv, .bool o.msg.dur, .int .i64 o.msg.til]] 2 ?_ hS ?_
  ·simp only [tkY, tkf]
   refine ⟨.yes ?_, .yes ?_, .yes ?_, .yes ?_, .yes ?_, trivial⟩
   all_goals
    intro W' hW'
    have := hW'.ce 9
    have := hW'.ce 10
    have := hW'.ce 11
    have := hW'.ce 12
    have := hW'.ce 13
    have := hW'.ce 0
    have := hW'.ce 1
    have := hW'.ce 2
    have := hW'.ce 3
    have := hW'.ce 4
    have := hW'.ce 5
    have := hW'.ce 6
    have := hW'.ce 7
    have := hW'.ce 8
    have := hW'.ce 9
    have := hW'.ce 10
    have := hW'.ce 11
    have := hW'.ce 12
    have := hW'.ce 13
    go_simp
  simp only [tkA, tkf]
  refine ak 5 fun K hK => ?_
  go_simp
  refine (route_any _ B g c os h5.1 h5.2.2 (HGC.out.2.fr h5.2.1) o pv HPO.out.1).mono ?_
  rintro e w6 ⟨F6, T6, hr⟩
  rcases hr with ⟨ff, lb, hef, hq, he, hcall⟩ | ⟨he, hq1, hq2⟩
  rotate_left
  ·subst he
   exact ⟨rfl, .inr ⟨33, by rw [HX.out, pub_none hq1 hq2]; rfl, rfl, h5.2.1.trans F6⟩⟩
  subst he
  have HX6 : Hid (publishC c o = bnd (pushAll c (meantB c o) o.msg) fun c2 => if o.keep then retainC c2 o.msg else .ok c2) := by
   show publishC c o = _
   rw [HX.out, pub_go hq]
  have f6 := h5.2.1.trans F6
  have hS6 : Blk w6 gx (opA o pv) 35 := hS.kt (F6.kt _ rfl)
  have HC6 := pushAll_any w6 B g c os T6 h5.2.2 (HGC.out.2.fr f6) o.msg pv HPO.out.1 (fun W hb => HPO.out.2.1 W (f6.below.trans hb)) ff hef lb (meantB c o) hcall
  clear hS hcall HX
  have hS := hS6
  clear hS6
  show K _ _
  refine hK _ _ hS ?_
  clear hK K
  try simp only [tkf]
  refine ak 6 fun K hK => ?_
  go_simp
  refine HC6.mono ?_
  rintro e w7 h7
  rcases h7 with ⟨r, h7, he, T7, F7⟩ | ⟨m, h7, he, F7⟩
  rotate_left
  ·subst he
   exact ⟨rfl, .inr ⟨m, by rw [HX6.out, noO_err h7]; rfl, rfl, f6.trans F7⟩⟩
  subst he
  obtain ⟨h7b, hr2⟩ := noO_ok' h7
  clear h7
  obtain ⟨c3, os3⟩ := r
  simp only at hr2 h7b
  subst hr2
  rw [List.append_nil] at T7
  have H7 : Hid (T w7 B g c3 os ∧ FrT B w w7 ∧ GoodC c3 ∧ publishC c o = if o.keep then retainC c3 o.msg else .ok c3) := ⟨T7, f6.trans F7, (good_pushAll h5.2.2 h7b).1, by rw [HX6.out, h7b]; rfl⟩
  have hS7 : Blk w7 gx (opA o pv) 35 := hS.kt (F7.kt _ rfl)
  clear hS T7 F7 h7b HC6 h5 f6 T6 F6 HX6
  have hS := hS7
  clear hS7
  show K _ _
  refine hK _ _ hS ?_
  clear hK K
  try simp only [tkf]
  refine ad ?_
  have d8 : w7.cell? ⟨gx, 8, none⟩ = some (.bool o.keep) := hS.cell 8
  cases hkp : o.keep
  ·rw [hkp] at d8 H7
   have HX : Hid (Led w B g os (noO (publishC c o)) (.returned (.tuple #[])) w7) := led_ok H7.out.2.2.2 H7.out.1 H7.out.2.1
   clear H7 hS hkp
   go_wp2_with fail
   go_end0
   exact HX.out
  ·rw [hkp] at d8 H7
   have HC8 := retain_any w7 B g c3 os H7.out.1 H7.out.2.2.1 o.msg pv (HPO.out.2.1 _ H7.out.2.1.below) HPO.out.2.2
   obtain ⟨e0, e1, e2, e3, e4, e5, e6, e7, e8, e9, e10, e11, e12, e13⟩ := hS.c14
   clear hS hkp
   go_wp2_with fail
   refine HC8.mono ?_
   rintro e w8 h8
   have h9 : Led w B g os (noO (publishC c o)) e w8 := by
    have hx := H7.out.2.2.2
    first | rw [if_pos rfl] at hx | rw [if_pos trivial] at hx
    rw [hx]
    exact led_on H7.out.2.1 h8
   rcases h9 with ⟨r, h1, he, h3⟩ | ⟨m, h1, he, h3⟩
   ·subst he
    have HX : Hid (Led w B g os (noO (publishC c o)) (.returned (.tuple #[])) w8) := .inl ⟨r, h1, rfl, h3⟩
    clear h1 h3 h8 HC8 H7 e0 e1 e2 e3 e4 e5 e6 e7 e8 e9 e10 e11 e12 e13 d8
    go_wp2_with fail
    go_end0
    exact HX.out
   ·subst he
    exact ⟨rfl, .inr ⟨m, h1, rfl, h3⟩⟩
 ·have hqe : o.text.isEmpty = false := by cases hm : o.text with
   | nil => exact absurd hm hqn
   | cons a l => rfl
  have HC := isNew_any w2 B g c os qv bv sv kv cv ov zs HT2.out.1 HGC.out.1 o.text o.n
  have HQ : Hid (publishC c o = bnd (isNewC c o.text o.n) fun r => if r.1 then publish2 r.2 o else .ok r.2) := by
   show publishC c o = _
   simp [publishC, ins, H1.out, hqn]
  clear hqn
  go_wp2_with fail
  refine HC.mono ?_
  rintro e w4 h4
  rcases h4 with ⟨r, h4, he, T4, F4⟩ | ⟨m, h4, he, F4⟩
  rotate_left
  ·subst he
   exact ⟨rfl, .inr ⟨m, by rw [HQ.out, h4]; rfl, rfl, HT2.out.2.1.trans F4⟩⟩
  subst he
  obtain ⟨bb, c4⟩ := r
  have hx := HQ.out
  rw [h4] at hx
  simp only [bnd] at hx T4
  cases bb
  ·have HX : Hid (Led w B g os (noO (publishC c o)) (.returned (.tuple #[])) w4) := led_ok (by rw [hx]; rfl) T4 (HT2.out.2.1.trans F4)
   clear HC HQ h4 T4 F4 HT2 hx d3 d5
   go_wp2_with fail
   go_end0
   exact HX.out
  ·have HX : Hid (publishC c o = publish2 c4 o) := by
    show publishC c o = _
    rw [hx]
    rfl
   have H2 : Hid (T w4 B g c4 os ∧ FrT B w w4 ∧ Blk w4 gx (opA o pv) 35 ∧ GoodC c4) := ⟨T4, HT2.out.2.1.trans F4, HT2.out.2.2.kt (F4.kt _ rfl), (good_new HGC.out.1 h4).1⟩
   clear HC HQ h4 T4 F4 HT2 hx d3 d5
   go_upto_region 3 with fail
   refine rh (fun W => Blk W gx (opA o pv) 35) ?_
   have hS : Blk (World.drew w4) gx (opA o pv) 35 := ⟨H2.out.2.2.1.h⟩
   have h5 : T (World.drew w4) B g c4 os ∧ FrT B w (World.drew w4) ∧ GoodC c4 := ⟨by obtain ⟨q1, b1, s1, k1, c1, o1, h1⟩ := H2.out.1; exact ⟨_, _, _, _, _, _, h1.drew⟩, H2.out.2.1.drew, H2.out.2.2.2⟩
   clear H2
   generalize World.drew w4 = w5 at *
   refine tks [0, 1, 2, 3, 4] [.pointer (some ⟨g, 0, none⟩), .pointer (some ⟨gx, 9, none⟩), .agg #[tx o.msg.topic, tx o.msg.body, pv, .bool o.msg.dur, .int .i64 o.msg.til], .pointer (some ⟨g, 0, none⟩), .agg #[.int .i64 o.kind, .int .i64 o.conn, .int .i64 o.sub, .int .i64 o.n, tx o.queue, tx o.text, .bool o.dur, .bool o.auto, .bool o.keep, tx o.msg.topic, tx o.msg.body, pv, .bool o.msg.dur, .int .i64 o.msg.til]] 2 ?_ hS ?_
   ·simp only [tkY, tkf]
    refine ⟨.yes ?_, .yes ?_, .yes ?_, .yes ?_, .yes ?_, trivial⟩
    all_goals
     intro W' hW'
     have := hW'.ce 9
     have := hW'.ce 10
     have := hW'.ce 11
     have := hW'.ce 12
     have := hW'.ce 13
     have := hW'.ce 0
     have := hW'.ce 1
     have := hW'.ce 2
     have := hW'.ce 3
     have := hW'.ce 4
     have := hW'.ce 5
     have := hW'.ce 6
     have := hW'.ce 7
     have := hW'.ce 8
     have := hW'.ce 9
     have := hW'.ce 10
     have := hW'.ce 11
     have := hW'.ce 12
     have := hW'.ce 13
     go_simp
   simp only [tkA, tkf]
   refine ak 5 fun K hK => ?_
   go_simp
   refine (route_any _ B g c4 os h5.1 h5.2.2 (HGC.out.2.fr h5.2.1) o pv HPO.out.1).mono ?_
   rintro e w6 ⟨F6, T6, hr⟩
   rcases hr with ⟨ff, lb, hef, hq, he, hcall⟩ | ⟨he, hq1, hq2⟩
   rotate_left
   ·subst he
    exact ⟨rfl, .inr ⟨33, by rw [HX.out, pub_none hq1 hq2]; rfl, rfl, h5.2.1.trans F6⟩⟩
   subst he
   have HX6 : Hid (publishC c o = bnd (pushAll c4 (meantB c4 o) o.msg) fun c2 => if o.keep then retainC c2 o.msg else .ok c2) := by
    show publishC c o = _
    rw [HX.out, pub_go hq]
   have f6 := h5.2.1.trans F6
   have hS6 : Blk w6 gx (opA o pv) 35 := hS.kt (F6.kt _ rfl)
   have HC6 := pushAll_any w6 B g c4 os T6 h5.2.2 (HGC.out.2.fr f6) o.msg pv HPO.out.1 (fun W hb => HPO.out.2.1 W (f6.below.trans hb)) ff hef lb (meantB c4 o) hcall
   clear hS hcall HX
   have hS := hS6
   clear hS6
   show K _ _
   refine hK _ _ hS ?_
   clear hK K
   try simp only [tkf]
   refine ak 6 fun K hK => ?_
   go_simp
   refine HC6.mono ?_
   rintro e w7 h7
   rcases h7 with ⟨r, h7, he, T7, F7⟩ | ⟨m, h7, he, F7⟩
   rotate_left
   ·subst he
    exact ⟨rfl, .inr ⟨m, by rw [HX6.out, noO_err h7]; rfl, rfl, f6.trans F7⟩⟩
   subst he
   obtain ⟨h7b, hr2⟩ := noO_ok' h7
   clear h7
   obtain ⟨c3, os3⟩ := r
   simp only at hr2 h7b
   subst hr2
   rw [List.append_nil] at T7
   have H7 : Hid (T w7 B g c3 os ∧ FrT B w w7 ∧ GoodC c3 ∧ publishC c o = if o.keep then retainC c3 o.msg else .ok c3) := ⟨T7, f6.trans F7, (good_pushAll h5.2.2 h7b).1, by rw [HX6.out, h7b]; rfl⟩
   have hS7 : Blk w7 gx (opA o pv) 35 := hS.kt (F7.kt _ rfl)
   clear hS T7 F7 h7b HC6 h5 f6 T6 F6 HX6
   have hS := hS7
   clear hS7
   show K _ _
   refine hK _ _ hS ?_
   clear hK K
   try simp only [tkf]
   refine ad ?_
   have d8 : w7.cell? ⟨gx, 8, none⟩ = some (.bool o.keep) := hS.cell 8
   cases hkp : o.keep
   ·rw [hkp] at d8 H7
    have HX : Hid (Led w B g os (noO (publishC c o)) (.returned (.tuple #[])) w7) := led_ok H7.out.2.2.2 H7.out.1 H7.out.2.1
    clear H7 hS hkp
    go_wp2_with fail
    go_end0
    exact HX.out
   ·rw [hkp] at d8 H7
    have HC8 := retain_any w7 B g c3 os H7.out.1 H7.out.2.2.1 o.msg pv (HPO.out.2.1 _ H7.out.2.1.below) HPO.out.2.2
    obtain ⟨e0, e1, e2, e3, e4, e5, e6, e7, e8, e9, e10, e11, e12, e13⟩ := hS.c14
    clear hS hkp
    go_wp2_with fail
    refine HC8.mono ?_
    rintro e w8 h8
    have h9 : Led w B g os (noO (publishC c o)) e w8 := by
     have hx := H7.out.2.2.2
     first | rw [if_pos rfl] at hx | rw [if_pos trivial] at hx
     rw [hx]
     exact led_on H7.out.2.1 h8
    rcases h9 with ⟨r, h1, he, h3⟩ | ⟨m, h1, he, h3⟩
    ·subst he
     have HX : Hid (Led w B g os (noO (publishC c o)) (.returned (.tuple #[])) w8) := .inl ⟨r, h1, rfl, h3⟩
     clear h1 h3 h8 HC8 H7 e0 e1 e2 e3 e4 e5 e6 e7 e8 e9 e10 e11 e12 e13 d8
     go_wp2_with fail
     go_end0
     exact HX.out
    ·subst he
     exact ⟨rfl, .inr ⟨m, h1, rfl, h3⟩⟩
theorem set_cells {zs : Zs Cli} {p : Nat} (hk : ∀ z ∈ zs, z.1.length = 2) (hp : p < zs.length) {a nv : Value} (hz : (zs[p]).1 = [a, nv]) (v : Value) (x : Cli) : (cellsZ zs).set (p * 2 + 1) v = cellsZ (zs.set p ([a, v], x)) := by
 have e0 : cellsZ zs = (cellsZ zs).take (p * 2) ++ [a, nv] ++ (cellsZ zs).drop (p * 2 + 2) := by
  have h1 := cellsZ_set (k := 2) hk hp (zs[p])
  rw [List.set_getElem_self, hz] at h1
  exact h1
 have hl : ((cellsZ zs).take (p * 2)).length = p * 2 := by
  rw [List.length_take, cellsZ_len hk]
  omega
 rw [cellsZ_set hk hp]
 generalize (cellsZ zs).take (p * 2) = A at *
 generalize (cellsZ zs).drop (p * 2 + 2) = D at *
 rw [e0, List.append_assoc, List.set_append_right _ _ (by omega), hl]
 simp
theorem cli_row {w : World} {B gc cap : Nat} {zs : Zs Cli} {n : List UInt8} {p : Nat} {nv v : Value} {ps' : List Int} (h : OwnZ 88 2 (ClX w B n) w B (.slice (some ⟨gc, 0, none⟩) zs.length cap) zs) (hp : p < zs.length) (hn : (zs[p]).2.name = n) (hz : (zs[p]).1 = [tx n, nv]) (hu : ∀ i (hi : i < zs.length), i ≠ p → (zs[i]).2.name ≠ n) (hv : OwnNu w B v ps') :
  w.cell? ⟨gc, p * 2 + 1, none⟩ = some nv ∧ w.frozen? ⟨gc, p * 2 + 1, none⟩ = false ∧ OwnZ 88 2 (ClR (OwnNu (w.setCell ⟨gc, p * 2 + 1, none⟩ v) B)) (w.setCell ⟨gc, p * 2 + 1, none⟩ v) B (.slice (some ⟨gc, 0, none⟩) zs.length cap) (zs.set p ([tx n, v], ⟨n, ps'⟩)) ∧ KX 88 w (w.setCell ⟨gc, p * 2 + 1, none⟩ v) := by
 have h1 := World.ownsRow.stored h.1 (p * 2 + 1) v
 obtain ⟨a, c, ev⟩ := hv.shape
 have kx : KX 88 w (w.setCell ⟨gc, p * 2 + 1, none⟩ v) := .of_grown h.1 h1.2
 refine ⟨h.at hp 1 nv (by rw [hz]; rfl), World.ownsRow.frozenAt h.1 _, ⟨?_, fun z hm => ?_⟩, kx⟩
 ·rw [← set_cells (fun z hm => (h.2 z hm).1.1) hp hz v ⟨n, ps'⟩, List.length_set]
  exact h1.1
 ·obtain ⟨i, hi, rfl⟩ := List.getElem_of_mem hm
  rw [List.length_set] at hi
  rw [List.getElem_set]
  split
  ·exact ⟨⟨rfl, by rw [ev]; simp [Value.oneCell']⟩, v, rfl, hv.keep (kx.kt _ (by decide))⟩
  ·rename_i hne
   have h2 := h.2 _ (List.getElem_mem hi)
   obtain ⟨nv', h3, h4⟩ := h2.2
   exact ⟨h2.1, nv', h3, (h4 (hu i hi (fun e => hne e.symm))).keep (kx.kt _ (by decide))⟩
theorem names_ne {l : List Cli} (hl : Inc oC l) {p : Nat} (hp : p < l.length) {i : Nat} (hi : i < l.length) (hne : i ≠ p) : (l[i]).name ≠ (l[p]).name := fun e => by
 have hr := List.pairwise_iff_getElem.1 hl
 rcases Nat.lt_or_gt_of_ne hne with h | h
 ·have h1 := hr i p hi hp h
  rw [oC_zero.2 e] at h1
  omega
 ·have h1 := hr p i hp hi h
  rw [oC_zero.2 e.symm] at h1
  omega
theorem cli_en {l : List Cli} (hl : Inc oC l) {p : Nat} (hp : p < l.length) {q' : Cli} (hn : q'.name = (l[p]).name) : l.set p q' = enL oC q' l := by
 have hr := List.pairwise_iff_getElem.1 hl
 refine en_there linC (x := l[p]) hl (fun i hi hip => hr i p hi hp hip) (fun i hi hpi => ?_) hp (linC.refl _) (oC_zero.2 hn)
 by_cases e : i = p
 ·subst e
  rw [linC.refl]
  omega
 ·have h1 := (linC.anti _ _).1 (hr p i hp hi (by omega))
  omega
theorem cli_le {l : List Cli} {p : Nat} (hp : p < l.length) {q' : Cli} {n : List UInt8} (hn : q'.name = n) (hn2 : (l[p]).name = n) : leL oC ⟨n, []⟩ (l.set p q') = leL oC ⟨n, []⟩ l := by
 have e0 : l = l.take p ++ l[p] :: l.drop (p + 1) := by simp
 have h1 : oC q' ⟨n, []⟩ = 0 := oC_zero.2 hn
 have h2 : oC l[p] ⟨n, []⟩ = 0 := oC_zero.2 hn2
 have e1 := congrArg (List.filter fun y => decide (oC y ⟨n, []⟩ ≠ 0)) e0
 rw [List.filter_append, List.filter_cons_of_neg (by simp [h2])] at e1
 rw [List.set_eq_take_append_cons_drop, if_pos hp]
 show List.filter (fun y => decide (oC y ⟨n, []⟩ ≠ 0)) _ = List.filter (fun y => decide (oC y ⟨n, []⟩ ≠ 0)) _
 rw [List.filter_append, List.filter_cons_of_neg (by simp [h1])]
 exact e1.symm
set_option maxHeartbeats 4000000 in
theorem release_op (w : World) (B g : Nat) (c : Cor) (os : List Ot) (qv bv sv kv cv ov : Value) (zs : Zs Cli) (hT : TA w B g c os qv bv sv kv cv ov zs) (hg : GoodC c) (o : Opr) (pv : Value) (hp : pv.oneCell' = true) :
  Calls Tryz.prog 51 #[.pointer (some ⟨g, 0, none⟩), opV o pv] w fun e w' => Led w B g os (noO (releaseC c o)) e w' := by
 have HGC : Hid (GoodC c) := hg
 have HPO : Hid (pv.oneCell' = true) := hp
 clear hg hp
 have b0 := (Below.refl w.heap.size w).alloc (Nat.le_refl _) (.cells (opA o pv) 35)
 have hO := Blk.new w (opA o pv) 35
 have hT1 := hT.on b0
 have hF1 : FrT B w (w.alloc (.cells (opA o pv) 35)) := .of_below b0 hT.t.lt
 unfold opV
 go_enter Tryz.func51, Tryz.ntmps51
 go_upto_region 1 with fail
 generalize w.alloc (.cells (opA o pv) 35) = w1 at *
 obtain ⟨gx, egx⟩ : ∃ g, w.heap.size = g := ⟨_, rfl⟩
 rw [egx] at hO ⊢
 clear egx b0 hT
 have d5 : w1.cell? ⟨gx, 5, none⟩ = some (tx o.text) := hO.cell 5
 have HT1 : Hid (TA w1 B g c os qv bv sv kv cv ov zs ∧ FrT B w w1 ∧ Blk w1 gx (opA o pv) 35) := ⟨hT1, hF1, hO⟩
 have HS := name_any w1 o.text
 clear hT1 hF1 hO
 go_wp2_with fail
 refine HS.mono ?_
 rintro e wA ⟨rfl, hA⟩
 rw [hA]
 clear hA wA HS
 have HI := insist_any w1 (nameL o.text) 31
 go_wp2_with fail
 refine HI.mono ?_
 rintro e wI ⟨hI, hb⟩
 rw [hI]
 clear hI wI HI
 rcases hb with ⟨hb, he⟩ | ⟨hb, he⟩
 rotate_left
 ·subst he
  exact ⟨rfl, .inr ⟨31, by simp [releaseC, noO, bnd, ins, hb], rfl, HT1.out.2.1⟩⟩
 subst he
 have H1 : Hid (nameL o.text = true) := hb
 clear d5 hb
 obtain ⟨hT2, hF2, hO⟩ := HT1.out
 clear HT1
 go_upto_region 2 with fail
 refine rh (fun W => Blk W g #[.int .i64 c.now, qv, bv, sv, kv, cv, ov] 77 ∧ Blk W gx (opA o pv) 35) ?_
 have hS : Blk (World.drew w1) g #[.int .i64 c.now, qv, bv, sv, kv, cv, ov] 77 ∧ Blk (World.drew w1) gx (opA o pv) 35 := ⟨⟨hT2.t.blk.h⟩, ⟨hO.h⟩⟩
 have hT4 := hT2.drew
 have hF4 := hF2.drew
 clear hT2 hF2 hO
 generalize w1.drew = w4 at *
 obtain ⟨p, hp, HC⟩ := findCs w4 B cv zs _ hT4.z (by rw [hT4.e]; exact HGC.out.ci) (by have := HGC.out.cl; have h2 := congrArg List.length hT4.e; rw [List.length_map] at h2; omega) o.text
 rw [hT4.e] at HC
 obtain ⟨th, eth⟩ : ∃ b, hasL oC ⟨o.text, []⟩ c.clients = b := ⟨_, rfl⟩
 rw [eth] at HC
 clear hp
 refine tks [0, 1, 2, 3, 4, 5, 6, 7] [.pointer (some ⟨g, 0, none⟩), .pointer (some ⟨g, 0, none⟩), .pointer (some ⟨g, 0, none⟩), .pointer (some ⟨g, 5, none⟩), cv, .pointer (some ⟨gx, 5, none⟩), tx o.text, .agg #[tx o.text, .slice none 0 0]] 6 ?_ hS ?_
 ·simp only [tkY, tkf]
  refine ⟨.yes ?_, .yes ?_, .yes ?_, .yes ?_, .yes ?_, .yes ?_, .yes ?_, .yes ?_, trivial⟩
  all_goals
   intro W' hW'
   have := hW'.1.ce 5
   have := hW'.2.ce 5
   go_simp
 simp only [tkA, tkf]
 refine ak 8 fun K hK => ?_
 go_simp
 refine HC.mono ?_
 rintro e w5 ⟨⟨rfl, hiff⟩, b5⟩
 have hS5 : Blk w5 g #[.int .i64 c.now, qv, bv, sv, kv, cv, ov] 77 ∧ Blk w5 gx (opA o pv) 35 := ⟨hS.1.on b5, hS.2.on b5⟩
 have hT5 := hT4.on b5
 have hF5 := hF4.trans (.of_below b5 hT4.t.lt)
 clear hT4 hF4 hS b5 HC
 have hS := hS5
 clear hS5
 show K _ _
 refine hK _ _ hS ?_
 clear hK K
 try simp only [tkf]
 refine tks [9, 10, 11, 12, 13] [.tuple #[.int .i64 (p : Nat), .bool th], .int .i64 (p : Nat), .bool th, .int .i64 (p : Nat), .bool th] 0 ?_ hS ?_
 ·simp only [tkY, tkf]
  refine ⟨.yes ?_, .yes ?_, .yes ?_, .yes ?_, .yes ?_, trivial⟩
  all_goals
   intro W' hW'
   go_simp
 simp only [tkA, tkf]
 refine ad ?_
 have HF : Hid ((c.clients.find? (fun k => decide (k.name = o.text)) = none → releaseC c o = .ok c)) := fun h => by simp [releaseC, ins, H1.out, h]
 cases th
 ·have HX : Hid (Led w B g os (noO (releaseC c o)) (.returned (.tuple #[])) w5) := led_ok (HF.out (cliP_no eth).1) ⟨_, _, _, _, _, _, hT5.t⟩ hF5
  clear hT5 hF5 hS hiff eth
  go_wp2_with fail
  go_end0
  exact HX.out
 ·obtain ⟨hpz, hpn⟩ := hiff.1 rfl
  have HP0 := (cliP_at hT5.e HGC.out.ci hpz hpn).1
  obtain ⟨ca, cc, ecv⟩ := hT5.z.rd.len
  obtain ⟨gc, ega⟩ : ∃ gc, ca = some ⟨gc, 0, none⟩ := by
   rcases hT5.z.1.2 with ⟨h1, h2⟩ | ⟨gc, cap, cur, h1, _⟩
   ·omega
   ·rw [ecv] at h1
    injection h1 with h1
    exact ⟨gc, h1⟩
  subst ega
  subst ecv
  obtain ⟨nv, hz1, hnv5⟩ := (hT5.z.2 _ (List.getElem_mem hpz)).2
  rw [hpn] at hz1
  obtain ⟨ps, eps⟩ : ∃ l : List Int, (zs[p]).2.packets = l := ⟨_, rfl⟩
  rw [eps] at hnv5
  have HZ : Hid (∃ hpz : p < zs.length, (zs[p]).2.name = o.text ∧ (zs[p]).1 = [tx o.text, nv] ∧ (zs[p]).2.packets = ps) := ⟨hpz, hpn, hz1, eps⟩
  have hcell : w5.cell? ⟨gc, p * 2 + 1, none⟩ = some nv := hT5.z.at hpz 1 nv (by rw [hz1]; rfl)
  have HU : Hid (∀ i (hi : i < zs.length), i ≠ p → (zs[i]).2.name ≠ o.text) := fun i hi hne => by
   have h1 := names_ne (l := zs.map (·.2)) (by rw [hT5.e]; exact HGC.out.ci) (p := p) (by rw [List.length_map]; exact hpz) (i := i) (by rw [List.length_map]; exact hi) hne
   rw [List.getElem_map, List.getElem_map, hpn] at h1
   exact h1
  have HD : Hid (((ps.length : Int) ≤ 32) ∧ Inc cmpZ ps) := by
   have h1 := cliP_good HGC.out o.text
   rw [(cliP_at hT5.e HGC.out.ci hpz hpn).2, eps] at h1
   exact ⟨h1.1, h1.2.2⟩
  have HR : Hid (∀ ps', leL cmpZ o.n ps = ps' → releaseC c o = if ps' = [] then forgetC c o else .ok { c with clients := enL oC ⟨o.text, ps'⟩ c.clients }) := fun ps' e => by
   simp only [releaseC, ins, H1.out, HP0, if_true, hpn, eps, e]
  obtain ⟨d0, d1, d2, d3, d4, d5, d6⟩ := hS.1.c7
  have hpi : (p : Int) < (zs.length : Int) := by omega
  have kx := hS.2
  have HE : Hid (zs.map (·.2) = c.clients) := hT5.e
  have H5 : Hid (TA w5 B g c os qv bv sv kv (.slice (some ⟨gc, 0, none⟩) zs.length cc) ov zs ∧ FrT B w w5 ∧ OwnNu w5 B nv ps) := ⟨hT5, hF5, hnv5⟩
  clear hT5 hF5 hnv5 hiff eth HP0 hz1 eps hS hpn hcell hpz
  go_upto_region 5 with fail
  clear d0 d1 d2 d3 d4 d5 d6
  refine rh (fun W => Blk W gx (opA o pv) 35) ?_
  have hS : Blk (World.drew w5) gx (opA o pv) 35 := ⟨kx.h⟩
  have hcell : (World.drew w5).cell? ⟨gc, p * 2 + 1, none⟩ = some nv := H5.out.1.drew.z.at HZ.out.choose 1 nv (by rw [HZ.out.choose_spec.2.1]; rfl)
  have h5 : TA (World.drew w5) B g c os qv bv sv kv (.slice (some ⟨gc, 0, none⟩) zs.length cc) ov zs ∧ FrT B w (World.drew w5) ∧ OwnNu (World.drew w5) B nv ps := ⟨H5.out.1.drew, H5.out.2.1.drew, H5.out.2.2.keep ((KX.drew (e := 0)).kt _ (by decide))⟩
  clear H5 kx
  generalize World.drew w5 = w9 at *
  refine tks [0, 1, 2, 3, 5, 6] [.pointer (some ⟨gc, p * 2, none⟩), .pointer (some ⟨gc, p * 2, none⟩), .pointer (some ⟨gc, p * 2, none⟩), .pointer (some ⟨gc, p * 2 + 1, none⟩), .pointer (some ⟨gx, 3, none⟩), .int .i64 o.n] 5 ?_ hS ?_
  ·simp only [tkY, tkf]
   refine ⟨.yes ?_, .yes ?_, .yes ?_, .yes ?_, .yes ?_, .yes ?_, trivial⟩
   all_goals
    intro W' hW'
    have := hW'.ce 3
    go_simp
  simp only [tkA, tkf]
  refine ak 4 fun K hK => ?_
  have d0 : w9.cell? ⟨gc, p * 2 + 1, none⟩ = some nv := hcell
  go_simp
  refine hK _ _ hS ?_
  clear hK K
  try simp only [tkf]
  refine ak 7 fun K hK => ?_
  go_simp
  refine (lePs _ B h5.1.t.lt nv ps h5.2.2 HD.out.2 (by have := HD.out.1; omega) o.n).mono ?_
  rintro e w6 ⟨v6, rfl, o6, g6⟩
  have k6 := h5.2.2.kx g6
  have z6 := clx_of h5.1.z h5.1.a HZ.out.choose HZ.out.choose_spec.1 HZ.out.choose_spec.2.1 k6 g6
  obtain ⟨a6, c6, rfl⟩ := o6.shape
  have R6 := cli_row z6 HZ.out.choose HZ.out.choose_spec.1 HZ.out.choose_spec.2.1 HU.out o6
  have t6 := ((Tw.of h5.1.t).kx k6 (by decide))
  have f6 := h5.2.1.trans (h5.2.2.fr g6 h5.1.t.lt)
  have hS6 : Blk w6 gx (opA o pv) 35 := hS.kt (k6.kt _ (by decide))
  clear hS
  have hS := hS6
  clear hS6
  show K _ _
  refine hK _ _ hS ?_
  clear hK K
  try simp only [tkf]
  refine tks [8, 9] [.pointer (some ⟨gc, p * 2, none⟩), .pointer (some ⟨gc, p * 2 + 1, none⟩)] 1 ?_ hS ?_
  ·simp only [tkY, tkf]
   refine ⟨.yes ?_, .yes ?_, trivial⟩
   all_goals
    intro W' hW'
    go_simp
  simp only [tkA, tkf]
  refine ak 10 fun K hK => ?_
  go_simp
  have f7 := R6.2.1
  have c7 := R6.1
  go_simp
  refine hK _ _ (hS.kt (R6.2.2.2.kt _ (by decide))) ?_
  clear hK K f7 c7
  try simp only [tkf]
  refine ad ?_
  have T7 := (t6.kx R6.2.2.2 (by decide)).with_c (l := c.clients.set p ⟨o.text, leL cmpZ o.n ps⟩) ⟨_, by rw [List.map_set, HE.out], R6.2.2.1⟩
  have F7 := f6.trans (FrT.of_grown z6.1 (World.ownsRow.stored z6.1 (p * 2 + 1) (.slice a6 (leL cmpZ o.n ps).length c6)).2 rfl t6.lt)
  have c7 := R6.2.2.1.at (i := p) (by rw [List.length_set]; exact HZ.out.choose) 1 (.slice a6 (leL cmpZ o.n ps).length c6) (by simp)
  have kO := hS.kt (R6.2.2.2.kt _ (by decide))
  have hR := HR.out _ rfl
  have HM : Hid (∃ hm : p < c.clients.length, (c.clients[p]).name = o.text) := by
   have h1 : p < c.clients.length := by rw [← HE.out, List.length_map]; exact HZ.out.choose
   refine ⟨h1, ?_⟩
   have h2 : c.clients[p] = (zs[p]'HZ.out.choose).2 := by simp [← HE.out]
   rw [h2]
   exact HZ.out.choose_spec.1
  clear R6 z6 o6 g6 k6 hS h5 t6 f6 HR HU HD HZ HE hcell hpi
  obtain ⟨m, em⟩ : ∃ m, (leL cmpZ o.n ps).length = m := ⟨_, rfl⟩
  rw [em] at c7 T7 F7 kO ⊢
  generalize w6.setCell ⟨gc, p * 2 + 1, none⟩ (.slice a6 m c6) = X at *
  obtain ⟨ps', eps'⟩ : ∃ l, leL cmpZ o.n ps = l := ⟨_, rfl⟩
  rw [eps'] at em hR T7
  have H7 : Hid (Tv X B g { c with clients := c.clients.set p ⟨o.text, ps'⟩ } os qv bv sv kv (.slice (some ⟨gc, 0, none⟩) zs.length cc) ov ∧ FrT B w X ∧ (releaseC c o = if ps' = [] then forgetC c o else .ok { c with clients := enL oC ⟨o.text, ps'⟩ c.clients })) := ⟨T7, F7, hR⟩
  have HEn : Hid (c.clients.set p ⟨o.text, ps'⟩ = enL oC ⟨o.text, ps'⟩ c.clients) := cli_en HGC.out.ci HM.out.choose HM.out.choose_spec.symm
  clear T7 F7 hR eps'
  by_cases hem : ps' = []
  ·have hm0 : m = 0 := by rw [← em, hem]; rfl
   subst hm0
   have HC := forget_any X B g _ os ⟨_, _, _, _, _, _, H7.out.1⟩ ⟨by show Inc oC (c.clients.set p _); rw [HEn.out]; exact inc_enL linC HGC.out.ci, by show ((c.clients.set p _).length : Int) ≤ 16; rw [List.length_set]; exact HGC.out.cl⟩ o pv HPO.out
   unfold opV at HC
   obtain ⟨e0, e1, e2, e3, e4, e5, e6, e7, e8, e9, e10, e11, e12, e13⟩ := kO.c14
   have HL : Hid (releaseC c o = forgetC { c with clients := c.clients.set p ⟨o.text, ps'⟩ } o) := by
    show releaseC c o = _
    rw [H7.out.2.2, if_pos hem]
    unfold forgetC
    show _ = ins _ 31 (.ok { c with clients := leL oC ⟨o.text, []⟩ (c.clients.set p ⟨o.text, ps'⟩) })
    rw [cli_le (q' := ⟨o.text, ps'⟩) (n := o.text) HM.out.choose rfl HM.out.choose_spec]
   clear kO em hem
   go_wp2_with fail
   refine HC.mono ?_
   rintro e w8 h8
   have h9 : Led w B g os (noO (releaseC c o)) e w8 := by
    rw [HL.out]
    exact led_on H7.out.2.1 h8
   rcases h9 with ⟨r, h1, he, h3⟩ | ⟨m, h1, he, h3⟩
   ·subst he
    have HX : Hid (Led w B g os (noO (releaseC c o)) (.returned (.tuple #[])) w8) := .inl ⟨r, h1, rfl, h3⟩
    clear h1 h3 h8 HC H7 e0 e1 e2 e3 e4 e5 e6 e7 e8 e9 e10 e11 e12 e13 c7
    go_wp2_with fail
    go_end0
    exact HX.out
   ·subst he
    exact ⟨rfl, .inr ⟨m, h1, rfl, h3⟩⟩
  ·have hm0 : ¬ (m : Int) = 0 := by
    intro h
    have h1 : ps'.length = 0 := by omega
    exact hem (List.eq_nil_of_length_eq_zero h1)
   have HX : Hid (Led w B g os (noO (releaseC c o)) (.returned (.tuple #[])) X) := led_ok (c := { c with clients := c.clients.set p ⟨o.text, ps'⟩ }) (by rw [H7.out.2.2, if_neg hem, HEn.out]) ⟨_, _, _, _, _, _, H7.out.1⟩ H7.out.2.1
   clear kO em hem H7
   go_wp2_with fail
   go_end0
   exact HX.out
end Go.Proofs.YtnpikgakpmkipabGreatDoor
