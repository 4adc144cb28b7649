/- (*turn).remove; what of detach goes the same way. Conditions: those that each row states. -/
import Derived.Test.YtnpikgakpmkipabGreatDoorZ15
import Derived.Test.YtnpikgakpmkipabGreatDoorZ04
import Derived.Test.YtnpikgakpmkipabGreatDoorZ03
import Derived.Test.YtnpikgakpmkipabGreatDoorZ24
import Derived.Test.YtnpikgakpmkipabGreatDoorZ22
import Derived.Test.YtnpikgakpmkipabGreatDoorZ23
import Derived.Test.YtnpikgakpmkipabGreatDoorZ17
import Derived.Test.YtnpikgakpmkipabGreatDoorZ20
import Derived.Test.YtnpikgakpmkipabGreatDoorZ21
import Derived.Test.YtnpikgakpmkipabGreatDoorZ16
import Derived.Test.YtnpikgakpmkipabGreatDoorZ05
namespace Go.Proofs.YtnpikgakpmkipabGreatDoor
open Go.RowKit Go.Lib
set_option maxRecDepth 100000
set_option linter.unusedSimpArgs false
set_option linter.unusedVariables false
set_option maxHeartbeats 1000000 in
theorem rem1_any (w : World) (o : Opr) (pv : Value) (gx : Nat) (kx : Blk w gx (opA o pv) 35) (x : Bnd) :
  Calls Tryz.prog 117 #[.agg #[tx x.queue, tx x.pat], .pointer (some ⟨gx, 0, none⟩)] w fun e w' => e = .returned (.bool (decide (x.queue = o.queue))) ∧ Bw w w' := by
 have b0 := (Below.refl w.heap.size w).alloc (Nat.le_refl _) (.cells #[tx x.queue, tx x.pat] 43)
 have k0 := Blk.new w #[tx x.queue, tx x.pat] 43
 obtain ⟨d0, d1, d2, d3, d4, d5, d6, d7, d8, d9, d10, d11, d12, d13⟩ := (kx.on b0).c14
 have e0 := (k0.cell 0).trans (show _ = some (tx x.queue) from rfl)
 skip
 clear kx k0
 by_cases hc : x.queue = o.queue
 ·have hne : ((⟨x.queue.toArray⟩ : ByteArray).toList == (⟨o.queue.toArray⟩ : ByteArray).toList) = true := by
   rw [Go.ByteArray.toList_mk, Go.ByteArray.toList_mk]
   simpa using hc
  have HB : Hid (Bw w (w.alloc (.cells #[tx x.queue, tx x.pat] 43))) := b0
  have HC : Hid ((x.queue = o.queue)) := hc
  clear b0 hc
  go_enter Tryz.func117, Tryz.ntmps117
  go_wp2_with fail
  go_ret
  have hc := HC.out
  exact ⟨by simp [hc], HB.out⟩
 ·have hne : ((⟨x.queue.toArray⟩ : ByteArray).toList == (⟨o.queue.toArray⟩ : ByteArray).toList) = false := by
   rw [Go.ByteArray.toList_mk, Go.ByteArray.toList_mk]
   simpa using hc
  have HB : Hid (Bw w (w.alloc (.cells #[tx x.queue, tx x.pat] 43))) := b0
  have HC : Hid (¬ (x.queue = o.queue)) := hc
  clear b0 hc
  go_enter Tryz.func117, Tryz.ntmps117
  go_wp2_with fail
  go_ret
  have hc := HC.out
  exact ⟨by simp [hc], HB.out⟩
set_option maxHeartbeats 1000000 in
theorem rem2_any (w : World) (o : Opr) (pv : Value) (gx : Nat) (kx : Blk w gx (opA o pv) 35) (x : Sbs) :
  Calls Tryz.prog 119 #[.agg #[.int .i64 x.conn, .int .i64 x.sub, tx x.queue, .int .i64 x.win, .bool x.auto], .pointer (some ⟨gx, 0, none⟩)] w fun e w' => e = .returned (.bool (decide (x.queue = o.queue))) ∧ Bw w w' := by
 have b0 := (Below.refl w.heap.size w).alloc (Nat.le_refl _) (.cells (sbA x) 85)
 have k0 := Blk.new w (sbA x) 85
 obtain ⟨d0, d1, d2, d3, d4, d5, d6, d7, d8, d9, d10, d11, d12, d13⟩ := (kx.on b0).c14
 have e0 := (k0.cell 0).trans (show _ = some (Value.int .i64 x.conn) from rfl)
 have e2 := (k0.cell 2).trans (show _ = some (tx x.queue) from rfl)
 clear kx k0
 by_cases hc : x.queue = o.queue
 ·have hne : ((⟨x.queue.toArray⟩ : ByteArray).toList == (⟨o.queue.toArray⟩ : ByteArray).toList) = true := by
   rw [Go.ByteArray.toList_mk, Go.ByteArray.toList_mk]
   simpa using hc
  have HB : Hid (Bw w (w.alloc (.cells (sbA x) 85))) := b0
  have HC : Hid ((x.queue = o.queue)) := hc
  clear b0 hc
  go_enter Tryz.func119, Tryz.ntmps119
  go_wp2_with fail
  go_ret
  have hc := HC.out
  exact ⟨by simp [hc], HB.out⟩
 ·have hne : ((⟨x.queue.toArray⟩ : ByteArray).toList == (⟨o.queue.toArray⟩ : ByteArray).toList) = false := by
   rw [Go.ByteArray.toList_mk, Go.ByteArray.toList_mk]
   simpa using hc
  have HB : Hid (Bw w (w.alloc (.cells (sbA x) 85))) := b0
  have HC : Hid (¬ (x.queue = o.queue)) := hc
  clear b0 hc
  go_enter Tryz.func119, Tryz.ntmps119
  go_wp2_with fail
  go_ret
  have hc := HC.out
  exact ⟨by simp [hc], HB.out⟩
set_option maxHeartbeats 1000000 in
theorem det1_any (w : World) (o : Opr) (pv : Value) (gx : Nat) (kx : Blk w gx (opA o pv) 35) (x : Sbs) :
  Calls Tryz.prog 141 #[.agg #[.int .i64 x.conn, .int .i64 x.sub, tx x.queue, .int .i64 x.win, .bool x.auto], .pointer (some ⟨gx, 0, none⟩)] w fun e w' => e = .returned (.bool (decide (x.conn = o.conn))) ∧ Bw w w' := by
 have b0 := (Below.refl w.heap.size w).alloc (Nat.le_refl _) (.cells (sbA x) 85)
 have k0 := Blk.new w (sbA x) 85
 obtain ⟨d0, d1, d2, d3, d4, d5, d6, d7, d8, d9, d10, d11, d12, d13⟩ := (kx.on b0).c14
 have e0 := (k0.cell 0).trans (show _ = some (Value.int .i64 x.conn) from rfl)
 have e2 := (k0.cell 2).trans (show _ = some (tx x.queue) from rfl)
 clear kx k0
 by_cases hc : x.conn = o.conn
 ·have hne : (x.conn == o.conn) = true := by simpa using hc
  have HB : Hid (Bw w (w.alloc (.cells (sbA x) 85))) := b0
  have HC : Hid ((x.conn = o.conn)) := hc
  clear b0 hc
  go_enter Tryz.func141, Tryz.ntmps141
  go_wp2_with fail
  go_ret
  have hc := HC.out
  exact ⟨by simp [hc], HB.out⟩
 ·have hne : (x.conn == o.conn) = false := by simpa using hc
  have HB : Hid (Bw w (w.alloc (.cells (sbA x) 85))) := b0
  have HC : Hid (¬ (x.conn = o.conn)) := hc
  clear b0 hc
  go_enter Tryz.func141, Tryz.ntmps141
  go_wp2_with fail
  go_ret
  have hc := HC.out
  exact ⟨by simp [hc], HB.out⟩
theorem e117 : ∀ args w, (callFunc 117 args).run Tryz.prog w = .ok (.enter 117 args) w := fun args w => by go_simp
theorem e119 : ∀ args w, (callFunc 119 args).run Tryz.prog w = .ok (.enter 119 args) w := fun args w => by go_simp
theorem e141 : ∀ args w, (callFunc 141 args).run Tryz.prog w = .ok (.enter 141 args) w := fun args w => by go_simp
theorem map_filter2 {α β : Type} (f : α → β) (p : β → Bool) (l : List α) : (l.filter (fun z => !p (f z))).map f = (l.map f).filter (fun x => !p x) := by
 rw [List.filter_map]
 rfl
theorem delB (w : World) (B : Nat) (bv : Value) (l : List Bnd) (h : OBc w B bv l) (hn : l.length ≤ 1000) (o : Opr) (pv : Value) (gx : Nat) (kx : Blk w gx (opA o pv) 35) :
  Calls Tryz.prog 116 #[bv, .func (.func 117) #[] #[.pointer (some ⟨gx, 0, none⟩)]] w fun e w' => ∃ v', e = .returned v' ∧ OBc w' B v' (l.filter (fun b => !decide (b.queue = o.queue))) ∧ w.grownBy w' bv.ownBlock := by
 obtain ⟨zs, rfl, hz⟩ := h
 rw [List.length_map] at hn
 refine (dfB_any w B bv zs BnR hz hn 117 #[.pointer (some ⟨gx, 0, none⟩)] e117 (fun b => decide (b.queue = o.queue)) fun W z hb hm => ?_).mono ?_
 ·have h1 := (hz.2 z hm).2
  unfold BnR at h1
  rw [h1]
  exact rem1_any W o pv gx (kx.grown hb (kx.ne_own hz.1 (by decide))) z.2
 ·rintro e w' ⟨v', h1, h2, h3, _⟩
  exact ⟨v', h1, ⟨_, map_filter2 (·.2) (fun b => decide (b.queue = o.queue)) zs, h2⟩, h3⟩
theorem delS (w : World) (B : Nat) (sv : Value) (l : List Sbs) (h : OSc w B sv l) (hn : l.length ≤ 1000) (f : Nat) (ef : ∀ args w, (callFunc f args).run Tryz.prog w = .ok (.enter f args) w) (p : Sbs → Bool) (o : Opr) (pv : Value) (gx : Nat) (kx : Blk w gx (opA o pv) 35)
  (hf : ∀ W x, Blk W gx (opA o pv) 35 → Calls Tryz.prog f #[.agg #[.int .i64 x.conn, .int .i64 x.sub, tx x.queue, .int .i64 x.win, .bool x.auto], .pointer (some ⟨gx, 0, none⟩)] W fun e w' => e = .returned (.bool (p x)) ∧ Bw W w') :
  Calls Tryz.prog 118 #[sv, .func (.func f) #[] #[.pointer (some ⟨gx, 0, none⟩)]] w fun e w' => ∃ v', e = .returned v' ∧ OSc w' B v' (l.filter (fun b => !p b)) ∧ w.grownBy w' sv.ownBlock := by
 obtain ⟨zs, rfl, hz⟩ := h
 rw [List.length_map] at hn
 refine (dfS_any w B sv zs SbR hz hn f #[.pointer (some ⟨gx, 0, none⟩)] ef p fun W z hb hm => ?_).mono ?_
 ·have h1 := (hz.2 z hm).2
  unfold SbR at h1
  rw [h1]
  exact hf W z.2 (kx.grown hb (kx.ne_own hz.1 (by decide)))
 ·rintro e w' ⟨v', h1, h2, h3, _⟩
  exact ⟨v', h1, ⟨_, map_filter2 (·.2) p zs, h2⟩, h3⟩
set_option maxHeartbeats 4000000 in
theorem remove_op (w : World) (B g : Nat) (c : Cor) (os : List Ot) (hT : T w B g c os) (hg : GoodC c) (hV : VB B w) (o : Opr) (pv : Value) (hp : pv.oneCell' = true) :
  Calls Tryz.prog 47 #[.pointer (some ⟨g, 0, none⟩), opV o pv] w fun e w' => Led w B g os (noO (removeC c o)) e w' := by
 obtain ⟨qv, bv, sv, kv, cv, ov, hT⟩ := hT
 have b0 := (Below.refl w.heap.size w).alloc (Nat.le_refl _) (.cells (opA o pv) 35)
 have hO := Blk.new w (opA o pv) 35
 have hT1 := hT.on b0
 have hF1 : FrT B w (w.alloc (.cells (opA o pv) 35)) := .of_below b0 hT.lt
 unfold opV
 go_enter Tryz.func47, Tryz.ntmps47
 go_upto_region 1 with fail
 generalize w.alloc (.cells (opA o pv) 35) = w1 at *
 obtain ⟨gx, egx⟩ : ∃ g, w.heap.size = g := ⟨_, rfl⟩
 rw [egx] at hO ⊢
 clear egx b0 hT
 have d4 : w1.cell? ⟨gx, 4, none⟩ = some (tx o.queue) := hO.cell 4
 have HX : Hid (gx ≠ g) := fun e => by
  have h1 := hO.h
  rw [e, hT1.blk.h] at h1
  injection h1 with h1
  injection h1 with _ h1
  cases h1
 have HT1 : Hid (Tv w1 B g c os qv bv sv kv cv ov ∧ FrT B w w1 ∧ Blk w1 gx (opA o pv) 35) := ⟨hT1, hF1, hO⟩
 clear hT1 hF1 hO
 go_wp2_with (refine wpl_fresh rfl (.tmp 4) (.tmp 7) rfl _ _ rfl rfl (by kernel_rfl) rfl (by simp [Value.oneCell']) ?_)
 intro W2 k2 b2 s2
 clear d4
 obtain ⟨hT1, hF1, hO⟩ := HT1.out
 have hT2 := hT1.on b2
 have hF2 := hF1.trans (.of_below b2 hT1.lt)
 have hO2 := hO.on b2
 have HN : Hid (some w1.heap.size ≠ qv.ownBlock) := fun e => by
  obtain ⟨zs, _, hz⟩ := hT1.q
  have := (World.ownsRow.lt hz.1 _ e.symm).2
  omega
 have HG : Hid (w1.heap.size ≠ g) := fun e => by have := hT1.blk.lt; omega
 clear HT1 hT1 hF1 hO b2 s2
 obtain ⟨gb, egb⟩ : ∃ g, w1.heap.size = g := ⟨_, rfl⟩
 rw [egb] at k2 HN HG ⊢
 clear egb
 go_upto_region 2 with fail
 refine rh (fun W => (Blk W g #[.int .i64 c.now, qv, bv, sv, kv, cv, ov] 77 ∧ Blk W gx (opA o pv) 35) ∧ Blk W gb #[tx o.queue, .bool false, .int .i64 0, .int .i64 0, .int .i64 0, .slice none 0 0, .slice none 0 0] 82) ?_
 have hS : (Blk (World.drew W2) g #[.int .i64 c.now, qv, bv, sv, kv, cv, ov] 77 ∧ Blk (World.drew W2) gx (opA o pv) 35) ∧ Blk (World.drew W2) gb #[tx o.queue, .bool false, .int .i64 0, .int .i64 0, .int .i64 0, .slice none 0 0, .slice none 0 0] 82 := ⟨⟨⟨hT2.blk.h⟩, ⟨hO2.h⟩⟩, ⟨k2.h⟩⟩
 have hT3 := hT2.drew
 have hF3 := hF2.drew
 clear hT2 hF2
 clear hO2 k2
 generalize W2.drew = w3 at *
 refine tks [0, 1, 2, 3, 4, 5] [.pointer (some ⟨g, 0, none⟩), .pointer (some ⟨g, 0, none⟩), .pointer (some ⟨g, 0, none⟩), .pointer (some ⟨g, 1, none⟩), qv, .agg #[tx o.queue, .bool false, .int .i64 0, .int .i64 0, .int .i64 0, .slice none 0 0, .slice none 0 0]] 2 ?_ hS ?_
 ·simp only [tkY, tkf]
  refine ⟨.yes ?_, .yes ?_, .yes ?_, .yes ?_, .yes ?_, .yes ?_, trivial⟩
  all_goals
   intro W' hW'
   have := hW'.1.1.ce 1
   have := hW'.2.ce 0
   have := hW'.2.ce 1
   have := hW'.2.ce 2
   have := hW'.2.ce 3
   have := hW'.2.ce 4
   have := hW'.2.ce 5
   have := hW'.2.ce 6
   go_simp
 simp only [tkA, tkf]
 refine ak 6 fun K hK => ?_
 go_simp
 refine (hasNs' _ B qv c.queues hT3.q hg.qi (by have := hg.ql; omega) o.queue).mono ?_
 rintro e w4 ⟨rfl, b4⟩
 have hS4 : (Blk w4 g #[.int .i64 c.now, qv, bv, sv, kv, cv, ov] 77 ∧ Blk w4 gx (opA o pv) 35) ∧ Blk w4 gb #[tx o.queue, .bool false, .int .i64 0, .int .i64 0, .int .i64 0, .slice none 0 0, .slice none 0 0] 82 := ⟨⟨hS.1.1.on b4, hS.1.2.on b4⟩, hS.2.on b4⟩
 have hT4 := hT3.on b4
 have hF4 := hF3.trans (.of_below b4 hT3.lt)
 clear hT3 hF3 hS b4
 have hS := hS4
 clear hS4
 show K _ _
 refine hK _ _ hS ?_
 clear hK K
 try simp only [tkf]
 refine ak 7 fun K hK => ?_
 go_simp
 refine (insist_any _ _ 33).mono ?_
 rintro e wI ⟨hI, hb⟩
 rcases hb with ⟨hb, he⟩ | ⟨hb, he⟩
 rotate_left
 ·subst he
  rw [hI]
  exact ⟨rfl, .inr ⟨33, by simp [removeC, noO, bnd, ins, hb], rfl, hF4⟩⟩
 subst he
 show K _ _
 rw [hI]
 refine hK _ _ hS ?_
 clear hK K hI wI
 try simp only [tkf]
 refine ad ?_
 have hT2 := hT4
 have hF2 := hF4
 have k9 := hS.2
 have o9 := hS.1.2
 clear hT4 hF4 hS
 go_upto_region 3 with fail
 refine rh (fun W => Blk W gx (opA o pv) 35 ∧ Blk W gb #[tx o.queue, .bool false, .int .i64 0, .int .i64 0, .int .i64 0, .slice none 0 0, .slice none 0 0] 82) ?_
 have hS : Blk (World.drew w4) gx (opA o pv) 35 ∧ Blk (World.drew w4) gb #[tx o.queue, .bool false, .int .i64 0, .int .i64 0, .int .i64 0, .slice none 0 0, .slice none 0 0] 82 := ⟨⟨o9.h⟩, ⟨k9.h⟩⟩
 have hT3 := hT2.drew
 have hF3 := hF2.drew
 clear hT2 hF2
 clear k9 o9
 generalize w4.drew = w5 at *
 refine tks [0, 1, 2, 3, 4, 6] [.pointer (some ⟨g, 0, none⟩), .pointer (some ⟨g, 0, none⟩), .pointer (some ⟨g, 0, none⟩), .pointer (some ⟨g, 0, none⟩), .pointer (some ⟨g, 1, none⟩), .agg #[tx o.queue, .bool false, .int .i64 0, .int .i64 0, .int .i64 0, .slice none 0 0, .slice none 0 0]] 6 ?_ hS ?_
 ·simp only [tkY, tkf]
  refine ⟨.yes ?_, .yes ?_, .yes ?_, .yes ?_, .yes ?_, .yes ?_, trivial⟩
  all_goals
   intro W' hW'
   have := hW'.2.ce 0
   have := hW'.2.ce 1
   have := hW'.2.ce 2
   have := hW'.2.ce 3
   have := hW'.2.ce 4
   have := hW'.2.ce 5
   have := hW'.2.ce 6
   go_simp
 simp only [tkA, tkf]
 refine ak 5 fun K hK => ?_
 have d0 : w5.cell? ⟨g, 1, none⟩ = some qv := hT3.blk.cell 1
 go_simp
 refine hK _ _ hS ?_
 clear hK K
 try simp only [tkf]
 refine ak 7 fun K hK => ?_
 go_simp
 refine (leQs _ B hT3.lt qv c.queues hT3.q hg.qi (by have := hg.ql; omega) o.queue).mono ?_
 rintro e w6 ⟨v6, rfl, o6, g6⟩
 obtain ⟨a6, n6, cc6, rfl⟩ := OwnL.shape o6
 have kx6 : KX 82 w5 w6 := by
  obtain ⟨zs, _, hz⟩ := hT3.q
  exact .of_grown hz.1 g6
 obtain ⟨T7, F7, k7⟩ := hT3.row_q g6 o6
 have hS6 : Blk w6 gx (opA o pv) 35 ∧ Blk w6 gb #[tx o.queue, .bool false, .int .i64 0, .int .i64 0, .int .i64 0, .slice none 0 0, .slice none 0 0] 82 := ⟨hS.1.kt (kx6.kt _ (by decide)), hS.2.grown g6 HN.out⟩
 clear hS kx6
 have hS := hS6
 clear hS6
 show K _ _
 refine hK _ _ hS ?_
 clear hK K
 try simp only [tkf]
 refine tks [8, 9, 10] [.pointer (some ⟨g, 0, none⟩), .pointer (some ⟨g, 0, none⟩), .pointer (some ⟨g, 1, none⟩)] 1 ?_ hS ?_
 ·simp only [tkY, tkf]
  refine ⟨.yes ?_, .yes ?_, .yes ?_, trivial⟩
  all_goals
   intro W' hW'
   go_simp
 simp only [tkA, tkf]
 refine ak 11 fun K hK => ?_
 go_simp
 have f7 := k7.frozen 1
 have c7 : w6.cell? ⟨g, 1, none⟩ = some qv := k7.cell 1
 go_simp
 refine hK _ _ (⟨hS.1.setO (fun e => HX.out e) _, hS.2.setO (fun e => HG.out e) _⟩) ?_
 have hO7 := hS.1.setO (g' := g) (j := 1) (fun e => HX.out e) (.slice a6 n6 cc6)
 clear hK K f7 c7
 try simp only [tkf]
 refine ad ?_
 have F7' := hF3.trans F7
 clear hS hT3 hF3 F7 k7 g6 o6
 generalize w6.setCell ⟨g, 1, none⟩ (.slice a6 n6 cc6) = w7 at *
 have HD := delB w7 B bv c.binds T7.b (by have := hg.bl; omega) o pv gx hO7
 obtain ⟨c0, c1, c2, c3, c4, c5, c6⟩ := T7.blk.c7
 have HT7 : Hid (Tv w7 B g { c with queues := leL oQ (newQ o.queue false 0) c.queues } os (.slice a6 n6 cc6) bv sv kv cv ov ∧ FrT B w w7 ∧ Blk w7 gx (opA o pv) 35) := ⟨T7, F7', hO7⟩
 clear T7 F7' hO7
 go_wp2_with fail
 refine HD.mono ?_
 rintro e w8 ⟨v8, rfl, o8, g8⟩
 clear HD c0 c1 c2 c3 c4 c5 c6
 obtain ⟨a8, n8, cc8, rfl⟩ := OwnL.shape o8
 obtain ⟨T7, F7, hO7⟩ := HT7.out
 have kx8 : KX 43 w7 w8 := by
  obtain ⟨zs, _, hz⟩ := T7.b
  exact .of_grown hz.1 g8
 obtain ⟨T9, F9, k8⟩ := T7.row_b g8 o8
 have hO9 := (hO7.kt (kx8.kt _ (by decide))).setO (g' := g) (j := 2) (fun e => HX.out e) (.slice a8 n8 cc8)
 have f2 := k8.frozen 2
 have c2 : w8.cell? ⟨g, 2, none⟩ = some bv := k8.cell 2
 have F9' := F7.trans F9
 clear HT7 T7 F7 hO7 kx8 k8 F9 g8 o8
 go_upto_region 5 with fail
 clear f2 c2
 generalize w8.setCell ⟨g, 2, none⟩ (.slice a8 n8 cc8) = w9 at *
 have HD := delS w9 B sv c.subs T9.s (by have := hg.sl; omega) 119 e119 (fun s => decide (s.queue = o.queue)) o pv gx hO9 (fun W x kk => rem2_any W o pv gx kk x)
 obtain ⟨c0, c1, c2, c3, c4, c5, c6⟩ := T9.blk.c7
 have HT9 : Hid (Tv w9 B g { c with queues := leL oQ (newQ o.queue false 0) c.queues, binds := c.binds.filter (fun b => !decide (b.queue = o.queue)) } os (.slice a6 n6 cc6) (.slice a8 n8 cc8) sv kv cv ov ∧ FrT B w w9) := ⟨T9, F9'⟩
 clear T9 F9' hO9
 go_wp2_with fail
 refine HD.mono ?_
 rintro e wA ⟨vA, rfl, oA, gA⟩
 clear HD c0 c1 c2 c3 c4 c5 c6
 obtain ⟨aA, nA, ccA, rfl⟩ := OwnL.shape oA
 obtain ⟨T9, F9⟩ := HT9.out
 obtain ⟨TB, FB, kA⟩ := T9.row_s gA oA
 have f2 := kA.frozen 3
 have c2 : wA.cell? ⟨g, 3, none⟩ = some sv := kA.cell 3
 have HF : Hid (Led w B g os (noO (removeC c o)) (.returned (.tuple #[])) (wA.setCell ⟨g, 3, none⟩ (.slice aA nA ccA))) := led_ok (c := { c with queues := leL oQ (newQ o.queue false 0) c.queues, binds := c.binds.filter (fun b => !decide (b.queue = o.queue)), subs := c.subs.filter (fun b => !decide (b.queue = o.queue)) }) (by simp [removeC, ins, hb]) ⟨_, _, _, _, _, _, TB⟩ (F9.trans FB)
 clear HT9 T9 F9 TB FB kA gA oA
 go_wp2_with fail
 go_end0
 exact HF.out
set_option maxHeartbeats 4000000 in
theorem tick_any (w : World) (g : Nat) (nw : Int) (qv bv sv kv cv ov : Value) (hT : Blk w g #[.int .i64 nw, qv, bv, sv, kv, cv, ov] 77) (hnw : 0 ≤ nw ∧ nw ≤ 1099511627776) (o0 o1 o2 o3 : Int) (o4 o5 o6 o7 o8 o9 o10 o11 o12 o13 : Value) (ho : -9223372036854775808 ≤ o3 ∧ o3 ≤ 9223372036854775807) :
  Calls Tryz.prog 60 #[.pointer (some ⟨g, 0, none⟩), .agg #[.int .i64 o0, .int .i64 o1, .int .i64 o2, .int .i64 o3, o4, o5, o6, o7, o8, o9, o10, o11, o12, o13]] w fun e w' =>
   ((0 ≤ o3 ∧ o3 ≤ 1099511627776 - nw) ∧ e = .returned (.tuple #[]) ∧ ∃ w1, Bw w w1 ∧ Blk w1 g #[.int .i64 nw, qv, bv, sv, kv, cv, ov] 77 ∧ w' = w1.setCell ⟨g, 0, none⟩ (.int .i64 (nw + o3))) ∨ (¬ (0 ≤ o3 ∧ o3 ≤ 1099511627776 - nw) ∧ e = .panicked (gup 1) ∧ Bw w w') := by
 have b0 := (Below.refl w.heap.size w).alloc (Nat.le_refl _) (.cells #[.int .i64 o0, .int .i64 o1, .int .i64 o2, .int .i64 o3, o4, o5, o6, o7, o8, o9, o10, o11, o12, o13] 35)
 have hO := Blk.new w #[.int .i64 o0, .int .i64 o1, .int .i64 o2, .int .i64 o3, o4, o5, o6, o7, o8, o9, o10, o11, o12, o13] 35
 have hT1 := hT.on b0
 clear hT
 go_enter Tryz.func60, Tryz.ntmps60
 go_upto_region 1 with fail
 generalize w.alloc (.cells #[.int .i64 o0, .int .i64 o1, .int .i64 o2, .int .i64 o3, o4, o5, o6, o7, o8, o9, o10, o11, o12, o13] 35) = w1 at *
 obtain ⟨gx, egx⟩ : ∃ g, w.heap.size = g := ⟨_, rfl⟩
 have HB : Hid (Bw w w1) := b0
 have hT := hT1
 clear b0 hT1
 rw [egx] at hO ⊢
 clear egx
 by_cases h1 : 0 ≤ o3
 ·by_cases h2 : o3 ≤ 1099511627776 - nw
  ·have HY : Hid (0 ≤ o3 ∧ o3 ≤ 1099511627776 - nw) := ⟨h1, h2⟩
   refine rh (fun W => Blk W g #[.int .i64 nw, qv, bv, sv, kv, cv, ov] 77 ∧ Blk W gx #[.int .i64 o0, .int .i64 o1, .int .i64 o2, .int .i64 o3, o4, o5, o6, o7, o8, o9, o10, o11, o12, o13] 35) ?_
   have hS : Blk w1.drew g #[.int .i64 nw, qv, bv, sv, kv, cv, ov] 77 ∧ Blk w1.drew gx #[.int .i64 o0, .int .i64 o1, .int .i64 o2, .int .i64 o3, o4, o5, o6, o7, o8, o9, o10, o11, o12, o13] 35 := ⟨⟨hT.h⟩, ⟨hO.h⟩⟩
   have hbd := HB.out.drew
   clear hT hO HB
   generalize w1.drew = wv at *
   refine tks [0, 1, 2, 3, 4, 5, 6, 7, 8, 9, 10] [.pointer (some ⟨gx, 3, none⟩), .int .i64 o3, .bool true, .bool true, .pointer (some ⟨gx, 3, none⟩), .int .i64 o3, .pointer (some ⟨g, 0, none⟩), .pointer (some ⟨g, 0, none⟩), .pointer (some ⟨g, 0, none⟩), .pointer (some ⟨g, 0, none⟩), .int .i64 nw] 4 ?_ hS ?_
   ·simp only [tkY, tkf]
    refine ⟨.yes ?_, .yes ?_, .yes ?_, .yes ?_, .yes ?_, .yes ?_, .yes ?_, .yes ?_, .yes ?_, .yes ?_, .yes ?_, trivial⟩
    all_goals
     intro W' hW'
     have := hW'.2.ce 3
     have := hW'.1.ce 0
     go_simp
   simp only [tkA, tkf]
   refine wpAnyH_take (i := 11) (v := .int .i64 (1099511627776 - nw)) rfl (by kernel_rfl) (by kernel_rfl) (by kernel_rfl) (fun _ _ _ h => h) (.inl ⟨by rfl, fun W' hW' => ?_⟩) hS ?_
   ·skip
    go_simp
    try (rw [IntKind.wrap_i64]; omega)
   try simp only [tkf]
   refine tks [12, 13] [.bool true, .bool true] 1 ?_ hS ?_
   ·simp only [tkY, tkf]
    refine ⟨.yes ?_, .yes ?_, trivial⟩
    all_goals
     intro W' hW'
     go_simp
   simp only [tkA, tkf]
   refine ak 14 fun K hK => ?_
   go_simp
   refine (insist_ok wv 1).mono ?_
   rintro e w2 ⟨rfl, h2⟩
   show K _ _
   rw [h2]
   refine hK _ _ hS ?_
   clear hK K h2 w2
   try simp only [tkf]
   refine ad ?_
   go_upto_region 2 with fail
   have c0 : wv.cell? ⟨g, 0, none⟩ = some (.int .i64 nw) := hS.1.cell 0
   have d3 : wv.cell? ⟨gx, 3, none⟩ = some (.int .i64 o3) := hS.2.cell 3
   have f0 := hS.1.frozen 0
   have hw : IntKind.i64.wrap (nw + o3) = nw + o3 := by rw [IntKind.wrap_i64]; omega
   have HB2 : Hid (Bw w wv ∧ Blk wv g #[.int .i64 nw, qv, bv, sv, kv, cv, ov] 77) := ⟨hbd, hS.1⟩
   clear hS hbd
   go_region
   go_end0
   exact .inl ⟨HY.out, rfl, wv.drew, HB2.out.1.drew, ⟨HB2.out.2.h⟩, rfl⟩
  ·have HN : Hid (¬ (0 ≤ o3 ∧ o3 ≤ 1099511627776 - nw)) := fun h => h2 h.2
   refine rh (fun W => Blk W g #[.int .i64 nw, qv, bv, sv, kv, cv, ov] 77 ∧ Blk W gx #[.int .i64 o0, .int .i64 o1, .int .i64 o2, .int .i64 o3, o4, o5, o6, o7, o8, o9, o10, o11, o12, o13] 35) ?_
   have hS : Blk w1.drew g #[.int .i64 nw, qv, bv, sv, kv, cv, ov] 77 ∧ Blk w1.drew gx #[.int .i64 o0, .int .i64 o1, .int .i64 o2, .int .i64 o3, o4, o5, o6, o7, o8, o9, o10, o11, o12, o13] 35 := ⟨⟨hT.h⟩, ⟨hO.h⟩⟩
   have hbd := HB.out.drew
   clear hT hO HB
   generalize w1.drew = wv at *
   refine wpAnyH_take (i := 0) (v := .pointer (some ⟨gx, 3, none⟩)) rfl (by kernel_rfl) (by kernel_rfl) (by kernel_rfl) (fun _ _ _ h => h) (.inl ⟨by rfl, fun W' hW' => ?_⟩) hS ?_
   ·skip
    go_simp
   try simp only [tkf]
   refine wpAnyH_take (i := 1) (v := .int .i64 o3) rfl (by kernel_rfl) (by kernel_rfl) (by kernel_rfl) (fun _ _ _ h => h) (.inl ⟨by rfl, fun W' hW' => ?_⟩) hS ?_
   ·have d0 : W'.cell? ⟨gx, 3, none⟩ = some (.int .i64 o3) := hW'.2.cell 3
    go_simp
   try simp only [tkf]
   refine wpAnyH_take (i := 2) (v := .bool true) rfl (by kernel_rfl) (by kernel_rfl) (by kernel_rfl) (fun _ _ _ h => h) (.inl ⟨by rfl, fun W' hW' => ?_⟩) hS ?_
   ·skip
    go_simp
   try simp only [tkf]
   refine wpAnyH_take (i := 3) (v := .bool true) rfl (by kernel_rfl) (by kernel_rfl) (by kernel_rfl) (fun _ _ _ h => h) (.inl ⟨by rfl, fun W' hW' => ?_⟩) hS ?_
   ·skip
    go_simp
   try simp only [tkf]
   refine wpAnyH_take (i := 4) (v := .pointer (some ⟨gx, 3, none⟩)) rfl (by kernel_rfl) (by kernel_rfl) (by kernel_rfl) (fun _ _ _ h => h) (.inl ⟨by rfl, fun W' hW' => ?_⟩) hS ?_
   ·skip
    go_simp
   try simp only [tkf]
   refine wpAnyH_take (i := 5) (v := .int .i64 o3) rfl (by kernel_rfl) (by kernel_rfl) (by kernel_rfl) (fun _ _ _ h => h) (.inl ⟨by rfl, fun W' hW' => ?_⟩) hS ?_
   ·have d0 : W'.cell? ⟨gx, 3, none⟩ = some (.int .i64 o3) := hW'.2.cell 3
    go_simp
   try simp only [tkf]
   refine wpAnyH_take (i := 6) (v := .pointer (some ⟨g, 0, none⟩)) rfl (by kernel_rfl) (by kernel_rfl) (by kernel_rfl) (fun _ _ _ h => h) (.inl ⟨by rfl, fun W' hW' => ?_⟩) hS ?_
   ·skip
    go_simp
   try simp only [tkf]
   refine wpAnyH_take (i := 7) (v := .pointer (some ⟨g, 0, none⟩)) rfl (by kernel_rfl) (by kernel_rfl) (by kernel_rfl) (fun _ _ _ h => h) (.inl ⟨by rfl, fun W' hW' => ?_⟩) hS ?_
   ·skip
    go_simp
   try simp only [tkf]
   refine wpAnyH_take (i := 8) (v := .pointer (some ⟨g, 0, none⟩)) rfl (by kernel_rfl) (by kernel_rfl) (by kernel_rfl) (fun _ _ _ h => h) (.inl ⟨by rfl, fun W' hW' => ?_⟩) hS ?_
   ·skip
    go_simp
   try simp only [tkf]
   refine wpAnyH_take (i := 9) (v := .pointer (some ⟨g, 0, none⟩)) rfl (by kernel_rfl) (by kernel_rfl) (by kernel_rfl) (fun _ _ _ h => h) (.inl ⟨by rfl, fun W' hW' => ?_⟩) hS ?_
   ·skip
    go_simp
   try simp only [tkf]
   refine wpAnyH_take (i := 10) (v := .int .i64 nw) rfl (by kernel_rfl) (by kernel_rfl) (by kernel_rfl) (fun _ _ _ h => h) (.inl ⟨by rfl, fun W' hW' => ?_⟩) hS ?_
   ·have d0 : W'.cell? ⟨g, 0, none⟩ = some (.int .i64 nw) := hW'.1.cell 0
    go_simp
   try simp only [tkf]
   refine wpAnyH_take (i := 11) (v := .int .i64 (1099511627776 - nw)) rfl (by kernel_rfl) (by kernel_rfl) (by kernel_rfl) (fun _ _ _ h => h) (.inl ⟨by rfl, fun W' hW' => ?_⟩) hS ?_
   ·skip
    go_simp
    try (rw [IntKind.wrap_i64]; omega)
   try simp only [tkf]
   refine wpAnyH_take (i := 12) (v := .bool false) rfl (by kernel_rfl) (by kernel_rfl) (by kernel_rfl) (fun _ _ _ h => h) (.inl ⟨by rfl, fun W' hW' => ?_⟩) hS ?_
   ·skip
    go_simp
   try simp only [tkf]
   refine wpAnyH_take (i := 13) (v := .bool false) rfl (by kernel_rfl) (by kernel_rfl) (by kernel_rfl) (fun _ _ _ h => h) (.inl ⟨by rfl, fun W' hW' => ?_⟩) hS ?_
   ·skip
    go_simp
   try simp only [tkf]
   refine ak 14 fun K hK => ?_
   go_simp
   refine (insist_no wv 1).mono ?_
   rintro e w2 ⟨rfl, h2⟩
   rw [h2]
   exact ⟨rfl, .inr ⟨HN.out, rfl, hbd⟩⟩
 ·have HN : Hid (¬ (0 ≤ o3 ∧ o3 ≤ 1099511627776 - nw)) := fun h => h1 h.1
  refine rh (fun W => Blk W g #[.int .i64 nw, qv, bv, sv, kv, cv, ov] 77 ∧ Blk W gx #[.int .i64 o0, .int .i64 o1, .int .i64 o2, .int .i64 o3, o4, o5, o6, o7, o8, o9, o10, o11, o12, o13] 35) ?_
  have hS : Blk w1.drew g #[.int .i64 nw, qv, bv, sv, kv, cv, ov] 77 ∧ Blk w1.drew gx #[.int .i64 o0, .int .i64 o1, .int .i64 o2, .int .i64 o3, o4, o5, o6, o7, o8, o9, o10, o11, o12, o13] 35 := ⟨⟨hT.h⟩, ⟨hO.h⟩⟩
  have hbd := HB.out.drew
  clear hT hO HB
  generalize w1.drew = wv at *
  refine wpAnyH_take (i := 0) (v := .pointer (some ⟨gx, 3, none⟩)) rfl (by kernel_rfl) (by kernel_rfl) (by kernel_rfl) (fun _ _ _ h => h) (.inl ⟨by rfl, fun W' hW' => ?_⟩) hS ?_
  ·skip
   go_simp
  try simp only [tkf]
  refine wpAnyH_take (i := 1) (v := .int .i64 o3) rfl (by kernel_rfl) (by kernel_rfl) (by kernel_rfl) (fun _ _ _ h => h) (.inl ⟨by rfl, fun W' hW' => ?_⟩) hS ?_
  ·have d0 : W'.cell? ⟨gx, 3, none⟩ = some (.int .i64 o3) := hW'.2.cell 3
   go_simp
  try simp only [tkf]
  refine wpAnyH_take (i := 2) (v := .bool false) rfl (by kernel_rfl) (by kernel_rfl) (by kernel_rfl) (fun _ _ _ h => h) (.inl ⟨by rfl, fun W' hW' => ?_⟩) hS ?_
  ·skip
   go_simp
  try simp only [tkf]
  refine wpAnyH_take (i := 3) (v := .bool false) rfl (by kernel_rfl) (by kernel_rfl) (by kernel_rfl) (fun _ _ _ h => h) (.inl ⟨by rfl, fun W' hW' => ?_⟩) hS ?_
  ·skip
   go_simp
  try simp only [tkf]
  refine wpAnyH_take (i := 4) (v := undef) rfl (by kernel_rfl) (by kernel_rfl) (by kernel_rfl) (fun _ _ _ h => h) (.inr ⟨by rfl, rfl⟩) hS ?_
  try simp only [tkf]
  refine wpAnyH_take (i := 5) (v := undef) rfl (by kernel_rfl) (by kernel_rfl) (by kernel_rfl) (fun _ _ _ h => h) (.inr ⟨by rfl, rfl⟩) hS ?_
  try simp only [tkf]
  refine wpAnyH_take (i := 6) (v := undef) rfl (by kernel_rfl) (by kernel_rfl) (by kernel_rfl) (fun _ _ _ h => h) (.inr ⟨by rfl, rfl⟩) hS ?_
  try simp only [tkf]
  refine wpAnyH_take (i := 7) (v := undef) rfl (by kernel_rfl) (by kernel_rfl) (by kernel_rfl) (fun _ _ _ h => h) (.inr ⟨by rfl, rfl⟩) hS ?_
  try simp only [tkf]
  refine wpAnyH_take (i := 8) (v := undef) rfl (by kernel_rfl) (by kernel_rfl) (by kernel_rfl) (fun _ _ _ h => h) (.inr ⟨by rfl, rfl⟩) hS ?_
  try simp only [tkf]
  refine wpAnyH_take (i := 9) (v := undef) rfl (by kernel_rfl) (by kernel_rfl) (by kernel_rfl) (fun _ _ _ h => h) (.inr ⟨by rfl, rfl⟩) hS ?_
  try simp only [tkf]
  refine wpAnyH_take (i := 10) (v := undef) rfl (by kernel_rfl) (by kernel_rfl) (by kernel_rfl) (fun _ _ _ h => h) (.inr ⟨by rfl, rfl⟩) hS ?_
  try simp only [tkf]
  refine wpAnyH_take (i := 11) (v := undef) rfl (by kernel_rfl) (by kernel_rfl) (by kernel_rfl) (fun _ _ _ h => h) (.inr ⟨by rfl, rfl⟩) hS ?_
  try simp only [tkf]
  refine wpAnyH_take (i := 12) (v := undef) rfl (by kernel_rfl) (by kernel_rfl) (by kernel_rfl) (fun _ _ _ h => h) (.inr ⟨by rfl, rfl⟩) hS ?_
  try simp only [tkf]
  refine wpAnyH_take (i := 13) (v := .bool false) rfl (by kernel_rfl) (by kernel_rfl) (by kernel_rfl) (fun _ _ _ h => h) (.inl ⟨by rfl, fun W' hW' => ?_⟩) hS ?_
  ·skip
   go_simp
  try simp only [tkf]
  refine ak 14 fun K hK => ?_
  go_simp
  refine (insist_no wv 1).mono ?_
  rintro e w2 ⟨rfl, h2⟩
  rw [h2]
  exact ⟨rfl, .inr ⟨HN.out, rfl, hbd⟩⟩
theorem Tv.setNow {w : World} {B g : Nat} {c : Cor} {os : List Ot} {qv bv sv kv cv ov : Value} (h : Tv w B g c os qv bv sv kv cv ov) (n : Int) : Tv (w.setCell ⟨g, 0, none⟩ (.int .i64 n)) B g { c with now := n } os qv bv sv kv cv ov := by
 have k : KX 77 w (w.setCell ⟨g, 0, none⟩ (.int .i64 n)) := .cell h.blk _
 exact ⟨by simpa using h.blk.set 0 (.int .i64 n), h.low, h.q.kx k (by decide), h.b.kx k (by decide), h.s.kx k (by decide), h.k.kx k (by decide), h.c.kx k (by decide), h.o.kx k (by decide)⟩
theorem tick_op (w : World) (B g : Nat) (c : Cor) (os : List Ot) (hT : T w B g c os) (hg : GoodC c) (o : Opr) (pv : Value) (ho : -9223372036854775808 ≤ o.n ∧ o.n ≤ 9223372036854775807) :
  Calls Tryz.prog 60 #[.pointer (some ⟨g, 0, none⟩), opV o pv] w fun e w' => Led w B g os (noO (tickC c o)) e w' := by
 obtain ⟨qv, bv, sv, kv, cv, ov, hT⟩ := hT
 have hn := hg.now
 simp only [numB, Bool.and_eq_true, decide_eq_true_eq] at hn
 unfold opV
 refine (tick_any w g c.now qv bv sv kv cv ov hT.blk hn o.kind o.conn o.sub o.n _ _ _ _ _ _ _ _ _ _ ho).mono ?_
 rintro e w' (⟨h1, rfl, w1, b1, k1, rfl⟩ | ⟨h1, rfl, b1⟩)
 ·have hT1 := hT.on b1
  refine led_ok (c := { c with now := c.now + o.n }) (by simp [tickC, ins, h1]) ⟨_, _, _, _, _, _, hT1.setNow _⟩ ((FrT.of_below b1 hT.lt).trans (.cell k1 hT.low _))
 ·refine led_no (n := 1) ?_ (.of_below b1 hT.lt)
  have h2 : (decide (0 ≤ o.n) && decide (o.n ≤ 1099511627776 - c.now)) = false := by
   rw [Bool.and_eq_false_iff]
   simp only [decide_eq_false_iff_not]
   omega
  simp only [tickC, ins, h2]
  rfl
def ktO (o : Opr) (l : List Msg) : List Ot := (l.filter (fun m => mat o.text m.topic)).map fun m => ⟨o.conn, o.sub, 0, o.queue, false, true, m⟩
theorem ktO_snoc (o : Opr) (l : List Msg) (m : Msg) : ktO o (l ++ [m]) = ktO o l ++ (if mat o.text m.topic = true then [⟨o.conn, o.sub, 0, o.queue, false, true, m⟩] else []) := by
 unfold ktO
 rw [List.filter_append, List.map_append]
 congr 1
 cases h : mat o.text m.topic <;> simp [h]
theorem ktO_len (o : Opr) (l : List Msg) : (ktO o l).length ≤ l.length := by
 unfold ktO
 rw [List.length_map]
 exact List.length_filter_le _ _
structure HkI (w W : World) (B g gx : Nat) (c : Cor) (os : List Ot) (qv bv sv kv cv : Value) (o : Opr) (pv : Value) (i : Nat) : Prop where
 t : ∃ ov, Tv W B g c (os ++ ktO o (c.kept.take i)) qv bv sv kv cv ov
 f : FrT B w W
 x : Blk W gx (opA o pv) 35
set_option maxHeartbeats 8000000 in
theorem handKept_any (w : World) (B g : Nat) (c : Cor) (os : List Ot) (hT : T w B g c os) (hg : GoodC c) (hV : VB B w) (hos : os.length ≤ 10000) (o : Opr) (pv : Value) (hp : pv.oneCell' = true) :
  Calls Tryz.prog 121 #[.pointer (some ⟨g, 0, none⟩), opV o pv] w fun e w' => e = .returned (.tuple #[]) ∧ T w' B g c (os ++ ktO o c.kept) ∧ FrT B w w' := by
 obtain ⟨qv, bv, sv, kv, cv, ov0, hT⟩ := hT
 obtain ⟨n, hn⟩ : ∃ n, c.kept.length = n := ⟨_, rfl⟩
 have hkl := hg.kl
 have b0 := (Below.refl w.heap.size w).alloc (Nat.le_refl _) (.cells (opA o pv) 35)
 have hO := Blk.new w (opA o pv) 35
 have hT1 := hT.on b0
 have hF1 : FrT B w (w.alloc (.cells (opA o pv) 35)) := .of_below b0 hT.lt
 unfold opV
 go_enter Tryz.func121, Tryz.ntmps121
 go_upto_region 1 with fail
 generalize w.alloc (.cells (opA o pv) 35) = w1 at *
 obtain ⟨gx, egx⟩ : ∃ g, w.heap.size = g := ⟨_, rfl⟩
 rw [egx] at hO ⊢
 clear egx b0 hT
 have HGX : Hid (gx ≠ g) := fun e => by
  have h1 := hO.h
  rw [e, hT1.blk.h] at h1
  injection h1 with h1
  injection h1 with _ h1
  cases h1
 obtain ⟨zs, ezs, hzs⟩ := hT1.k
 have hzl : zs.length = n := by rw [← hn, ← ezs, List.length_map]
 obtain ⟨ka, kcp, ekv⟩ := hzs.rd.len
 rw [hzl] at ekv
 obtain ⟨c0, c1, c2, c3, c4, c5, c6⟩ := hT1.blk.c7
 rw [ekv] at c4
 have HKV : Hid (kv = .slice ka n kcp) := ekv
 have HT0 : Hid (HkI w w1 B g gx c os qv bv sv kv cv o pv 0) := ⟨⟨ov0, by simpa [ktO] using hT1⟩, hF1, hO⟩
 clear hT1 hF1 hO zs ezs hzs hzl ekv
 go_wp2_with fail
 clear c0 c1 c2 c3 c4 c5 c6
 go_loopg [5, 12] n (fun gg _ s12 wr => ∃ i : Nat, i ≤ n ∧ n - i ≤ gg ∧ s12 = .int .i64 i ∧ Hid (HkI w wr B g gx c os qv bv sv kv cv o pv i))
 case atStart => exact ⟨0, Nat.zero_le _, by omega, rfl, HT0.out⟩
 case round =>
  obtain ⟨i, hi, hgg, rfl, HP⟩ := hrel
  by_cases hlt : i < n
  ·have hltz : (i : Int) < (n : Int) := by omega
   have hin : i < c.kept.length := by omega
   obtain ⟨ov, hT1⟩ := HP.out.t
   obtain ⟨zs, ezs, hzs⟩ := hT1.k
   have hzl : zs.length = n := by rw [← hn, ← ezs, List.length_map]
   have hrd := hzs.rd
   rw [HKV.out] at hrd
   obtain ⟨kb, ko, v0, v1, pm, v3, v4, rfl, hz1, hzR, hone, hcs⟩ := el5_at hrd (i := i) (by omega)
   obtain ⟨e0, e1, e2, e3, e4⟩ := hcs wr (Below.refl _ _)
   obtain ⟨m, hm⟩ : ∃ m, c.kept[i] = m := ⟨_, rfl⟩
   have hsj : (zs[i]'(by omega)).2 = m := by
    have e5 : (zs.map (·.2))[i]'(by rw [List.length_map]; omega) = c.kept[i] := by simp only [ezs]
    rw [← hm, ← e5, List.getElem_map]
   rw [hsj] at hzR
   obtain ⟨pm', hzR, hpm⟩ := hzR
   unfold msgV at hzR
   injection hzR with z0 hzR
   injection hzR with z1 hzR
   injection hzR with z2 hzR
   injection hzR with z3 hzR
   injection hzR with z4 hzR
   subst z0 z1 z2 z3 z4
   have hpl : m.props.length ≤ 2513169434916 := by
    have h1 := hg.kg _ (List.getElem_mem hin)
    rw [hm] at h1
    simp only [kepB, msgB, Bool.and_eq_true] at h1
    have := (valid_parts h1.1.1.2).1
    omega
   have hal : ((msA m pm) : Array Value).all (·.oneCell') = true := by
    simp only [Array.all_eq_true_iff_forall_mem]
    intro u hu
    simp only [List.mem_toArray, List.mem_cons, List.not_mem_nil, or_false] at hu
    rcases hu with rfl | rfl | rfl | rfl | rfl
    all_goals first | rfl | exact hpm.rd.one
   have HPM : Hid (RdP wr pm m.props) := hpm.rd
   have HX : Hid (HkI w wr B g gx c os qv bv sv kv cv o pv i) := HP.out
   clear hT1 hzs ezs hrd hz1 hone hcs hsj hzR hpm hzl HP
   go_wp2_with (refine wpl_fresh rfl (.tmp 5) (.tmp 15) rfl _ _ rfl rfl (by kernel_rfl) rfl hal ?_)
   intro w2 k2 b2 s2
   clear e0 e1 e2 e3 e4
   obtain ⟨ov, hT1⟩ := HX.out.t
   have hT2 := hT1.on b2
   have hF2 := HX.out.f.trans (.of_below b2 hT1.lt)
   have hX2 := HX.out.x.on b2
   have HB2 : Hid (Bw wr w2) := b2
   obtain ⟨gm, egm⟩ : ∃ x, wr.heap.size = x := ⟨_, rfl⟩
   rw [egm] at k2 ⊢
   have HM := To.match_any w2 (hV.fr hF2).now o.text m.topic
   have HX2 : Hid (Tv w2 B g c (os ++ ktO o (c.kept.take i)) qv bv sv kv cv ov ∧ FrT B w w2 ∧ Blk w2 gx (opA o pv) 35 ∧ Blk w2 gm (msA m pm) 33) := ⟨hT2, hF2, hX2, k2⟩
   have d5 : w2.cell? ⟨gx, 5, none⟩ = some (tx o.text) := hX2.cell 5
   have e0 : w2.cell? ⟨gm, 0, none⟩ = some (tx m.topic) := k2.cell 0
   clear hT1 hT2 hF2 hX2 k2 b2 s2 HX egm
   go_wp2_with fail
   refine HM.mono ?_
   rintro e w3 ⟨rfl, b3⟩
   clear HM d5 e0
   obtain ⟨hT2, hF2, hX2, k2⟩ := HX2.out
   have hT3 := hT2.on b3
   have hF3 := hF2.trans (.of_below b3 hT2.lt)
   have hX3 := hX2.on b3
   have k3 := k2.on b3
   have HB3 : Hid (Bw wr w3) := nxt HB2.out b3
   clear HX2 hT2 hF2 hX2 k2 b3 HB2
   have hsn := ktO_snoc o (c.kept.take i) m
   rw [← hm, ← List.take_succ_eq_append_getElem hin, hm] at hsn
   cases hmt : mat o.text m.topic with
   | false =>
    rw [hmt] at hsn
    have HP2 : Hid (HkI w w3 B g gx c os qv bv sv kv cv o pv (i + 1)) := ⟨⟨ov, by rw [hsn]; simpa using hT3⟩, hF3, hX3⟩
    clear hT3 hF3 hX3 k3 hsn
    go_wp2_with fail
    go_roundg (n - (i + 1))
    case measure => omega
    case rel => exact ⟨i + 1, by omega, by omega, rfl, HP2.out⟩
   | true =>
    rw [hmt] at hsn
    have HSN : Hid _ := hsn
    have hlen : (os ++ ktO o (c.kept.take i)).length ≤ 20000 := by
     have := ktO_len o (c.kept.take i)
     rw [List.length_append]
     rw [List.length_take] at this
     omega
    clear hsn
    go_upto_region 5 with fail
    refine wp_region_to (S := fun W => (Blk W g #[.int .i64 c.now, qv, bv, sv, kv, cv, ov] 77 ∧ Blk W gx (opA o pv) 35) ∧ Blk W gm (msA m pm) 33) (z := 18) hmix ?_
    show wpTo _ _ _ _ _ _ _ _ _ (World.drew _)
    have hT7 := hT3.drew
    have hF7 := hF3.drew
    have bw7 := HB3.out.drew
    have hS : (Blk w3.drew g #[.int .i64 c.now, qv, bv, sv, kv, cv, ov] 77 ∧ Blk w3.drew gx (opA o pv) 35) ∧ Blk w3.drew gm (msA m pm) 33 := ⟨⟨hT7.blk, ⟨hX3.h⟩⟩, ⟨k3.h⟩⟩
    clear hT3 hF3 hX3 k3
    generalize w3.drew = w7 at *
    refine wpTo.take (i := 0) (z := 18) (v := .pointer (some ⟨g, 0, none⟩)) rfl (by kernel_rfl) (by kernel_rfl) (by kernel_rfl) (by kernel_rfl) (fun _ _ _ h => h) (.inl ⟨by rfl, fun W' hW' => ?_⟩) hS ?_
    ·skip
     go_simp
    try simp only [tkf]
    refine wpTo.take (i := 1) (z := 18) (v := .pointer (some ⟨g, 0, none⟩)) rfl (by kernel_rfl) (by kernel_rfl) (by kernel_rfl) (by kernel_rfl) (fun _ _ _ h => h) (.inl ⟨by rfl, fun W' hW' => ?_⟩) hS ?_
    ·skip
     go_simp
    try simp only [tkf]
    refine wpTo.take (i := 2) (z := 18) (v := .pointer (some ⟨g, 0, none⟩)) rfl (by kernel_rfl) (by kernel_rfl) (by kernel_rfl) (by kernel_rfl) (fun _ _ _ h => h) (.inl ⟨by rfl, fun W' hW' => ?_⟩) hS ?_
    ·skip
     go_simp
    try simp only [tkf]
    refine wpTo.take (i := 3) (z := 18) (v := .pointer (some ⟨g, 6, none⟩)) rfl (by kernel_rfl) (by kernel_rfl) (by kernel_rfl) (by kernel_rfl) (fun _ _ _ h => h) (.inl ⟨by rfl, fun W' hW' => ?_⟩) hS ?_
    ·skip
     go_simp
    try simp only [tkf]
    refine wpTo.take (i := 4) (z := 18) (v := ov) rfl (by kernel_rfl) (by kernel_rfl) (by kernel_rfl) (by kernel_rfl) (fun _ _ _ h => h) (.inl ⟨by rfl, fun W' hW' => ?_⟩) hS ?_
    ·have d0 : W'.cell? ⟨g, 6, none⟩ = some (ov) := hW'.1.1.cell 6
     go_simp
    try simp only [tkf]
    refine wpTo.take (i := 5) (z := 18) (v := .pointer (some ⟨gx, 1, none⟩)) rfl (by kernel_rfl) (by kernel_rfl) (by kernel_rfl) (by kernel_rfl) (fun _ _ _ h => h) (.inl ⟨by rfl, fun W' hW' => ?_⟩) hS ?_
    ·skip
     go_simp
    try simp only [tkf]
    refine wpTo.take (i := 6) (z := 18) (v := .int .i64 o.conn) rfl (by kernel_rfl) (by kernel_rfl) (by kernel_rfl) (by kernel_rfl) (fun _ _ _ h => h) (.inl ⟨by rfl, fun W' hW' => ?_⟩) hS ?_
    ·have d0 : W'.cell? ⟨gx, 1, none⟩ = some (.int .i64 o.conn) := hW'.1.2.cell 1
     go_simp
    try simp only [tkf]
    refine wpTo.take (i := 7) (z := 18) (v := .pointer (some ⟨gx, 2, none⟩)) rfl (by kernel_rfl) (by kernel_rfl) (by kernel_rfl) (by kernel_rfl) (fun _ _ _ h => h) (.inl ⟨by rfl, fun W' hW' => ?_⟩) hS ?_
    ·skip
     go_simp
    try simp only [tkf]
    refine wpTo.take (i := 8) (z := 18) (v := .int .i64 o.sub) rfl (by kernel_rfl) (by kernel_rfl) (by kernel_rfl) (by kernel_rfl) (fun _ _ _ h => h) (.inl ⟨by rfl, fun W' hW' => ?_⟩) hS ?_
    ·have d0 : W'.cell? ⟨gx, 2, none⟩ = some (.int .i64 o.sub) := hW'.1.2.cell 2
     go_simp
    try simp only [tkf]
    refine wpTo.take (i := 9) (z := 18) (v := .pointer (some ⟨gx, 4, none⟩)) rfl (by kernel_rfl) (by kernel_rfl) (by kernel_rfl) (by kernel_rfl) (fun _ _ _ h => h) (.inl ⟨by rfl, fun W' hW' => ?_⟩) hS ?_
    ·skip
     go_simp
    try simp only [tkf]
    refine wpTo.take (i := 10) (z := 18) (v := tx o.queue) rfl (by kernel_rfl) (by kernel_rfl) (by kernel_rfl) (by kernel_rfl) (fun _ _ _ h => h) (.inl ⟨by rfl, fun W' hW' => ?_⟩) hS ?_
    ·have d0 : W'.cell? ⟨gx, 4, none⟩ = some (tx o.queue) := hW'.1.2.cell 4
     go_simp
    try simp only [tkf]
    refine wpTo.take (i := 11) (z := 18) (v := .agg #[tx m.topic, tx m.body, pm, .bool m.dur, .int .i64 m.til]) rfl (by kernel_rfl) (by kernel_rfl) (by kernel_rfl) (by kernel_rfl) (fun _ _ _ h => h) (.inl ⟨by rfl, fun W' hW' => ?_⟩) hS ?_
    ·have d0 : W'.cell? ⟨gm, 0, none⟩ = some (tx m.topic) := hW'.2.cell 0
     have d1 : W'.cell? ⟨gm, 1, none⟩ = some (tx m.body) := hW'.2.cell 1
     have d2 : W'.cell? ⟨gm, 2, none⟩ = some (pm) := hW'.2.cell 2
     have d3 : W'.cell? ⟨gm, 3, none⟩ = some (.bool m.dur) := hW'.2.cell 3
     have d4 : W'.cell? ⟨gm, 4, none⟩ = some (.int .i64 m.til) := hW'.2.cell 4
     go_simp
    try simp only [tkf]
    refine wpTo.one (i := 12) (by kernel_rfl) rfl (by rfl) (fun K hK => ?_)
    go_simp
    refine (copyMsg_any _ m pm (RdP.on HPM.out (bw7)) hpl).mono ?_
    rintro e w8 ⟨pm2, rfl, o8, b8⟩
    have hS8 : (Blk w8 g #[.int .i64 c.now, qv, bv, sv, kv, cv, ov] 77 ∧ Blk w8 gx (opA o pv) 35) ∧ Blk w8 gm (msA m pm) 33 := ⟨⟨hS.1.1.on b8, hS.1.2.on b8⟩, hS.2.on b8⟩
    have hT8 := hT7.on b8
    have hF8 := hF7.trans (.of_below b8 hT7.lt)
    have p8 := o8.low hT7.lt
    clear hS hT7 hF7 o8 b8 bw7
    have hS := hS8
    clear hS8
    unfold msgV
    show K _ _
    refine hK _ _ (fun _ => hS) ?_
    clear hK K
    try simp only [tkf]
    refine wpTo.take (i := 13) (z := 18) (v := .agg #[.int .i64 o.conn, .int .i64 o.sub, .int .i64 0, tx o.queue, .bool false, .bool true, tx m.topic, tx m.body, pm2, .bool m.dur, .int .i64 m.til]) rfl (by kernel_rfl) (by kernel_rfl) (by kernel_rfl) (by kernel_rfl) (fun _ _ _ h => h) (.inl ⟨by rfl, fun W' hW' => ?_⟩) hS ?_
    ·skip
     go_simp
    try simp only [tkf]
    refine wpTo.one (i := 14) (by kernel_rfl) rfl (by rfl) (fun K hK => ?_)
    go_simp
    have b9 := (Below.refl w8.heap.size w8).alloc (Nat.le_refl _) (.cells #[.int .i64 o.conn, .int .i64 o.sub, .int .i64 0, tx o.queue, .bool false, .bool true, tx m.topic, tx m.body, pm2, .bool m.dur, .int .i64 m.til] 61)
    have k9 := Blk.new w8 #[.int .i64 o.conn, .int .i64 o.sub, .int .i64 0, tx o.queue, .bool false, .bool true, tx m.topic, tx m.body, pm2, .bool m.dur, .int .i64 m.til] 61
    have hT9 := hT8.on b9
    have p9 := p8.keep (Kt.of_below (t := 66) b9)
    have hF9 := hF8.trans (.of_below b9 hT8.lt)
    have hS9 : (Blk (w8.alloc (.cells #[.int .i64 o.conn, .int .i64 o.sub, .int .i64 0, tx o.queue, .bool false, .bool true, tx m.topic, tx m.body, pm2, .bool m.dur, .int .i64 m.til] 61)) g #[.int .i64 c.now, qv, bv, sv, kv, cv, ov] 77 ∧ Blk (w8.alloc (.cells #[.int .i64 o.conn, .int .i64 o.sub, .int .i64 0, tx o.queue, .bool false, .bool true, tx m.topic, tx m.body, pm2, .bool m.dur, .int .i64 m.til] 61)) gx (opA o pv) 35) ∧ Blk (w8.alloc (.cells #[.int .i64 o.conn, .int .i64 o.sub, .int .i64 0, tx o.queue, .bool false, .bool true, tx m.topic, tx m.body, pm2, .bool m.dur, .int .i64 m.til] 61)) gm (msA m pm) 33 := ⟨⟨hS.1.1.on b9, hS.1.2.on b9⟩, hS.2.on b9⟩
    show K _ _
    refine hK _ _ (fun _ => hS9) ?_
    obtain ⟨nb, hnb⟩ : ∃ nb, w8.heap.size = nb := ⟨_, rfl⟩
    rw [hnb] at k9 ⊢
    generalize w8.alloc (.cells #[.int .i64 o.conn, .int .i64 o.sub, .int .i64 0, tx o.queue, .bool false, .bool true, tx m.topic, tx m.body, pm2, .bool m.dur, .int .i64 m.til] 61) = w9 at *
    clear hK K hS hT8 p8 hF8 b9 hnb
    have hS := hS9
    clear hS9
    try simp only [tkf]
    refine wpTo.one (i := 15) (by kernel_rfl) rfl (by rfl) (fun K hK => ?_)
    obtain ⟨zo, ezo, hzo⟩ := hT9.o
    refine appO_one hzo hT9.lt (.tmp 25) (.tmp 35) rfl rfl nb rfl ⟨o.conn, o.sub, 0, o.queue, false, true, m⟩ pm2 k9 p9 (by have := congrArg List.length ezo; rw [List.length_map] at this; omega) ?_
    intro vA wA oA gA
    rw [ezo] at oA
    obtain ⟨aA, nA, cA, rfl⟩ := OwnL.shape oA
    obtain ⟨TB, FB, kA⟩ := hT9.row_o gA oA
    have kxA : KX 61 w9 wA := .of_grown hzo.1 gA
    have hSA : (Blk wA g #[.int .i64 c.now, qv, bv, sv, kv, cv, ov] 77 ∧ Blk wA gx (opA o pv) 35) ∧ Blk wA gm (msA m pm) 33 := ⟨⟨kA, hS.1.2.kt (kxA.kt _ (by decide))⟩, hS.2.kt (kxA.kt _ (by decide))⟩
    refine hK _ _ (fun _ => hSA) ?_
    clear hK K hS hzo ezo zo
    have hS := hSA
    clear hSA
    try simp only [tkf]
    refine wpTo.one (i := 16) (by kernel_rfl) rfl (by rfl) (fun K hK => ?_)
    skip
    go_simp
    refine hK _ _ (fun _ => hS) ?_
    clear hK K
    try simp only [tkf]
    refine wpTo.one (i := 17) (by kernel_rfl) rfl (by rfl) (fun K hK => ?_)
    skip
    go_simp
    refine hK _ _ (fun _ => hS) ?_
    clear hK K
    try simp only [tkf]
    refine wpTo.one (i := 18) (by kernel_rfl) rfl (by rfl) (fun K hK => ?_)
    have f9 := kA.frozen 6
    have c9' : wA.cell? ⟨g, 6, none⟩ = some ov := kA.cell 6
    go_simp
    show K _ _
    refine hK _ _ (fun h => absurd rfl h) ?_
    clear hK K f9 c9'
    try simp only [tkf]
    refine wpTo.done (by kernel_rfl) ?_ _
    have HP2 : Hid (HkI w (wA.setCell ⟨g, 6, none⟩ (.slice aA nA cA)) B g gx c os qv bv sv kv cv o pv (i + 1)) := by
     refine ⟨⟨.slice aA nA cA, ?_⟩, hF9.trans FB, hS.1.2.setO (fun e => HGX.out e) _⟩
     have h1 := HSN.out
     simp only [if_true] at h1
     rw [h1, ← List.append_assoc]
     exact TB
    clear TB FB kA hS hT9 hF9 p9 k9
    go_wp2_with fail
    go_roundg (n - (i + 1))
    case measure => omega
    case rel => exact ⟨i + 1, by omega, by omega, rfl, HP2.out⟩
  ·obtain rfl : i = n := by omega
   have hltz : ¬ ((i : Int) < (i : Int)) := by omega
   have HF : Hid (T wr B g c (os ++ ktO o c.kept) ∧ FrT B w wr) := by
    obtain ⟨ov, h1⟩ := HP.out.t
    rw [List.take_of_length_le (by omega)] at h1
    exact ⟨⟨_, _, _, _, _, _, h1⟩, HP.out.f⟩
   clear HP
   go_wp2_with fail
   go_end0
   exact ⟨rfl, HF.out⟩
set_option maxHeartbeats 4000000 in
theorem bind_op (w : World) (B g : Nat) (c : Cor) (os : List Ot) (hT : T w B g c os) (hg : GoodC c) (hV : VB B w) (hos : os.length ≤ 10000) (o : Opr) (pv : Value) (hp : pv.oneCell' = true) :
  Calls Tryz.prog 48 #[.pointer (some ⟨g, 0, none⟩), opV o pv] w fun e w' => Led w B g os (bindC c o) e w' := by
 obtain ⟨qv, bv, sv, kv, cv, ov, hT⟩ := hT
 have b0 := (Below.refl w.heap.size w).alloc (Nat.le_refl _) (.cells (opA o pv) 35)
 have hO := Blk.new w (opA o pv) 35
 have hT1 := hT.on b0
 have hF1 : FrT B w (w.alloc (.cells (opA o pv) 35)) := .of_below b0 hT.lt
 unfold opV
 go_enter Tryz.func48, Tryz.ntmps48
 go_upto_region 1 with fail
 generalize w.alloc (.cells (opA o pv) 35) = w1 at *
 obtain ⟨gx, egx⟩ : ∃ g, w.heap.size = g := ⟨_, rfl⟩
 rw [egx] at hO ⊢
 clear egx b0 hT
 have hT2 := hT1
 have hF2 := hF1
 have HG : Hid (gx ≠ g) := fun e => by
  have h1 := hO.h
  rw [e, hT1.blk.h] at h1
  injection h1 with h1
  injection h1 with _ h1
  cases h1
 clear hT1 hF1
 refine rh (fun W => Blk W g #[.int .i64 c.now, qv, bv, sv, kv, cv, ov] 77 ∧ Blk W gx (opA o pv) 35) ?_
 have hS : Blk (World.drew w1) g #[.int .i64 c.now, qv, bv, sv, kv, cv, ov] 77 ∧ Blk (World.drew w1) gx (opA o pv) 35 := ⟨⟨hT2.blk.h⟩, ⟨hO.h⟩⟩
 have hT3 := hT2.drew
 have hF3 := hF2.drew
 clear hT2 hF2
 clear hO
 generalize w1.drew = w3 at *
 refine tks [0, 1, 2, 3, 4, 5] [.pointer (some ⟨g, 0, none⟩), .pointer (some ⟨g, 0, none⟩), .pointer (some ⟨g, 0, none⟩), .agg #[.int .i64 c.now, qv, bv, sv, kv, cv], .pointer (some ⟨gx, 4, none⟩), tx o.queue] 2 ?_ hS ?_
 ·simp only [tkY, tkf]
  refine ⟨.yes ?_, .yes ?_, .yes ?_, .yes ?_, .yes ?_, .yes ?_, trivial⟩
  all_goals
   intro W' hW'
   have := hW'.1.ce 0
   have := hW'.1.ce 1
   have := hW'.1.ce 2
   have := hW'.1.ce 3
   have := hW'.1.ce 4
   have := hW'.1.ce 5
   have := hW'.2.ce 4
   go_simp
 simp only [tkA, tkf]
 refine ak 6 fun K hK => ?_
 go_simp
 refine (hasQueue_any _ c qv bv sv kv cv (rdq_own hT3.q) ((risB_inc linQ _).2 hg.qi) (by have := hg.ql; omega) o.queue).mono ?_
 rintro e w4 ⟨rfl, b4⟩
 have hS4 : Blk w4 g #[.int .i64 c.now, qv, bv, sv, kv, cv, ov] 77 ∧ Blk w4 gx (opA o pv) 35 := ⟨hS.1.on b4, hS.2.on b4⟩
 have hT4 := hT3.on b4
 have hF4 := hF3.trans (.of_below b4 hT3.lt)
 clear hT3 hF3 hS b4
 have hS := hS4
 clear hS4
 show K _ _
 refine hK _ _ hS ?_
 clear hK K
 try simp only [tkf]
 refine ak 7 fun K hK => ?_
 go_simp
 refine (insist_any _ _ 33).mono ?_
 rintro e wI ⟨hI, hb⟩
 rcases hb with ⟨hb, he⟩ | ⟨hb, he⟩
 rotate_left
 ·subst he
  rw [hI]
  exact ⟨rfl, .inr ⟨33, by simp [bindC, ins, hb], rfl, hF4⟩⟩
 subst he
 show K _ _
 rw [hI]
 refine hK _ _ hS ?_
 clear hK K hI wI
 try simp only [tkf]
 refine ad ?_
 have HM := To.pattern_any w4 (hV.fr hF4).now o.text
 have d5 : w4.cell? ⟨gx, 5, none⟩ = some (tx o.text) := hS.2.cell 5
 have HX4 : Hid (Tv w4 B g c os qv bv sv kv cv ov ∧ FrT B w w4 ∧ Blk w4 gx (opA o pv) 35) := ⟨hT4, hF4, hS.2⟩
 clear hT4 hF4 hS
 go_wp2_with fail
 refine HM.mono ?_
 rintro e w2 ⟨rfl, b2⟩
 clear HM d5
 obtain ⟨hT4, hF4, hO4⟩ := HX4.out
 have HX2 : Hid (Tv w2 B g c os qv bv sv kv cv ov ∧ FrT B w w2 ∧ Blk w2 gx (opA o pv) 35) := ⟨hT4.on b2, hF4.trans (.of_below b2 hT4.lt), hO4.on b2⟩
 clear HX4 hT4 hF4 hO4 b2
 have HI := insist_any w2 (pat o.text) 30
 go_wp2_with fail
 refine HI.mono ?_
 rintro e wI ⟨hI, hb0⟩
 rw [hI]
 clear hI wI HI
 rcases hb0 with ⟨hb2, he⟩ | ⟨hb2, he⟩
 rotate_left
 ·subst he
  exact ⟨rfl, .inr ⟨30, by simp [bindC, ins, hb, hb2], rfl, HX2.out.2.1⟩⟩
 subst he
 obtain ⟨hT2, hF2, hO2⟩ := HX2.out
 clear HX2
 go_upto_region 3 with fail
 refine rh (fun W => Blk W gx (opA o pv) 35) ?_
 have hS : Blk (World.drew w2) gx (opA o pv) 35 := ⟨hO2.h⟩
 have hT3 := hT2.drew
 have hF3 := hF2.drew
 clear hT2 hF2
 clear hO2
 generalize w2.drew = w5 at *
 refine tks [0, 1, 2, 3, 4, 6, 7, 8, 9, 10] [.pointer (some ⟨g, 0, none⟩), .pointer (some ⟨g, 0, none⟩), .pointer (some ⟨g, 0, none⟩), .pointer (some ⟨g, 0, none⟩), .pointer (some ⟨g, 2, none⟩), .pointer (some ⟨gx, 4, none⟩), tx o.queue, .pointer (some ⟨gx, 5, none⟩), tx o.text, .agg #[tx o.queue, tx o.text]] 6 ?_ hS ?_
 ·simp only [tkY, tkf]
  refine ⟨.yes ?_, .yes ?_, .yes ?_, .yes ?_, .yes ?_, .yes ?_, .yes ?_, .yes ?_, .yes ?_, .yes ?_, trivial⟩
  all_goals
   intro W' hW'
   have := hW'.ce 4
   have := hW'.ce 5
   go_simp
 simp only [tkA, tkf]
 refine ak 5 fun K hK => ?_
 have d0 : w5.cell? ⟨g, 2, none⟩ = some bv := hT3.blk.cell 2
 go_simp
 refine hK _ _ hS ?_
 clear hK K
 try simp only [tkf]
 refine ak 11 fun K hK => ?_
 go_simp
 refine (enBs _ B hT3.lt bv c.binds hT3.b hg.bi (by have := hg.bl; omega) ⟨o.queue, o.text⟩).mono ?_
 rintro e w6 h6
 rcases h6 with ⟨v6, hen, he, o6, g6⟩ | ⟨hen, he, b6⟩
 rotate_left
 ·subst he
  exact ⟨rfl, .inr ⟨34, by simp only [bindC, ins, hb, hb2, if_true, hen, bnd], rfl, hF3.trans (.of_below b6 hT3.lt)⟩⟩
 subst he
 obtain ⟨a6, n6, cc6, rfl⟩ := OwnL.shape o6
 have kx6 : KX 43 w5 w6 := by
  obtain ⟨zs, _, hz⟩ := hT3.b
  exact .of_grown hz.1 g6
 obtain ⟨T7, F7, k7⟩ := hT3.row_b g6 o6
 have hS6 : Blk w6 gx (opA o pv) 35 := hS.kt (kx6.kt _ (by decide))
 clear hS
 have hS := hS6
 clear hS6
 show K _ _
 refine hK _ _ hS ?_
 clear hK K
 try simp only [tkf]
 refine tks [12, 13, 14] [.pointer (some ⟨g, 0, none⟩), .pointer (some ⟨g, 0, none⟩), .pointer (some ⟨g, 2, none⟩)] 1 ?_ hS ?_
 ·simp only [tkY, tkf]
  refine ⟨.yes ?_, .yes ?_, .yes ?_, trivial⟩
  all_goals
   intro W' hW'
   go_simp
 simp only [tkA, tkf]
 refine ak 15 fun K hK => ?_
 go_simp
 have f7 := k7.frozen 2
 have c7 : w6.cell? ⟨g, 2, none⟩ = some bv := k7.cell 2
 go_simp
 refine hK _ _ (hS.setO (fun e => HG.out e) _) ?_
 have hO7 := hS.setO (g' := g) (j := 2) (fun e => HG.out e) (.slice a6 n6 cc6)
 clear hK K f7 c7
 try simp only [tkf]
 refine ad ?_
 have F7' := hF3.trans F7
 clear hS hT3 hF3 F7 k7 g6 o6 kx6
 generalize w6.setCell ⟨g, 2, none⟩ (.slice a6 n6 cc6) = w7 at *
 have hg7 : GoodC { c with binds := enL oB ⟨o.queue, o.text⟩ c.binds } := ⟨hg.now, hg.ql, hg.qg, hg.qi, en_len linB hg.bi hg.bl (enE_ok hen).1, fun b hbm => by
  rcases mem_enL.1 hbm with rfl | ⟨hbm, _⟩
  ·simp [bndB, hb, hb2]
  ·exact hg.bg b hbm, inc_enL linB hg.bi, hg.sl, hg.sg, hg.si, hg.kl, hg.kg, hg.ki, hg.cl, hg.cg, hg.ci⟩
 obtain ⟨d0, d1, d2, d3, d4, d5, d6, d7, d8, d9, d10, d11, d12, d13⟩ := hO7.c14
 have HX7 : Hid (Tv w7 B g { c with binds := enL oB ⟨o.queue, o.text⟩ c.binds } os qv (.slice a6 n6 cc6) sv kv cv ov ∧ FrT B w w7) := ⟨T7, F7'⟩
 have HBC : Hid (bindC c o = if o.keep then ins (subB o.conn o.sub) 1 (.ok ({ c with binds := enL oB ⟨o.queue, o.text⟩ c.binds }, keptO c o)) else .ok ({ c with binds := enL oB ⟨o.queue, o.text⟩ c.binds }, [])) := by
  show bindC c o = _
  simp only [bindC, ins, hb, hb2, if_true, hen, bnd]
 have HK := handKept_any w7 B g { c with binds := enL oB ⟨o.queue, o.text⟩ c.binds } os ⟨_, _, _, _, _, _, T7⟩ hg7 (hV.fr F7') hos o pv hp
 unfold opV at HK
 clear T7 F7' hO7 hg7 hen
 cases hk : o.keep with
 | false =>
  rw [hk] at d8
  go_wp2_with fail
  go_end0
  exact .inl ⟨({ c with binds := enL oB ⟨o.queue, o.text⟩ c.binds }, []), by rw [HBC.out, hk]; rfl, rfl, ⟨_, _, _, _, _, _, by simpa using HX7.out.1⟩, HX7.out.2⟩
 | true =>
  rw [hk] at d8 HK
  have HS := isSub_any w7 o.conn o.sub
  go_wp2_with fail
  refine HS.mono ?_
  rintro e wA ⟨rfl, hA⟩
  rw [hA]
  clear hA wA HS
  have HI := insist_any w7 (subB o.conn o.sub) 1
  go_wp2_with fail
  refine HI.mono ?_
  rintro e wI ⟨hI, hb0⟩
  rw [hI]
  clear hI wI HI
  rcases hb0 with ⟨hb3, he⟩ | ⟨hb3, he⟩
  rotate_left
  ·subst he
   exact ⟨rfl, .inr ⟨1, by rw [HBC.out, hk]; simp [ins, hb3], rfl, HX7.out.2⟩⟩
  subst he
  go_wp2_with fail
  refine HK.mono ?_
  rintro e wB ⟨rfl, hTB, hFB⟩
  have HE : Hid (Led w B g os (bindC c o) (.returned (.tuple #[])) wB) := .inl ⟨({ c with binds := enL oB ⟨o.queue, o.text⟩ c.binds }, keptO c o), by rw [HBC.out, hk]; simp [ins, hb3], rfl, hTB, HX7.out.2.trans hFB⟩
  clear HK hTB hFB d0 d1 d2 d3 d4 d5 d6 d7 d8 d9 d10 d11 d12 d13
  go_wp2_with fail
  go_end0
  exact HE.out
end Go.Proofs.YtnpikgakpmkipabGreatDoor
