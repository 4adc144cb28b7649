/- (*turn).unsubscribe. Conditions: those that each row states. -/
import Derived.Test.YtnpikgakpmkipabGreatDoorZ15
import Derived.Test.YtnpikgakpmkipabGreatDoorZ04
import Derived.Test.YtnpikgakpmkipabGreatDoorZ03
import Derived.Test.YtnpikgakpmkipabGreatDoorZ23
import Derived.Test.YtnpikgakpmkipabGreatDoorZ11
import Derived.Test.YtnpikgakpmkipabGreatDoorZ22
import Derived.Test.YtnpikgakpmkipabGreatDoorZ25
import Derived.Test.YtnpikgakpmkipabGreatDoorZ17
import Derived.Test.YtnpikgakpmkipabGreatDoorZ24
import Derived.Test.YtnpikgakpmkipabGreatDoorZ20
import Derived.Test.YtnpikgakpmkipabGreatDoorZ21
namespace Go.Proofs.YtnpikgakpmkipabGreatDoor
open Go.RowKit Go.Lib
set_option maxRecDepth 100000
set_option linter.unusedSimpArgs false
set_option linter.unusedVariables false
structure AtS (l : List Sbs) (x : Sbs) (p : Nat) : Prop where
 lt : p < l.length
 eq : oS l[p] x = 0
 lo : ∀ i (hi : i < l.length), i < p → oS l[i] x < 0
 hi : ∀ i (hi : i < l.length), p ≤ i → ¬ oS l[i] x < 0
theorem sl1000 {c : Cor} (hg : GoodC c) : c.subs.length ≤ 1000 := by
 have := hg.sl
 omega
theorem unsub_ok {c : Cor} {o : Opr} {s : Sbs} {q : Que} (hfd : c.subs.find? (fun s => decide (oS s ⟨o.conn, o.sub, [], 0, false⟩ = 0)) = some s) (hnm : namedC c s.queue = .ok q) (h5 : relC q = 0) : unsubscribeC c o = .ok { setQ c (releaseQ q o.conn o.sub) with subs := leL oS ⟨o.conn, o.sub, [], 0, false⟩ c.subs } := by
 unfold unsubscribeC
 rw [hfd]
 show bnd (namedC c s.queue) _ = _
 rw [hnm]
 simp only [bnd, sureE, h5, if_true]
theorem unsub_none {c : Cor} {o : Opr} (h : hasL oS ⟨o.conn, o.sub, [], 0, false⟩ c.subs = false) : unsubscribeC c o = .error 33 := by
 unfold unsubscribeC
 have : c.subs.find? (fun s => decide (oS s ⟨o.conn, o.sub, [], 0, false⟩ = 0)) = none := List.find?_eq_none.2 fun y hy e => by
  have h2 : hasL oS ⟨o.conn, o.sub, [], 0, false⟩ c.subs = true := by
   simp only [hasL, List.any_eq_true]
   exact ⟨y, hy, e⟩
  rw [h] at h2
  cases h2
 rw [this]
theorem find_atL {α : Type} {o : α → α → Int} (ho : LinO o) {x : α} {l : List α} (hl : Inc o l) {p : Nat} (hp : p < l.length) (he : o l[p] x = 0) : l.find? (fun y => decide (o y x = 0)) = some l[p] := by
 have hr := List.pairwise_iff_getElem.1 hl
 rw [List.find?_eq_some_iff_getElem]
 refine ⟨by simpa using he, p, hp, rfl, fun j hj => ?_⟩
 have h1 := ho.lt_eq (hr j p (by omega) hp hj) he
 simp
 omega
theorem findST (w : World) (B g : Nat) (c : Cor) (os : List Ot) (qv bv sv kv cv ov : Value) (hT : Tv w B g c os qv bv sv kv cv ov) (hg : GoodC c) (x : Sbs) :
  ∃ p, Calls Tryz.prog 135 #[sv, .agg #[.int .i64 x.conn, .int .i64 x.sub, tx x.queue, .int .i64 x.win, .bool x.auto], .func (.func 70) #[] #[]] w fun e w' =>
   (e = .returned (.tuple #[.int .i64 (p : Nat), .bool (hasL oS x c.subs)]) ∧ (hasL oS x c.subs = true → AtS c.subs x p)) ∧ Bw w w' := by
 obtain ⟨zs, e, hz⟩ := hT.s
 have hl : zs.length = c.subs.length := by rw [← e, List.length_map]
 have hsl := hg.sl
 obtain ⟨p, hp⟩ := plc_any linS x (zs := zs) (by rw [e]; exact hg.si)
 obtain ⟨a, cc, rfl⟩ := hz.rd.len
 have hx : SbR [.int .i64 x.conn, .int .i64 x.sub, tx x.queue, .int .i64 x.win, .bool x.auto] x := rfl
 refine ⟨p, (findS w a zs.length cc zs _ hz.rd rfl (by omega) _ _ _ _ _ ⟨rfl, rfl, rfl, rfl, rfl⟩ 70 e70' (fun z => oS z x) (fun W z hm => cS W (hz.2 z hm).2 hx) p hp.le hp.lo hp.hi).mono ?_⟩
 rintro e2 w' ⟨hr, b⟩
 obtain ⟨h1, h2⟩ := bsr_of linS (by rw [e]; exact hg.si) hp hr
 rw [e] at h1 h2
 have hel : ∀ i (h : i < zs.length), (zs[i]).2 = c.subs[i]'(by omega) := fun i h => by
  have e5 : (zs.map (·.2))[i]'(by rw [List.length_map]; exact h) = c.subs[i]'(by omega) := by simp only [e]
  rw [← e5, List.getElem_map]
 refine ⟨⟨h1, fun h => ?_⟩, b⟩
 obtain ⟨hi, h3⟩ := h2.1 h
 rw [hel p hi] at h3
 refine ⟨by omega, h3, fun i hi hip => ?_, fun i hi hip => ?_⟩
 ·have := hp.lo i (by omega) hip
  rw [hel i (by omega)] at this
  exact this
 ·have := hp.hi i (by omega) hip
  rw [hel i (by omega)] at this
  exact this
theorem delOneS (w : World) (B : Nat) (sv : Value) (l : List Sbs) (h : OSc w B sv l) (hn : l.length ≤ 1000) (i : Nat) (hi : i < l.length) :
  Calls Tryz.prog 138 #[sv, .int .i64 i, .int .i64 ((i : Int) + 1)] w fun e w' => ∃ v', e = .returned v' ∧ OSc w' B v' (l.take i ++ l.drop (i + 1)) ∧ w.grownBy w' sv.ownBlock := by
 obtain ⟨zs, rfl, hz⟩ := h
 rw [List.length_map] at hn hi
 have hd := delG_any kiS w B sv zs SbR hz i (i + 1) rfl hi (by omega)
 rw [show ((i + 1 : Nat) : Int) = (i : Int) + 1 by omega] at hd
 refine hd.mono ?_
 rintro e w' ⟨v', h1, h2, h3, _⟩
 exact ⟨v', h1, ⟨_, by rw [List.map_append, List.map_take, List.map_drop], h2⟩, h3⟩
set_option maxHeartbeats 4000000 in
theorem unsubscribe_op (w : World) (B g : Nat) (c : Cor) (os : List Ot) (hT : T w B g c os) (hg : GoodC c) (hV : VB B w) (o : Opr) (pv : Value) (hp : pv.oneCell' = true) :
  Calls Tryz.prog 54 #[.pointer (some ⟨g, 0, none⟩), opV o pv] w fun e w' => Led w B g os (noO (unsubscribeC c o)) e w' := by
 obtain ⟨qv, bv, sv, kv, cv, ov, hT⟩ := hT
 have b0 := (Below.refl w.heap.size w).alloc (Nat.le_refl _) (.cells (opA o pv) 35)
 have hO := Blk.new w (opA o pv) 35
 have hT1 := hT.on b0
 have hF1 : FrT B w (w.alloc (.cells (opA o pv) 35)) := .of_below b0 hT.lt
 unfold opV
 go_enter Tryz.func54, Tryz.ntmps54
 go_upto_region 1 with fail
 generalize w.alloc (.cells (opA o pv) 35) = w1 at *
 obtain ⟨gx, egx⟩ : ∃ g, w.heap.size = g := ⟨_, rfl⟩
 rw [egx] at hO ⊢
 clear egx b0 hT
 have hT2 := hT1
 have hF2 := hF1
 have HX : Hid (gx ≠ g) := fun e => by
  have h1 := hO.h
  rw [e, hT1.blk.h] at h1
  injection h1 with h1
  injection h1 with _ h1
  cases h1
 clear hT1 hF1
 refine rh (fun W => Blk W g #[.int .i64 c.now, qv, bv, sv, kv, cv, ov] 77 ∧ Blk W gx (opA o pv) 35) ?_
 have hS : Blk (World.drew w1) g #[.int .i64 c.now, qv, bv, sv, kv, cv, ov] 77 ∧ Blk (World.drew w1) gx (opA o pv) 35 := ⟨⟨hT2.blk.h⟩, ⟨hO.h⟩⟩
 have hT3 := hT2.drew
 have hF3 := hF2.drew
 clear hT2 hF2
 clear hO
 generalize w1.drew = w3 at *
 refine tks [0, 1, 2, 3, 4, 5, 6, 7, 8, 9] [.pointer (some ⟨g, 0, none⟩), .pointer (some ⟨g, 0, none⟩), .pointer (some ⟨g, 0, none⟩), .pointer (some ⟨g, 3, none⟩), sv, .pointer (some ⟨gx, 1, none⟩), .int .i64 o.conn, .pointer (some ⟨gx, 2, none⟩), .int .i64 o.sub, .agg #[.int .i64 o.conn, .int .i64 o.sub, .string ⟨#[]⟩, .int .i64 0, .bool false]] 6 ?_ hS ?_
 ·simp only [tkY, tkf]
  refine ⟨.yes ?_, .yes ?_, .yes ?_, .yes ?_, .yes ?_, .yes ?_, .yes ?_, .yes ?_, .yes ?_, .yes ?_, trivial⟩
  all_goals
   intro W' hW'
   have := hW'.1.ce 3
   have := hW'.2.ce 1
   have := hW'.2.ce 2
   go_simp
 simp only [tkA, tkf]
 refine ak 10 fun K hK => ?_
 go_simp
 obtain ⟨j, HFD⟩ := findST _ B g c os qv bv sv kv cv ov hT3 hg ⟨o.conn, o.sub, [], 0, false⟩
 refine (HFD).mono ?_
 rintro e w4 ⟨⟨rfl, hat⟩, b4⟩
 have HAT : Hid _ := hat
 clear hat
 have hS4 : Blk w4 g #[.int .i64 c.now, qv, bv, sv, kv, cv, ov] 77 ∧ Blk w4 gx (opA o pv) 35 := ⟨hS.1.on b4, hS.2.on b4⟩
 have hT4 := hT3.on b4
 have hF4 := hF3.trans (.of_below b4 hT3.lt)
 clear hT3 hF3 hS b4
 have hS := hS4
 clear hS4
 show K _ _
 refine hK _ _ hS ?_
 clear hK K
 try simp only [tkf]
 refine tks [11, 12, 13, 14, 15] [.tuple #[.int .i64 (j : Nat), .bool (hasL oS ⟨o.conn, o.sub, [], 0, false⟩ c.subs)], .int .i64 (j : Nat), .bool (hasL oS ⟨o.conn, o.sub, [], 0, false⟩ c.subs), .int .i64 (j : Nat), .bool (hasL oS ⟨o.conn, o.sub, [], 0, false⟩ c.subs)] 0 ?_ hS ?_
 ·simp only [tkY, tkf]
  refine ⟨.yes ?_, .yes ?_, .yes ?_, .yes ?_, .yes ?_, trivial⟩
  all_goals
   intro W' hW'
   go_simp
 simp only [tkA, tkf]
 refine ad ?_
 go_upto_region 2 with fail
 have HX4 : Hid (Tv w4 B g c os qv bv sv kv cv ov ∧ FrT B w w4 ∧ Blk w4 gx (opA o pv) 35) := ⟨hT4, hF4, hS.2⟩
 clear hT4 hF4 hS
 have HI := insist_any w4 (hasL oS ⟨o.conn, o.sub, [], 0, false⟩ c.subs) 33
 go_wp2_with fail
 refine HI.mono ?_
 rintro e wI ⟨hI, hb⟩
 rw [hI]
 clear hI wI HI
 rcases hb with ⟨hb, he⟩ | ⟨hb, he⟩
 rotate_left
 ·subst he
  exact ⟨rfl, .inr ⟨33, by rw [unsub_none hb]; rfl, rfl, HX4.out.2.1⟩⟩
 subst he
 have HJ := HAT.out hb
 have hj := HJ.lt
 have hje := HJ.eq
 clear HAT
 have hfd := find_atL linS hg.si hj hje
 obtain ⟨s, hs⟩ : ∃ s, c.subs[j] = s := ⟨_, rfl⟩
 rw [hs] at hfd
 obtain ⟨hT4, hF4, hO4⟩ := HX4.out
 obtain ⟨c0, c1, c2, c3, c4, c5, c6⟩ := hT4.blk.c7
 obtain ⟨zs, ezs, hzs⟩ := hT4.s
 have hzl : zs.length = c.subs.length := by rw [← ezs, List.length_map]
 obtain ⟨sa, scp, esv⟩ := hzs.rd.len
 have hrd := hzs.rd
 rw [esv] at hrd c3
 obtain ⟨sb, so, v0, v1, v2, v3, v4, rfl, hz1, hzR, hone, hcs⟩ := el5_at hrd (i := j) (by omega)
 obtain ⟨e0, e1, e2, e3, e4⟩ := hcs w4 (Below.refl _ _)
 have hsj : (zs[j]'(by omega)).2 = s := by
  have e5 : (zs.map (·.2))[j]'(by rw [List.length_map]; omega) = c.subs[j] := by simp only [ezs]
  rw [← hs, ← e5, List.getElem_map]
 rw [hsj] at hzR
 unfold SbR at hzR
 injection hzR with z0 hzR
 injection hzR with z1 hzR
 injection hzR with z2 hzR
 injection hzR with z3 hzR
 injection hzR with z4 hzR
 subst z0 z1 z2 z3 z4
 rw [hzl] at c3
 have hjz : (j : Int) < (c.subs.length : Int) := by omega
 have HN := named_any w4 B g c os qv bv sv kv cv ov hT4 hg s.queue
 have HLT : Hid (FrT B w w4 ∧ ∀ n, namedC c s.queue = .error n → unsubscribeC c o = .error n) := ⟨hF4, fun n h => by unfold unsubscribeC; rw [hfd]; show bnd (namedC c s.queue) _ = _; rw [h]; rfl⟩
 clear hT4 hF4 hO4 hzs hrd ezs hz1 hone hcs hsj hzR hje
 go_wp2_with fail
 refine HN.mono ?_
 rintro e w2 ⟨h2, b2⟩
 clear HN c0 c1 c2 c3 c4 c5 c6 e0 e1 e2 e3 e4
 obtain ⟨hT4, hF4, hO4⟩ := HX4.out
 have hT2 := hT4.on b2
 have hF2 := hF4.trans (.of_below b2 hT4.lt)
 have hO2 := hO4.on b2
 clear HX4 hT4 hF4 hO4 b2
 rcases h2 with ⟨p, gq, cap, cur, iv, hv, hpl, hnm, he, hEL2⟩ | ⟨hnm, he⟩
 rotate_left
 ·subst he
  exact ⟨rfl, led_no (HLT.out.2 33 hnm) hF2⟩
 subst he
 have hbig := good_len hg hpl
 have hgq := hg.qg _ (List.getElem_mem hpl)
 obtain ⟨q, hq⟩ : ∃ q, c.queues[p] = q := ⟨_, rfl⟩
 rw [hq] at hnm hbig hgq
 have HG : Hid (some gx ≠ some gq) := fun e => by
  injection e with e
  have h1 := hO2.h
  rw [e, hEL2.blk.h] at h1
  injection h1 with h1
  injection h1 with _ h1
  cases h1
 go_upto_region 4 with fail
 refine rh (fun W => Blk W gx (opA o pv) 35) ?_
 have hS : Blk (World.drew w2) gx (opA o pv) 35 := ⟨hO2.h⟩
 have hT3 := hT2.drew
 have hF3 := hF2.drew
 have hEL := hEL2.kx (e := 0) (w' := w2.drew) .drew (by decide)
 clear hT2 hF2 hO2 hEL2
 generalize w2.drew = w3 at *
 have hOW := hEL.own
 rw [hq] at hOW
 refine tks [0, 1, 2, 4, 5, 6, 7] [.pointer (some ⟨gq, p * 7, none⟩), .pointer (some ⟨gq, p * 7, none⟩), .pointer (some ⟨gq, p * 7, none⟩), .pointer (some ⟨gx, 1, none⟩), .int .i64 o.conn, .pointer (some ⟨gx, 2, none⟩), .int .i64 o.sub] 7 ?_ hS ?_
 ·simp only [tkY, tkf]
  refine ⟨.yes ?_, .yes ?_, .yes ?_, .yes ?_, .yes ?_, .yes ?_, .yes ?_, trivial⟩
  all_goals
   intro W' hW'
   have := hW'.ce 1
   have := hW'.ce 2
   go_simp
 simp only [tkA, tkf]
 refine ak 3 fun K hK => ?_
 obtain ⟨d0, d1, d2, d3, d4, d5, d6⟩ := hEL.c7 hpl hq
 go_simp
 refine hK _ _ hS ?_
 clear hK K
 try simp only [tkf]
 refine ak 8 fun K hK => ?_
 go_simp
 refine (release_any _ (hV.fr hF3).now _ q (OwnQ.rd hOW) o.conn o.sub hbig).mono ?_
 rintro e w4 ⟨v4, rfl, o4, b4⟩
 obtain ⟨iv4, hv4, rfl, n4, o4'⟩ := own_open o4
 clear o4
 have hT4 := hT3.on b4
 have hF4 := hF3.trans (.of_below b4 hT3.lt)
 have hEL4 := hEL.on b4
 have hS4 : Blk w4 gx (opA o pv) 35 := hS.on b4
 have o4 := o4'.low hT3.lt
 clear hT3 hF3 hEL hS b4 o4' hOW
 have hS := hS4
 clear hS4
 show K _ _
 refine hK _ _ hS ?_
 clear hK K
 try simp only [tkf]
 refine tks [9, 10] [queV (if relC q = 0 then releaseQ q o.conn o.sub else zeroQ) iv4 hv4, .int .i64 (relC q)] 3 ?_ hS ?_
 ·simp only [tkY, tkf]
  refine ⟨.yes ?_, .yes ?_, trivial⟩
  all_goals
   intro W' hW'
   go_simp
 simp only [tkA, tkf]
 refine ak 11 fun K hK => ?_
 go_simp
 refine (sure_any _ B _ _ o4 _).mono ?_
 rintro e w5 ⟨h5, b5⟩
 have hT5 := hT4.on b5
 have hF5 := hF4.trans (.of_below b5 hT4.lt)
 have hEL5 := hEL4.on b5
 have hS5 : Blk w5 gx (opA o pv) 35 := hS.on b5
 have o5 := o4.on b5
 clear hT4 hF4 hEL4 hS b5 o4
 have hS := hS5
 clear hS5
 rcases h5 with ⟨h5, he⟩ | ⟨h5, he⟩
 rotate_left
 ·exact absurd (relC_ok hgq) h5
 subst he
 show K _ _
 rw [if_pos h5] at o5 ⊢
 refine hK _ _ hS ?_
 clear hK K
 try simp only [tkf]
 refine tks [12] [.pointer (some ⟨gq, p * 7, none⟩)] 1 ?_ hS ?_
 ·simp only [tkY, tkf]
  refine ⟨.yes ?_, trivial⟩
  all_goals
   intro W' hW'
   go_simp
 simp only [tkA, tkf]
 refine ak 13 fun K hK => ?_
 refine opw_putAt (.tmp 46) (.tmp 45) rfl gq (p * 7) (queV (releaseQ q o.conn o.sub) iv4 hv4).cells rfl ?_ hEL5.blk (by kernel_rfl) hEL5.fit (own_cells o5) ?_
 ·skip
  simp only [Act.eval, Act.put]
  rfl
 intro w6 k6 g6 s6
 obtain ⟨T6, F6, E6⟩ := hT5.put hEL5 o5 k6 g6
 refine hK _ _ (hS.grown g6 HG.out) ?_
 clear hK K hS
 try simp only [tkf]
 refine ad ?_
 have hF6 := hF5.trans F6
 have HFF : Hid _ := hfd
 have HNM : Hid (namedC c s.queue = .ok q) := hnm
 clear esv hzl hs HFD hfd hnm hb HLT hjz
 have hjb : (j : Int) ≤ 1000 := by have := hg.sl; omega
 have HD := delOneS w6 B sv c.subs T6.s (sl1000 hg) j hj
 obtain ⟨c0, c1, c2, c3, c4, c5, c6⟩ := T6.blk.c7
 have HT6 : Hid (Tv w6 B g { c with queues := c.queues.set p (releaseQ q o.conn o.sub) } os qv bv sv kv cv ov ∧ FrT B w w6) := ⟨T6, hF6⟩
 clear T6 E6 F6 hF6 hT5 hF5 hEL5 o5 k6 g6 s6
 go_wp2_with fail
 refine HD.mono ?_
 rintro e wA ⟨vA, rfl, oA, gA⟩
 clear HD c0 c1 c2 c3 c4 c5 c6
 obtain ⟨aA, nA, ccA, rfl⟩ := OwnL.shape oA
 obtain ⟨T9, F9⟩ := HT6.out
 obtain ⟨TB, FB, kA⟩ := T9.row_s gA oA
 have f2 := kA.frozen 3
 have c2 : wA.cell? ⟨g, 3, none⟩ = some sv := kA.cell 3
 have hse := set_en hg.qi hpl (q' := releaseQ q o.conn o.sub) (by rw [hq]; rfl)
 rw [hse, le_there linS hg.si HJ.lo HJ.hi hj HJ.eq] at TB
 have HF : Hid (Led w B g os (noO (unsubscribeC c o)) (.returned (.tuple #[])) (wA.setCell ⟨g, 3, none⟩ (.slice aA nA ccA))) := led_ok (c := { setQ c (releaseQ q o.conn o.sub) with subs := leL oS ⟨o.conn, o.sub, [], 0, false⟩ c.subs }) (unsub_ok HFF.out HNM.out h5) ⟨_, _, _, _, _, _, TB⟩ (F9.trans FB)
 clear HT6 T9 F9 TB FB kA gA oA
 go_wp2_with fail
 go_end0
 exact HF.out
structure PbI (w W : World) (B g : Nat) (c : Cor) (os : List Ot) (qv bv sv kv cv ov : Value) (conn : Int) (i : Nat) : Prop where
 t : Tv W B g { c with queues := (c.queues.take i).map (fun q => releaseQ q conn (-1)) ++ c.queues.drop i } os qv bv sv kv cv ov
 f : FrT B w W
theorem PbI.step {w W : World} {B g : Nat} {c : Cor} {os : List Ot} {qv bv sv kv cv ov : Value} {conn : Int} {i : Nat} (hi : i < c.queues.length) (ht : Tv W B g { c with queues := ((c.queues.take i).map (fun q => releaseQ q conn (-1)) ++ c.queues.drop i).set i (releaseQ c.queues[i] conn (-1)) } os qv bv sv kv cv ov) (hf : FrT B w W) : PbI w W B g c os qv bv sv kv cv ov conn (i + 1) := by
 refine ⟨?_, hf⟩
 rw [set_mid (by rw [List.length_map, List.length_take, Nat.min_eq_left (by omega)]) hi] at ht
 rw [List.take_succ_eq_append_getElem hi, List.map_append]
 exact ht
set_option maxHeartbeats 8000000 in
theorem backAll_any (w : World) (B g : Nat) (c : Cor) (os : List Ot) (hT : T w B g c os) (hg : ∀ q ∈ c.queues, goodQ q = true) (hV : VB B w) (hql : c.queues.length ≤ 1000) (conn : Int) :
  Calls Tryz.prog 142 #[.pointer (some ⟨g, 0, none⟩), .int .i64 conn] w fun e w' => e = .returned (.tuple #[]) ∧ T w' B g { c with queues := c.queues.map fun q => releaseQ q conn (-1) } os ∧ FrT B w w' := by
 obtain ⟨qv, bv, sv, kv, cv, ov, hT⟩ := hT
 obtain ⟨n, hn⟩ : ∃ n, c.queues.length = n := ⟨_, rfl⟩
 obtain ⟨qa, qn, qc, eqv⟩ := OwnL.shape hT.q
 have eqn : qn = n := by
  obtain ⟨zs, e, hz⟩ := hT.q
  obtain ⟨a, cc, e2⟩ := hz.rd.len
  rw [eqv] at e2
  injection e2 with _ e2 _
  have := congrArg List.length e
  rw [List.length_map] at this
  omega
 obtain ⟨c0, c1, c2, c3, c4, c5, c6⟩ := hT.blk.c7
 rw [eqv, eqn] at c1
 have HT0 : Hid (PbI w w B g c os qv bv sv kv cv ov conn 0) := ⟨by simpa using hT, .refl _ _⟩
 have HQV : Hid (qv = .slice qa n qc) := by rw [eqv, eqn]; exact rfl
 clear hT eqv eqn
 go_enter Tryz.func142, Tryz.ntmps142
 go_wp2_with fail
 clear c0 c1 c2 c3 c4 c5 c6
 go_loopg [4, 5, 12] n (fun gg _ _ s12 wr => ∃ i : Nat, i ≤ n ∧ n - i ≤ gg ∧ s12 = .int .i64 i ∧ Hid (PbI w wr B g c os qv bv sv kv cv ov conn i))
 case atStart => exact ⟨0, Nat.zero_le _, by omega, rfl, HT0.out⟩
 case round =>
  obtain ⟨i, hi, hgg, rfl, HP⟩ := hrel
  by_cases hlt : i < n
  ·have hltz : (i : Int) < (n : Int) := by omega
   have hT1 := HP.out.t
   have hF1 := HP.out.f
   have hin : i < c.queues.length := by omega
   have hrl : ((c.queues.take i).map (fun q => releaseQ q conn (-1))).length = i := by rw [List.length_map, List.length_take, Nat.min_eq_left (by omega)]
   have hpl : i < ((c.queues.take i).map (fun q => releaseQ q conn (-1)) ++ c.queues.drop i).length := by rw [List.length_append, List.length_drop, hrl]; omega
   obtain ⟨q, hq⟩ : ∃ q, c.queues[i] = q := ⟨_, rfl⟩
   have hqi : ((c.queues.take i).map (fun q => releaseQ q conn (-1)) ++ c.queues.drop i)[i] = q := by
    rw [List.getElem_append_right (by omega)]
    simp only [hrl, Nat.sub_self, List.getElem_drop, Nat.add_zero]
    exact hq
   have hgq : goodQ q = true := by rw [← hq]; exact hg _ (List.getElem_mem hin)
   have hbig := good_big hgq
   obtain ⟨gq, cap, cur, iv, hv, hEL1⟩ := hT1.el hpl
   have eqv2 := hEL1.eq
   have hqv := HQV.out
   rw [hqv] at eqv2
   injection eqv2 with ea en ec
   subst ea ec
   obtain ⟨e0, e1, e2, e3, e4, e5, e6⟩ := hEL1.c7 hpl hqi
   have hOW0 := hEL1.own
   rw [hqi] at hOW0
   have hcl := own_cells hOW0
   have HX : Hid (Tv wr B g { c with queues := (c.queues.take i).map (fun q => releaseQ q conn (-1)) ++ c.queues.drop i } os qv bv sv kv cv ov ∧ FrT B w wr ∧ El wr B qv ((c.queues.take i).map (fun q => releaseQ q conn (-1)) ++ c.queues.drop i) i gq qc cur iv hv) := ⟨hT1, hF1, hEL1⟩
   have HLQ : Hid (gq < wr.heap.size) := hEL1.blk.lt
   unfold queV at hcl
   clear hT1 hF1 hEL1 en hOW0 hqv
   go_wp2_with (refine wpl_fresh rfl (.tmp 5) (.tmp 16) rfl _ _ rfl rfl (by kernel_rfl) rfl hcl ?_)
   intro w2 k2 b2 s2
   obtain ⟨hT1, hF1, hEL1⟩ := HX.out
   have hT2 := hT1.on b2
   have hF2 := hF1.trans (.of_below b2 hT1.lt)
   have hEL2 := hEL1.on b2
   obtain ⟨gt, egt⟩ : ∃ x, wr.heap.size = x := ⟨_, rfl⟩
   have HG : Hid (some gt ≠ some gq) := fun e => by injection e with e; have := HLQ.out; omega
   rw [egt] at k2 ⊢
   clear hT1 hF1 hEL1 HX b2 s2 e0 e1 e2 e3 e4 e5 e6 egt hcl
   have hqv := HQV.out
   go_upto_region 3 with fail
   refine rh (fun W => Blk W g #[.int .i64 c.now, .slice (some ⟨gq, 0, none⟩) n qc, bv, sv, kv, cv, ov] 77 ∧ Blk W gt (quA q iv hv) 82) ?_
   have hS : Blk (World.drew w2) g #[.int .i64 c.now, .slice (some ⟨gq, 0, none⟩) n qc, bv, sv, kv, cv, ov] 77 ∧ Blk (World.drew w2) gt (quA q iv hv) 82 := ⟨by rw [← hqv]; exact ⟨hT2.blk.h⟩, ⟨k2.h⟩⟩
   have hT3 := hT2.drew
   have hF3 := hF2.drew
   have hEL := hEL2.kx (e := 0) (w' := w2.drew) .drew (by decide)
   clear hT2 hF2 hEL2 k2
   generalize w2.drew = w3 at *
   have hOW := hEL.own
   rw [hqi] at hOW
   refine tks [0, 1, 2, 3, 4, 5, 6, 7] [.pointer (some ⟨g, 0, none⟩), .pointer (some ⟨g, 0, none⟩), .pointer (some ⟨g, 0, none⟩), .pointer (some ⟨g, 1, none⟩), .slice (some ⟨gq, 0, none⟩) n qc, .int .i64 i, .agg #[tx q.name, .bool q.dur, .int .i64 q.depth, .int .i64 q.seq, .int .i64 q.tag, iv, hv], .int .i64 conn] 6 ?_ hS ?_
   ·simp only [tkY, tkf]
    refine ⟨.yes ?_, .yes ?_, .yes ?_, .yes ?_, .yes ?_, .yes ?_, .yes ?_, .yes ?_, trivial⟩
    all_goals
     intro W' hW'
     have := hW'.1.ce 1
     have := hW'.2.ce 0
     have := hW'.2.ce 1
     have := hW'.2.ce 2
     have := hW'.2.ce 3
     have := hW'.2.ce 4
     have := hW'.2.ce 5
     have := hW'.2.ce 6
     go_simp
   simp only [tkA, tkf]
   refine ak 8 fun K hK => ?_
   go_simp
   refine (release_any _ (hV.fr hF3).now _ q (OwnQ.rd hOW) conn (-1) hbig).mono ?_
   rintro e w4 ⟨v4, rfl, o4, b4⟩
   obtain ⟨iv4, hv4, rfl, n4, o4'⟩ := own_open o4
   clear o4
   have hT4 := hT3.on b4
   have hF4 := hF3.trans (.of_below b4 hT3.lt)
   have hEL4 := hEL.on b4
   have hS4 : Blk w4 g #[.int .i64 c.now, .slice (some ⟨gq, 0, none⟩) n qc, bv, sv, kv, cv, ov] 77 ∧ Blk w4 gt (quA q iv hv) 82 := ⟨hS.1.on b4, hS.2.on b4⟩
   have o4 := o4'.low hT3.lt
   clear hT3 hF3 hEL hS b4 o4' hOW
   have hS := hS4
   clear hS4
   show K _ _
   refine hK _ _ hS ?_
   clear hK K
   try simp only [tkf]
   refine tks [9, 10] [queV (if relC q = 0 then releaseQ q conn (-1) else zeroQ) iv4 hv4, .int .i64 (relC q)] 3 ?_ hS ?_
   ·simp only [tkY, tkf]
    refine ⟨.yes ?_, .yes ?_, trivial⟩
    all_goals
     intro W' hW'
     go_simp
   simp only [tkA, tkf]
   refine ak 11 fun K hK => ?_
   go_simp
   refine (sure_any _ B _ _ o4 _).mono ?_
   rintro e w5 ⟨h5, b5⟩
   have hT5 := hT4.on b5
   have hF5 := hF4.trans (.of_below b5 hT4.lt)
   have hEL5 := hEL4.on b5
   have hS5 : Blk w5 g #[.int .i64 c.now, .slice (some ⟨gq, 0, none⟩) n qc, bv, sv, kv, cv, ov] 77 ∧ Blk w5 gt (quA q iv hv) 82 := ⟨hS.1.on b5, hS.2.on b5⟩
   have o5 := o4.on b5
   clear hT4 hF4 hEL4 hS b5 o4
   have hS := hS5
   clear hS5
   rcases h5 with ⟨h5, he⟩ | ⟨h5, he⟩
   rotate_left
   ·exact absurd (relC_ok hgq) h5
   subst he
   show K _ _
   rw [if_pos h5] at o5 ⊢
   refine hK _ _ hS ?_
   clear hK K
   try simp only [tkf]
   refine tks [12] [.pointer (some ⟨gq, i * 7, none⟩)] 1 ?_ hS ?_
   ·simp only [tkY, tkf]
    refine ⟨.yes ?_, trivial⟩
    all_goals
     intro W' hW'
     have := hltz
     go_simp
   simp only [tkA, tkf]
   refine ak 13 fun K hK => ?_
   refine opw_putAt (.tmp 29) (.tmp 28) rfl gq (i * 7) (queV (releaseQ q conn (-1)) iv4 hv4).cells rfl ?_ hEL5.blk (by kernel_rfl) hEL5.fit (own_cells o5) ?_
   ·skip
    simp only [Act.eval, Act.put]
    rfl
   intro w6 k6 g6 s6
   obtain ⟨T6, F6, E6⟩ := hT5.put hEL5 o5 k6 g6
   have hS6 : Blk w6 g #[.int .i64 c.now, .slice (some ⟨gq, 0, none⟩) n qc, bv, sv, kv, cv, ov] 77 ∧ Blk w6 gt (quA q iv hv) 82 := ⟨by rw [← hqv]; exact T6.blk, hS.2.grown g6 HG.out⟩
   refine hK _ _ hS6 ?_
   clear hK K hS
   try simp only [tkf]
   refine ad ?_
   have HP2 : Hid (PbI w w6 B g c os qv bv sv kv cv ov conn (i + 1)) := by
    refine PbI.step hin ?_ (hF5.trans F6)
    rw [hq]
    exact T6
   clear T6 E6 F6 hT5 hF5 hEL5 o5 k6 g6 s6 h5 n4
   go_wp2_with fail
   go_roundg (n - (i + 1))
   case measure => omega
   case rel => exact ⟨i + 1, by omega, by omega, rfl, HP2.out⟩
  ·obtain rfl : i = n := by omega
   have hltz : ¬ ((i : Int) < (i : Int)) := by omega
   have HF : Hid (T wr B g { c with queues := c.queues.map fun q => releaseQ q conn (-1) } os ∧ FrT B w wr) := by
    have h1 := HP.out.t
    rw [List.take_of_length_le (by omega), List.drop_of_length_le (by omega), List.append_nil] at h1
    exact ⟨⟨_, _, _, _, _, _, h1⟩, HP.out.f⟩
   clear HP
   go_wp2_with fail
   go_end0
   exact ⟨rfl, HF.out⟩
set_option maxHeartbeats 4000000 in
theorem detach_op (w : World) (B g : Nat) (c : Cor) (os : List Ot) (hT : T w B g c os) (hg : GoodC c) (hV : VB B w) (o : Opr) (pv : Value) (hp : pv.oneCell' = true) :
  Calls Tryz.prog 59 #[.pointer (some ⟨g, 0, none⟩), opV o pv] w fun e w' => Led w B g os (noO (detachC c o)) e w' := by
 obtain ⟨qv, bv, sv, kv, cv, ov, hT⟩ := hT
 have b0 := (Below.refl w.heap.size w).alloc (Nat.le_refl _) (.cells (opA o pv) 35)
 have hO := Blk.new w (opA o pv) 35
 have hT1 := hT.on b0
 have hF1 : FrT B w (w.alloc (.cells (opA o pv) 35)) := .of_below b0 hT.lt
 unfold opV
 go_enter Tryz.func59, Tryz.ntmps59
 go_upto_region 1 with fail
 generalize w.alloc (.cells (opA o pv) 35) = w1 at *
 obtain ⟨gx, egx⟩ : ∃ g, w.heap.size = g := ⟨_, rfl⟩
 rw [egx] at hO ⊢
 clear egx b0 hT
 have d1 : w1.cell? ⟨gx, 1, none⟩ = some (.int .i64 o.conn) := hO.cell 1
 have HX : Hid (gx ≠ g) := fun e => by
  have h1 := hO.h
  rw [e, hT1.blk.h] at h1
  injection h1 with h1
  injection h1 with _ h1
  cases h1
 have HT1 : Hid (Tv w1 B g c os qv bv sv kv cv ov ∧ FrT B w w1 ∧ Blk w1 gx (opA o pv) 35) := ⟨hT1, hF1, hO⟩
 have HS := isConn_any w1 o.conn
 have HD := delS w1 B sv c.subs hT1.s (by have := hg.sl; omega) 141 e141 (fun s => decide (s.conn = o.conn)) o pv gx hO (fun W x kk => det1_any W o pv gx kk x)
 obtain ⟨c0, c1, c2, c3, c4, c5, c6⟩ := hT1.blk.c7
 clear hT1 hF1 hO
 go_wp2_with fail
 refine HS.mono ?_
 rintro e wA ⟨rfl, hA⟩
 rw [hA]
 clear hA wA HS
 have HI := insist_any w1 (conB o.conn) 1
 go_wp2_with fail
 refine HI.mono ?_
 rintro e wI ⟨hI, hb⟩
 rw [hI]
 clear hI wI HI
 rcases hb with ⟨hb, he⟩ | ⟨hb, he⟩
 rotate_left
 ·subst he
  exact ⟨rfl, .inr ⟨1, by simp [detachC, noO, bnd, ins, hb], rfl, HT1.out.2.1⟩⟩
 subst he
 go_wp2_with fail
 refine HD.mono ?_
 rintro e w8 ⟨v8, rfl, o8, g8⟩
 clear HD c0 c1 c2 c3 c4 c5 c6 d1
 obtain ⟨a8, n8, cc8, rfl⟩ := OwnL.shape o8
 obtain ⟨T7, F7, hO7⟩ := HT1.out
 have kx8 : KX 85 w1 w8 := by
  obtain ⟨zs, _, hz⟩ := T7.s
  exact .of_grown hz.1 g8
 obtain ⟨T9, F9, k8⟩ := T7.row_s g8 o8
 have hO9 := (hO7.kt (kx8.kt _ (by decide))).setO (g' := g) (j := 3) (fun e => HX.out e) (.slice a8 n8 cc8)
 have f2 := k8.frozen 3
 have c2 : w8.cell? ⟨g, 3, none⟩ = some sv := k8.cell 3
 have F9' := F7.trans F9
 clear HT1 T7 F7 hO7 kx8 k8 F9 g8 o8
 go_upto_region 3 with fail
 clear f2 c2
 generalize w8.setCell ⟨g, 3, none⟩ (.slice a8 n8 cc8) = w9 at *
 have d1 : w9.cell? ⟨gx, 1, none⟩ = some (.int .i64 o.conn) := hO9.cell 1
 have HB := backAll_any w9 B g { c with subs := c.subs.filter (fun s => !decide (s.conn = o.conn)) } os ⟨_, _, _, _, _, _, T9⟩ hg.qg (hV.fr F9') (by have := hg.ql; show c.queues.length ≤ 1000; omega) o.conn
 have HF : Hid (FrT B w w9) := F9'
 clear T9 F9' hO9
 go_wp2_with fail
 refine HB.mono ?_
 rintro e wB ⟨rfl, hTB, hFB⟩
 have HE : Hid (Led w B g os (noO (detachC c o)) (.returned (.tuple #[])) wB) := led_ok (c := { c with subs := c.subs.filter (fun s => !decide (s.conn = o.conn)), queues := c.queues.map fun q => releaseQ q o.conn (-1) }) (by simp only [detachC, ins, hb, if_true, rel_all hg.qg, bnd]) hTB (HF.out.trans hFB)
 clear HB hTB hFB
 go_wp2_with fail
 go_end0
 exact HE.out
theorem InI.on {w W W' : World} {B g : Nat} {c : Cor} {os : List Ot} {qv bv sv kv cv : Value} {l : List Que} {i gq cap gp : Nat} {q1 qk : Que} {ok : List Ot} (h : InI w W B g c os qv bv sv kv cv l i gq cap gp q1 qk ok) (hb : Bw W W') : InI w W' B g c os qv bv sv kv cv l i gq cap gp q1 qk ok := by
 obtain ⟨ov, cur, iv, hv, h1, h2⟩ := h.t
 exact ⟨h.e, h.gd, h.nn, ⟨ov, cur, iv, hv, h1.on hb, h2.on hb⟩, h.f.trans (.of_below hb h1.lt), h.k.on hb⟩
set_option maxHeartbeats 8000000 in
theorem pump_any (w : World) (B g : Nat) (c : Cor) (os : List Ot) (hT : T w B g c os) (hg : GoodC c) (hV : VB B w) (hos : os.length ≤ 10000) :
  Calls Tryz.prog 35 #[.pointer (some ⟨g, 0, none⟩)] w fun e w' => Led w B g os (pumpC c) e w' := by
 obtain ⟨qv, bv, sv, kv, cv, ov0, hT⟩ := hT
 obtain ⟨n, hn⟩ : ∃ n, c.queues.length = n := ⟨_, rfl⟩
 have hql := hg.ql
 obtain ⟨qa, qn, qc, eqv⟩ := OwnL.shape hT.q
 have eqn : qn = n := by
  obtain ⟨zs, e, hz⟩ := hT.q
  obtain ⟨a, cc, e2⟩ := hz.rd.len
  rw [eqv] at e2
  injection e2 with _ e2 _
  have := congrArg List.length e
  rw [List.length_map] at this
  omega
 obtain ⟨c0, c1, c2, c3, c4, c5, c6⟩ := hT.blk.c7
 rw [eqv, eqn] at c1
 have HG0 : Hid (GoodC c) := hg
 have HT0 : Hid (∃ r, PuI w w B g c os qv bv sv kv cv 0 r) := ⟨([], []), rfl, ⟨ov0, by simpa using hT⟩, .refl _ _⟩
 have HQV : Hid (qv = .slice qa n qc) := by rw [eqv, eqn]; exact rfl
 clear hT hg eqv eqn
 go_enter Tryz.func35, Tryz.ntmps35
 go_wp2_with fail
 clear c0 c1 c2 c3 c4 c5 c6
 go_loopg [2, 3, 4, 5, 12] n (fun gg _ _ _ _ s12 wr => ∃ i : Nat, i ≤ n ∧ n - i ≤ gg ∧ s12 = .int .i64 i ∧ Hid (∃ r, PuI w wr B g c os qv bv sv kv cv i r))
 case atStart => exact ⟨0, Nat.zero_le _, by omega, rfl, HT0.out⟩
 case round =>
  obtain ⟨i, hi, hgg, rfl, HP⟩ := hrel
  by_cases hlt : i < n
  ·have hltz : (i : Int) < (n : Int) := by omega
   obtain ⟨r, hP⟩ := HP.out
   obtain ⟨ov, hT1⟩ := hP.t
   have HPU : Hid (pumpL c.subs c.now (c.queues.take i) = .ok r) := hP.e
   have hF1 := hP.f
   have hin : i < c.queues.length := by omega
   obtain ⟨hrl, hro⟩ := pumpL_len hP.e fun q hq => HG0.out.qg q (List.mem_of_mem_take hq)
   rw [List.length_take, Nat.min_eq_left (by omega)] at hrl hro
   have hpl : i < (r.1 ++ c.queues.drop i).length := by rw [List.length_append, List.length_drop]; omega
   obtain ⟨q, hq⟩ : ∃ q, c.queues[i] = q := ⟨_, rfl⟩
   have hqi : (r.1 ++ c.queues.drop i)[i] = q := by
    rw [List.getElem_append_right (by omega)]
    simp only [hrl, Nat.sub_self, List.getElem_drop, Nat.add_zero]
    exact hq
   have hgq : goodQ q = true := by rw [← hq]; exact HG0.out.qg _ (List.getElem_mem hin)
   have hbig := good_big hgq
   obtain ⟨gq, cap, cur, iv, hv, hEL1⟩ := hT1.el hpl
   obtain ⟨c0, c1, c2, c3, c4, c5, c6⟩ := hT1.blk.c7
   have eqv2 := hEL1.eq
   rw [HQV.out] at c1 eqv2
   injection eqv2 with ea en ec
   subst ea ec
   have hosr : (os ++ r.2).length ≤ 20000 := by rw [List.length_append]; omega
   have HX : Hid (Tv wr B g { c with queues := r.1 ++ c.queues.drop i } (os ++ r.2) qv bv sv kv cv ov ∧ FrT B w wr ∧ El wr B qv (r.1 ++ c.queues.drop i) i gq qc cur iv hv) := ⟨hT1, hF1, hEL1⟩
   have HLQ : Hid (gq < wr.heap.size) := hEL1.blk.lt
   clear hP hT1 hF1 hEL1 en
   have b2 := (Below.refl wr.heap.size wr).alloc (Nat.le_refl _) (.cells #[.pointer (some ⟨gq, i * 7, none⟩)] 122)
   have k2 := Blk.new wr #[.pointer (some ⟨gq, i * 7, none⟩)] 122
   go_upto_region 4 with fail
   generalize wr.alloc (.cells #[.pointer (some ⟨gq, i * 7, none⟩)] 122) = w2 at *
   obtain ⟨gp, egp⟩ : ∃ x, wr.heap.size = x := ⟨_, rfl⟩
   have HG : Hid (some gp ≠ some gq) := fun e => by injection e with e; have := HLQ.out; omega
   rw [egp] at k2 ⊢
   obtain ⟨hT1, hF1, hEL1⟩ := HX.out
   have hT2 := hT1.on b2
   have hF2 := hF1.trans (.of_below b2 hT1.lt)
   have hEL2 := hEL1.on b2
   clear hT1 hF1 hEL1 HX b2 c0 c1 c2 c3 c4 c5 c6 egp HP
   refine rh (fun W => Blk W g #[.int .i64 c.now, qv, bv, sv, kv, cv, ov] 77 ∧ Blk W gp #[.pointer (some ⟨gq, i * 7, none⟩)] 122) ?_
   have hS : Blk (World.drew w2) g #[.int .i64 c.now, qv, bv, sv, kv, cv, ov] 77 ∧ Blk (World.drew w2) gp #[.pointer (some ⟨gq, i * 7, none⟩)] 122 := ⟨⟨hT2.blk.h⟩, ⟨k2.h⟩⟩
   have hT3 := hT2.drew
   have hF3 := hF2.drew
   have hEL := hEL2.kx (e := 0) (w' := w2.drew) .drew (by decide)
   clear hT2 hF2 hEL2 k2
   generalize w2.drew = w3 at *
   have hOW := hEL.own
   rw [hqi] at hOW
   refine tks [0, 1, 2, 4, 5, 6, 7, 8] [.pointer (some ⟨gq, i * 7, none⟩), .pointer (some ⟨gq, i * 7, none⟩), .pointer (some ⟨gq, i * 7, none⟩), .pointer (some ⟨g, 0, none⟩), .pointer (some ⟨g, 0, none⟩), .pointer (some ⟨g, 0, none⟩), .pointer (some ⟨g, 0, none⟩), .int .i64 c.now] 7 ?_ hS ?_
   ·simp only [tkY, tkf]
    refine ⟨.yes ?_, .yes ?_, .yes ?_, .yes ?_, .yes ?_, .yes ?_, .yes ?_, .yes ?_, trivial⟩
    all_goals
     intro W' hW'
     have := hW'.2.ce 0
     have := hW'.1.ce 0
     go_simp
   simp only [tkA, tkf]
   refine ak 3 fun K hK => ?_
   obtain ⟨d0, d1, d2, d3, d4, d5, d6⟩ := hEL.c7 hpl hqi
   go_simp
   refine hK _ _ hS ?_
   clear hK K
   try simp only [tkf]
   refine ak 9 fun K hK => ?_
   go_simp
   refine (expire_any _ (hV.fr hF3).now _ q (OwnQ.rd hOW) c.now hbig).mono ?_
   rintro e w4 ⟨v4, rfl, o4, b4⟩
   obtain ⟨iv4, hv4, rfl, n4, o4'⟩ := own_open o4
   clear o4
   have hT4 := hT3.on b4
   have hF4 := hF3.trans (.of_below b4 hT3.lt)
   have hEL4 := hEL.on b4
   have hS4 : Blk w4 g #[.int .i64 c.now, qv, bv, sv, kv, cv, ov] 77 ∧ Blk w4 gp #[.pointer (some ⟨gq, i * 7, none⟩)] 122 := ⟨hS.1.on b4, hS.2.on b4⟩
   have o4 := o4'.low hT3.lt
   clear hT3 hF3 hEL hS b4 o4' hOW
   have hS := hS4
   clear hS4
   show K _ _
   refine hK _ _ hS ?_
   clear hK K
   try simp only [tkf]
   refine tks [10, 11] [queV (if relC q = 0 then expireQ q c.now else zeroQ) iv4 hv4, .int .i64 (relC q)] 3 ?_ hS ?_
   ·simp only [tkY, tkf]
    refine ⟨.yes ?_, .yes ?_, trivial⟩
    all_goals
     intro W' hW'
     go_simp
   simp only [tkA, tkf]
   refine ak 12 fun K hK => ?_
   go_simp
   refine (sure_any _ B _ _ o4 _).mono ?_
   rintro e w5 ⟨h5, b5⟩
   have hT5 := hT4.on b5
   have hF5 := hF4.trans (.of_below b5 hT4.lt)
   have hEL5 := hEL4.on b5
   have hS5 : Blk w5 g #[.int .i64 c.now, qv, bv, sv, kv, cv, ov] 77 ∧ Blk w5 gp #[.pointer (some ⟨gq, i * 7, none⟩)] 122 := ⟨hS.1.on b5, hS.2.on b5⟩
   have o5 := o4.on b5
   clear hT4 hF4 hEL4 hS b5 o4
   have hS := hS5
   clear hS5
   rcases h5 with ⟨h5, he⟩ | ⟨h5, he⟩
   rotate_left
   ·exact absurd (relC_ok hgq) h5
   subst he
   show K _ _
   rw [if_pos h5] at o5 ⊢
   refine hK _ _ hS ?_
   clear hK K
   try simp only [tkf]
   refine tks [13] [.pointer (some ⟨gq, i * 7, none⟩)] 1 ?_ hS ?_
   ·simp only [tkY, tkf]
    refine ⟨.yes ?_, trivial⟩
    all_goals
     intro W' hW'
     go_simp
   simp only [tkA, tkf]
   refine ak 14 fun K hK => ?_
   refine opw_putAt (.tmp 35) (.tmp 34) rfl gq (i * 7) (queV (expireQ q c.now) iv4 hv4).cells rfl ?_ hEL5.blk (by kernel_rfl) hEL5.fit (own_cells o5) ?_
   ·skip
    simp only [Act.eval, Act.put]
    rfl
   intro w6 k6 g6 s6
   obtain ⟨T6, F6, E6⟩ := hT5.put hEL5 o5 k6 g6
   have hS6 : Blk w6 g #[.int .i64 c.now, qv, bv, sv, kv, cv, ov] 77 ∧ Blk w6 gp #[.pointer (some ⟨gq, i * 7, none⟩)] 122 := ⟨T6.blk, hS.2.grown g6 HG.out⟩
   refine hK _ _ hS6 ?_
   clear hK K hS
   have hS := hS6
   clear hS6
   try simp only [tkf]
   refine ad ?_
   have hF6 := hF5.trans F6
   have hg1 : goodQ (expireQ q c.now) = true := (goodQ_iff _).2 (good_expire ((goodQ_iff _).1 hgq) _)
   have HIN : Hid (InI w w6 B g c (os ++ r.2) qv bv sv kv cv (r.1 ++ c.queues.drop i) i gq qc gp (expireQ q c.now) (expireQ q c.now) []) := by
    refine ⟨?_, hg1, by have := good_items hg1; simpa using this, ⟨_, _, _, _, by simpa using T6, E6⟩, hF6, hS.2⟩
    cases pumpQ c.subs (expireQ q c.now).items.length (expireQ q c.now) <;> rfl
   clear T6 E6 F6 hF6 hS hT5 hF5 hEL5 o5 k6 g6 s6 h5 n4
   go_wp2_with fail
   go_loopg [4, 5] (expireQ q c.now).items.length (fun g2 _ _ wy => ∃ qk : Que, ∃ ok : List Ot, qk.items.length ≤ g2 ∧ Hid (InI w wy B g c (os ++ r.2) qv bv sv kv cv (r.1 ++ c.queues.drop i) i gq qc gp (expireQ q c.now) qk ok))
   case atStart => exact ⟨_, _, Nat.le_refl _, HIN.out⟩
   case round =>
    obtain ⟨qk, ok, hqk, HII⟩ := hrel
    obtain ⟨ov2, cur2, iv2, hv2, T2, E2⟩ := HII.out.t
    have hpl2 : i < ((r.1 ++ c.queues.drop i).set i qk).length := by rw [List.length_set]; exact hpl
    have hgi : ((r.1 ++ c.queues.drop i).set i qk)[i] = qk := by simp
    obtain ⟨ia, ic, rfl⟩ : ∃ a cc, iv2 = .slice a qk.items.length cc := by
     have h1 := E2.own
     rw [hgi] at h1
     obtain ⟨iv', hv', e, h2, h3⟩ := h1
     injection e with e
     have e2 := congrArg Array.toList e
     simp at e2
     obtain ⟨a, cc, e3⟩ := h2.rd.len
     exact ⟨a, cc, by rw [e2.1, e3]⟩
    obtain ⟨d0, d1, d2, d3, d4, d5, d6⟩ := E2.c7 hpl2 hgi
    obtain ⟨c0, c1, c2, c3, c4, c5, c6⟩ := T2.blk.c7
    have kp0 := (HII.out.k.cell 0).trans (show _ = some (Value.pointer (some ⟨gq, i * 7, none⟩)) from rfl)
    have hsl := HG0.out.sl
    have HIX := index_any _ B sv c.subs T2.s (by omega) qv _ i gq qc cur2 _ hv2 E2 qk hpl2 hgi (good_big HII.out.gd) gp HII.out.k
    clear T2 E2
    by_cases hz : qk.items.length = 0
    ·have hz2 : decide ((qk.items.length : Int) > 0) = false := decide_eq_false (by omega)
     have HP2 : Hid (∃ r', PuI w wr B g c os qv bv sv kv cv (i + 1) r') := by
      obtain ⟨ov2, cur2, iv2, hv2, T2, E2⟩ := HII.out.t
      refine PuI.step HG0.out hin HPU.out ?_ ⟨ov2, T2⟩ HII.out.f
      unfold pumpE
      rw [hq, relC_ok hgq]
      exact HII.out.ends (.inl (List.length_eq_zero_iff.1 hz))
     clear HIX
     go_wp2_with fail
     go_roundg (n - (i + 1))
     case measure => omega
     case rel => exact ⟨i + 1, by omega, by omega, rfl, HP2.out⟩
    ·have hz2 : decide ((qk.items.length : Int) > 0) = true := decide_eq_true (by omega)
     have hne : qk.items ≠ [] := fun e => hz (by rw [e]; rfl)
     go_wp2_with fail
     refine HIX.mono ?_
     rintro e wz ⟨rfl, bz⟩
     clear HIX
     have hIz : InI w wz B g c (os ++ r.2) qv bv sv kv cv (r.1 ++ c.queues.drop i) i gq qc gp (expireQ q c.now) qk ok := HII.out.on bz
     have HIz : Hid (InI w wz B g c (os ++ r.2) qv bv sv kv cv (r.1 ++ c.queues.drop i) i gq qc gp (expireQ q c.now) qk ok) := hIz
     clear HII d0 d1 d2 d3 d4 d5 d6 c0 c1 c2 c3 c4 c5 c6 kp0 bz
     have hfi := find_idx (mayB qk) c.subs
     by_cases hfx : c.subs.findIdx (mayB qk) < c.subs.length
     ·rw [if_pos hfx]
      rw [List.getElem?_eq_getElem hfx] at hfi
      generalize c.subs.findIdx (mayB qk) = j at *
      obtain ⟨ov2, cur2, iv2, hv2, T2, E2⟩ := hIz.t
      obtain ⟨c0, c1, c2, c3, c4, c5, c6⟩ := T2.blk.c7
      have kp0 := (hIz.k.cell 0).trans (show _ = some (Value.pointer (some ⟨gq, i * 7, none⟩)) from rfl)
      obtain ⟨zs, ezs, hzs⟩ := T2.s
      have hzl : zs.length = c.subs.length := by rw [← ezs, List.length_map]
      obtain ⟨sa, scp, esv⟩ := hzs.rd.len
      have hrd := hzs.rd
      rw [esv] at hrd c3
      obtain ⟨sb, so, v0, v1, v2, v3, v4, rfl, hz1, hzR, hone, hcs⟩ := el5_at hrd (i := j) (by omega)
      obtain ⟨e0, e1, e2, e3, e4⟩ := hcs wz (Below.refl _ _)
      have hsj : (zs[j]'(by omega)).2 = c.subs[j] := by
       have e5 : (zs.map (·.2))[j]'(by rw [List.length_map]; omega) = c.subs[j] := by simp only [ezs]
       rw [← e5, List.getElem_map]
      rw [hsj] at hzR
      obtain ⟨s, hs⟩ : ∃ s, c.subs[j] = s := ⟨_, rfl⟩
      rw [hs] at hzR hfi
      unfold SbR at hzR
      injection hzR with z0 hzR
      injection hzR with z1 hzR
      injection hzR with z2 hzR
      injection hzR with z3 hzR
      injection hzR with z4 hzR
      subst z0 z1 z2 z3 z4
      rw [hzl] at c3
      have hjz : (j : Int) < (c.subs.length : Int) := by omega
      have hj0 : decide ((j : Int) < 0) = false := decide_eq_false (by omega)
      clear T2 E2 hzs hrd ezs hz1 hone hcs hsj hzR esv
      go_upto_region 8 with fail
      go_wp2_with (refine wpl_fresh rfl (.tmp 5) (.tmp 58) rfl _ _ rfl rfl (by kernel_rfl) rfl (by simp [Value.oneCell']) ?_)
      intro w9 k9 b9 s9
      have hI9 := HIz.out.on b9
      obtain ⟨ov9, cur9, iv9, hv9, T9, E9⟩ := hI9.t
      have kp9 := (hI9.k.cell 0).trans (show _ = some (Value.pointer (some ⟨gq, i * 7, none⟩)) from rfl)
      have hon := hI9.nn
      have HHD := hand_any w9 B g _ _ qv bv sv kv cv ov9 T9 i gq qc cur9 iv9 hv9 E9 qk hpl2 hgi (good_big hI9.gd) (hV.fr hI9.f) (by rw [List.length_append, List.length_append]; rw [List.length_append] at hosr; omega) s.conn s.sub (!s.auto)
      have HI9 : Hid (InI w w9 B g c (os ++ r.2) qv bv sv kv cv (r.1 ++ c.queues.drop i) i gq qc gp (expireQ q c.now) qk ok) := hI9
      obtain ⟨f0, f1, f2, f3, f4⟩ := k9.c5
      have HFI : Hid (c.subs.find? (mayB qk) = some s) := hfi
      clear T9 E9 hI9 hIz HIz k9 b9 s9 c0 c1 c2 c3 c4 c5 c6 kp0 e0 e1 e2 e3 e4 hfi
      go_wp2_with fail
      refine HHD.mono ?_
      intro e wF hF
      clear HHD f0 f1 f2 f3 f4 kp9
      have HST := HI9.out.step hne HFI.out
      rcases hF with ⟨r3, h7, he, ⟨ov3, cur3, iv3, hv3, T3, E3⟩, F3⟩ | ⟨m, h7, he, F3⟩
      ·subst he
       have HNX : Hid (InI w wF B g c (os ++ r.2) qv bv sv kv cv (r.1 ++ c.queues.drop i) i gq qc gp (expireQ q c.now) r3.1 (ok ++ [r3.2])) := by
        have hit : r3.1.items.length = qk.items.length - 1 := by rw [(handQ_ok h7).2, take_items, List.length_drop]
        refine ⟨?_, ?_, ?_, ⟨ov3, cur3, iv3, hv3, ?_, ?_⟩, HI9.out.f.trans F3, HI9.out.k.kt (F3.kt _ rfl)⟩
        ·rw [HST, h7, hit]
         show bnd (pumpQ c.subs (qk.items.length - 1) r3.1) _ = bnd (pumpQ c.subs (qk.items.length - 1) r3.1) _
         simp
        ·rw [(handQ_ok h7).2]
         exact (goodQ_iff _).2 (good_take ((goodQ_iff _).1 HI9.out.gd) (handQ_ok h7).1 _)
        ·rw [List.length_append, hit]
         have := HI9.out.nn
         simp
         omega
        ·simp only [List.set_set, List.append_assoc] at T3 ⊢
         exact T3
        ·simp only [List.set_set] at E3
         exact E3
       have hlt3 : r3.1.items.length < qk.items.length := by rw [(handQ_ok h7).2, take_items, List.length_drop]; omega
       clear T3 E3 F3 HI9 HST
       go_wp2_with fail
       go_roundg (qk.items.length - 1)
       case measure => omega
       case rel => exact ⟨r3.1, _, by omega, HNX.out⟩
      ·subst he
       refine ⟨rfl, .inr ⟨m, ?_, rfl, HI9.out.f.trans F3⟩⟩
       have hpe : pumpE c.subs c.now q = .error m := by
        unfold pumpE
        rw [relC_ok hgq]
        show pumpQ c.subs (expireQ q c.now).items.length (expireQ q c.now) = _
        rw [HST, h7]
        rfl
       have hpl3 := pumpL_err c.subs c.now hpe (c.queues.drop (i + 1)) _ r HPU.out
       rw [← hq, ← List.drop_eq_getElem_cons hin, List.take_append_drop] at hpl3
       unfold pumpC
       rw [hpl3]
       rfl
     ·rw [if_neg hfx]
      have HP2 : Hid (∃ r', PuI w wz B g c os qv bv sv kv cv (i + 1) r') := by
       obtain ⟨ov2, cur2, iv2, hv2, T2, E2⟩ := HIz.out.t
       refine PuI.step HG0.out hin HPU.out ?_ ⟨ov2, T2⟩ HIz.out.f
       unfold pumpE
       rw [hq, relC_ok hgq]
       exact HIz.out.ends (.inr (by rw [hfi]; exact List.getElem?_eq_none (by omega)))
      clear hIz hfi
      go_wp2_with fail
      go_roundg (n - (i + 1))
      case measure => omega
      case rel => exact ⟨i + 1, by omega, by omega, rfl, HP2.out⟩
  ·obtain rfl : i = n := by omega
   have hltz : ¬ ((i : Int) < (i : Int)) := by omega
   obtain ⟨r, hP⟩ := HP.out
   obtain ⟨ov, hT1⟩ := hP.t
   have HFIN : Hid (Led w B g os (pumpC c) (.returned (.tuple #[])) wr) := by
    have h1 := hP.e
    rw [List.take_of_length_le (by omega)] at h1
    refine .inl ⟨({ c with queues := r.1 }, r.2), ?_, rfl, ⟨qv, bv, sv, kv, cv, ov, ?_⟩, hP.f⟩
    ·unfold pumpC
     rw [h1]
     rfl
    ·rw [List.drop_of_length_le (by omega), List.append_nil] at hT1
     exact hT1
   clear hP hT1
   go_wp2_with fail
   go_end0
   exact HFIN.out
def opF : Int → Value
 | 1 => .func (.func 46) #[] #[]
 | 2 => .func (.func 47) #[] #[]
 | 3 => .func (.func 48) #[] #[]
 | 4 => .func (.func 49) #[] #[]
 | 5 => .func (.func 50) #[] #[]
 | 6 => .func (.func 51) #[] #[]
 | 7 => .func (.func 52) #[] #[]
 | 8 => .func (.func 53) #[] #[]
 | 9 => .func (.func 54) #[] #[]
 | 10 => .func (.func 55) #[] #[]
 | 11 => .func (.func 56) #[] #[]
 | 12 => .func (.func 58) #[] #[]
 | 13 => .func (.func 59) #[] #[]
 | 14 => .func (.func 60) #[] #[]
 | _ => .nilFunc
theorem opF_out {k : Int} (h : k < 1 ∨ 15 ≤ k) : opF k = .nilFunc := by
 unfold opF
 split <;> first | omega | rfl
set_option maxHeartbeats 8000000 in
theorem operation_any (w : World) (k : Int) : Calls Tryz.prog 30 #[.int .i64 k] w fun e w' => e = .returned (opF k) ∧ Bw w w' := by
 by_cases h0 : k < 0
 ·have hk := opF_out (k := k) (.inl (by omega))
  rw [hk]
  clear hk
  go_enter Tryz.func30, Tryz.ntmps30
  go_wp2_with (refine wpl_fresh rfl (.tmp 3) (.tmp 4) rfl _ _ rfl rfl (by kernel_rfl) rfl (by simp [Value.oneCell']) ?_)
  intro W1 k1 b1 s1
  go_wp2_with fail
  go_ret
  exact ⟨rfl, b1⟩
 ·by_cases h1 : k ≥ 15
  ·have hk := opF_out (k := k) (.inr (by omega))
   rw [hk]
   clear hk
   go_enter Tryz.func30, Tryz.ntmps30
   go_wp2_with (refine wpl_fresh rfl (.tmp 3) (.tmp 4) rfl _ _ rfl rfl (by kernel_rfl) rfl (by simp [Value.oneCell']) ?_)
   intro W1 k1 b1 s1
   go_wp2_with fail
   go_ret
   exact ⟨rfl, b1⟩
  ·have hcs : k = 0 ∨ k = 1 ∨ k = 2 ∨ k = 3 ∨ k = 4 ∨ k = 5 ∨ k = 6 ∨ k = 7 ∨ k = 8 ∨ k = 9 ∨ k = 10 ∨ k = 11 ∨ k = 12 ∨ k = 13 ∨ k = 14 := by omega
   clear h0 h1
   rcases hcs with rfl | rfl | rfl | rfl | rfl | rfl | rfl | rfl | rfl | rfl | rfl | rfl | rfl | rfl | rfl
   all_goals
    go_enter Tryz.func30, Tryz.ntmps30
    go_wp2_with (refine wpl_fresh rfl (.tmp 3) (.tmp 4) rfl _ _ rfl rfl (by kernel_rfl) rfl (by simp [Value.oneCell']) ?_)
    intro W1 k1 b1 s1
    obtain ⟨gX, egX⟩ : ∃ g, w.heap.size = g := ⟨_, rfl⟩
    have HB1 : Hid (Bw w W1) := b1
    clear b1
    rw [egX] at k1 ⊢
    have c0 : W1.cell? ⟨gX, 0, none⟩ = some (.nilFunc) := k1.cell 0
    have c1 : W1.cell? ⟨gX, 1, none⟩ = some (.func (.func 46) #[] #[]) := k1.cell 1
    have c2 : W1.cell? ⟨gX, 2, none⟩ = some (.func (.func 47) #[] #[]) := k1.cell 2
    have c3 : W1.cell? ⟨gX, 3, none⟩ = some (.func (.func 48) #[] #[]) := k1.cell 3
    have c4 : W1.cell? ⟨gX, 4, none⟩ = some (.func (.func 49) #[] #[]) := k1.cell 4
    have c5 : W1.cell? ⟨gX, 5, none⟩ = some (.func (.func 50) #[] #[]) := k1.cell 5
    have c6 : W1.cell? ⟨gX, 6, none⟩ = some (.func (.func 51) #[] #[]) := k1.cell 6
    have c7 : W1.cell? ⟨gX, 7, none⟩ = some (.func (.func 52) #[] #[]) := k1.cell 7
    have c8 : W1.cell? ⟨gX, 8, none⟩ = some (.func (.func 53) #[] #[]) := k1.cell 8
    have c9 : W1.cell? ⟨gX, 9, none⟩ = some (.func (.func 54) #[] #[]) := k1.cell 9
    have c10 : W1.cell? ⟨gX, 10, none⟩ = some (.func (.func 55) #[] #[]) := k1.cell 10
    have c11 : W1.cell? ⟨gX, 11, none⟩ = some (.func (.func 56) #[] #[]) := k1.cell 11
    have c12 : W1.cell? ⟨gX, 12, none⟩ = some (.func (.func 58) #[] #[]) := k1.cell 12
    have c13 : W1.cell? ⟨gX, 13, none⟩ = some (.func (.func 59) #[] #[]) := k1.cell 13
    have c14 : W1.cell? ⟨gX, 14, none⟩ = some (.func (.func 60) #[] #[]) := k1.cell 14
    go_wp2_with fail
    go_ret
    exact ⟨rfl, HB1.out⟩
theorem act_outs {c : Cor} {o : Opr} {r : Cor × List Ot} (hg : GoodC c) (h : actC c o = .ok r) : r.2.length ≤ 10000 := by
 have hn : ∀ {x : Except Int Cor}, noO x = .ok r → r.2.length ≤ 10000 := fun h => by rw [(noO_ok' h).2]; exact Nat.zero_le _
 unfold actC at h
 by_cases h1 : o.kind = 1
 ·rw [if_pos h1] at h
  exact hn h
 rw [if_neg h1] at h
 by_cases h2 : o.kind = 2
 ·rw [if_pos h2] at h
  exact hn h
 rw [if_neg h2] at h
 by_cases h3 : o.kind = 3
 ·rw [if_pos h3] at h
  unfold bindC at h
  obtain ⟨_, h⟩ := ins_ok.1 h
  obtain ⟨_, h⟩ := ins_ok.1 h
  obtain ⟨l, _, h⟩ := bnd_ok.1 h
  by_cases hk : o.keep = true
  ·rw [if_pos hk] at h
   obtain ⟨_, h⟩ := ins_ok.1 h
   injection h with h
   rw [← h]
   have h1 : (keptO c o).length ≤ c.kept.length := by
    unfold keptO
    rw [List.length_map]
    exact List.length_filter_le ..
   have h2 := hg.kl
   show (keptO c o).length ≤ 10000
   omega
  ·rw [if_neg hk] at h
   injection h with h
   rw [← h]
   exact Nat.zero_le _
 rw [if_neg h3] at h
 by_cases h4 : o.kind = 4
 ·rw [if_pos h4] at h
  exact hn h
 rw [if_neg h4] at h
 by_cases h5 : o.kind = 5
 ·rw [if_pos h5] at h
  exact hn h
 rw [if_neg h5] at h
 by_cases h6 : o.kind = 6
 ·rw [if_pos h6] at h
  exact hn h
 rw [if_neg h6] at h
 by_cases h7 : o.kind = 7
 ·rw [if_pos h7] at h
  exact hn h
 rw [if_neg h7] at h
 by_cases h8 : o.kind = 8
 ·rw [if_pos h8] at h
  exact hn h
 rw [if_neg h8] at h
 by_cases h9 : o.kind = 9
 ·rw [if_pos h9] at h
  exact hn h
 rw [if_neg h9] at h
 by_cases h10 : o.kind = 10
 ·rw [if_pos h10] at h
  unfold getC at h
  obtain ⟨_, h⟩ := ins_ok.1 h
  obtain ⟨q, _, h⟩ := bnd_ok.1 h
  obtain ⟨q1, _, h⟩ := bnd_ok.1 h
  obtain ⟨r1, _, h⟩ := bnd_ok.1 h
  injection h with h
  rw [← h]
  show 1 ≤ 10000
  omega
 rw [if_neg h10] at h
 by_cases h11 : o.kind = 11
 ·rw [if_pos h11] at h
  exact hn h
 rw [if_neg h11] at h
 by_cases h12 : o.kind = 12
 ·rw [if_pos h12] at h
  exact hn h
 rw [if_neg h12] at h
 by_cases h13 : o.kind = 13
 ·rw [if_pos h13] at h
  exact hn h
 rw [if_neg h13] at h
 exact hn h
structure OpOk (B : Nat) (w : World) (o : Opr) (pv : Value) : Prop where
 one : pv.oneCell' = true
 rd : ∀ W, Below B w W → RdP W pv o.msg.props
 len : o.msg.props.length ≤ 2513169434916
 n : -9223372036854775808 ≤ o.n ∧ o.n ≤ 9223372036854775807
theorem act_any (w : World) (B g : Nat) (c : Cor) (os : List Ot) (qv bv sv kv cv ov : Value) (zs : Zs Cli) (hT : TA w B g c os qv bv sv kv cv ov zs) (hg : GoodC c) (hV : VB B w) (hos : os.length ≤ 10000) (o : Opr) (pv : Value) (ho : OpOk B w o pv) (hk : 1 ≤ o.kind ∧ o.kind ≤ 14) :
  ∃ f, opF o.kind = .func (.func f) #[] #[] ∧ (∀ args w, (callFunc f args).run Tryz.prog w = .ok (.enter f args) w) ∧ Calls Tryz.prog f #[.pointer (some ⟨g, 0, none⟩), opV o pv] w fun e w' => Led w B g os (actC c o) e w' := by
 have hT' : T w B g c os := ⟨_, _, _, _, _, _, hT.t⟩
 have hk' : o.kind = 1 ∨ o.kind = 2 ∨ o.kind = 3 ∨ o.kind = 4 ∨ o.kind = 5 ∨ o.kind = 6 ∨ o.kind = 7 ∨ o.kind = 8 ∨ o.kind = 9 ∨ o.kind = 10 ∨ o.kind = 11 ∨ o.kind = 12 ∨ o.kind = 13 ∨ o.kind = 14 := by omega
 rcases hk' with h | h | h | h | h | h | h | h | h | h | h | h | h | h
 ·have e : actC c o = noO (declareC c o) := by simp [actC, h]
  rw [e, h]
  exact ⟨46, rfl, fun args w => by go_simp, declare_op w B g c os hT' hg hV o pv ho.one⟩
 ·have e : actC c o = noO (removeC c o) := by simp [actC, h]
  rw [e, h]
  exact ⟨47, rfl, fun args w => by go_simp, remove_op w B g c os hT' hg hV o pv ho.one⟩
 ·have e : actC c o = bindC c o := by simp [actC, h]
  rw [e, h]
  exact ⟨48, rfl, fun args w => by go_simp, bind_op w B g c os hT' hg hV hos o pv ho.one⟩
 ·have e : actC c o = noO (unbindC c o) := by simp [actC, h]
  rw [e, h]
  exact ⟨49, rfl, fun args w => by go_simp, unbind_any w B g c os hT' hg o pv ho.one⟩
 ·have e : actC c o = noO (publishC c o) := by simp [actC, h]
  rw [e, h]
  exact ⟨50, rfl, fun args w => by go_simp, publish_op w B g c os qv bv sv kv cv ov zs hT hg hV o pv ho.one ho.rd ho.len⟩
 ·have e : actC c o = noO (releaseC c o) := by simp [actC, h]
  rw [e, h]
  exact ⟨51, rfl, fun args w => by go_simp, release_op w B g c os qv bv sv kv cv ov zs hT hg o pv ho.one⟩
 ·have e : actC c o = noO (forgetC c o) := by simp [actC, h]
  rw [e, h]
  exact ⟨52, rfl, fun args w => by go_simp, forget_op w B g c os hT' hg hV o pv ho.one⟩
 ·have e : actC c o = noO (subscribeC c o) := by simp [actC, h]
  rw [e, h]
  exact ⟨53, rfl, fun args w => by go_simp, subscribe_op w B g c os hT' hg hV o pv ho.one⟩
 ·have e : actC c o = noO (unsubscribeC c o) := by simp [actC, h]
  rw [e, h]
  exact ⟨54, rfl, fun args w => by go_simp, unsubscribe_op w B g c os hT' hg hV o pv ho.one⟩
 ·have e : actC c o = getC c o := by simp [actC, h]
  rw [e, h]
  exact ⟨55, rfl, fun args w => by go_simp, get_op w B g c os hT' hg hV (by omega) o pv ho.one⟩
 ·have e : actC c o = noO (settleK c o false) := by simp [actC, h]
  rw [e, h]
  exact ⟨56, rfl, fun args w => by go_simp, ack_op w B g c os hT' hg hV o pv ho.one⟩
 ·have e : actC c o = noO (settleK c o o.auto) := by simp [actC, h]
  rw [e, h]
  exact ⟨58, rfl, fun args w => by go_simp, nack_op w B g c os hT' hg hV o pv ho.one⟩
 ·have e : actC c o = noO (detachC c o) := by simp [actC, h]
  rw [e, h]
  exact ⟨59, rfl, fun args w => by go_simp, detach_op w B g c os hT' hg hV o pv ho.one⟩
 ·have e : actC c o = noO (tickC c o) := by simp [actC, h]
  rw [e, h]
  exact ⟨60, rfl, fun args w => by go_simp, tick_op w B g c os hT' hg o pv ho.n⟩
def runE (c : Cor) (o : Opr) : Except Int (Cor × List Ot) := bnd (actC c o) fun r => bnd (pumpC r.1) fun r2 => .ok (r2.1, r.2 ++ r2.2)
set_option maxHeartbeats 2000000 in
theorem do1_any (w : World) (B g ga gt gx : Nat) (c : Cor) (qv bv sv kv cv ov : Value) (zs : Zs Cli) (hT : TA w B g c [] qv bv sv kv cv ov zs) (hg : GoodC c) (hV : VB B w) (o : Opr) (pv : Value) (ho : OpOk B w o pv) (hk : 1 ≤ o.kind ∧ o.kind ≤ 14)
  (kA : Blk w ga #[opF o.kind] 72) (kT : Blk w gt #[.pointer (some ⟨g, 0, none⟩)] 75) (kO : Blk w gx (opA o pv) 35) :
  Calls Tryz.prog 34 #[.pointer (some ⟨ga, 0, none⟩), .pointer (some ⟨gt, 0, none⟩), .pointer (some ⟨gx, 0, none⟩)] w fun e w' => Led w B g [] (runE c o) e w' := by
 obtain ⟨f, ef, hcf, HC⟩ := act_any w B g c [] qv bv sv kv cv ov zs hT hg hV (by simp) o pv ho hk
 rw [ef] at kA
 unfold opV at HC
 have HK : Hid (GoodC c ∧ VB B w ∧ Blk w gt #[.pointer (some ⟨g, 0, none⟩)] 75) := ⟨hg, hV, kT⟩
 obtain ⟨d0, d1, d2, d3, d4, d5, d6, d7, d8, d9, d10, d11, d12, d13⟩ := kO.c14
 have a0 : w.cell? ⟨ga, 0, none⟩ = some (.func (.func f) #[] #[]) := kA.cell 0
 have t0 : w.cell? ⟨gt, 0, none⟩ = some (.pointer (some ⟨g, 0, none⟩)) := kT.cell 0
 clear hT hg hV ho hk kA kT kO ef
 go_enter Tryz.func34, Tryz.ntmps34
 go_wp2_with fail
 refine HC.mono ?_
 rintro e w1 h1
 rcases h1 with ⟨r, h1, he, T1, F1⟩ | ⟨n, h1, he, F1⟩
 rotate_left
 ·subst he
  exact ⟨rfl, .inr ⟨n, by unfold runE; rw [h1]; rfl, rfl, F1⟩⟩
 subst he
 rw [List.nil_append] at T1
 have t1 : w1.cell? ⟨gt, 0, none⟩ = some (.pointer (some ⟨g, 0, none⟩)) := (HK.out.2.2.kt (F1.kt _ rfl)).cell 0
 have HP := pump_any w1 B g r.1 r.2 T1 (good_act (os := r.2) HK.out.1 h1) (HK.out.2.1.fr F1) (act_outs HK.out.1 h1)
 have H1 : Hid (actC c o = .ok r ∧ FrT B w w1) := ⟨h1, F1⟩
 clear HC h1 F1 T1 d0 d1 d2 d3 d4 d5 d6 d7 d8 d9 d10 d11 d12 d13 a0 t0 HK
 go_upto_region 1 with fail
 go_wp2_with fail
 refine HP.mono ?_
 rintro e w2 h2
 rcases h2 with ⟨r2, h2, he, T2, F2⟩ | ⟨n, h2, he, F2⟩
 rotate_left
 ·subst he
  exact ⟨rfl, .inr ⟨n, by unfold runE; rw [H1.out.1]; show bnd (pumpC r.1) _ = _; rw [h2]; rfl, rfl, H1.out.2.trans F2⟩⟩
 subst he
 have HX : Hid (Led w B g [] (runE c o) (.returned (.tuple #[])) w2) := .inl ⟨(r2.1, r.2 ++ r2.2), by unfold runE; rw [H1.out.1]; show bnd (pumpC r.1) _ = _; rw [h2]; rfl, rfl, by simpa using T2, H1.out.2.trans F2⟩
 clear HP h2 T2 F2 H1 t1
 go_wp2_with fail
 go_end0
 exact HX.out
end Go.Proofs.YtnpikgakpmkipabGreatDoor
