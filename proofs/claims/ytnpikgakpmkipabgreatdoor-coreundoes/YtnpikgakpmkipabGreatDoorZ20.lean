/- Stores in a drawn region; a queue of the turn where it stands; core.sure, (*turn).named. Conditions: those that each row states. -/
import Derived.Test.YtnpikgakpmkipabGreatDoorZ04
import Derived.Test.YtnpikgakpmkipabGreatDoorZ19
import Derived.Test.YtnpikgakpmkipabGreatDoorZ15
import Derived.Test.YtnpikgakpmkipabGreatDoorZ03
import Derived.Test.YtnpikgakpmkipabGreatDoorZ11
import Derived.Test.YtnpikgakpmkipabGreatDoorZ09
import Derived.Test.YtnpikgakpmkipabGreatDoorZ08
import Derived.Test.YtnpikgakpmkipabGreatDoorZ18
import Derived.Test.YtnpikgakpmkipabGreatDoorZ14
import Derived.Test.YtnpikgakpmkipabGreatDoorZ13
namespace Go.Proofs.YtnpikgakpmkipabGreatDoor
open Go.RowKit Go.Lib
set_option maxRecDepth 100000
set_option linter.unusedSimpArgs false
set_option linter.unusedVariables false
theorem insist_any (w : World) (b : Bool) (n : Int) : Calls Tryz.prog 111 #[.bool b, .int .i64 n] w fun e w' => w' = w ∧ ((b = true ∧ e = .returned (.tuple #[])) ∨ (b = false ∧ e = .panicked (gup n))) := by
 cases b
 ·exact (insist_no w n).mono fun e w' ⟨h1, h2⟩ => ⟨h2, .inr ⟨rfl, h1⟩⟩
 ·exact (insist_ok w n).mono fun e w' ⟨h1, h2⟩ => ⟨h2, .inl ⟨rfl, h1⟩⟩
def opV (o : Opr) (pv : Value) : Value := .agg #[.int .i64 o.kind, .int .i64 o.conn, .int .i64 o.sub, .int .i64 o.n, tx o.queue, tx o.text, .bool o.dur, .bool o.auto, .bool o.keep, tx o.msg.topic, tx o.msg.body, pv, .bool o.msg.dur, .int .i64 o.msg.til]
theorem opw_putAt {ty : TypeId} {o : Oper} {a : Act} {w : World} {K : Act → World → Prop} {Q : Exit → Act → World → Prop} (x y : Operand) (ho : o.op = .store ty x y)
  (g off : Nat) (cells : Array Value) (hx : a.eval x = .pointer (some ⟨g, off, none⟩)) (hy : a.eval y = .agg cells)
  {t : TypeId} {old : Array Value} (hg : Blk w g old t) (hi : (Tryz.prog.info? ty).map (·.size) = some cells.size)
  (hfit : off + cells.size ≤ old.size) (h1 : cells.all (·.oneCell') = true)
  (h : ∀ W', Blk W' g (old.toList.take off ++ cells.toList ++ old.toList.drop (off + cells.size)).toArray t → w.grownBy W' (some g) → W'.heap.size = w.heap.size → K (a.put o.dst undef) W') : o.wp Tryz.prog a w K Q := by
 have hst := run_storeCells_at Tryz.prog g off t cells.toList 0 old w hg.h (by simp; omega) (fun v hv => (Array.all_eq_true_iff_forall_mem.1 h1) v (by simpa using hv))
 simp only [Nat.add_zero, Array.length_toList] at hst
 have hrun : (storeVar ty ⟨g, off, none⟩ (.agg cells)).run Tryz.prog w = .ok () (w.setRow g (old.toList.take off ++ cells.toList ++ old.toList.drop (off + cells.size)).toArray) := by
  cases hq : Tryz.prog.info? ty with
  | none => simp [hq] at hi
  | some i =>
   have hs : cells.size = i.size := by simp [hq] at hi; omega
   simp [storeVar, sizeOf, typeInfo, hq, Value.cells, ← hs, hst]
 unfold Oper.wp execOp
 simp only [ho, hx, hy, Instr.storeAt, Instr.sureAddr, Sem.run_bind, Sem.run_pure, Result.andThen_ok, hrun]
 exact h _ (hg.row _) (grown_setRow w g _) (by simp [World.setRow])
def At7 (cur : Array Value) (k : Nat) (vs : List Value) : Prop := ∀ j u, vs[j]? = some u → cur[k + j]? = some u
structure El (w : World) (B : Nat) (qv : Value) (l : List Que) (p gq cap : Nat) (cur : Array Value) (iv hv : Value) : Prop where
 lt : p < l.length
 eq : qv = .slice (some ⟨gq, 0, none⟩) l.length cap
 low : B ≤ gq
 blk : Blk w gq cur 82
 fit : p * 7 + 7 ≤ cur.size
 at7 : At7 cur (p * 7) [tx (l[p]).name, .bool (l[p]).dur, .int .i64 (l[p]).depth, .int .i64 (l[p]).seq, .int .i64 (l[p]).tag, iv, hv]
 own : OwnQ w B (queV (l[p]) iv hv) (l[p])
theorem Tv.el {w : World} {B g : Nat} {c : Cor} {os : List Ot} {qv bv sv kv cv ov : Value} (h : Tv w B g c os qv bv sv kv cv ov) {p : Nat} (hp : p < c.queues.length) : ∃ gq cap cur iv hv, El w B qv c.queues p gq cap cur iv hv := by
 obtain ⟨zs, e, hz⟩ := h.q
 have hl : zs.length = c.queues.length := by rw [← e, List.length_map]
 obtain ⟨gq, cap, cur, ev, hB, kb, hc, hm, hs, ht⟩ := ownG_some kiQ hz (by omega)
 have hpz : p < zs.length := by omega
 have hq : c.queues[p] = (zs[p]).2 := by simp only [← e, List.getElem_map]
 have hfit : p * 7 + 7 ≤ cur.size := by
  have : p * 7 + 7 ≤ cap * 7 := by rw [← Nat.succ_mul]; exact Nat.mul_le_mul_right 7 (by omega)
  rw [hs]
  exact this
 have hR : QuR (OwnQ w B) (zs[p]).1 (zs[p]).2 := (hz.2 _ (List.getElem_mem hpz)).2
 have hR0 := hR
 obtain ⟨iv, hv, e1, h2, h3⟩ := hR
 have e2 : (zs[p]).1 = [tx (zs[p]).2.name, .bool (zs[p]).2.dur, .int .i64 (zs[p]).2.depth, .int .i64 (zs[p]).2.seq, .int .i64 (zs[p]).2.tag, iv, hv] := by
  injection e1 with e1
  have := congrArg Array.toList e1
  simpa using this
 refine ⟨gq, cap, cur, iv, hv, hp, by rw [ev, hl], hB, kb, hfit, ?_, ?_⟩
 ·have hcz := RdZ.cells (w := w) (b := gq) (o := 0) (n := zs.length) (c := cap) (by rw [← ev]; exact hz.rd) hpz
  intro j u hj
  rw [hq, ← e2] at hj
  have := hcz j u hj
  rw [kb.cell] at this
  simpa using this
 ·rw [hq]
  exact ⟨iv, hv, rfl, h2, h3⟩
theorem El.on {w w' : World} {B : Nat} {qv : Value} {l : List Que} {p gq cap : Nat} {cur : Array Value} {iv hv : Value} (h : El w B qv l p gq cap cur iv hv) (hb : Bw w w') : El w' B qv l p gq cap cur iv hv := ⟨h.lt, h.eq, h.low, h.blk.on hb, h.fit, h.at7, h.own.on hb⟩
theorem El.kx {e : TypeId} {w w' : World} {B : Nat} {qv : Value} {l : List Que} {p gq cap : Nat} {cur : Array Value} {iv hv : Value} (h : El w B qv l p gq cap cur iv hv) (k : KX e w w') (he : (82 ≠ e ∧ 131 ≠ e) ∧ (133 ≠ e ∧ 66 ≠ e)) : El w' B qv l p gq cap cur iv hv := ⟨h.lt, h.eq, h.low, h.blk.kt (k.kt _ he.1.1), h.fit, h.at7, h.own.keep (k.kt _ he.1.2) (k.kt _ he.2.1) (k.kt _ he.2.2)⟩
theorem Tv.put {w W' : World} {B g : Nat} {c : Cor} {os : List Ot} {qv bv sv kv cv ov : Value} (h : Tv w B g c os qv bv sv kv cv ov) {p gq cap : Nat} {cur : Array Value} {iv hv : Value} (he : El w B qv c.queues p gq cap cur iv hv) {q' : Que} {iv' hv' : Value} (hq : OwnQ w B (queV q' iv' hv') q')
  (kb : Blk W' gq (cur.toList.take (p * 7) ++ (queV q' iv' hv').cells.toList ++ cur.toList.drop (p * 7 + 7)).toArray 82) (hg : w.grownBy W' (some gq)) :
  Tv W' B g { c with queues := c.queues.set p q' } os qv bv sv kv cv ov ∧ FrT B w W' ∧ El W' B qv (c.queues.set p q') p gq cap (cur.toList.take (p * 7) ++ (queV q' iv' hv').cells.toList ++ cur.toList.drop (p * 7 + 7)).toArray iv' hv' := by
 have k : KX 82 w W' := .put he.blk hg
 have hf : FrT B w W' := ⟨below_grown hg (fun x e => by injection e with e; rw [← e]; exact he.low) h.lt, fun t ht => k.kt t (fun e => by rw [e] at ht; cases ht)⟩
 obtain ⟨zs, e, hz⟩ := h.q
 have hl : zs.length = c.queues.length := by rw [← e, List.length_map]
 have hpz : p < zs.length := by have := he.lt; omega
 obtain ⟨ys, eys, hy1, hy2⟩ := hq.cells
 have ecs : (queV q' iv' hv').cells.toList = ys := by rw [eys]; rfl
 have hqW : OwnQ W' B (queV q' iv' hv') q' := hq.keep (k.kt _ (by decide)) (k.kt _ (by decide)) (k.kt _ (by decide))
 have hz2 : OwnZ 82 7 (QuR (OwnQ W' B)) W' B qv (zs.set p (ys, q')) := by
  rw [he.eq, ← hl] at hz ⊢
  have hzW : OwnZ 82 7 (QuR (OwnQ W' B)) w B (.slice (some ⟨gq, 0, none⟩) zs.length cap) zs := hz.imp fun ys x h => OwnQ.keep h (k.kt _ (by decide)) (k.kt _ (by decide)) (k.kt _ (by decide))
  refine own_set hzW rfl he.blk hpz (ys, q') ⟨⟨hy1, hy2⟩, ?_⟩ (by rw [← ecs]; exact kb)
  show OwnQ W' B (.agg ys.toArray) q'
  rw [← eys]
  exact hqW
 have hT : Tv W' B g { c with queues := c.queues.set p q' } os qv bv sv kv cv ov := ⟨h.blk.kt (k.kt _ (by decide)), h.low, ⟨_, by rw [List.map_set, e], hz2⟩, h.b.kx k (by decide), h.s.kx k (by decide), h.k.kx k (by decide), h.c.kx k (by decide), h.o.kx k (by decide)⟩
 have hlt : p < (c.queues.set p q').length := by rw [List.length_set]; exact he.lt
 have hgp : (c.queues.set p q')[p] = q' := by simp
 have hsz : (queV q' iv' hv').cells.toList.length = 7 := rfl
 have hf7 := he.fit
 refine ⟨hT, hf, hlt, by rw [List.length_set]; exact he.eq, he.low, kb, ?_, ?_, ?_⟩
 ·rw [List.size_toArray, List.length_append, List.length_append, List.length_take, List.length_drop, Array.length_toList, hsz]
  omega
 ·rw [hgp]
  intro j u hj
  have hj7 : j < 7 := by
   have := (List.getElem?_eq_some_iff.1 hj).1
   simpa using this
  rw [List.getElem?_toArray, List.append_assoc, List.getElem?_append_right (by rw [List.length_take, Array.length_toList]; omega), List.length_take, Array.length_toList, Nat.min_eq_left (by omega), Nat.add_sub_cancel_left, List.getElem?_append_left (by rw [hsz]; exact hj7)]
  exact hj
 ·rw [hgp]
  exact hqW
set_option maxHeartbeats 1000000 in
theorem sure_ok (w : World) (t0 t1 t2 t3 t4 t5 t6 : Value) (ht : (t0.oneCell' = true ∧ t1.oneCell' = true ∧ t2.oneCell' = true) ∧ (t3.oneCell' = true ∧ t4.oneCell' = true ∧ t5.oneCell' = true ∧ t6.oneCell' = true)) :
  Calls Tryz.prog 90 #[.agg #[t0, t1, t2, t3, t4, t5, t6], .int .i64 0] w fun e w' => e = .returned (.agg #[t0, t1, t2, t3, t4, t5, t6]) ∧ Bw w w' := by
 have HB : Bw w ((w.alloc (.cells #[t0, t1, t2, t3, t4, t5, t6] 82)).alloc (.cells quZ 82)) := ((Below.refl _ w).alloc (Nat.le_refl _) _).alloc (by simp) _
 have kA := (Blk.new w #[t0, t1, t2, t3, t4, t5, t6] 82).alloc (.cells quZ 82)
 have kB := Blk.new (w.alloc (.cells #[t0, t1, t2, t3, t4, t5, t6] 82)) quZ 82
 rw [World.size_alloc] at kB
 go_enter Tryz.func90, Tryz.ntmps90
 go_upto_region 1 with fail
 generalize (w.alloc (.cells #[t0, t1, t2, t3, t4, t5, t6] 82)).alloc (.cells quZ 82) = w1 at *
 have HI := insist_ok w1 0
 go_wp2_with fail
 refine HI.mono ?_
 rintro e w2 ⟨rfl, h2⟩
 rw [h2]
 clear h2 w2 HI
 go_wp2_with (first | refine wpl_load25 rfl (.tmp 2) rfl w.heap.size _ rfl kA (by kernel_rfl) ?_ | refine wpl_put rfl (.tmp 4) (.tmp 9) rfl (w.heap.size + 1) _ rfl rfl kB (by kernel_rfl) (by kernel_rfl) (by simp [ht.1.1, ht.1.2.1, ht.1.2.2, ht.2.1, ht.2.2.1, ht.2.2.2.1, ht.2.2.2.2]) ?_)
 intro w3 k3 g3 s3
 go_wp2_with fail
 refine ret25 rfl k3 rfl rfl ⟨rfl, HB.grown g3 HB.size (fun k hk => by injection hk with hk; omega)⟩
set_option maxHeartbeats 1000000 in
theorem sure_no (w : World) (t0 t1 t2 t3 t4 t5 t6 : Value) (n : Int) (hn : n ≠ 0) :
  Calls Tryz.prog 90 #[.agg #[t0, t1, t2, t3, t4, t5, t6], .int .i64 n] w fun e w' => e = .panicked (gup n) ∧ Bw w w' := by
 have HB : Bw w ((w.alloc (.cells #[t0, t1, t2, t3, t4, t5, t6] 82)).alloc (.cells quZ 82)) := ((Below.refl _ w).alloc (Nat.le_refl _) _).alloc (by simp) _
 have hd : (n == 0) = false := by simpa using hn
 go_enter Tryz.func90, Tryz.ntmps90
 go_upto_region 1 with fail
 generalize (w.alloc (.cells #[t0, t1, t2, t3, t4, t5, t6] 82)).alloc (.cells quZ 82) = w1 at *
 have HI := insist_no w1 n
 go_wp2_with fail
 refine HI.mono ?_
 rintro e w2 ⟨rfl, h2⟩
 rw [h2]
 exact ⟨rfl, rfl, HB⟩
theorem sure_any (w : World) (B : Nat) (v : Value) (q : Que) (h : OwnQ w B v q) (n : Int) : Calls Tryz.prog 90 #[v, .int .i64 n] w fun e w' => ((n = 0 ∧ e = .returned v) ∨ (n ≠ 0 ∧ e = .panicked (gup n))) ∧ Bw w w' := by
 obtain ⟨iv, hv, rfl, h1, h2⟩ := h
 obtain ⟨ia, ic, ei⟩ := h1.rd.len
 obtain ⟨ja, jc, ej⟩ := h2.rd.len
 by_cases hn : n = 0
 ·subst hn
  exact (sure_ok w _ _ _ _ _ _ _ ⟨⟨rfl, rfl, rfl⟩, rfl, rfl, by rw [ei]; rfl, by rw [ej]; rfl⟩).mono fun e w' h => ⟨.inl ⟨rfl, h.1⟩, h.2⟩
 ·exact (sure_no w _ _ _ _ _ _ _ n hn).mono fun e w' h => ⟨.inr ⟨hn, h.1⟩, h.2⟩
theorem find_at {l : List Que} (hl : Inc oQ l) {p : Nat} (hp : p < l.length) {n : List UInt8} (hn : (l[p]).name = n) : l.find? (fun q => decide (q.name = n)) = some l[p] := by
 have hr := List.pairwise_iff_getElem.1 hl
 rw [List.find?_eq_some_iff_getElem]
 refine ⟨by simpa using hn, p, hp, rfl, fun j hj => ?_⟩
 have h1 := hr j p (by omega) hp hj
 simp only [Bool.not_eq_true', decide_eq_false_iff_not]
 intro e
 have : oQ l[j] l[p] = 0 := oQ_zero.2 (by rw [e, hn])
 omega
set_option maxHeartbeats 1000000 in
theorem named_any (w : World) (B g : Nat) (c : Cor) (os : List Ot) (qv bv sv kv cv ov : Value) (hT : Tv w B g c os qv bv sv kv cv ov) (hg : GoodC c) (n : List UInt8) :
  Calls Tryz.prog 136 #[.pointer (some ⟨g, 0, none⟩), tx n] w fun e w' => ((∃ p gq cap cur iv hv, ∃ hp : p < c.queues.length, namedC c n = .ok c.queues[p] ∧ e = .returned (.pointer (some ⟨gq, p * 7, none⟩)) ∧ El w' B qv c.queues p gq cap cur iv hv) ∨ (namedC c n = .error 33 ∧ e = .panicked (gup 33))) ∧ Bw w w' := by
 obtain ⟨zs, e, hz⟩ := hT.q
 have hl : zs.length = c.queues.length := by rw [← e, List.length_map]
 have hql := hg.ql
 obtain ⟨p, hp, HC⟩ := findQs w B qv zs hz (by rw [e]; exact hg.qi) (by omega) n
 rw [e] at HC
 obtain ⟨a, cc, eqv⟩ := hz.rd.len
 rw [hl] at eqv
 obtain ⟨c0, c1, c2, c3, c4, c5, c6⟩ := hT.blk.c7
 rw [eqv] at c1 HC
 have HT : Hid (Tv w B g c os qv bv sv kv cv ov ∧ GoodC c) := ⟨hT, hg⟩
 have HE : Hid (zs.map (·.2) = c.queues) := e
 have HV : Hid (qv = .slice a c.queues.length cc) := eqv
 clear hT hg e eqv hz hp
 go_enter Tryz.func136, Tryz.ntmps136
 go_wp2_with fail
 refine HC.mono ?_
 rintro e w1 ⟨⟨rfl, hb⟩, b1⟩
 clear HC c0 c1 c2 c3 c4 c5 c6
 obtain ⟨hT, hg⟩ := HT.out
 have hT1 := hT.on b1
 have HT1 : Hid (Tv w1 B g c os qv bv sv kv cv ov ∧ Bw w w1 ∧ GoodC c) := ⟨hT1, b1, hg⟩
 clear HT b1
 cases hh : hasNm c.queues n with
 | false =>
  have hno : namedC c n = .error 33 := by
   unfold namedC
   rw [find_none hh]
  have HI := insist_no w1 33
  clear hT hT1 hb hg
  go_wp2_with fail
  refine HI.mono ?_
  rintro e w2 ⟨rfl, h2⟩
  rw [h2]
  exact ⟨rfl, .inr ⟨hno, rfl⟩, HT1.out.2.1⟩
 | true =>
  obtain ⟨hpz, hnm⟩ := hb.1 hh
  have hpq : p < c.queues.length := by omega
  have hnm2 : (c.queues[p]).name = n := by
   have e2 := HE.out
   subst hnm
   simp only [← e2, List.getElem_map]
  have hyes : namedC c n = .ok c.queues[p] := by
   unfold namedC
   rw [find_at hg.qi hpq hnm2]
  obtain ⟨gq, cap, cur, iv, hv, hel⟩ := hT1.el hpq
  have HEL : Hid (El w1 B qv c.queues p gq cap cur iv hv) := hel
  have ea : a = some ⟨gq, 0, none⟩ ∧ cc = cap := by
   have e1 := HV.out
   rw [hel.eq] at e1
   injection e1 with e1 e2 e3
   exact ⟨e1.symm, e3.symm⟩
  obtain ⟨rfl, rfl⟩ := ea
  have HI := insist_ok w1 33
  obtain ⟨c0, c1, c2, c3, c4, c5, c6⟩ := hT1.blk.c7
  rw [HV.out] at c1
  have hpi : (p : Int) < (c.queues.length : Int) := by omega
  clear hT hT1 hb hg hel hnm hnm2
  go_wp2_with fail
  refine HI.mono ?_
  rintro e w2 ⟨rfl, h2⟩
  rw [h2]
  clear h2 w2 HI
  go_wp2_with fail
  go_ret
  exact ⟨.inl ⟨p, gq, cc, cur, iv, hv, hpq, hyes, by simp, HEL.out⟩, HT1.out.2.1⟩
set_option maxHeartbeats 2000000 in
theorem unbind_any (w : World) (B g : Nat) (c : Cor) (os : List Ot) (hT : T w B g c os) (hg : GoodC c) (o : Opr) (pv : Value) (hp : pv.oneCell' = true) :
  Calls Tryz.prog 49 #[.pointer (some ⟨g, 0, none⟩), opV o pv] w fun e w' => Led w B g os (noO (unbindC c o)) e w' := by
 obtain ⟨qv, bv, sv, kv, cv, ov, hT⟩ := hT
 have b0 := (Below.refl w.heap.size w).alloc (Nat.le_refl _) (.cells (opA o pv) 35)
 have hO := Blk.new w (opA o pv) 35
 have hT1 := hT.on b0
 have hF1 : FrT B w (w.alloc (.cells (opA o pv) 35)) := .of_below b0 hT.lt
 unfold opV
 go_enter Tryz.func49, Tryz.ntmps49
 go_upto_region 1 with fail
 generalize w.alloc (.cells (opA o pv) 35) = w1 at *
 obtain ⟨gx, egx⟩ : ∃ g, w.heap.size = g := ⟨_, rfl⟩
 rw [egx] at hO ⊢
 have d4 : w1.cell? ⟨gx, 4, none⟩ = some (tx o.queue) := hO.cell 4
 have d5 : w1.cell? ⟨gx, 5, none⟩ = some (tx o.text) := hO.cell 5
 clear hO egx b0
 have HT1 : Hid (Tv w1 B g c os qv bv sv kv cv ov ∧ FrT B w w1) := ⟨hT1, hF1⟩
 clear hT hT1 hF1
 go_wp2_with (refine wpl_fresh rfl (.tmp 4) (.tmp 9) rfl _ _ rfl rfl (by kernel_rfl) rfl (by simp [Value.oneCell']) ?_)
 intro W2 k2 b2 s2
 clear d4 d5
 obtain ⟨hT1, hF1⟩ := HT1.out
 have hT2 := hT1.on b2
 have hF2 := hF1.trans (.of_below b2 hT1.lt)
 have HN : Hid (some w1.heap.size ≠ bv.ownBlock) := fun e => by
  obtain ⟨zs, _, hz⟩ := hT1.b
  have := (World.ownsRow.lt hz.1 _ e.symm).2
  omega
 have HG : Hid (w1.heap.size ≠ g) := fun e => by have := hT1.blk.lt; omega
 clear hT1 hF1 HT1 b2 s2
 obtain ⟨gb, egb⟩ : ∃ g, w1.heap.size = g := ⟨_, rfl⟩
 rw [egb] at k2 HN HG ⊢
 clear egb
 go_upto_region 2 with fail
 refine rh (fun W => Blk W g #[.int .i64 c.now, qv, bv, sv, kv, cv, ov] 77 ∧ Blk W gb #[tx o.queue, tx o.text] 43) ?_
 have hS : Blk (World.drew W2) g #[.int .i64 c.now, qv, bv, sv, kv, cv, ov] 77 ∧ Blk (World.drew W2) gb #[tx o.queue, tx o.text] 43 := ⟨⟨hT2.blk.h⟩, ⟨k2.h⟩⟩
 have hT3 := hT2.drew
 have hF3 := hF2.drew
 clear hT2 hF2 k2
 generalize W2.drew = W3 at *
 refine tks [0, 1, 2, 3, 4, 5] [.pointer (some ⟨g, 0, none⟩), .pointer (some ⟨g, 0, none⟩), .pointer (some ⟨g, 0, none⟩), .pointer (some ⟨g, 2, none⟩), bv, .agg #[tx o.queue, tx o.text]] 2 ?_ hS ?_
 ·simp only [tkY, tkf]
  refine ⟨.yes ?_, .yes ?_, .yes ?_, .yes ?_, .yes ?_, .yes ?_, trivial⟩
  all_goals
   intro W' hW'
   have := hW'.1.ce 2
   have := hW'.2.ce 0
   have := hW'.2.ce 1
   go_simp
 simp only [tkA, tkf]
 refine ak 6 fun K hK => ?_
 go_simp
 refine (hasBs _ B bv c.binds (hT3.b) hg.bi (by have := hg.bl; omega) ⟨o.queue, o.text⟩).mono ?_
 rintro e w4 ⟨rfl, b4⟩
 have hS4 : Blk w4 g #[.int .i64 c.now, qv, bv, sv, kv, cv, ov] 77 ∧ Blk w4 gb #[tx o.queue, tx o.text] 43 := ⟨hS.1.on b4, hS.2.on b4⟩
 have hT4 := hT3.on b4
 have hF4 := hF3.trans (.of_below b4 hT3.lt)
 clear hT3 hF3 hS b4
 have hS := hS4
 clear hS4
 show K _ _
 refine hK _ _ hS ?_
 clear hK K
 try simp only [tkf]
 refine ak 7 fun K hK => ?_
 go_simp
 refine (insist_any _ _ 33).mono ?_
 rintro e wI ⟨hI, hb⟩
 rcases hb with ⟨hb, he⟩ | ⟨hb, he⟩
 rotate_left
 ·subst he
  rw [hI]
  exact ⟨rfl, led_no (by simp [unbindC, ins, hb]) hF4⟩
 subst he
 show K _ _
 rw [hI]
 refine hK _ _ hS ?_
 clear hK K hI wI
 try simp only [tkf]
 refine ad ?_
 go_upto_region 3 with fail
 refine rh (fun W => Blk W gb #[tx o.queue, tx o.text] 43) ?_
 have hS5 : Blk (World.drew w4) gb #[tx o.queue, tx o.text] 43 := ⟨hS.2.h⟩
 have hT5 := hT4.drew
 have hF5 := hF4.drew
 clear hT4 hF4 hS
 have hS := hS5
 clear hS5
 generalize w4.drew = w5 at *
 refine tks [0, 1, 2, 3, 4, 6] [.pointer (some ⟨g, 0, none⟩), .pointer (some ⟨g, 0, none⟩), .pointer (some ⟨g, 0, none⟩), .pointer (some ⟨g, 0, none⟩), .pointer (some ⟨g, 2, none⟩), .agg #[tx o.queue, tx o.text]] 6 ?_ hS ?_
 ·simp only [tkY, tkf]
  refine ⟨.yes ?_, .yes ?_, .yes ?_, .yes ?_, .yes ?_, .yes ?_, trivial⟩
  all_goals
   intro W' hW'
   have := hW'.ce 0
   have := hW'.ce 1
   go_simp
 simp only [tkA, tkf]
 refine ak 5 fun K hK => ?_
 have d0 : w5.cell? ⟨g, 2, none⟩ = some bv := hT5.blk.cell 2
 go_simp
 refine hK _ _ hS ?_
 clear hK K
 try simp only [tkf]
 refine ak 7 fun K hK => ?_
 go_simp
 refine (leBs _ B hT5.lt bv c.binds (hT5.b) hg.bi (by have := hg.bl; omega) ⟨o.queue, o.text⟩).mono ?_
 rintro e w6 ⟨v6, rfl, o6, g6⟩
 obtain ⟨a6, n6, cc6, rfl⟩ := OwnL.shape o6
 obtain ⟨T7, F7, k7⟩ := hT5.row_b g6 o6
 have hS6 : Blk w6 gb #[tx o.queue, tx o.text] 43 := hS.grown g6 HN.out
 clear hS
 have hS := hS6
 clear hS6
 show K _ _
 refine hK _ _ hS ?_
 clear hK K
 try simp only [tkf]
 refine tks [8, 9, 10] [.pointer (some ⟨g, 0, none⟩), .pointer (some ⟨g, 0, none⟩), .pointer (some ⟨g, 2, none⟩)] 1 ?_ hS ?_
 ·simp only [tkY, tkf]
  refine ⟨.yes ?_, .yes ?_, .yes ?_, trivial⟩
  all_goals
   intro W' hW'
   go_simp
 simp only [tkA, tkf]
 refine ak 11 fun K hK => ?_
 go_simp
 have f7 := k7.frozen 2
 have c7 : w6.cell? ⟨g, 2, none⟩ = some bv := k7.cell 2
 go_simp
 refine hK _ _ (hS.setO (fun e => HG.out e) _) ?_
 clear hK K f7 c7
 try simp only [tkf]
 refine ad ?_
 go_end0
 exact led_ok (by simp [unbindC, ins, hb]) ⟨_, _, _, _, _, _, T7⟩ (hF5.trans F7)
def VB (B : Nat) (w : World) : Prop := ∀ W, Below B w W → To.Vars W
theorem VB.of {w : World} (h : To.Vars w) : VB w.heap.size w := fun W hb => h.below hb
theorem VB.on {B : Nat} {w w' : World} (h : VB B w) (hb : Below B w w') : VB B w' := fun W hb2 => h W (hb.trans hb2)
theorem VB.fr {B : Nat} {w w' : World} (h : VB B w) (hb : FrT B w w') : VB B w' := h.on hb.below
theorem VB.now {B : Nat} {w : World} (h : VB B w) : To.Vars w := h w (.refl _ _)
theorem El.c7 {w : World} {B : Nat} {qv : Value} {l : List Que} {p gq cap : Nat} {cur : Array Value} {iv hv : Value} (h : El w B qv l p gq cap cur iv hv) {q : Que} (hp : p < l.length) (hq : l[p] = q) : w.cell? ⟨gq, p * 7, none⟩ = some (tx q.name) ∧ w.cell? ⟨gq, p * 7 + 1, none⟩ = some (.bool q.dur) ∧ w.cell? ⟨gq, p * 7 + 2, none⟩ = some (.int .i64 q.depth) ∧ w.cell? ⟨gq, p * 7 + 3, none⟩ = some (.int .i64 q.seq) ∧ w.cell? ⟨gq, p * 7 + 4, none⟩ = some (.int .i64 q.tag) ∧ w.cell? ⟨gq, p * 7 + 5, none⟩ = some iv ∧ w.cell? ⟨gq, p * 7 + 6, none⟩ = some hv := by
 subst hq
 exact ⟨(h.blk.cell _).trans (h.at7 0 _ rfl), (h.blk.cell _).trans (h.at7 1 _ rfl), (h.blk.cell _).trans (h.at7 2 _ rfl), (h.blk.cell _).trans (h.at7 3 _ rfl), (h.blk.cell _).trans (h.at7 4 _ rfl), (h.blk.cell _).trans (h.at7 5 _ rfl), (h.blk.cell _).trans (h.at7 6 _ rfl)⟩
theorem set_en {l : List Que} (hl : Inc oQ l) {p : Nat} (hp : p < l.length) {q' : Que} (hn : q'.name = (l[p]).name) : l.set p q' = enL oQ q' l := by
 have hr := List.pairwise_iff_getElem.1 hl
 refine en_there linQ (x := l[p]) hl (fun i hi hip => hr i p hi hp hip) (fun i hi hpi => ?_) hp (linQ.refl _) (oQ_zero.2 hn)
 by_cases e : i = p
 ·subst e
  rw [linQ.refl]
  omega
 ·have h1 := (linQ.anti _ _).1 (hr p i hp hi (by omega))
  omega
theorem good_len {c : Cor} (h : GoodC c) {p : Nat} (hp : p < c.queues.length) : lenQ c.queues[p] ≤ 1000000 := by
 have h1 := (goodQ_iff _).1 (h.qg _ (List.getElem_mem hp))
 have h2 := h1.len
 have h3 := h1.dep
 simp only [depB, Bool.and_eq_true, decide_eq_true_eq] at h3
 omega
theorem own_cells {w : World} {B : Nat} {q : Que} {iv hv : Value} (h : OwnQ w B (queV q iv hv) q) : (queV q iv hv).cells.all (·.oneCell') = true := by
 obtain ⟨iv', hv', e, h1, h2⟩ := h
 injection e with e
 have e2 := congrArg Array.toList e
 simp at e2
 obtain ⟨rfl, rfl⟩ := e2
 obtain ⟨ia, ic, ei⟩ := h1.rd.len
 obtain ⟨ja, jc, ej⟩ := h2.rd.len
 simp [queV, Value.cells, Value.oneCell', ei, ej]
theorem own_open {w : World} {B : Nat} {v : Value} {q : Que} (h : OwnQ w B v q) : ∃ iv hv, v = queV q iv hv ∧ (iv.oneCell' = true ∧ hv.oneCell' = true) ∧ OwnQ w B (queV q iv hv) q := by
 have h0 := h
 obtain ⟨iv, hv, rfl, h1, h2⟩ := h
 obtain ⟨ia, ic, ei⟩ := h1.rd.len
 obtain ⟨ja, jc, ej⟩ := h2.rd.len
 exact ⟨iv, hv, rfl, ⟨by rw [ei]; rfl, by rw [ej]; rfl⟩, h0⟩
theorem Blk.c14 {W : World} {g : Nat} {t : TypeId} {a0 a1 a2 a3 a4 a5 a6 a7 a8 a9 a10 a11 a12 a13 : Value} (h : Blk W g #[a0, a1, a2, a3, a4, a5, a6, a7, a8, a9, a10, a11, a12, a13] t) : W.cell? ⟨g, 0, none⟩ = some a0 ∧ W.cell? ⟨g, 1, none⟩ = some a1 ∧ W.cell? ⟨g, 2, none⟩ = some a2 ∧ W.cell? ⟨g, 3, none⟩ = some a3 ∧ W.cell? ⟨g, 4, none⟩ = some a4 ∧ W.cell? ⟨g, 5, none⟩ = some a5 ∧ W.cell? ⟨g, 6, none⟩ = some a6 ∧ W.cell? ⟨g, 7, none⟩ = some a7 ∧ W.cell? ⟨g, 8, none⟩ = some a8 ∧ W.cell? ⟨g, 9, none⟩ = some a9 ∧ W.cell? ⟨g, 10, none⟩ = some a10 ∧ W.cell? ⟨g, 11, none⟩ = some a11 ∧ W.cell? ⟨g, 12, none⟩ = some a12 ∧ W.cell? ⟨g, 13, none⟩ = some a13 :=
 ⟨h.cell 0, h.cell 1, h.cell 2, h.cell 3, h.cell 4, h.cell 5, h.cell 6, h.cell 7, h.cell 8, h.cell 9, h.cell 10, h.cell 11, h.cell 12, h.cell 13⟩
theorem led_on {w w1 w2 : World} {B g : Nat} {os : List Ot} {res : Except Int (Cor × List Ot)} {e : Ending} (hf : FrT B w w1) (h : Led w1 B g os res e w2) : Led w B g os res e w2 := by
 rcases h with ⟨r, h1, h2, h3, h4⟩ | ⟨n, h1, h2, h3⟩
 ·exact .inl ⟨r, h1, h2, h3, hf.trans h4⟩
 ·exact .inr ⟨n, h1, h2, hf.trans h3⟩
set_option maxHeartbeats 2000000 in
theorem settle_op (w : World) (B g : Nat) (c : Cor) (os : List Ot) (hT : T w B g c os) (hg : GoodC c) (hV : VB B w) (o : Opr) (pv : Value) (hp : pv.oneCell' = true) (again : Bool) :
  Calls Tryz.prog 57 #[.pointer (some ⟨g, 0, none⟩), opV o pv, .bool again] w fun e w' => Led w B g os (noO (settleK c o again)) e w' := by
 obtain ⟨qv, bv, sv, kv, cv, ov, hT⟩ := hT
 have b0 := (Below.refl w.heap.size w).alloc (Nat.le_refl _) (.cells (opA o pv) 35)
 have hO := Blk.new w (opA o pv) 35
 have hT1 := hT.on b0
 have hF1 : FrT B w (w.alloc (.cells (opA o pv) 35)) := .of_below b0 hT.lt
 unfold opV
 go_enter Tryz.func57, Tryz.ntmps57
 go_upto_region 1 with fail
 generalize w.alloc (.cells (opA o pv) 35) = w1 at *
 obtain ⟨gx, egx⟩ : ∃ g, w.heap.size = g := ⟨_, rfl⟩
 rw [egx] at hO ⊢
 have d4 : w1.cell? ⟨gx, 4, none⟩ = some (tx o.queue) := hO.cell 4
 have HN := named_any w1 B g c os qv bv sv kv cv ov hT1 hg o.queue
 have HT1 : Hid (Tv w1 B g c os qv bv sv kv cv ov ∧ FrT B w w1 ∧ Blk w1 gx (opA o pv) 35) := ⟨hT1, hF1, hO⟩
 clear hT hT1 hF1 egx b0 hO
 go_wp2_with fail
 refine HN.mono ?_
 rintro e w2 ⟨h2, b2⟩
 clear HN d4
 obtain ⟨hT1, hF1, hO⟩ := HT1.out
 have hT2 := hT1.on b2
 have hF2 := hF1.trans (.of_below b2 hT1.lt)
 have hO2 := hO.on b2
 clear hT1 hF1 hO HT1 b2
 rcases h2 with ⟨p, gq, cap, cur, iv, hv, hpl, hnm, he, hEL2⟩ | ⟨hnm, he⟩
 rotate_left
 ·subst he
  exact ⟨rfl, led_no (by unfold settleK; rw [hnm]; rfl) hF2⟩
 subst he
 have hbig := good_len hg hpl
 have hgq := hg.qg _ (List.getElem_mem hpl)
 obtain ⟨q, hq⟩ : ∃ q, c.queues[p] = q := ⟨_, rfl⟩
 rw [hq] at hnm hbig hgq
 have HG : Hid (some gx ≠ some gq) := fun e => by
  injection e with e
  have h1 := hO2.h
  rw [e, hEL2.blk.h] at h1
  injection h1 with h1
  injection h1 with _ h1
  cases h1
 go_upto_region 2 with fail
 refine rh (fun W => Blk W gx (opA o pv) 35) ?_
 have hS : Blk (World.drew w2) gx (opA o pv) 35 := ⟨hO2.h⟩
 have hT3 := hT2.drew
 have hF3 := hF2.drew
 have hEL := hEL2.kx (e := 0) (w' := w2.drew) .drew (by decide)
 clear hT2 hF2 hO2 hEL2
 generalize w2.drew = w3 at *
 have hOW := hEL.own
 rw [hq] at hOW
 refine tks [0, 1, 2, 4, 5, 6, 7, 8] [.pointer (some ⟨gq, p * 7, none⟩), .pointer (some ⟨gq, p * 7, none⟩), .pointer (some ⟨gq, p * 7, none⟩), .pointer (some ⟨gx, 1, none⟩), .int .i64 o.conn, .pointer (some ⟨gx, 3, none⟩), .int .i64 o.n, .bool again] 7 ?_ hS ?_
 ·simp only [tkY, tkf]
  refine ⟨.yes ?_, .yes ?_, .yes ?_, .yes ?_, .yes ?_, .yes ?_, .yes ?_, .yes ?_, trivial⟩
  all_goals
   intro W' hW'
   have := hW'.ce 1
   have := hW'.ce 3
   go_simp
 simp only [tkA, tkf]
 refine ak 3 fun K hK => ?_
 obtain ⟨d0, d1, d2, d3, d4, d5, d6⟩ := hEL.c7 hpl hq
 go_simp
 refine hK _ _ hS ?_
 clear hK K
 try simp only [tkf]
 refine ak 9 fun K hK => ?_
 go_simp
 refine (settle_any _ (hV.fr hF3).now _ q (OwnQ.rd hOW) o.conn o.n again hbig).mono ?_
 rintro e w4 ⟨v4, rfl, o4, b4⟩
 obtain ⟨iv4, hv4, rfl, n4, o4'⟩ := own_open o4
 clear o4
 have hT4 := hT3.on b4
 have hF4 := hF3.trans (.of_below b4 hT3.lt)
 have hEL4 := hEL.on b4
 have hS4 : Blk w4 gx (opA o pv) 35 := hS.on b4
 have o4 := o4'.low hT3.lt
 clear hT3 hF3 hEL hS b4 o4'
 have hS := hS4
 clear hS4
 show K _ _
 refine hK _ _ hS ?_
 clear hK K
 try simp only [tkf]
 refine tks [10, 11] [queV (if settleC q o.conn o.n = 0 then settleQ q o.conn o.n again else zeroQ) iv4 hv4, .int .i64 (settleC q o.conn o.n)] 3 ?_ hS ?_
 ·simp only [tkY, tkf]
  refine ⟨.yes ?_, .yes ?_, trivial⟩
  all_goals
   intro W' hW'
   go_simp
 simp only [tkA, tkf]
 refine ak 12 fun K hK => ?_
 go_simp
 refine (sure_any _ B _ _ o4 _).mono ?_
 rintro e w5 ⟨h5, b5⟩
 have hT5 := hT4.on b5
 have hF5 := hF4.trans (.of_below b5 hT4.lt)
 have hEL5 := hEL4.on b5
 have hS5 : Blk w5 gx (opA o pv) 35 := hS.on b5
 have o5 := o4.on b5
 clear hT4 hF4 hEL4 hS b5 o4
 have hS := hS5
 clear hS5
 rcases h5 with ⟨h5, he⟩ | ⟨h5, he⟩
 rotate_left
 ·subst he
  exact ⟨rfl, led_no (by unfold settleK; rw [hnm]; simp [bnd, sureE, h5]) hF5⟩
 subst he
 show K _ _
 rw [if_pos h5] at o5 ⊢
 refine hK _ _ hS ?_
 clear hK K
 try simp only [tkf]
 refine tks [13] [.pointer (some ⟨gq, p * 7, none⟩)] 1 ?_ hS ?_
 ·simp only [tkY, tkf]
  refine ⟨.yes ?_, trivial⟩
  all_goals
   intro W' hW'
   go_simp
 simp only [tkA, tkf]
 refine ak 14 fun K hK => ?_
 refine opw_putAt (.tmp 24) (.tmp 23) rfl gq (p * 7) (queV (settleQ q o.conn o.n again) iv4 hv4).cells rfl ?_ hEL5.blk (by kernel_rfl) hEL5.fit (own_cells o5) ?_
 ·skip
  simp only [Act.eval, Act.put]
  rfl
 intro w6 k6 g6 s6
 obtain ⟨T6, F6, E6⟩ := hT5.put hEL5 o5 k6 g6
 refine hK _ _ (hS.grown g6 HG.out) ?_
 clear hK K
 try simp only [tkf]
 refine ad ?_
 go_end0
 rw [set_en hg.qi hpl (q' := settleQ q o.conn o.n again) (by rw [hq]; rfl)] at T6
 exact led_ok (c := setQ c (settleQ q o.conn o.n again)) (by unfold settleK; rw [hnm]; simp [bnd, sureE, h5]) ⟨_, _, _, _, _, _, T6⟩ (hF5.trans F6)
set_option maxHeartbeats 1000000 in
theorem ack_op (w : World) (B g : Nat) (c : Cor) (os : List Ot) (hT : T w B g c os) (hg : GoodC c) (hV : VB B w) (o : Opr) (pv : Value) (hp : pv.oneCell' = true) :
  Calls Tryz.prog 56 #[.pointer (some ⟨g, 0, none⟩), opV o pv] w fun e w' => Led w B g os (noO (settleK c o false)) e w' := by
 have hBw : B ≤ w.heap.size := by obtain ⟨_, _, _, _, _, _, h⟩ := hT; exact h.lt
 have b0 := (Below.refl w.heap.size w).alloc (Nat.le_refl _) (.cells (opA o pv) 35)
 have hO := Blk.new w (opA o pv) 35
 have hF1 : FrT B w (w.alloc (.cells (opA o pv) 35)) := .of_below b0 hBw
 have HS := settle_op _ B g c os (hT.on b0) hg (hV.fr hF1) o pv hp false
 unfold opV at HS ⊢
 clear hT
 go_enter Tryz.func56, Tryz.ntmps56
 go_upto_region 1 with fail
 generalize w.alloc (.cells (opA o pv) 35) = w1 at *
 obtain ⟨d0, d1, d2, d3, d4, d5, d6, d7, d8, d9, d10, d11, d12, d13⟩ := hO.c14
 clear hO
 go_wp2_with fail
 refine HS.mono ?_
 intro e w2 h2
 have h3 := led_on hF1 h2
 rcases h2 with ⟨r, h1, he, h4⟩ | ⟨n, h1, he, h4⟩
 ·subst he
  go_wp2_with fail
  go_end0
  exact h3
 ·subst he
  exact ⟨rfl, h3⟩
set_option maxHeartbeats 1000000 in
theorem nack_op (w : World) (B g : Nat) (c : Cor) (os : List Ot) (hT : T w B g c os) (hg : GoodC c) (hV : VB B w) (o : Opr) (pv : Value) (hp : pv.oneCell' = true) :
  Calls Tryz.prog 58 #[.pointer (some ⟨g, 0, none⟩), opV o pv] w fun e w' => Led w B g os (noO (settleK c o o.auto)) e w' := by
 have hBw : B ≤ w.heap.size := by obtain ⟨_, _, _, _, _, _, h⟩ := hT; exact h.lt
 have b0 := (Below.refl w.heap.size w).alloc (Nat.le_refl _) (.cells (opA o pv) 35)
 have hO := Blk.new w (opA o pv) 35
 have hF1 : FrT B w (w.alloc (.cells (opA o pv) 35)) := .of_below b0 hBw
 have HS := settle_op _ B g c os (hT.on b0) hg (hV.fr hF1) o pv hp o.auto
 unfold opV at HS ⊢
 clear hT
 go_enter Tryz.func58, Tryz.ntmps58
 go_upto_region 1 with fail
 generalize w.alloc (.cells (opA o pv) 35) = w1 at *
 obtain ⟨d0, d1, d2, d3, d4, d5, d6, d7, d8, d9, d10, d11, d12, d13⟩ := hO.c14
 clear hO
 go_wp2_with fail
 refine HS.mono ?_
 intro e w2 h2
 have h3 := led_on hF1 h2
 rcases h2 with ⟨r, h1, he, h4⟩ | ⟨n, h1, he, h4⟩
 ·subst he
  go_wp2_with fail
  go_end0
  exact h3
 ·subst he
  exact ⟨rfl, h3⟩
theorem leCs (w : World) (B : Nat) (hB : B ≤ w.heap.size) (v : Value) (l : List Cli) (h : OCw w B v l) (hi : Inc oC l) (hn : l.length ≤ 1000) (n : List UInt8) :
  Calls Tryz.prog 132 #[v, .agg #[tx n, .slice none 0 0], .func (.func 79) #[] #[]] w fun e w' => LeA OCw oC w B v ⟨n, []⟩ l e w' := by
 obtain ⟨zs, rfl, hz⟩ := h
 obtain ⟨a, c, rfl⟩ := hz.rd.len
 rw [List.length_map] at hn
 obtain ⟨p, hp⟩ := plc_any linC (⟨n, []⟩ : Cli) hi
 have hx : ClR (fun _ _ => True) [tx n, .slice none 0 0] (⟨n, []⟩ : Cli) := ⟨_, rfl, trivial⟩
 refine (leC w B hB a zs.length c zs _ hz rfl hn _ _ ⟨rfl, rfl⟩ 79 e79' (fun z => oC z ⟨n, []⟩) (fun W z hm => cC W (hz.2 z hm).2 hx) p hp.le hp.lo hp.hi).mono ?_
 intro e w' hr
 obtain ⟨v', h4, h5, h6⟩ := ler_of (y := ([], (⟨n, []⟩ : Cli))) linC hz hi hp hr
 have kt : ∀ t, t ≠ 88 → Kt t w w' := fun t ht => .of_grown hz.1 h6 ht
 refine ⟨v', h4, ⟨_, leL_map Prod.snd _ zs, h5.imp ?_⟩, h6⟩
 rintro ys x ⟨pv, h7, h8⟩
 exact ⟨pv, h7, h8.keep (kt _ (by decide))⟩
set_option maxHeartbeats 4000000 in
theorem forget_any (w : World) (B g : Nat) (c : Cor) (os : List Ot) (hT : T w B g c os) (hc : Inc oC c.clients ∧ (c.clients.length : Int) ≤ 16) (o : Opr) (pv : Value) (hp : pv.oneCell' = true) :
  Calls Tryz.prog 52 #[.pointer (some ⟨g, 0, none⟩), opV o pv] w fun e w' => Led w B g os (noO (forgetC c o)) e w' := by
 have hg : Hid (Inc oC c.clients ∧ (c.clients.length : Int) ≤ 16) := hc
 clear hc
 obtain ⟨qv, bv, sv, kv, cv, ov, hT⟩ := hT
 have b0 := (Below.refl w.heap.size w).alloc (Nat.le_refl _) (.cells (opA o pv) 35)
 have hO := Blk.new w (opA o pv) 35
 have hT1 := hT.on b0
 have hF1 : FrT B w (w.alloc (.cells (opA o pv) 35)) := .of_below b0 hT.lt
 unfold opV
 go_enter Tryz.func52, Tryz.ntmps52
 go_upto_region 1 with fail
 generalize w.alloc (.cells (opA o pv) 35) = w1 at *
 obtain ⟨gx, egx⟩ : ∃ g, w.heap.size = g := ⟨_, rfl⟩
 rw [egx] at hO ⊢
 clear egx b0 hT
 have d5 : w1.cell? ⟨gx, 5, none⟩ = some (tx o.text) := hO.cell 5
 have HG : Hid (gx ≠ g) := fun e => by
  have h1 := hO.h
  rw [e, hT1.blk.h] at h1
  injection h1 with h1
  injection h1 with _ h1
  cases h1
 have HT1 : Hid (Tv w1 B g c os qv bv sv kv cv ov ∧ FrT B w w1 ∧ Blk w1 gx (opA o pv) 35) := ⟨hT1, hF1, hO⟩
 have HS := name_any w1 o.text
 clear hT1 hF1 hO
 go_wp2_with fail
 refine HS.mono ?_
 rintro e wA ⟨rfl, hA⟩
 rw [hA]
 clear hA wA HS
 have HI := insist_any w1 (nameL o.text) 31
 go_wp2_with fail
 refine HI.mono ?_
 rintro e wI ⟨hI, hb⟩
 rw [hI]
 clear hI wI HI
 rcases hb with ⟨hb, he⟩ | ⟨hb, he⟩
 rotate_left
 ·subst he
  exact ⟨rfl, .inr ⟨31, by simp [forgetC, noO, bnd, ins, hb], rfl, HT1.out.2.1⟩⟩
 subst he
 clear d5
 obtain ⟨hT2, hF2, hO⟩ := HT1.out
 clear HT1
 go_upto_region 2 with fail
 refine rh (fun W => Blk W gx (opA o pv) 35) ?_
 have hS : Blk (World.drew w1) gx (opA o pv) 35 := ⟨hO.h⟩
 have hT3 := hT2.drew
 have hF3 := hF2.drew
 clear hT2 hF2
 clear hO
 generalize w1.drew = w5 at *
 refine tks [0, 1, 2, 3, 4, 6, 7, 8] [.pointer (some ⟨g, 0, none⟩), .pointer (some ⟨g, 0, none⟩), .pointer (some ⟨g, 0, none⟩), .pointer (some ⟨g, 0, none⟩), .pointer (some ⟨g, 5, none⟩), .pointer (some ⟨gx, 5, none⟩), tx o.text, .agg #[tx o.text, .slice none 0 0]] 6 ?_ hS ?_
 ·simp only [tkY, tkf]
  refine ⟨.yes ?_, .yes ?_, .yes ?_, .yes ?_, .yes ?_, .yes ?_, .yes ?_, .yes ?_, trivial⟩
  all_goals
   intro W' hW'
   have := hW'.ce 5
   go_simp
 simp only [tkA, tkf]
 refine ak 5 fun K hK => ?_
 have d0 : w5.cell? ⟨g, 5, none⟩ = some cv := hT3.blk.cell 5
 go_simp
 refine hK _ _ hS ?_
 clear hK K
 try simp only [tkf]
 refine ak 9 fun K hK => ?_
 go_simp
 refine (leCs _ B hT3.lt cv c.clients hT3.c hg.out.1 (by have := hg.out.2; omega) o.text).mono ?_
 rintro e w6 ⟨v6, rfl, o6, g6⟩
 obtain ⟨a6, n6, cc6, rfl⟩ := OwnL.shape o6
 have kx6 : KX 88 w5 w6 := by
  obtain ⟨zs, _, hz⟩ := hT3.c
  exact .of_grown hz.1 g6
 obtain ⟨T7, F7, k7⟩ := hT3.row_c g6 o6
 have hS6 : Blk w6 gx (opA o pv) 35 := hS.kt (kx6.kt _ (by decide))
 clear hS kx6
 have hS := hS6
 clear hS6
 show K _ _
 refine hK _ _ hS ?_
 clear hK K
 try simp only [tkf]
 refine tks [10, 11, 12] [.pointer (some ⟨g, 0, none⟩), .pointer (some ⟨g, 0, none⟩), .pointer (some ⟨g, 5, none⟩)] 1 ?_ hS ?_
 ·simp only [tkY, tkf]
  refine ⟨.yes ?_, .yes ?_, .yes ?_, trivial⟩
  all_goals
   intro W' hW'
   go_simp
 simp only [tkA, tkf]
 refine ak 13 fun K hK => ?_
 go_simp
 have f7 := k7.frozen 5
 have c7 : w6.cell? ⟨g, 5, none⟩ = some cv := k7.cell 5
 go_simp
 refine hK _ _ (hS.setO (fun e => HG.out e) _) ?_
 clear hK K f7 c7
 try simp only [tkf]
 refine ad ?_
 go_end0
 exact led_ok (c := { c with clients := leL oC ⟨o.text, []⟩ c.clients }) (by simp [forgetC, ins, hb]) ⟨_, _, _, _, _, _, T7⟩ (hF3.trans F7)
theorem forget_op (w : World) (B g : Nat) (c : Cor) (os : List Ot) (hT : T w B g c os) (hg : GoodC c) (hV : VB B w) (o : Opr) (pv : Value) (hp : pv.oneCell' = true) :
  Calls Tryz.prog 52 #[.pointer (some ⟨g, 0, none⟩), opV o pv] w fun e w' => Led w B g os (noO (forgetC c o)) e w' := forget_any w B g c os hT ⟨hg.ci, hg.cl⟩ o pv hp
theorem e131' : ∀ args w, (callFunc 131 args).run Tryz.prog w = .ok (.enter 131 args) w := fun args w => by go_simp
theorem cN (W : World) {z : List Value × Int} {v0 : Value} (hz : NuR z.1 z.2) (h : z.1 = [v0]) (x : Int) : Calls Tryz.prog 131 #[v0, .int .i64 x] W fun e w' => e = .returned (.int .i64 (cmpZ z.2 x)) ∧ Bw W w' := by
 unfold NuR at hz
 rw [hz] at h
 injection h with h _
 subst h
 exact (cmpI_any W z.2 x).mono fun e w' ⟨h1, h2⟩ => ⟨h1, by rw [h2]; exact Below.refl _ _⟩
theorem hasPs (w : World) (B : Nat) (v : Value) (l : List Int) (h : OwnNu w B v l) (hi : Inc cmpZ l) (hn : l.length ≤ 1000) (x : Int) :
  Calls Tryz.prog 191 #[v, .int .i64 x, .func (.func 131) #[] #[]] w fun e w' => e = .returned (.bool (hasL cmpZ x l)) ∧ Bw w w' := by
 obtain ⟨zs, rfl, hz⟩ := h
 obtain ⟨a, c, rfl⟩ := hz.rd.len
 rw [List.length_map] at hn
 obtain ⟨p, hp⟩ := plc_any linZ x hi
 refine (hasN w a zs.length c zs _ hz.rd rfl (by omega) (.int .i64 x) 131 e131' (fun z => cmpZ z x) (fun W z v0 hm h => cN W (hz.2 z hm).2 h x) p hp.le hp.lo hp.hi).mono ?_
 rintro e w' ⟨hr, b⟩
 exact ⟨har_of linZ hi hp hr, b⟩
theorem enPs (w : World) (B : Nat) (hB : B ≤ w.heap.size) (v : Value) (l : List Int) (h : OwnNu w B v l) (hi : Inc cmpZ l) (hn : l.length ≤ 1000) (x : Int) :
  Calls Tryz.prog 192 #[v, .int .i64 x, .func (.func 131) #[] #[], .int .i64 32] w fun e w' => EnA OwnNu cmpZ 32 w B v x l e w' := by
 obtain ⟨zs, rfl, hz⟩ := h
 obtain ⟨a, c, rfl⟩ := hz.rd.len
 rw [List.length_map] at hn
 obtain ⟨p, hp⟩ := plc_any linZ x hi
 refine (enN w B hB a zs.length c zs _ hz rfl hn x 131 e131' (fun z => cmpZ z x) (fun W z v0 hm h => cN W (hz.2 z hm).2 h x) p hp.le hp.lo hp.hi x rfl 32).mono ?_
 intro e w' hr
 rcases enr_of linZ hi hp hr with ⟨v', h3, h4, h5, h6⟩ | h3
 ·rw [enL_map Prod.snd] at h3
  exact .inl ⟨v', h3, h4, ⟨_, enL_map Prod.snd _ zs, h5⟩, h6⟩
 ·exact .inr h3
theorem lePs (w : World) (B : Nat) (hB : B ≤ w.heap.size) (v : Value) (l : List Int) (h : OwnNu w B v l) (hi : Inc cmpZ l) (hn : l.length ≤ 1000) (x : Int) :
  Calls Tryz.prog 130 #[v, .int .i64 x, .func (.func 131) #[] #[]] w fun e w' => LeA OwnNu cmpZ w B v x l e w' := by
 obtain ⟨zs, rfl, hz⟩ := h
 obtain ⟨a, c, rfl⟩ := hz.rd.len
 rw [List.length_map] at hn
 obtain ⟨p, hp⟩ := plc_any linZ x hi
 refine (leN w B hB a zs.length c zs _ hz rfl hn (.int .i64 x) rfl 131 e131' (fun z => cmpZ z x) (fun W z v0 hm h => cN W (hz.2 z hm).2 h x) p hp.le hp.lo hp.hi).mono ?_
 intro e w' hr
 obtain ⟨v', h4, h5, h6⟩ := ler_of (y := ([], x)) linZ hz hi hp hr
 exact ⟨v', h4, ⟨_, leL_map Prod.snd _ zs, h5⟩, h6⟩
theorem oC_zero {a b : Cli} : oC a b = 0 ↔ a.name = b.name := cmpL_zero
theorem findCs (w : World) (B : Nat) (v : Value) (zs : Zs Cli) (p0 : Value → List Int → Prop) (hz : OwnZ 88 2 (ClR p0) w B v zs) (hi : Inc oC (zs.map (·.2))) (hn : zs.length ≤ 1000) (n : List UInt8) :
  ∃ p, Plc oC ⟨n, []⟩ zs p ∧ Calls Tryz.prog 129 #[v, .agg #[tx n, .slice none 0 0], .func (.func 79) #[] #[]] w fun e w' =>
   (e = .returned (.tuple #[.int .i64 (p : Nat), .bool (hasL oC ⟨n, []⟩ (zs.map (·.2)))]) ∧ (hasL oC ⟨n, []⟩ (zs.map (·.2)) = true ↔ ∃ hi : p < zs.length, (zs[p]).2.name = n)) ∧ Bw w w' := by
 obtain ⟨a, c, rfl⟩ := hz.rd.len
 obtain ⟨p, hp⟩ := plc_any linC (⟨n, []⟩ : Cli) hi
 have hx : ClR (fun _ _ => True) [tx n, .slice none 0 0] (⟨n, []⟩ : Cli) := ⟨_, rfl, trivial⟩
 refine ⟨p, hp, (findC w a zs.length c zs _ hz.rd rfl (by omega) _ _ ⟨rfl, rfl⟩ 79 e79' (fun z => oC z ⟨n, []⟩) (fun W z hm => cC W (hz.2 z hm).2 hx) p hp.le hp.lo hp.hi).mono ?_⟩
 rintro e w' ⟨hr, b⟩
 have := bsr_of linC hi hp hr
 refine ⟨⟨this.1, this.2.trans ?_⟩, b⟩
 simp only [oC_zero]
def ClX (w : World) (B : Nat) (n : List UInt8) (vs : List Value) (x : Cli) : Prop := ∃ nv, vs = [tx x.name, nv] ∧ (x.name ≠ n → OwnNu w B nv x.packets)
theorem OwnNu.kept {w w' : World} {B : Nat} {v : Value} {l : List Int} {row : Option Nat} (h : OwnNu w B v l) (hg : w.grownBy w' row) (hne : v.ownBlock = none ∨ v.ownBlock ≠ row) : OwnNu w' B v l := by
 obtain ⟨zs, e, h1, h2⟩ := h
 exact ⟨zs, e, h1.kept hg hne, h2⟩
theorem OwnNu.kx {w w' : World} {B : Nat} {v : Value} {l : List Int} (h : OwnNu w B v l) (hg : w.grownBy w' v.ownBlock) : KX 3 w w' := by
 obtain ⟨zs, e, h1, h2⟩ := h
 exact .of_grown h1 hg
theorem OwnNu.fr {w w' : World} {B : Nat} {v : Value} {l : List Int} (h : OwnNu w B v l) (hg : w.grownBy w' v.ownBlock) (hB : B ≤ w.heap.size) : FrT B w w' := by
 obtain ⟨zs, e, h1, h2⟩ := h
 exact .of_grown h1 hg rfl hB
theorem clx_of {w w' : World} {B : Nat} {cv nv : Value} {zs : Zs Cli} {n : List UInt8} {p : Nat} (hz : OwnZ 88 2 (ClR (OwnNu w B)) w B cv zs) (ha : ApT blC w zs) (hp : p < zs.length) (hpn : (zs[p]).2.name = n) (hnv : (zs[p]).1 = [tx n, nv]) (k : KX 3 w w') (hg : w.grownBy w' nv.ownBlock) : OwnZ 88 2 (ClX w' B n) w' B cv zs := by
 refine ⟨(hz.keep (k.kt 88 (by decide))).1, fun z hm => ⟨(hz.2 z hm).1, ?_⟩⟩
 obtain ⟨i, hi, rfl⟩ := List.getElem_of_mem hm
 obtain ⟨nv', h1, h2⟩ := (hz.2 _ hm).2
 refine ⟨nv', h1, fun hne => h2.kept hg ?_⟩
 cases hb : nv'.ownBlock with
 | none => exact .inl rfl
 | some b =>
  refine .inr fun e => ?_
  have b1 : blC (zs[i]).1 = some b := by rw [h1]; exact hb
  have b2 : blC (zs[p]).1 = some b := by rw [hnv]; exact e.symm
  have hr := List.pairwise_iff_getElem.1 ha.1
  rcases Nat.lt_trichotomy i p with h | h | h
  ·exact hr i p hi hp h b b1 b2
  ·subst h
   exact hne hpn
  ·exact hr p i hp hi h b b2 b1
theorem clx_new {w w' : World} {B : Nat} {cv : Value} {zs : Zs Cli} {n : List UInt8} (hz : OwnZ 88 2 (ClR (OwnNu w B)) w B cv zs) (k : KX 3 w w') (hg : w.grownBy w' none) : OwnZ 88 2 (ClX w' B n) w' B cv zs := by
 refine ⟨(hz.keep (k.kt 88 (by decide))).1, fun z hm => ⟨(hz.2 z hm).1, ?_⟩⟩
 obtain ⟨nv', h1, h2⟩ := (hz.2 _ hm).2
 refine ⟨nv', h1, fun hne => h2.kept hg ?_⟩
 cases hb : nv'.ownBlock with
 | none => exact .inl rfl
 | some b => exact .inr (by simp)
theorem enCs (w : World) (B : Nat) (hB : B ≤ w.heap.size) (v : Value) (zs : Zs Cli) (n : List UInt8) (hz : OwnZ 88 2 (ClX w B n) w B v zs) (hi : Inc oC (zs.map (·.2))) (hn : zs.length ≤ 1000) (nv : Value) (ps : List Int) (hnv : OwnNu w B nv ps) :
  Calls Tryz.prog 193 #[v, .agg #[tx n, nv], .func (.func 79) #[] #[], .int .i64 16] w fun e w' => EnA OCw oC 16 w B v ⟨n, ps⟩ (zs.map (·.2)) e w' := by
 obtain ⟨a, c, rfl⟩ := hz.rd.len
 obtain ⟨p, hp⟩ := plc_any linC (⟨n, ps⟩ : Cli) hi
 obtain ⟨na, nc, en⟩ := hnv.shape
 refine (enC w B hB a zs.length c zs _ hz rfl hn (tx n) nv ⟨rfl, by rw [en]; rfl⟩ 79 e79' (fun z => oC z ⟨n, ps⟩) (fun W z hm => ?_) p hp.le hp.lo hp.hi ⟨n, ps⟩ ⟨nv, rfl, fun h => absurd rfl h⟩ 16).mono ?_
 ·obtain ⟨nv', h1, _⟩ := (hz.2 z hm).2
  exact cC (p := fun _ _ => True) (p' := fun _ _ => True) W ⟨nv', h1, trivial⟩ ⟨nv, rfl, trivial⟩
 intro e w' hr
 rcases enr_of linC hi hp hr with ⟨v', h3, h4, h5, h6⟩ | h3
 ·have kt : ∀ t, t ≠ 88 → Kt t w w' := fun t ht => .of_grown hz.1 h6 ht
  rw [enL_map Prod.snd] at h3
  refine .inl ⟨v', h3, h4, ⟨_, enL_map Prod.snd _ zs, h5.1, fun z hm => ⟨(h5.2 z hm).1, ?_⟩⟩, h6⟩
  rcases mem_enL.1 hm with rfl | ⟨h7, h8⟩
  ·exact ⟨nv, rfl, hnv.keep (kt _ (by decide))⟩
  ·obtain ⟨nv', h9, h10⟩ := (hz.2 z h7).2
   exact ⟨nv', h9, (h10 (fun e => h8 (oC_zero.2 e))).keep (kt _ (by decide))⟩
 ·exact .inr h3
structure TA (w : World) (B g : Nat) (c : Cor) (os : List Ot) (qv bv sv kv cv ov : Value) (zs : Zs Cli) : Prop where
 t : Tv w B g c os qv bv sv kv cv ov
 e : zs.map (·.2) = c.clients
 z : OwnZ 88 2 (ClR (OwnNu w B)) w B cv zs
 a : ApT blC w zs
theorem TA.kx {e : TypeId} {w w' : World} {B g : Nat} {c : Cor} {os : List Ot} {qv bv sv kv cv ov : Value} {zs : Zs Cli} (h : TA w B g c os qv bv sv kv cv ov zs) (k : KX e w w') (he : (tyT e = false ∧ 131 ≠ e) ∧ (133 ≠ e ∧ 66 ≠ e)) : TA w' B g c os qv bv sv kv cv ov zs := by
 have hne : ∀ t, tyT t = true → t ≠ e := fun t ht e1 => by rw [e1, he.1.1] at ht; cases ht
 refine ⟨h.t.kx k he, h.e, (h.z.keep (k.kt _ (hne _ rfl))).imp ?_, h.a.on k.size⟩
 rintro ys x ⟨pv, h3, h4⟩
 exact ⟨pv, h3, h4.keep (k.kt _ (hne _ rfl))⟩
theorem TA.on {w w' : World} {B g : Nat} {c : Cor} {os : List Ot} {qv bv sv kv cv ov : Value} {zs : Zs Cli} (h : TA w B g c os qv bv sv kv cv ov zs) (hb : Bw w w') : TA w' B g c os qv bv sv kv cv ov zs := h.kx (e := 0) (.of_below hb) (by decide)
theorem TA.drew {w : World} {B g : Nat} {c : Cor} {os : List Ot} {qv bv sv kv cv ov : Value} {zs : Zs Cli} (h : TA w B g c os qv bv sv kv cv ov zs) : TA w.drew B g c os qv bv sv kv cv ov zs := h.kx (e := 0) .drew (by decide)
structure Tw (w : World) (B g : Nat) (c : Cor) (os : List Ot) (qv bv sv kv cv ov : Value) : Prop where
 blk : Blk w g #[.int .i64 c.now, qv, bv, sv, kv, cv, ov] 77
 low : B ≤ g
 q : OQc w B qv c.queues
 b : OBc w B bv c.binds
 s : OSc w B sv c.subs
 k : OKc w B kv c.kept
 o : OOc w B ov os
theorem Tw.of {w : World} {B g : Nat} {c : Cor} {os : List Ot} {qv bv sv kv cv ov : Value} (h : Tv w B g c os qv bv sv kv cv ov) : Tw w B g c os qv bv sv kv cv ov := ⟨h.blk, h.low, h.q, h.b, h.s, h.k, h.o⟩
theorem Tw.lt {w : World} {B g : Nat} {c : Cor} {os : List Ot} {qv bv sv kv cv ov : Value} (h : Tw w B g c os qv bv sv kv cv ov) : B ≤ w.heap.size := Nat.le_trans h.low (Nat.le_of_lt h.blk.lt)
theorem Tw.kx {e : TypeId} {w w' : World} {B g : Nat} {c : Cor} {os : List Ot} {qv bv sv kv cv ov : Value} (h : Tw w B g c os qv bv sv kv cv ov) (k : KX e w w') (he : ((77 ≠ e ∧ 82 ≠ e) ∧ (131 ≠ e ∧ 133 ≠ e)) ∧ (66 ≠ e ∧ 43 ≠ e) ∧ (85 ≠ e ∧ 33 ≠ e) ∧ 61 ≠ e) : Tw w' B g c os qv bv sv kv cv ov :=
 ⟨h.blk.kt (k.kt _ he.1.1.1), h.low, h.q.kx k ⟨⟨he.1.1.2, he.1.2.1⟩, he.1.2.2, he.2.1.1⟩, h.b.kx k he.2.1.2, h.s.kx k he.2.2.1.1, h.k.kx k ⟨he.2.2.1.2, he.2.1.1⟩, h.o.kx k ⟨he.2.2.2, he.2.1.1⟩⟩
theorem Tw.set_c {w : World} {B g : Nat} {c : Cor} {os : List Ot} {qv bv sv kv cv ov v' : Value} {l : List Cli} (h : Tw w B g c os qv bv sv kv cv ov) (hq : OCw w B v' l) : Tv (w.setCell ⟨g, 5, none⟩ v') B g { c with clients := l } os qv bv sv kv v' ov := by
 have k2 : KX 77 w (w.setCell ⟨g, 5, none⟩ v') := .cell h.blk v'
 exact ⟨by simpa using h.blk.set 5 v', h.low, h.q.kx k2 (by decide), h.b.kx k2 (by decide), h.s.kx k2 (by decide), h.k.kx k2 (by decide), hq.kx k2 (by decide), h.o.kx k2 (by decide)⟩
theorem Tw.with_c {w : World} {B g : Nat} {c : Cor} {os : List Ot} {qv bv sv kv cv ov : Value} {l : List Cli} (h : Tw w B g c os qv bv sv kv cv ov) (hq : OCw w B cv l) : Tv w B g { c with clients := l } os qv bv sv kv cv ov := ⟨h.blk, h.low, h.q, h.b, h.s, h.k, hq, h.o⟩
theorem FrT.cellT {B : Nat} {w : World} {g j : Nat} {cs : Array Value} {e : TypeId} (h : Blk w g cs e) (he : tyT e = true) (hB : B ≤ g) (u : Value) : FrT B w (w.setCell ⟨g, j, none⟩ u) :=
 ⟨(Below.refl B w).setCell (p := ⟨g, j, none⟩) hB u, fun t ht => kt_setCell h (fun e1 => by rw [e1, he] at ht; cases ht) u⟩
theorem ClX.kx {e : TypeId} {w w' : World} {B : Nat} {n : List UInt8} {vs : List Value} {x : Cli} (h : ClX w B n vs x) (k : KX e w w') (he : 3 ≠ e) : ClX w' B n vs x := by
 obtain ⟨nv, h1, h2⟩ := h
 exact ⟨nv, h1, fun hn => (h2 hn).keep (k.kt _ he)⟩
theorem clx_set {w : World} {B gk j : Nat} {cs : Array Value} {cv u : Value} {n : List UInt8} {zs : Zs Cli} (h : OwnZ 88 2 (ClX w B n) w B cv zs) (hk : Blk w gk cs 88) (hne : cv.ownBlock ≠ some gk) : OwnZ 88 2 (ClX (w.setCell ⟨gk, j, none⟩ u) B n) (w.setCell ⟨gk, j, none⟩ u) B cv zs :=
 ⟨h.1.kept (gb_setCell w gk j u) (.inr hne), fun z hm => ⟨(h.2 z hm).1, (h.2 z hm).2.kx (KX.cell hk u) (by decide)⟩⟩
theorem cliP_at {c : Cor} {zs : Zs Cli} (e : zs.map (·.2) = c.clients) (hi : Inc oC c.clients) {p : Nat} (hp : p < zs.length) {n : List UInt8} (hn : (zs[p]).2.name = n) : c.clients.find? (fun q => decide (q.name = n)) = some (zs[p]).2 ∧ cliP c n = (zs[p]).2.packets := by
 have h0 : c.clients.find? (fun q => decide (q.name = n)) = some (zs[p]).2 := by
  have hr := List.pairwise_iff_getElem.1 hi
  have hlp : p < c.clients.length := by rw [← e, List.length_map]; exact hp
  rw [List.find?_eq_some_iff_getElem]
  refine ⟨by simpa using hn, p, hlp, by simp [← e], fun j hj => ?_⟩
  have hlj : j < c.clients.length := by omega
  have h1 := hr j p hlj hlp hj
  simp only [Bool.not_eq_true', decide_eq_false_iff_not]
  intro e2
  have : oC c.clients[j] c.clients[p] = 0 := oC_zero.2 (by rw [e2, ← hn]; simp [← e])
  omega
 refine ⟨h0, ?_⟩
 unfold cliP
 rw [h0]
 rfl
theorem cliP_no {c : Cor} {n : List UInt8} (h : hasL oC ⟨n, []⟩ c.clients = false) : c.clients.find? (fun q => decide (q.name = n)) = none ∧ cliP c n = [] := by
 have h0 : c.clients.find? (fun q => decide (q.name = n)) = none := by
  rw [List.find?_eq_none]
  intro x hx e
  have : hasL oC ⟨n, []⟩ c.clients = true := by
   simp only [hasL, List.any_eq_true, decide_eq_true_eq]
   exact ⟨x, hx, oC_zero.2 (by simpa using e)⟩
  rw [this] at h
  cases h
 refine ⟨h0, ?_⟩
 unfold cliP
 rw [h0]
 rfl
end Go.Proofs.YtnpikgakpmkipabGreatDoor
