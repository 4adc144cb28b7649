/- (*turn).declare. Conditions: those that each row states. -/
import Derived.Test.YtnpikgakpmkipabGreatDoorY15
import Derived.Test.YtnpikgakpmkipabGreatDoorY04
import Derived.Test.YtnpikgakpmkipabGreatDoorY03
import Derived.Test.YtnpikgakpmkipabGreatDoorY23
import Derived.Test.YtnpikgakpmkipabGreatDoorY21
import Derived.Test.YtnpikgakpmkipabGreatDoorY14
import Derived.Test.YtnpikgakpmkipabGreatDoorY09
import Derived.Test.YtnpikgakpmkipabGreatDoorY22
import Derived.Test.YtnpikgakpmkipabGreatDoorY17
import Derived.Test.YtnpikgakpmkipabGreatDoorY20
namespace Go.Proofs.YtnpikgakpmkipabGreatDoor
open Go.RowKit Go.Lib
set_option maxRecDepth 100000
set_option linter.unusedSimpArgs false
set_option linter.unusedVariables false
theorem findT (w : World) (B g : Nat) (c : Cor) (os : List Ot) (qv bv sv kv cv ov : Value) (hT : Tv w B g c os qv bv sv kv cv ov) (hg : GoodC c) (n : List UInt8) :
  ∃ p, Calls Tryz.prog 110 #[qv, .agg #[tx n, .bool false, .int .i64 0, .int .i64 0, .int .i64 0, .slice none 0 0, .slice none 0 0], .func (.func 63) #[] #[]] w fun e w' =>
   (e = .returned (.tuple #[.int .i64 (p : Nat), .bool (hasNm c.queues n)]) ∧ (hasNm c.queues n = true → ∃ hi : p < c.queues.length, (c.queues[p]).name = n)) ∧ Bw w w' := by
 obtain ⟨zs, e, hz⟩ := hT.q
 have hl : zs.length = c.queues.length := by rw [← e, List.length_map]
 have hql := hg.ql
 obtain ⟨p, hp, HC⟩ := findQs w B qv zs hz (by rw [e]; exact hg.qi) (by omega) n
 rw [e] at HC
 refine ⟨p, HC.mono ?_⟩
 rintro e2 w' ⟨⟨h1, h2⟩, h3⟩
 refine ⟨⟨h1, fun h => ?_⟩, h3⟩
 obtain ⟨hi, hn⟩ := h2.1 h
 refine ⟨by omega, ?_⟩
 have e5 : (zs.map (·.2))[p]'(by rw [List.length_map]; exact hi) = c.queues[p] := by simp only [e]
 rw [← e5, List.getElem_map]
 exact hn
set_option maxHeartbeats 4000000 in
theorem declare_op (w : World) (B g : Nat) (c : Cor) (os : List Ot) (hT : T w B g c os) (hg : GoodC c) (hV : VB B w) (o : Opr) (pv : Value) (hp : pv.oneCell' = true) :
  Calls Tryz.prog 46 #[.pointer (some ⟨g, 0, none⟩), opV o pv] w fun e w' => Led w B g os (noO (declareC c o)) e w' := by
 obtain ⟨qv, bv, sv, kv, cv, ov, hT⟩ := hT
 have b0 := (Below.refl w.heap.size w).alloc (Nat.le_refl _) (.cells (opA o pv) 35)
 have hO := Blk.new w (opA o pv) 35
 have hT1 := hT.on b0
 have hF1 : FrT B w (w.alloc (.cells (opA o pv) 35)) := .of_below b0 hT.lt
 unfold opV
 go_enter Tryz.func46, Tryz.ntmps46
 go_upto_region 1 with fail
 generalize w.alloc (.cells (opA o pv) 35) = w1 at *
 obtain ⟨gx, egx⟩ : ∃ g, w.heap.size = g := ⟨_, rfl⟩
 rw [egx] at hO ⊢
 clear egx b0 hT
 have hT2 := hT1
 have hF2 := hF1
 clear hT1 hF1
 refine rh (fun W => Blk W g #[.int .i64 c.now, qv, bv, sv, kv, cv, ov] 77 ∧ Blk W gx (opA o pv) 35) ?_
 have hS : Blk (World.drew w1) g #[.int .i64 c.now, qv, bv, sv, kv, cv, ov] 77 ∧ Blk (World.drew w1) gx (opA o pv) 35 := ⟨⟨hT2.blk.h⟩, ⟨hO.h⟩⟩
 have hT3 := hT2.drew
 have hF3 := hF2.drew
 clear hT2 hF2
 clear hO
 generalize w1.drew = w3 at *
 refine tks [0, 1, 2, 3, 4, 5, 6, 7] [.pointer (some ⟨g, 0, none⟩), .pointer (some ⟨g, 0, none⟩), .pointer (some ⟨g, 0, none⟩), .pointer (some ⟨g, 1, none⟩), qv, .pointer (some ⟨gx, 4, none⟩), tx o.queue, .agg #[tx o.queue, .bool false, .int .i64 0, .int .i64 0, .int .i64 0, .slice none 0 0, .slice none 0 0]] 6 ?_ hS ?_
 ·simp only [tkY, tkf]
  refine ⟨.yes ?_, .yes ?_, .yes ?_, .yes ?_, .yes ?_, .yes ?_, .yes ?_, .yes ?_, trivial⟩
  all_goals
   intro W' hW'
   have := hW'.1.ce 1
   have := hW'.2.ce 4
   go_simp
 simp only [tkA, tkf]
 refine ak 8 fun K hK => ?_
 go_simp
 obtain ⟨p, HFD⟩ := findT _ B g c os qv bv sv kv cv ov hT3 hg o.queue
 refine (HFD).mono ?_
 rintro e w4 ⟨⟨rfl, hat⟩, b4⟩
 have hS4 : Blk w4 g #[.int .i64 c.now, qv, bv, sv, kv, cv, ov] 77 ∧ Blk w4 gx (opA o pv) 35 := ⟨hS.1.on b4, hS.2.on b4⟩
 have hT4 := hT3.on b4
 have hF4 := hF3.trans (.of_below b4 hT3.lt)
 clear hT3 hF3 hS b4
 have hS := hS4
 clear hS4
 show K _ _
 refine hK _ _ hS ?_
 clear hK K
 try simp only [tkf]
 refine tks [9, 10, 11, 12, 13] [.tuple #[.int .i64 (p : Nat), .bool (hasNm c.queues o.queue)], .int .i64 (p : Nat), .bool (hasNm c.queues o.queue), .int .i64 (p : Nat), .bool (hasNm c.queues o.queue)] 0 ?_ hS ?_
 ·simp only [tkY, tkf]
  refine ⟨.yes ?_, .yes ?_, .yes ?_, .yes ?_, .yes ?_, trivial⟩
  all_goals
   intro W' hW'
   go_simp
 simp only [tkA, tkf]
 refine ad ?_
 obtain ⟨d0, d1, d2, d3, d4, d5, d6, d7, d8, d9, d10, d11, d12, d13⟩ := hS.2.c14
 rcases Bool.eq_false_or_eq_true (hasNm c.queues o.queue) with hh | hh
 ·obtain ⟨hpl, hnm⟩ := hat hh
  rw [hh]
  obtain ⟨gq, cap, cur, iv, hv, hE⟩ := hT4.el hpl
  obtain ⟨q, hq⟩ : ∃ q, c.queues[p] = q := ⟨_, rfl⟩
  have hfd := find_at hg.qi hpl hnm
  rw [hq] at hfd
  obtain ⟨e0, e1, e2, e3, e4, e5, e6⟩ := hE.c7 hpl hq
  have c1 : w4.cell? ⟨g, 1, none⟩ = some (.slice (some ⟨gq, 0, none⟩) c.queues.length cap) := by rw [← hE.eq]; exact hT4.blk.cell 1
  have hpi : (p : Int) < (c.queues.length : Int) := by omega
  have hOW := hE.own
  rw [hq] at hOW
  have hcl := own_cells hOW
  have HX : Hid (Tv w4 B g c os qv bv sv kv cv ov ∧ FrT B w w4 ∧ Blk w4 gx (opA o pv) 35) := ⟨hT4, hF4, hS.2⟩
  have HD : Hid (declareC c o = ins (decide (q.dur = o.dur) && decide (q.depth = o.n)) 32 (.ok c)) := by
   show declareC c o = _
   unfold declareC
   rw [hfd]
  unfold queV at hcl
  clear hT4 hF4 hS hat hE hOW hfd hnm
  go_wp2_with (refine wpl_fresh rfl (.tmp 6) (.tmp 28) rfl _ _ rfl rfl (by kernel_rfl) rfl hcl ?_)
  intro w5 k5 b5 s5
  obtain ⟨hT4, hF4, hO4⟩ := HX.out
  have hO5 := hO4.on b5
  have HX5 : Hid (Tv w5 B g c os qv bv sv kv cv ov ∧ FrT B w w5) := ⟨hT4.on b5, hF4.trans (.of_below b5 hT4.lt)⟩
  obtain ⟨g0, g1, g2, g3, g4, g5, g6⟩ := k5.c7
  clear hT4 hF4 hO4 HX k5 s5 b5 d0 d1 d2 d3 d4 d5 d6 d7 d8 d9 d10 d11 d12 d13 e0 e1 e2 e3 e4 e5 e6 c1
  obtain ⟨d0, d1, d2, d3, d4, d5, d6, d7, d8, d9, d10, d11, d12, d13⟩ := hO5.c14
  clear hO5
  by_cases hd : q.dur = o.dur
  ·have hdb : (q.dur == o.dur) = true := by simpa using hd
   by_cases hn : q.depth = o.n
   ·have hnb : (q.depth == o.n) = true := by simpa using hn
    have HI := insist_ok w5 32
    go_wp2_with fail
    refine HI.mono ?_
    rintro e wI ⟨rfl, hI⟩
    rw [hI]
    go_wp2_with fail
    go_end0
    exact led_ok (by rw [HD.out]; simp [ins, hd, hn]) ⟨_, _, _, _, _, _, HX5.out.1⟩ HX5.out.2
   ·have hnb : (q.depth == o.n) = false := by simpa using hn
    have HI := insist_no w5 32
    go_wp2_with fail
    refine HI.mono ?_
    rintro e wI ⟨rfl, hI⟩
    rw [hI]
    exact ⟨rfl, led_no (by rw [HD.out]; simp [ins, hd, hn]) HX5.out.2⟩
  ·have hdb : (q.dur == o.dur) = false := by simpa using hd
   have HI := insist_no w5 32
   go_wp2_with fail
   refine HI.mono ?_
   rintro e wI ⟨rfl, hI⟩
   rw [hI]
   exact ⟨rfl, led_no (by rw [HD.out]; simp [ins, hd]) HX5.out.2⟩
 ·rw [hh]
  have HNW := new_any w4 o.queue o.dur o.n
  have HD : Hid (declareC c o = bnd (sureE (newC o.queue o.n) (newQ o.queue o.dur o.n)) fun q => bnd (enE oQ 16 q c.queues) fun l => .ok { c with queues := l }) := by
   show declareC c o = _
   unfold declareC
   rw [find_none hh]
  have HX : Hid (Tv w4 B g c os qv bv sv kv cv ov ∧ FrT B w w4) := ⟨hT4, hF4⟩
  clear hT4 hF4 hS hat
  go_wp2_with fail
  refine HNW.mono ?_
  rintro e w5 ⟨v5, rfl, o5, b5⟩
  clear HNW d0 d1 d2 d3 d4 d5 d6 d7 d8 d9 d10 d11 d12 d13
  obtain ⟨hT4, hF4⟩ := HX.out
  have hT5 := hT4.on b5
  have hF5 := hF4.trans (.of_below b5 hT4.lt)
  have o5' := o5.low hT4.lt
  have HSU := sure_any w5 B v5 _ o5' (newC o.queue o.n)
  have HX5 : Hid (Tv w5 B g c os qv bv sv kv cv ov ∧ FrT B w w5 ∧ OwnQ w5 B v5 (if newC o.queue o.n = 0 then newQ o.queue o.dur o.n else zeroQ)) := ⟨hT5, hF5, o5'⟩
  clear HX hT4 hF4 hT5 hF5 o5 o5' b5
  go_wp2_with fail
  refine HSU.mono ?_
  rintro e w6 ⟨h6, b6⟩
  clear HSU
  obtain ⟨hT5, hF5, o5⟩ := HX5.out
  have hT6 := hT5.on b6
  have hF6 := hF5.trans (.of_below b6 hT5.lt)
  have o6 := o5.on b6
  clear HX5 hT5 hF5 o5 b6
  rcases h6 with ⟨h6, he⟩ | ⟨h6, he⟩
  rotate_left
  ·subst he
   exact ⟨rfl, led_no (by rw [HD.out]; simp [sureE, h6, bnd]) hF6⟩
  subst he
  rw [if_pos h6] at o6
  have hdc : declareC c o = bnd (enE oQ 16 (newQ o.queue o.dur o.n) c.queues) fun l => .ok { c with queues := l } := by
   rw [HD.out, h6]
   rfl
  clear HD
  generalize newQ o.queue o.dur o.n = q at *
  obtain ⟨iv, hv, rfl, n6, o6'⟩ := own_open o6
  have hcl := own_cells o6'
  have HX6 : Hid (Tv w6 B g c os qv bv sv kv cv ov ∧ FrT B w w6 ∧ OwnQ w6 B (queV q iv hv) q) := ⟨hT6, hF6, o6'⟩
  unfold queV at hcl ⊢
  clear hT6 hF6 o6 o6'
  go_wp2_with (refine wpl_fresh rfl (.tmp 7) (.tmp 51) rfl _ _ rfl rfl (by kernel_rfl) rfl hcl ?_)
  intro W7 k7 b7 s7
  obtain ⟨hT6, hF6, o6⟩ := HX6.out
  have hT2 := hT6.on b7
  have hF2 := hF6.trans (.of_below b7 hT6.lt)
  have o7 := o6.on b7
  have HN : Hid (some w6.heap.size ≠ qv.ownBlock) := fun e => by
   obtain ⟨zs, _, hz⟩ := hT6.q
   have := (World.ownsRow.lt hz.1 _ e.symm).2
   omega
  have HG : Hid (w6.heap.size ≠ g) := fun e => by have := hT6.blk.lt; omega
  clear HX6 hT6 hF6 o6 b7 s7
  obtain ⟨gb, egb⟩ : ∃ g, w6.heap.size = g := ⟨_, rfl⟩
  rw [egb] at k7 HN HG ⊢
  clear egb
  go_upto_region 6 with fail
  refine rh (fun W => Blk W gb (quA q iv hv) 82) ?_
  have hS : Blk (World.drew W7) gb (quA q iv hv) 82 := ⟨k7.h⟩
  have hT3 := hT2.drew
  have hF3 := hF2.drew
  clear hT2 hF2
  have hoq : OwnQ W7.drew B (queV q iv hv) q := o7.keep (fun k cur h => rfl) (fun k cur h => rfl) (fun k cur h => rfl)
  clear k7 o7
  generalize W7.drew = w5 at *
  refine tks [0, 1, 2, 3, 4, 6] [.pointer (some ⟨g, 0, none⟩), .pointer (some ⟨g, 0, none⟩), .pointer (some ⟨g, 0, none⟩), .pointer (some ⟨g, 0, none⟩), .pointer (some ⟨g, 1, none⟩), .agg #[tx q.name, .bool q.dur, .int .i64 q.depth, .int .i64 q.seq, .int .i64 q.tag, iv, hv]] 6 ?_ hS ?_
  ·simp only [tkY, tkf]
   refine ⟨.yes ?_, .yes ?_, .yes ?_, .yes ?_, .yes ?_, .yes ?_, trivial⟩
   all_goals
    intro W' hW'
    have := hW'.ce 0
    have := hW'.ce 1
    have := hW'.ce 2
    have := hW'.ce 3
    have := hW'.ce 4
    have := hW'.ce 5
    have := hW'.ce 6
    go_simp
  simp only [tkA, tkf]
  refine ak 5 fun K hK => ?_
  have d0 : w5.cell? ⟨g, 1, none⟩ = some qv := hT3.blk.cell 1
  go_simp
  refine hK _ _ hS ?_
  clear hK K
  try simp only [tkf]
  refine ak 7 fun K hK => ?_
  go_simp
  refine (enQs _ B hT3.lt qv c.queues hT3.q hg.qi (by have := hg.ql; omega) (queV q iv hv) q hoq).mono ?_
  rintro e w6 h6
  rcases h6 with ⟨v6, hen, he, o6, g6⟩ | ⟨hen, he, b6⟩
  rotate_left
  ·subst he
   exact ⟨rfl, .inr ⟨34, by rw [hdc, hen]; rfl, rfl, hF3.trans (.of_below b6 hT3.lt)⟩⟩
  subst he
  obtain ⟨a6, n6, cc6, rfl⟩ := OwnL.shape o6
  obtain ⟨T7, F7, k7⟩ := hT3.row_q g6 o6
  have hS6 : Blk w6 gb (quA q iv hv) 82 := hS.grown g6 HN.out
  clear hS
  have hS := hS6
  clear hS6
  show K _ _
  refine hK _ _ hS ?_
  clear hK K
  try simp only [tkf]
  refine tks [8, 9, 10] [.pointer (some ⟨g, 0, none⟩), .pointer (some ⟨g, 0, none⟩), .pointer (some ⟨g, 1, none⟩)] 1 ?_ hS ?_
  ·simp only [tkY, tkf]
   refine ⟨.yes ?_, .yes ?_, .yes ?_, trivial⟩
   all_goals
    intro W' hW'
    go_simp
  simp only [tkA, tkf]
  refine ak 11 fun K hK => ?_
  go_simp
  have f7 := k7.frozen 1
  have c7 : w6.cell? ⟨g, 1, none⟩ = some qv := k7.cell 1
  go_simp
  refine hK _ _ (hS.setO (fun e => HG.out e) _) ?_
  clear hK K f7 c7
  try simp only [tkf]
  refine ad ?_
  go_end0
  exact led_ok (c := { c with queues := enL oQ q c.queues }) (by rw [hdc, hen]; rfl) ⟨_, _, _, _, _, _, T7⟩ (hF3.trans F7)
structure MidS {α : Type} (w W : World) (row : Nat) (cap n : Nat) (zs : Zs α) (p : α → Bool) (i j : Nat) : Prop where
 blk : ∃ cur, Blk W row cur 85 ∧ cur.size = cap * 5 ∧ cur.toList.take (i * 5) = cellsZ ((zs.take j).filter (fun z => !p z.2)) ∧ (cur.toList.drop (j * 5)).take ((n - j) * 5) = cellsZ (zs.drop j)
 num : i = ((zs.take j).filter (fun z => !p z.2)).length
 gr : w.grownBy W (some row)
theorem MidS.on {α : Type} {w W W' : World} {row cap n : Nat} {zs : Zs α} {p : α → Bool} {i j : Nat} (h : MidS w W row cap n zs p i j) (hb : Bw W W') : MidS w W' row cap n zs p i j := by
 obtain ⟨cur, h1, h2⟩ := h.blk
 exact ⟨⟨cur, h1.on hb, h2⟩, h.num, gb_trans h.gr (gb_below hb _)⟩
theorem MidS.skip {α : Type} {w W : World} {row cap n : Nat} {zs : Zs α} {p : α → Bool} {i j : Nat} (h : MidS w W row cap n zs p i j) (hk : ∀ z ∈ zs, z.1.length = 5) (hn : zs.length = n) (hj : j < zs.length) (hp : p (zs[j]).2 = true) : MidS w W row cap n zs p i (j + 1) := by
 obtain ⟨cur, h1, h2, h3, h4⟩ := h.blk
 have e : (zs.take (j + 1)).filter (fun z => !p z.2) = (zs.take j).filter (fun z => !p z.2) := by
  rw [List.take_succ_eq_append_getElem hj, List.filter_append]
  simp [hp]
 refine ⟨⟨cur, h1, h2, by rw [e]; exact h3, ?_⟩, by rw [e]; exact h.num, h.gr⟩
 have := congrArg (List.drop 5) h4
 have hd := cellsZ_drop (fun z hz => hk z (List.mem_of_mem_drop hz)) (zs := zs.drop j) 1
 rw [Nat.one_mul, List.drop_drop] at hd
 rw [hd, List.drop_take, List.drop_drop] at this
 rw [show (j + 1) * 5 = j * 5 + 5 by omega, show (n - (j + 1)) * 5 = (n - j) * 5 - 5 by omega]
 exact this
theorem MidS.cells {α : Type} {w W : World} {row cap n : Nat} {zs : Zs α} {p : α → Bool} {i j : Nat} (h : MidS w W row cap n zs p i j) (hk : ∀ z ∈ zs, z.1.length = 5) (hn : zs.length = n) (hj : j < zs.length) : ∀ t u, ((zs[j]).1)[t]? = some u → W.cell? ⟨row, j * 5 + t, none⟩ = some u := fun t u hu => by
 obtain ⟨cur, h1, h2, h3, h4⟩ := h.blk
 have ht : t < 5 := by
  have := (List.getElem?_eq_some_iff.1 hu).1
  rwa [hk _ (List.getElem_mem hj)] at this
 have e := cellsZ_at (fun z hz => hk z (List.mem_of_mem_drop hz)) (zs := zs.drop j) 0 (by rw [List.length_drop]; omega) t ht
 rw [Nat.zero_mul, Nat.zero_add, List.getElem_drop, ← h4, List.getElem?_take_of_lt (by omega), List.getElem?_drop] at e
 rw [h1.cell, ← hu]
 simpa using e
theorem MidS.keepit {α : Type} {w W W' : World} {row cap n : Nat} {zs : Zs α} {p : α → Bool} {i j : Nat} (h : MidS w W row cap n zs p i j) (hk : ∀ z ∈ zs, z.1.length = 5) (hn : zs.length = n) (hij : i < j) (hjn : n ≤ cap) (hj : j < zs.length) (hp : p (zs[j]).2 = false)
  {cur : Array Value} (hb : Blk W row cur 85) (cells : Array Value) (hc : cells.toList = (zs[j]).1) (hW : Blk W' row (cur.toList.take (i * 5) ++ cells.toList ++ cur.toList.drop (i * 5 + cells.size)).toArray 85) (hg : W.grownBy W' (some row)) : MidS w W' row cap n zs p (i + 1) (j + 1) := by
 obtain ⟨cur', h1, h2, h3, h4⟩ := h.blk
 have ec : cur' = cur := by
  have := h1.h
  rw [hb.h] at this
  injection this with e
  injection e with e _ _
  exact e.symm
 subst ec
 have hcs : cells.size = 5 := by rw [← Array.length_toList, hc, hk _ (List.getElem_mem hj)]
 have e : (zs.take (j + 1)).filter (fun z => !p z.2) = (zs.take j).filter (fun z => !p z.2) ++ [zs[j]] := by
  rw [List.take_succ_eq_append_getElem hj, List.filter_append]
  simp [hp]
 have hti : (cur'.toList.take (i * 5)).length = i * 5 := by rw [List.length_take, Array.length_toList]; omega
 refine ⟨⟨_, hW, ?_, ?_, ?_⟩, by rw [e, List.length_append, ← h.num]; rfl, gb_trans h.gr hg⟩
 ·simp
  omega
 ·have hl : (i + 1) * 5 = (cur'.toList.take (i * 5) ++ cells.toList).length := by rw [List.length_append, hti, Array.length_toList, hcs]; omega
  rw [List.toList_toArray, hl, List.take_left' rfl, e, cellsZ_app, h3, hc]
  simp [cellsZ]
 ·have hl : (cur'.toList.take (i * 5) ++ cells.toList).length = i * 5 + cells.size := by rw [List.length_append, hti, Array.length_toList]
  have hd : (cur'.toList.take (i * 5) ++ cells.toList ++ cur'.toList.drop (i * 5 + cells.size)).drop ((j + 1) * 5) = cur'.toList.drop ((j + 1) * 5) := by
   rw [List.drop_append, List.drop_of_length_le (by rw [hl, hcs]; omega), List.nil_append, List.drop_drop, hl]
   congr 1
   omega
  rw [List.toList_toArray, hd]
  have := congrArg (List.drop 5) h4
  have hd2 := cellsZ_drop (fun z hz => hk z (List.mem_of_mem_drop hz)) (zs := zs.drop j) 1
  rw [Nat.one_mul, List.drop_drop] at hd2
  rw [hd2, List.drop_take, List.drop_drop] at this
  rw [show (j + 1) * 5 = j * 5 + 5 by omega, show (n - (j + 1)) * 5 = (n - j) * 5 - 5 by omega]
  exact this
set_option maxHeartbeats 8000000 in
theorem dfS_any {α : Type} (w : World) (B : Nat) (v : Value) (zs : Zs α) (R : List Value → α → Prop) (h : OwnZ 85 5 R w B v zs) (hn : zs.length ≤ 1000) (gg : Nat) (lb : Array Value) (eg : ∀ args w, (callFunc gg args).run Tryz.prog w = .ok (.enter gg args) w) (p : α → Bool)
  (hcall : ∀ W z, w.grownBy W v.ownBlock → z ∈ zs → Calls Tryz.prog gg (#[.agg z.1.toArray] ++ lb) W fun e W' => e = .returned (.bool (p z.2)) ∧ Bw W W') :
  Calls Tryz.prog 118 #[v, .func (.func gg) #[] lb] w fun e w' => ∃ v', e = .returned v' ∧ OwnZ 85 5 R w' B v' (zs.filter (fun z => !p z.2)) ∧ w.grownBy w' v.ownBlock ∧ (v'.ownBlock = v.ownBlock) := by
 have hx := ixS w v zs R h.rd (by omega) gg lb eg p (fun W z hb hm => hcall W z (gb_below hb _) hm)
 by_cases hK : zs.findIdx (fun z : List Value × α => p z.2) < zs.length
 ·obtain ⟨g, cap, cur, rfl, hBg, kg, hc, hm, hs, ht⟩ := ownG_some kiS h (by omega)
  rw [if_pos hK] at hx
  have hk : ∀ z ∈ zs, z.1.length = 5 := fun z hz => (h.2 z hz).1.1
  have M0 : MidS w w g cap zs.length zs p (zs.findIdx (fun z : List Value × α => p z.2)) (zs.findIdx (fun z : List Value × α => p z.2)) := by
   refine ⟨⟨cur, kg, hs, ?_, ?_⟩, ?_, World.grownBy.refl _ _⟩
   ·rw [filt_take (fun z : List Value × α => p z.2), ← cellsZ_take hk, ← ht, List.take_take]
    congr 1
    omega
   ·rw [← cellsZ_drop hk, ← ht, List.drop_take]
    congr 1
    omega
   ·rw [filt_take (fun z : List Value × α => p z.2), List.length_take]
    omega
  have M1 := fun (W : World) (b : Bw w W) => (M0.on b).skip hk rfl hK (List.findIdx_getElem (p := fun z : List Value × α => p z.2) (w := hK))
  obtain ⟨K, hKK⟩ : ∃ K, zs.findIdx (fun z : List Value × α => p z.2) = K := ⟨_, rfl⟩
  rw [hKK] at hK hx M1
  have HZ : Hid (∀ z ∈ zs, (z.1.length = 5 ∧ ∀ u ∈ z.1, u.oneCell' = true) ∧ R z.1 z.2) := h.2
  have HK : Hid (∀ z ∈ zs, z.1.length = 5) := hk
  have HC : Hid (∀ W z, w.grownBy W (some g) → z ∈ zs → Calls Tryz.prog gg (#[.agg z.1.toArray] ++ lb) W fun e W' => e = .returned (.bool (p z.2)) ∧ Bw W W') := hcall
  obtain ⟨n, hnn⟩ : ∃ n, zs.length = n := ⟨_, rfl⟩
  have HN : Hid (zs.length = n) := hnn
  rw [hnn] at hx hc hn hK M1 ⊢
  have M2 : Hid (∀ (W : World), Bw w W → MidS w W g cap n zs p K (K + 1)) := M1
  clear h hcall hnn M0 M1 hs ht kg hKK hk
  go_enter Tryz.func118, Tryz.ntmps118
  go_wp2_with fail
  refine hx.mono ?_
  rintro e w1 ⟨rfl, b1⟩
  have M3 : Hid (MidS w w1 g cap n zs p K (K + 1)) := M2.out w1 b1
  have hK1 : ¬ ((K : Int) = -1) := by omega
  have hcp : cap ≤ 9223372036854775807 := by unfold maxLen at hm; exact hm
  clear hx M2 b1
  go_wp2_with fail
  go_loopg [5, 6, 7] n (fun g2 s5 s6 _ wr => ∃ i j : Nat, i < j ∧ j ≤ n ∧ n - j ≤ g2 ∧ s5 = .int .i64 i ∧ s6 = .int .i64 j ∧ Hid (MidS w wr g cap n zs p i j))
  case atStart => exact ⟨K, K + 1, by omega, by omega, by omega, rfl, by go_num, M3.out⟩
  case round =>
   obtain ⟨i, j, hij, hjn, hg2, rfl, rfl, HS⟩ := hrel
   clear M3
   by_cases hlt : j < n
   ·have hltz : (j : Int) < (n : Int) := by omega
    have hjz : j < zs.length := by rw [HN.out]; exact hlt
    obtain ⟨⟨hkl, hone⟩, hR⟩ := HZ.out (zs[j]) (List.getElem_mem hjz)
    obtain ⟨v0, v1, v2, v3, v4, hv⟩ := list5 hkl
    have hcell := HS.out.cells HK.out HN.out hjz
    rw [hv] at hcell hone
    have HKP : Hid (∀ (W W' : World) (cur : Array Value) (i : Nat), MidS w W g cap n zs p i j → i < j → p (zs[j]).2 = false → Blk W g cur 85 → Blk W' g (cur.toList.take (i * 5) ++ [v0, v1, v2, v3, v4] ++ cur.toList.drop (i * 5 + 5)).toArray 85 → W.grownBy W' (some g) → MidS w W' g cap n zs p (i + 1) (j + 1)) := fun W W' cur i h1 h2 h3 h4 h5 h6 =>
     h1.keepit HK.out HN.out h2 hc hjz h3 h4 #[v0, v1, v2, v3, v4] (by rw [hv]) h5 h6
    have HSK : Hid (∀ (W : World) (i : Nat), MidS w W g cap n zs p i j → p (zs[j]).2 = true → MidS w W g cap n zs p i (j + 1)) := fun W i h1 h2 => h1.skip HK.out HN.out hjz h2
    have hcl := fun W (h : w.grownBy W (some g)) => HC.out W (zs[j]) h (List.getElem_mem hjz)
    rw [hv] at hcl
    generalize (zs[j]).2 = x at *
    have hal : (#[v0, v1, v2, v3, v4] : Array Value).all (·.oneCell') = true := by
     rw [Array.all_eq_true_iff_forall_mem]
     intro u hu
     exact hone u (by simpa using hu)
    have a0 := hcell 0 _ rfl
    have a1 := hcell 1 _ rfl
    have a2 := hcell 2 _ rfl
    have a3 := hcell 3 _ rfl
    have a4 := hcell 4 _ rfl
    rw [Nat.add_zero] at a0
    clear hcell hv hkl hone hR
    obtain ⟨wt, hwt⟩ : ∃ W, W = wr := ⟨_, rfl⟩
    subst hwt
    go_wp2_with (refine wpl_fresh rfl (.tmp 7) (.tmp 25) rfl _ _ rfl rfl (by kernel_rfl) rfl hal ?_)
    intro w2 k2 b2 s2
    have S2 := HS.out.on b2
    have hclx := hcl w2 S2.gr
    obtain ⟨bi, hbi⟩ : ∃ b, wt.heap.size = b := ⟨_, rfl⟩
    have hgb : bi ≠ g := by
     obtain ⟨cur, kc, _⟩ := HS.out.blk
     have := kc.lt
     omega
    rw [hbi] at k2 ⊢
    clear a0 a1 a2 a3 a4 HS b2 s2 hcl hbi
    go_wp2_with (refine wpList_load_row rfl 85 (.tmp 7) rfl bi rfl 85 _ (0, 0) _ k2.h Tryz.underlying85 rfl (by kernel_rfl) ?_)
    refine hclx.mono ?_
    rintro e w3 ⟨rfl, b3⟩
    have S3 := S2.on b3
    have k3 := k2.on b3
    clear hclx S2 k2 b3
    cases hq : p x with
    | true =>
     have S4 := HSK.out w3 i S3 hq
     clear S3 k3 HKP HSK
     go_wp2
     go_roundg (n - (j + 1))
     case measure => omega
     case rel => exact ⟨i, j + 1, by omega, by omega, by omega, rfl, by go_num, S4⟩
    | false =>
     obtain ⟨cur, kc, hcs, h3, h4⟩ := S3.blk
     have hin : (i : Int) < (n : Int) := by omega
     have HF := fun W' => HKP.out w3 W' cur i S3 hij hq kc
     clear HKP HSK S3 h3 h4
     go_wp2_with (first | (refine wpList_load_row rfl 85 (.tmp 7) rfl bi rfl 85 _ (0, 0) _ k3.h Tryz.underlying85 rfl (by kernel_rfl) ?_) | (refine wpl_putAt rfl (.tmp 33) (.tmp 32) rfl g (i * 5) _ rfl rfl kc (by kernel_rfl) (by simp; omega) hal ?_))
     intro w4 k4 g4 s4
     have S4 := HF w4 (by simpa [List.append_assoc] using k4) g4
     clear k3 kc k4 g4 s4 HF hcs
     go_wp2
     go_roundg (n - (j + 1))
     case measure => omega
     case rel => exact ⟨i + 1, j + 1, by omega, by omega, by omega, by go_num, by go_num, S4⟩
   ·have hltz : ¬ (j : Int) < (n : Int) := by omega
    have hje : j = n := by omega
    subst hje
    obtain ⟨cur, kc, hcs, h3, h4⟩ := HS.out.blk
    have hnum := HS.out.num
    have hgr := HS.out.gr
    have ezt : zs.take j = zs := List.take_of_length_le (by rw [HN.out]; exact Nat.le_refl _)
    rw [ezt] at h3 hnum
    obtain ⟨zz, hzz, hclr⟩ := run_clear_row (P := Tryz.prog) wr 26 85 0 (.agg #[.int .i64 0, .int .i64 0, .string ⟨#[]⟩, .int .i64 0, .bool false]) Tryz.underlying26 kiS.zr (by simp [Value.cells, Value.oneCell']) g (i * 5) (j - i) (cap - i) (by omega) _ kc.h (by rw [hcs]; simp [Value.cells]; omega)
    have e7 : (Value.agg #[.int .i64 0, .int .i64 0, .string ⟨#[]⟩, .int .i64 0, .bool false]).cells.size = 5 := rfl
    rw [e7] at hzz
    have k2 := kc.row (cur.toList.take (i * 5) ++ zz ++ cur.toList.drop (i * 5 + zz.length)).toArray
    have g2 := gb_trans hgr (grown_setRow wr g (cur.toList.take (i * 5) ++ zz ++ cur.toList.drop (i * 5 + zz.length)).toArray)
    obtain ⟨W2, hW2⟩ : ∃ W2, wr.setRow g (cur.toList.take (i * 5) ++ zz ++ cur.toList.drop (i * 5 + zz.length)).toArray = W2 := ⟨_, rfl⟩
    rw [hW2] at k2 g2 hclr
    have hfin : OwnZ 85 5 (R) W2 B (.slice (some ⟨g, 0, none⟩) i cap) (zs.filter (fun z => !p z.2)) := by
     have hm2 : ∀ z ∈ zs.filter (fun z => !p z.2), z ∈ zs := fun z hz => (List.mem_filter.1 hz).1
     refine ⟨⟨cellsZ_len (fun z hz => HK.out z (hm2 z hz)), .inr ⟨g, cap, _, by rw [hnum], hBg, k2.h, by omega, hm, ?_, ?_⟩⟩, fun z hz => HZ.out z (hm2 z hz)⟩
     ·simp
      omega
     ·rw [← hnum, List.toList_toArray, List.append_assoc, List.take_append_of_le_length (by rw [List.length_take, Array.length_toList, hcs]; omega), List.take_take, Nat.min_self, h3]
    have hi1 : i ≤ j := by omega
    have hi2 : i ≤ cap := by omega
    have hi3 : ¬ (cap = i) := by omega
    have hiz : (i : Int) ≤ (j : Int) := by omega
    clear HS kc hcs h3 h4 hgr hW2 k2 hnum hzz HZ HK HC HN
    go_wp2
    go_ret
    exact ⟨_, rfl, hfin, g2, rfl⟩
 ·rw [if_neg hK] at hx
  have e : zs.filter (fun z => !p z.2) = zs := filt_none (fun z : List Value × α => p z.2) zs hK
  obtain ⟨a, c, hv⟩ := h.rd.len
  have HO : Hid (OwnZ 85 5 (R) w B v zs) := h
  have HE : Hid (zs.filter (fun z => !p z.2) = zs) := e
  have HV : Hid (v = .slice a zs.length c) := hv
  clear h hcall e hK
  rw [hv] at hx ⊢
  obtain ⟨n, hnn⟩ : ∃ n, zs.length = n := ⟨_, rfl⟩
  have HNN : Hid (zs.length = n) := hnn
  rw [hnn] at hx ⊢
  clear hv hnn
  go_enter Tryz.func118, Tryz.ntmps118
  go_wp2_with fail
  refine hx.mono ?_
  rintro e w1 ⟨rfl, b1⟩
  go_wp2
  go_ret
  refine ⟨_, rfl, ?_, ?_, rfl⟩
  ·have h2 := HO.out.keep (.of_below b1)
   rw [HV.out] at h2
   rw [← HNN.out, HE.out]
   exact h2
  ·exact gb_below b1 _
set_option maxHeartbeats 1000000 in
theorem rem1_any (w : World) (o : Opr) (pv : Value) (gx : Nat) (kx : Blk w gx (opA o pv) 35) (x : Bnd) :
  Calls Tryz.prog 117 #[.agg #[tx x.queue, tx x.pat], .pointer (some ⟨gx, 0, none⟩)] w fun e w' => e = .returned (.bool (decide (x.queue = o.queue))) ∧ Bw w w' := by
 have b0 := (Below.refl w.heap.size w).alloc (Nat.le_refl _) (.cells #[tx x.queue, tx x.pat] 43)
 have k0 := Blk.new w #[tx x.queue, tx x.pat] 43
 obtain ⟨d0, d1, d2, d3, d4, d5, d6, d7, d8, d9, d10, d11, d12, d13⟩ := (kx.on b0).c14
 have e0 := (k0.cell 0).trans (show _ = some (tx x.queue) from rfl)
 skip
 clear kx k0
 by_cases hc : x.queue = o.queue
 ·have hne : ((⟨x.queue.toArray⟩ : ByteArray).toList == (⟨o.queue.toArray⟩ : ByteArray).toList) = true := by
   rw [Go.ByteArray.toList_mk, Go.ByteArray.toList_mk]
   simpa using hc
  have HB : Hid (Bw w (w.alloc (.cells #[tx x.queue, tx x.pat] 43))) := b0
  have HC : Hid ((x.queue = o.queue)) := hc
  clear b0 hc
  go_enter Tryz.func117, Tryz.ntmps117
  go_wp2_with fail
  go_ret
  have hc := HC.out
  exact ⟨by simp [hc], HB.out⟩
 ·have hne : ((⟨x.queue.toArray⟩ : ByteArray).toList == (⟨o.queue.toArray⟩ : ByteArray).toList) = false := by
   rw [Go.ByteArray.toList_mk, Go.ByteArray.toList_mk]
   simpa using hc
  have HB : Hid (Bw w (w.alloc (.cells #[tx x.queue, tx x.pat] 43))) := b0
  have HC : Hid (¬ (x.queue = o.queue)) := hc
  clear b0 hc
  go_enter Tryz.func117, Tryz.ntmps117
  go_wp2_with fail
  go_ret
  have hc := HC.out
  exact ⟨by simp [hc], HB.out⟩
set_option maxHeartbeats 1000000 in
theorem rem2_any (w : World) (o : Opr) (pv : Value) (gx : Nat) (kx : Blk w gx (opA o pv) 35) (x : Sbs) :
  Calls Tryz.prog 119 #[.agg #[.int .i64 x.conn, .int .i64 x.sub, tx x.queue, .int .i64 x.win, .bool x.auto], .pointer (some ⟨gx, 0, none⟩)] w fun e w' => e = .returned (.bool (decide (x.queue = o.queue))) ∧ Bw w w' := by
 have b0 := (Below.refl w.heap.size w).alloc (Nat.le_refl _) (.cells (sbA x) 85)
 have k0 := Blk.new w (sbA x) 85
 obtain ⟨d0, d1, d2, d3, d4, d5, d6, d7, d8, d9, d10, d11, d12, d13⟩ := (kx.on b0).c14
 have e0 := (k0.cell 0).trans (show _ = some (Value.int .i64 x.conn) from rfl)
 have e2 := (k0.cell 2).trans (show _ = some (tx x.queue) from rfl)
 clear kx k0
 by_cases hc : x.queue = o.queue
 ·have hne : ((⟨x.queue.toArray⟩ : ByteArray).toList == (⟨o.queue.toArray⟩ : ByteArray).toList) = true := by
   rw [Go.ByteArray.toList_mk, Go.ByteArray.toList_mk]
   simpa using hc
  have HB : Hid (Bw w (w.alloc (.cells (sbA x) 85))) := b0
  have HC : Hid ((x.queue = o.queue)) := hc
  clear b0 hc
  go_enter Tryz.func119, Tryz.ntmps119
  go_wp2_with fail
  go_ret
  have hc := HC.out
  exact ⟨by simp [hc], HB.out⟩
 ·have hne : ((⟨x.queue.toArray⟩ : ByteArray).toList == (⟨o.queue.toArray⟩ : ByteArray).toList) = false := by
   rw [Go.ByteArray.toList_mk, Go.ByteArray.toList_mk]
   simpa using hc
  have HB : Hid (Bw w (w.alloc (.cells (sbA x) 85))) := b0
  have HC : Hid (¬ (x.queue = o.queue)) := hc
  clear b0 hc
  go_enter Tryz.func119, Tryz.ntmps119
  go_wp2_with fail
  go_ret
  have hc := HC.out
  exact ⟨by simp [hc], HB.out⟩
set_option maxHeartbeats 1000000 in
theorem det1_any (w : World) (o : Opr) (pv : Value) (gx : Nat) (kx : Blk w gx (opA o pv) 35) (x : Sbs) :
  Calls Tryz.prog 141 #[.agg #[.int .i64 x.conn, .int .i64 x.sub, tx x.queue, .int .i64 x.win, .bool x.auto], .pointer (some ⟨gx, 0, none⟩)] w fun e w' => e = .returned (.bool (decide (x.conn = o.conn))) ∧ Bw w w' := by
 have b0 := (Below.refl w.heap.size w).alloc (Nat.le_refl _) (.cells (sbA x) 85)
 have k0 := Blk.new w (sbA x) 85
 obtain ⟨d0, d1, d2, d3, d4, d5, d6, d7, d8, d9, d10, d11, d12, d13⟩ := (kx.on b0).c14
 have e0 := (k0.cell 0).trans (show _ = some (Value.int .i64 x.conn) from rfl)
 have e2 := (k0.cell 2).trans (show _ = some (tx x.queue) from rfl)
 clear kx k0
 by_cases hc : x.conn = o.conn
 ·have hne : (x.conn == o.conn) = true := by simpa using hc
  have HB : Hid (Bw w (w.alloc (.cells (sbA x) 85))) := b0
  have HC : Hid ((x.conn = o.conn)) := hc
  clear b0 hc
  go_enter Tryz.func141, Tryz.ntmps141
  go_wp2_with fail
  go_ret
  have hc := HC.out
  exact ⟨by simp [hc], HB.out⟩
 ·have hne : (x.conn == o.conn) = false := by simpa using hc
  have HB : Hid (Bw w (w.alloc (.cells (sbA x) 85))) := b0
  have HC : Hid (¬ (x.conn = o.conn)) := hc
  clear b0 hc
  go_enter Tryz.func141, Tryz.ntmps141
  go_wp2_with fail
  go_ret
  have hc := HC.out
  exact ⟨by simp [hc], HB.out⟩
theorem e117 : ∀ args w, (callFunc 117 args).run Tryz.prog w = .ok (.enter 117 args) w := fun args w => by go_simp
theorem e119 : ∀ args w, (callFunc 119 args).run Tryz.prog w = .ok (.enter 119 args) w := fun args w => by go_simp
theorem e141 : ∀ args w, (callFunc 141 args).run Tryz.prog w = .ok (.enter 141 args) w := fun args w => by go_simp
theorem map_filter2 {α β : Type} (f : α → β) (p : β → Bool) (l : List α) : (l.filter (fun z => !p (f z))).map f = (l.map f).filter (fun x => !p x) := by
 rw [List.filter_map]
 rfl
theorem delB (w : World) (B : Nat) (bv : Value) (l : List Bnd) (h : OBc w B bv l) (hn : l.length ≤ 1000) (o : Opr) (pv : Value) (gx : Nat) (kx : Blk w gx (opA o pv) 35) :
  Calls Tryz.prog 116 #[bv, .func (.func 117) #[] #[.pointer (some ⟨gx, 0, none⟩)]] w fun e w' => ∃ v', e = .returned v' ∧ OBc w' B v' (l.filter (fun b => !decide (b.queue = o.queue))) ∧ w.grownBy w' bv.ownBlock := by
 obtain ⟨zs, rfl, hz⟩ := h
 rw [List.length_map] at hn
 refine (dfB_any w B bv zs BnR hz hn 117 #[.pointer (some ⟨gx, 0, none⟩)] e117 (fun b => decide (b.queue = o.queue)) fun W z hb hm => ?_).mono ?_
 ·have h1 := (hz.2 z hm).2
  unfold BnR at h1
  rw [h1]
  exact rem1_any W o pv gx (kx.grown hb (kx.ne_own hz.1 (by decide))) z.2
 ·rintro e w' ⟨v', h1, h2, h3, _⟩
  exact ⟨v', h1, ⟨_, map_filter2 (·.2) (fun b => decide (b.queue = o.queue)) zs, h2⟩, h3⟩
theorem delS (w : World) (B : Nat) (sv : Value) (l : List Sbs) (h : OSc w B sv l) (hn : l.length ≤ 1000) (f : Nat) (ef : ∀ args w, (callFunc f args).run Tryz.prog w = .ok (.enter f args) w) (p : Sbs → Bool) (o : Opr) (pv : Value) (gx : Nat) (kx : Blk w gx (opA o pv) 35)
  (hf : ∀ W x, Blk W gx (opA o pv) 35 → Calls Tryz.prog f #[.agg #[.int .i64 x.conn, .int .i64 x.sub, tx x.queue, .int .i64 x.win, .bool x.auto], .pointer (some ⟨gx, 0, none⟩)] W fun e w' => e = .returned (.bool (p x)) ∧ Bw W w') :
  Calls Tryz.prog 118 #[sv, .func (.func f) #[] #[.pointer (some ⟨gx, 0, none⟩)]] w fun e w' => ∃ v', e = .returned v' ∧ OSc w' B v' (l.filter (fun b => !p b)) ∧ w.grownBy w' sv.ownBlock := by
 obtain ⟨zs, rfl, hz⟩ := h
 rw [List.length_map] at hn
 refine (dfS_any w B sv zs SbR hz hn f #[.pointer (some ⟨gx, 0, none⟩)] ef p fun W z hb hm => ?_).mono ?_
 ·have h1 := (hz.2 z hm).2
  unfold SbR at h1
  rw [h1]
  exact hf W z.2 (kx.grown hb (kx.ne_own hz.1 (by decide)))
 ·rintro e w' ⟨v', h1, h2, h3, _⟩
  exact ⟨v', h1, ⟨_, map_filter2 (·.2) p zs, h2⟩, h3⟩
set_option maxHeartbeats 4000000 in
theorem remove_op (w : World) (B g : Nat) (c : Cor) (os : List Ot) (hT : T w B g c os) (hg : GoodC c) (hV : VB B w) (o : Opr) (pv : Value) (hp : pv.oneCell' = true) :
  Calls Tryz.prog 47 #[.pointer (some ⟨g, 0, none⟩), opV o pv] w fun e w' => Led w B g os (noO (removeC c o)) e w' := by
 obtain ⟨qv, bv, sv, kv, cv, ov, hT⟩ := hT
 have b0 := (Below.refl w.heap.size w).alloc (Nat.le_refl _) (.cells (opA o pv) 35)
 have hO := Blk.new w (opA o pv) 35
 have hT1 := hT.on b0
 have hF1 : FrT B w (w.alloc (.cells (opA o pv) 35)) := .of_below b0 hT.lt
 unfold opV
 go_enter Tryz.func47, Tryz.ntmps47
 go_upto_region 1 with fail
 generalize w.alloc (.cells (opA o pv) 35) = w1 at *
 obtain ⟨gx, egx⟩ : ∃ g, w.heap.size = g := ⟨_, rfl⟩
 rw [egx] at hO ⊢
 clear egx b0 hT
 have d4 : w1.cell? ⟨gx, 4, none⟩ = some (tx o.queue) := hO.cell 4
 have HX : Hid (gx ≠ g) := fun e => by
  have h1 := hO.h
  rw [e, hT1.blk.h] at h1
  injection h1 with h1
  injection h1 with _ h1
  cases h1
 have HT1 : Hid (Tv w1 B g c os qv bv sv kv cv ov ∧ FrT B w w1 ∧ Blk w1 gx (opA o pv) 35) := ⟨hT1, hF1, hO⟩
 clear hT1 hF1 hO
 go_wp2_with (refine wpl_fresh rfl (.tmp 4) (.tmp 7) rfl _ _ rfl rfl (by kernel_rfl) rfl (by simp [Value.oneCell']) ?_)
 intro W2 k2 b2 s2
 clear d4
 obtain ⟨hT1, hF1, hO⟩ := HT1.out
 have hT2 := hT1.on b2
 have hF2 := hF1.trans (.of_below b2 hT1.lt)
 have hO2 := hO.on b2
 have HN : Hid (some w1.heap.size ≠ qv.ownBlock) := fun e => by
  obtain ⟨zs, _, hz⟩ := hT1.q
  have := (World.ownsRow.lt hz.1 _ e.symm).2
  omega
 have HG : Hid (w1.heap.size ≠ g) := fun e => by have := hT1.blk.lt; omega
 clear HT1 hT1 hF1 hO b2 s2
 obtain ⟨gb, egb⟩ : ∃ g, w1.heap.size = g := ⟨_, rfl⟩
 rw [egb] at k2 HN HG ⊢
 clear egb
 go_upto_region 2 with fail
 refine rh (fun W => (Blk W g #[.int .i64 c.now, qv, bv, sv, kv, cv, ov] 77 ∧ Blk W gx (opA o pv) 35) ∧ Blk W gb #[tx o.queue, .bool false, .int .i64 0, .int .i64 0, .int .i64 0, .slice none 0 0, .slice none 0 0] 82) ?_
 have hS : (Blk (World.drew W2) g #[.int .i64 c.now, qv, bv, sv, kv, cv, ov] 77 ∧ Blk (World.drew W2) gx (opA o pv) 35) ∧ Blk (World.drew W2) gb #[tx o.queue, .bool false, .int .i64 0, .int .i64 0, .int .i64 0, .slice none 0 0, .slice none 0 0] 82 := ⟨⟨⟨hT2.blk.h⟩, ⟨hO2.h⟩⟩, ⟨k2.h⟩⟩
 have hT3 := hT2.drew
 have hF3 := hF2.drew
 clear hT2 hF2
 clear hO2 k2
 generalize W2.drew = w3 at *
 refine tks [0, 1, 2, 3, 4, 5] [.pointer (some ⟨g, 0, none⟩), .pointer (some ⟨g, 0, none⟩), .pointer (some ⟨g, 0, none⟩), .pointer (some ⟨g, 1, none⟩), qv, .agg #[tx o.queue, .bool false, .int .i64 0, .int .i64 0, .int .i64 0, .slice none 0 0, .slice none 0 0]] 2 ?_ hS ?_
 ·simp only [tkY, tkf]
  refine ⟨.yes ?_, .yes ?_, .yes ?_, .yes ?_, .yes ?_, .yes ?_, trivial⟩
  all_goals
   intro W' hW'
   have := hW'.1.1.ce 1
   have := hW'.2.ce 0
   have := hW'.2.ce 1
   have := hW'.2.ce 2
   have := hW'.2.ce 3
   have := hW'.2.ce 4
   have := hW'.2.ce 5
   have := hW'.2.ce 6
   go_simp
 simp only [tkA, tkf]
 refine ak 6 fun K hK => ?_
 go_simp
 refine (hasNs' _ B qv c.queues hT3.q hg.qi (by have := hg.ql; omega) o.queue).mono ?_
 rintro e w4 ⟨rfl, b4⟩
 have hS4 : (Blk w4 g #[.int .i64 c.now, qv, bv, sv, kv, cv, ov] 77 ∧ Blk w4 gx (opA o pv) 35) ∧ Blk w4 gb #[tx o.queue, .bool false, .int .i64 0, .int .i64 0, .int .i64 0, .slice none 0 0, .slice none 0 0] 82 := ⟨⟨hS.1.1.on b4, hS.1.2.on b4⟩, hS.2.on b4⟩
 have hT4 := hT3.on b4
 have hF4 := hF3.trans (.of_below b4 hT3.lt)
 clear hT3 hF3 hS b4
 have hS := hS4
 clear hS4
 show K _ _
 refine hK _ _ hS ?_
 clear hK K
 try simp only [tkf]
 refine ak 7 fun K hK => ?_
 go_simp
 refine (insist_any _ _ 33).mono ?_
 rintro e wI ⟨hI, hb⟩
 rcases hb with ⟨hb, he⟩ | ⟨hb, he⟩
 rotate_left
 ·subst he
  rw [hI]
  exact ⟨rfl, .inr ⟨33, by simp [removeC, noO, bnd, ins, hb], rfl, hF4⟩⟩
 subst he
 show K _ _
 rw [hI]
 refine hK _ _ hS ?_
 clear hK K hI wI
 try simp only [tkf]
 refine ad ?_
 have hT2 := hT4
 have hF2 := hF4
 have k9 := hS.2
 have o9 := hS.1.2
 clear hT4 hF4 hS
 go_upto_region 3 with fail
 refine rh (fun W => Blk W gx (opA o pv) 35 ∧ Blk W gb #[tx o.queue, .bool false, .int .i64 0, .int .i64 0, .int .i64 0, .slice none 0 0, .slice none 0 0] 82) ?_
 have hS : Blk (World.drew w4) gx (opA o pv) 35 ∧ Blk (World.drew w4) gb #[tx o.queue, .bool false, .int .i64 0, .int .i64 0, .int .i64 0, .slice none 0 0, .slice none 0 0] 82 := ⟨⟨o9.h⟩, ⟨k9.h⟩⟩
 have hT3 := hT2.drew
 have hF3 := hF2.drew
 clear hT2 hF2
 clear k9 o9
 generalize w4.drew = w5 at *
 refine tks [0, 1, 2, 3, 4, 6] [.pointer (some ⟨g, 0, none⟩), .pointer (some ⟨g, 0, none⟩), .pointer (some ⟨g, 0, none⟩), .pointer (some ⟨g, 0, none⟩), .pointer (some ⟨g, 1, none⟩), .agg #[tx o.queue, .bool false, .int .i64 0, .int .i64 0, .int .i64 0, .slice none 0 0, .slice none 0 0]] 6 ?_ hS ?_
 ·simp only [tkY, tkf]
  refine ⟨.yes ?_, .yes ?_, .yes ?_, .yes ?_, .yes ?_, .yes ?_, trivial⟩
  all_goals
   intro W' hW'
   have := hW'.2.ce 0
   have := hW'.2.ce 1
   have := hW'.2.ce 2
   have := hW'.2.ce 3
   have := hW'.2.ce 4
   have := hW'.2.ce 5
   have := hW'.2.ce 6
   go_simp
 simp only [tkA, tkf]
 refine ak 5 fun K hK => ?_
 have d0 : w5.cell? ⟨g, 1, none⟩ = some qv := hT3.blk.cell 1
 go_simp
 refine hK _ _ hS ?_
 clear hK K
 try simp only [tkf]
 refine ak 7 fun K hK => ?_
 go_simp
 refine (leQs _ B hT3.lt qv c.queues hT3.q hg.qi (by have := hg.ql; omega) o.queue).mono ?_
 rintro e w6 ⟨v6, rfl, o6, g6⟩
 obtain ⟨a6, n6, cc6, rfl⟩ := OwnL.shape o6
 have kx6 : KX 82 w5 w6 := by
  obtain ⟨zs, _, hz⟩ := hT3.q
  exact .of_grown hz.1 g6
 obtain ⟨T7, F7, k7⟩ := hT3.row_q g6 o6
 have hS6 : Blk w6 gx (opA o pv) 35 ∧ Blk w6 gb #[tx o.queue, .bool false, .int .i64 0, .int .i64 0, .int .i64 0, .slice none 0 0, .slice none 0 0] 82 := ⟨hS.1.kt (kx6.kt _ (by decide)), hS.2.grown g6 HN.out⟩
 clear hS kx6
 have hS := hS6
 clear hS6
 show K _ _
 refine hK _ _ hS ?_
 clear hK K
 try simp only [tkf]
 refine tks [8, 9, 10] [.pointer (some ⟨g, 0, none⟩), .pointer (some ⟨g, 0, none⟩), .pointer (some ⟨g, 1, none⟩)] 1 ?_ hS ?_
 ·simp only [tkY, tkf]
  refine ⟨.yes ?_, .yes ?_, .yes ?_, trivial⟩
  all_goals
   intro W' hW'
   go_simp
 simp only [tkA, tkf]
 refine ak 11 fun K hK => ?_
 go_simp
 have f7 := k7.frozen 1
 have c7 : w6.cell? ⟨g, 1, none⟩ = some qv := k7.cell 1
 go_simp
 refine hK _ _ (⟨hS.1.setO (fun e => HX.out e) _, hS.2.setO (fun e => HG.out e) _⟩) ?_
 have hO7 := hS.1.setO (g' := g) (j := 1) (fun e => HX.out e) (.slice a6 n6 cc6)
 clear hK K f7 c7
 try simp only [tkf]
 refine ad ?_
 have F7' := hF3.trans F7
 clear hS hT3 hF3 F7 k7 g6 o6
 generalize w6.setCell ⟨g, 1, none⟩ (.slice a6 n6 cc6) = w7 at *
 have HD := delB w7 B bv c.binds T7.b (by have := hg.bl; omega) o pv gx hO7
 obtain ⟨c0, c1, c2, c3, c4, c5, c6⟩ := T7.blk.c7
 have HT7 : Hid (Tv w7 B g { c with queues := leL oQ (newQ o.queue false 0) c.queues } os (.slice a6 n6 cc6) bv sv kv cv ov ∧ FrT B w w7 ∧ Blk w7 gx (opA o pv) 35) := ⟨T7, F7', hO7⟩
 clear T7 F7' hO7
 go_wp2_with fail
 refine HD.mono ?_
 rintro e w8 ⟨v8, rfl, o8, g8⟩
 clear HD c0 c1 c2 c3 c4 c5 c6
 obtain ⟨a8, n8, cc8, rfl⟩ := OwnL.shape o8
 obtain ⟨T7, F7, hO7⟩ := HT7.out
 have kx8 : KX 43 w7 w8 := by
  obtain ⟨zs, _, hz⟩ := T7.b
  exact .of_grown hz.1 g8
 obtain ⟨T9, F9, k8⟩ := T7.row_b g8 o8
 have hO9 := (hO7.kt (kx8.kt _ (by decide))).setO (g' := g) (j := 2) (fun e => HX.out e) (.slice a8 n8 cc8)
 have f2 := k8.frozen 2
 have c2 : w8.cell? ⟨g, 2, none⟩ = some bv := k8.cell 2
 have F9' := F7.trans F9
 clear HT7 T7 F7 hO7 kx8 k8 F9 g8 o8
 go_upto_region 5 with fail
 clear f2 c2
 generalize w8.setCell ⟨g, 2, none⟩ (.slice a8 n8 cc8) = w9 at *
 have HD := delS w9 B sv c.subs T9.s (by have := hg.sl; omega) 119 e119 (fun s => decide (s.queue = o.queue)) o pv gx hO9 (fun W x kk => rem2_any W o pv gx kk x)
 obtain ⟨c0, c1, c2, c3, c4, c5, c6⟩ := T9.blk.c7
 have HT9 : Hid (Tv w9 B g { c with queues := leL oQ (newQ o.queue false 0) c.queues, binds := c.binds.filter (fun b => !decide (b.queue = o.queue)) } os (.slice a6 n6 cc6) (.slice a8 n8 cc8) sv kv cv ov ∧ FrT B w w9) := ⟨T9, F9'⟩
 clear T9 F9' hO9
 go_wp2_with fail
 refine HD.mono ?_
 rintro e wA ⟨vA, rfl, oA, gA⟩
 clear HD c0 c1 c2 c3 c4 c5 c6
 obtain ⟨aA, nA, ccA, rfl⟩ := OwnL.shape oA
 obtain ⟨T9, F9⟩ := HT9.out
 obtain ⟨TB, FB, kA⟩ := T9.row_s gA oA
 have f2 := kA.frozen 3
 have c2 : wA.cell? ⟨g, 3, none⟩ = some sv := kA.cell 3
 have HF : Hid (Led w B g os (noO (removeC c o)) (.returned (.tuple #[])) (wA.setCell ⟨g, 3, none⟩ (.slice aA nA ccA))) := led_ok (c := { c with queues := leL oQ (newQ o.queue false 0) c.queues, binds := c.binds.filter (fun b => !decide (b.queue = o.queue)), subs := c.subs.filter (fun b => !decide (b.queue = o.queue)) }) (by simp [removeC, ins, hb]) ⟨_, _, _, _, _, _, TB⟩ (F9.trans FB)
 clear HT9 T9 F9 TB FB kA gA oA
 go_wp2_with fail
 go_end0
 exact HF.out
set_option maxHeartbeats 4000000 in
theorem tick_any (w : World) (g : Nat) (nw : Int) (qv bv sv kv cv ov : Value) (hT : Blk w g #[.int .i64 nw, qv, bv, sv, kv, cv, ov] 77) (hnw : 0 ≤ nw ∧ nw ≤ 1099511627776) (o0 o1 o2 o3 : Int) (o4 o5 o6 o7 o8 o9 o10 o11 o12 o13 : Value) (ho : -9223372036854775808 ≤ o3 ∧ o3 ≤ 9223372036854775807) :
  Calls Tryz.prog 60 #[.pointer (some ⟨g, 0, none⟩), .agg #[.int .i64 o0, .int .i64 o1, .int .i64 o2, .int .i64 o3, o4, o5, o6, o7, o8, o9, o10, o11, o12, o13]] w fun e w' =>
   ((0 ≤ o3 ∧ o3 ≤ 1099511627776 - nw) ∧ e = .returned (.tuple #[]) ∧ ∃ w1, Bw w w1 ∧ Blk w1 g #[.int .i64 nw, qv, bv, sv, kv, cv, ov] 77 ∧ w' = w1.setCell ⟨g, 0, none⟩ (.int .i64 (nw + o3))) ∨ (¬ (0 ≤ o3 ∧ o3 ≤ 1099511627776 - nw) ∧ e = .panicked (gup 1) ∧ Bw w w') := by
 have b0 := (Below.refl w.heap.size w).alloc (Nat.le_refl _) (.cells #[.int .i64 o0, .int .i64 o1, .int .i64 o2, .int .i64 o3, o4, o5, o6, o7, o8, o9, o10, o11, o12, o13] 35)
 have hO := Blk.new w #[.int .i64 o0, .int .i64 o1, .int .i64 o2, .int .i64 o3, o4, o5, o6, o7, o8, o9, o10, o11, o12, o13] 35
 have hT1 := hT.on b0
 clear hT
 go_enter Tryz.func60, Tryz.ntmps60
 go_upto_region 1 with fail
 generalize w.alloc (.cells #[.int .i64 o0, .int .i64 o1, .int .i64 o2, .int .i64 o3, o4, o5, o6, o7, o8, o9, o10, o11, o12, o13] 35) = w1 at *
 obtain ⟨gx, egx⟩ : ∃ g, w.heap.size = g := ⟨_, rfl⟩
 have HB : Hid (Bw w w1) := b0
 have hT := hT1
 clear b0 hT1
 rw [egx] at hO ⊢
 clear egx
 by_cases h1 : 0 ≤ o3
 ·by_cases h2 : o3 ≤ 1099511627776 - nw
  ·have HY : Hid (0 ≤ o3 ∧ o3 ≤ 1099511627776 - nw) := ⟨h1, h2⟩
   refine rh (fun W => Blk W g #[.int .i64 nw, qv, bv, sv, kv, cv, ov] 77 ∧ Blk W gx #[.int .i64 o0, .int .i64 o1, .int .i64 o2, .int .i64 o3, o4, o5, o6, o7, o8, o9, o10, o11, o12, o13] 35) ?_
   have hS : Blk w1.drew g #[.int .i64 nw, qv, bv, sv, kv, cv, ov] 77 ∧ Blk w1.drew gx #[.int .i64 o0, .int .i64 o1, .int .i64 o2, .int .i64 o3, o4, o5, o6, o7, o8, o9, o10, o11, o12, o13] 35 := ⟨⟨hT.h⟩, ⟨hO.h⟩⟩
   have hbd := HB.out.drew
   clear hT hO HB
   generalize w1.drew = wv at *
   refine tks [0, 1, 2, 3, 4, 5, 6, 7, 8, 9, 10] [.pointer (some ⟨gx, 3, none⟩), .int .i64 o3, .bool true, .bool true, .pointer (some ⟨gx, 3, none⟩), .int .i64 o3, .pointer (some ⟨g, 0, none⟩), .pointer (some ⟨g, 0, none⟩), .pointer (some ⟨g, 0, none⟩), .pointer (some ⟨g, 0, none⟩), .int .i64 nw] 4 ?_ hS ?_
   ·simp only [tkY, tkf]
    refine ⟨.yes ?_, .yes ?_, .yes ?_, .yes ?_, .yes ?_, .yes ?_, .yes ?_, .yes ?_, .yes ?_, .yes ?_, .yes ?_, trivial⟩
    all_goals
     intro W' hW'
     have := hW'.2.ce 3
     have := hW'.1.ce 0
     go_simp
   simp only [tkA, tkf]
   refine wpAnyH_take (i := 11) (v := .int .i64 (1099511627776 - nw)) rfl (by kernel_rfl) (by kernel_rfl) (by kernel_rfl) (fun _ _ _ h => h) (.inl ⟨by rfl, fun W' hW' => ?_⟩) hS ?_
   ·skip
    go_simp
    try (rw [IntKind.wrap_i64]; omega)
   try simp only [tkf]
   refine tks [12, 13] [.bool true, .bool true] 1 ?_ hS ?_
   ·simp only [tkY, tkf]
    refine ⟨.yes ?_, .yes ?_, trivial⟩
    all_goals
     intro W' hW'
     go_simp
   simp only [tkA, tkf]
   refine ak 14 fun K hK => ?_
   go_simp
   refine (insist_ok wv 1).mono ?_
   rintro e w2 ⟨rfl, h2⟩
   show K _ _
   rw [h2]
   refine hK _ _ hS ?_
   clear hK K h2 w2
   try simp only [tkf]
   refine ad ?_
   go_upto_region 2 with fail
   have c0 : wv.cell? ⟨g, 0, none⟩ = some (.int .i64 nw) := hS.1.cell 0
   have d3 : wv.cell? ⟨gx, 3, none⟩ = some (.int .i64 o3) := hS.2.cell 3
   have f0 := hS.1.frozen 0
   have hw : IntKind.i64.wrap (nw + o3) = nw + o3 := by rw [IntKind.wrap_i64]; omega
   have HB2 : Hid (Bw w wv ∧ Blk wv g #[.int .i64 nw, qv, bv, sv, kv, cv, ov] 77) := ⟨hbd, hS.1⟩
   clear hS hbd
   go_region
   go_end0
   exact .inl ⟨HY.out, rfl, wv.drew, HB2.out.1.drew, ⟨HB2.out.2.h⟩, rfl⟩
  ·have HN : Hid (¬ (0 ≤ o3 ∧ o3 ≤ 1099511627776 - nw)) := fun h => h2 h.2
   refine rh (fun W => Blk W g #[.int .i64 nw, qv, bv, sv, kv, cv, ov] 77 ∧ Blk W gx #[.int .i64 o0, .int .i64 o1, .int .i64 o2, .int .i64 o3, o4, o5, o6, o7, o8, o9, o10, o11, o12, o13] 35) ?_
   have hS : Blk w1.drew g #[.int .i64 nw, qv, bv, sv, kv, cv, ov] 77 ∧ Blk w1.drew gx #[.int .i64 o0, .int .i64 o1, .int .i64 o2, .int .i64 o3, o4, o5, o6, o7, o8, o9, o10, o11, o12, o13] 35 := ⟨⟨hT.h⟩, ⟨hO.h⟩⟩
   have hbd := HB.out.drew
   clear hT hO HB
   generalize w1.drew = wv at *
   refine wpAnyH_take (i := 0) (v := .pointer (some ⟨gx, 3, none⟩)) rfl (by kernel_rfl) (by kernel_rfl) (by kernel_rfl) (fun _ _ _ h => h) (.inl ⟨by rfl, fun W' hW' => ?_⟩) hS ?_
   ·skip
    go_simp
   try simp only [tkf]
   refine wpAnyH_take (i := 1) (v := .int .i64 o3) rfl (by kernel_rfl) (by kernel_rfl) (by kernel_rfl) (fun _ _ _ h => h) (.inl ⟨by rfl, fun W' hW' => ?_⟩) hS ?_
   ·have d0 : W'.cell? ⟨gx, 3, none⟩ = some (.int .i64 o3) := hW'.2.cell 3
    go_simp
   try simp only [tkf]
   refine wpAnyH_take (i := 2) (v := .bool true) rfl (by kernel_rfl) (by kernel_rfl) (by kernel_rfl) (fun _ _ _ h => h) (.inl ⟨by rfl, fun W' hW' => ?_⟩) hS ?_
   ·skip
    go_simp
   try simp only [tkf]
   refine wpAnyH_take (i := 3) (v := .bool true) rfl (by kernel_rfl) (by kernel_rfl) (by kernel_rfl) (fun _ _ _ h => h) (.inl ⟨by rfl, fun W' hW' => ?_⟩) hS ?_
   ·skip
    go_simp
   try simp only [tkf]
   refine wpAnyH_take (i := 4) (v := .pointer (some ⟨gx, 3, none⟩)) rfl (by kernel_rfl) (by kernel_rfl) (by kernel_rfl) (fun _ _ _ h => h) (.inl ⟨by rfl, fun W' hW' => ?_⟩) hS ?_
   ·skip
    go_simp
   try simp only [tkf]
   refine wpAnyH_take (i := 5) (v := .int .i64 o3) rfl (by kernel_rfl) (by kernel_rfl) (by kernel_rfl) (fun _ _ _ h => h) (.inl ⟨by rfl, fun W' hW' => ?_⟩) hS ?_
   ·have d0 : W'.cell? ⟨gx, 3, none⟩ = some (.int .i64 o3) := hW'.2.cell 3
    go_simp
   try simp only [tkf]
   refine wpAnyH_take (i := 6) (v := .pointer (some ⟨g, 0, none⟩)) rfl (by kernel_rfl) (by kernel_rfl) (by kernel_rfl) (fun _ _ _ h => h) (.inl ⟨by rfl, fun W' hW' => ?_⟩) hS ?_
   ·skip
    go_simp
   try simp only [tkf]
   refine wpAnyH_take (i := 7) (v := .pointer (some ⟨g, 0, none⟩)) rfl (by kernel_rfl) (by kernel_rfl) (by kernel_rfl) (fun _ _ _ h => h) (.inl ⟨by rfl, fun W' hW' => ?_⟩) hS ?_
   ·skip
    go_simp
   try simp only [tkf]
   refine wpAnyH_take (i := 8) (v := .pointer (some ⟨g, 0, none⟩)) rfl (by kernel_rfl) (by kernel_rfl) (by kernel_rfl) (fun _ _ _ h => h) (.inl ⟨by rfl, fun W' hW' => ?_⟩) hS ?_
   ·skip
    go_simp
   try simp only [tkf]
   refine wpAnyH_take (i := 9) (v := .pointer (some ⟨g, 0, none⟩)) rfl (by kernel_rfl) (by kernel_rfl) (by kernel_rfl) (fun _ _ _ h => h) (.inl ⟨by rfl, fun W' hW' => ?_⟩) hS ?_
   ·skip
    go_simp
   try simp only [tkf]
   refine wpAnyH_take (i := 10) (v := .int .i64 nw) rfl (by kernel_rfl) (by kernel_rfl) (by kernel_rfl) (fun _ _ _ h => h) (.inl ⟨by rfl, fun W' hW' => ?_⟩) hS ?_
   ·have d0 : W'.cell? ⟨g, 0, none⟩ = some (.int .i64 nw) := hW'.1.cell 0
    go_simp
   try simp only [tkf]
   refine wpAnyH_take (i := 11) (v := .int .i64 (1099511627776 - nw)) rfl (by kernel_rfl) (by kernel_rfl) (by kernel_rfl) (fun _ _ _ h => h) (.inl ⟨by rfl, fun W' hW' => ?_⟩) hS ?_
   ·skip
    go_simp
    try (rw [IntKind.wrap_i64]; omega)
   try simp only [tkf]
   refine wpAnyH_take (i := 12) (v := .bool false) rfl (by kernel_rfl) (by kernel_rfl) (by kernel_rfl) (fun _ _ _ h => h) (.inl ⟨by rfl, fun W' hW' => ?_⟩) hS ?_
   ·skip
    go_simp
   try simp only [tkf]
   refine wpAnyH_take (i := 13) (v := .bool false) rfl (by kernel_rfl) (by kernel_rfl) (by kernel_rfl) (fun _ _ _ h => h) (.inl ⟨by rfl, fun W' hW' => ?_⟩) hS ?_
   ·skip
    go_simp
   try simp only [tkf]
   refine ak 14 fun K hK => ?_
   go_simp
   refine (insist_no wv 1).mono ?_
   rintro e w2 ⟨rfl, h2⟩
   rw [h2]
   exact ⟨rfl, .inr ⟨HN.out, rfl, hbd⟩⟩
 ·have HN : Hid (¬ (0 ≤ o3 ∧ o3 ≤ 1099511627776 - nw)) := fun h => h1 h.1
  refine rh (fun W => Blk W g #[.int .i64 nw, qv, bv, sv, kv, cv, ov] 77 ∧ Blk W gx #[.int .i64 o0, .int .i64 o1, .int .i64 o2, .int .i64 o3, o4, o5, o6, o7, o8, o9, o10, o11, o12, o13] 35) ?_
  have hS : Blk w1.drew g #[.int .i64 nw, qv, bv, sv, kv, cv, ov] 77 ∧ Blk w1.drew gx #[.int .i64 o0, .int .i64 o1, .int .i64 o2, .int .i64 o3, o4, o5, o6, o7, o8, o9, o10, o11, o12, o13] 35 := ⟨⟨hT.h⟩, ⟨hO.h⟩⟩
  have hbd := HB.out.drew
  clear hT hO HB
  generalize w1.drew = wv at *
  refine wpAnyH_take (i := 0) (v := .pointer (some ⟨gx, 3, none⟩)) rfl (by kernel_rfl) (by kernel_rfl) (by kernel_rfl) (fun _ _ _ h => h) (.inl ⟨by rfl, fun W' hW' => ?_⟩) hS ?_
  ·skip
   go_simp
  try simp only [tkf]
  refine wpAnyH_take (i := 1) (v := .int .i64 o3) rfl (by kernel_rfl) (by kernel_rfl) (by kernel_rfl) (fun _ _ _ h => h) (.inl ⟨by rfl, fun W' hW' => ?_⟩) hS ?_
  ·have d0 : W'.cell? ⟨gx, 3, none⟩ = some (.int .i64 o3) := hW'.2.cell 3
   go_simp
  try simp only [tkf]
  refine wpAnyH_take (i := 2) (v := .bool false) rfl (by kernel_rfl) (by kernel_rfl) (by kernel_rfl) (fun _ _ _ h => h) (.inl ⟨by rfl, fun W' hW' => ?_⟩) hS ?_
  ·skip
   go_simp
  try simp only [tkf]
  refine wpAnyH_take (i := 3) (v := .bool false) rfl (by kernel_rfl) (by kernel_rfl) (by kernel_rfl) (fun _ _ _ h => h) (.inl ⟨by rfl, fun W' hW' => ?_⟩) hS ?_
  ·skip
   go_simp
  try simp only [tkf]
  refine wpAnyH_take (i := 4) (v := undef) rfl (by kernel_rfl) (by kernel_rfl) (by kernel_rfl) (fun _ _ _ h => h) (.inr ⟨by rfl, rfl⟩) hS ?_
  try simp only [tkf]
  refine wpAnyH_take (i := 5) (v := undef) rfl (by kernel_rfl) (by kernel_rfl) (by kernel_rfl) (fun _ _ _ h => h) (.inr ⟨by rfl, rfl⟩) hS ?_
  try simp only [tkf]
  refine wpAnyH_take (i := 6) (v := undef) rfl (by kernel_rfl) (by kernel_rfl) (by kernel_rfl) (fun _ _ _ h => h) (.inr ⟨by rfl, rfl⟩) hS ?_
  try simp only [tkf]
  refine wpAnyH_take (i := 7) (v := undef) rfl (by kernel_rfl) (by kernel_rfl) (by kernel_rfl) (fun _ _ _ h => h) (.inr ⟨by rfl, rfl⟩) hS ?_
  try simp only [tkf]
  refine wpAnyH_take (i := 8) (v := undef) rfl (by kernel_rfl) (by kernel_rfl) (by kernel_rfl) (fun _ _ _ h => h) (.inr ⟨by rfl, rfl⟩) hS ?_
  try simp only [tkf]
  refine wpAnyH_take (i := 9) (v := undef) rfl (by kernel_rfl) (by kernel_rfl) (by kernel_rfl) (fun _ _ _ h => h) (.inr ⟨by rfl, rfl⟩) hS ?_
  try simp only [tkf]
  refine wpAnyH_take (i := 10) (v := undef) rfl (by kernel_rfl) (by kernel_rfl) (by kernel_rfl) (fun _ _ _ h => h) (.inr ⟨by rfl, rfl⟩) hS ?_
  try simp only [tkf]
  refine wpAnyH_take (i := 11) (v := undef) rfl (by kernel_rfl) (by kernel_rfl) (by kernel_rfl) (fun _ _ _ h => h) (.inr ⟨by rfl, rfl⟩) hS ?_
  try simp only [tkf]
  refine wpAnyH_take (i := 12) (v := undef) rfl (by kernel_rfl) (by kernel_rfl) (by kernel_rfl) (fun _ _ _ h => h) (.inr ⟨by rfl, rfl⟩) hS ?_
  try simp only [tkf]
  refine wpAnyH_take (i := 13) (v := .bool false) rfl (by kernel_rfl) (by kernel_rfl) (by kernel_rfl) (fun _ _ _ h => h) (.inl ⟨by rfl, fun W' hW' => ?_⟩) hS ?_
  ·skip
   go_simp
  try simp only [tkf]
  refine ak 14 fun K hK => ?_
  go_simp
  refine (insist_no wv 1).mono ?_
  rintro e w2 ⟨rfl, h2⟩
  rw [h2]
  exact ⟨rfl, .inr ⟨HN.out, rfl, hbd⟩⟩
theorem Tv.setNow {w : World} {B g : Nat} {c : Cor} {os : List Ot} {qv bv sv kv cv ov : Value} (h : Tv w B g c os qv bv sv kv cv ov) (n : Int) : Tv (w.setCell ⟨g, 0, none⟩ (.int .i64 n)) B g { c with now := n } os qv bv sv kv cv ov := by
 have k : KX 77 w (w.setCell ⟨g, 0, none⟩ (.int .i64 n)) := .cell h.blk _
 exact ⟨by simpa using h.blk.set 0 (.int .i64 n), h.low, h.q.kx k (by decide), h.b.kx k (by decide), h.s.kx k (by decide), h.k.kx k (by decide), h.c.kx k (by decide), h.o.kx k (by decide)⟩
theorem tick_op (w : World) (B g : Nat) (c : Cor) (os : List Ot) (hT : T w B g c os) (hg : GoodC c) (o : Opr) (pv : Value) (ho : -9223372036854775808 ≤ o.n ∧ o.n ≤ 9223372036854775807) :
  Calls Tryz.prog 60 #[.pointer (some ⟨g, 0, none⟩), opV o pv] w fun e w' => Led w B g os (noO (tickC c o)) e w' := by
 obtain ⟨qv, bv, sv, kv, cv, ov, hT⟩ := hT
 have hn := hg.now
 simp only [numB, Bool.and_eq_true, decide_eq_true_eq] at hn
 unfold opV
 refine (tick_any w g c.now qv bv sv kv cv ov hT.blk hn o.kind o.conn o.sub o.n _ _ _ _ _ _ _ _ _ _ ho).mono ?_
 rintro e w' (⟨h1, rfl, w1, b1, k1, rfl⟩ | ⟨h1, rfl, b1⟩)
 ·have hT1 := hT.on b1
  refine led_ok (c := { c with now := c.now + o.n }) (by simp [tickC, ins, h1]) ⟨_, _, _, _, _, _, hT1.setNow _⟩ ((FrT.of_below b1 hT.lt).trans (.cell k1 hT.low _))
 ·refine led_no (n := 1) ?_ (.of_below b1 hT.lt)
  have h2 : (decide (0 ≤ o.n) && decide (o.n ≤ 1099511627776 - c.now)) = false := by
   rw [Bool.and_eq_false_iff]
   simp only [decide_eq_false_iff_not]
   omega
  simp only [tickC, ins, h2]
  rfl
end Go.Proofs.YtnpikgakpmkipabGreatDoor
