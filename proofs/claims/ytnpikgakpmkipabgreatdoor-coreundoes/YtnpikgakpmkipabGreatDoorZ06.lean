/- What eachOnce answers of a queue whose numbers are small. Conditions: those that each row states. -/
import Derived.Test.YtnpikgakpmkipabGreatDoorZ04
import Derived.Test.YtnpikgakpmkipabGreatDoorZ05
import Derived.Maps.OwnSet
import Derived.Deep.LoopGhost
import Derived.Test.YtnpikgakpmkipabGreatDoorZ03
import Derived.Deep.QuietTactic
import Derived.Deep.Cut
import Derived.Shelf.RegionOpen
import Derived.OrdersHeld
import Derived.WalkKit
namespace Go.Proofs.YtnpikgakpmkipabGreatDoor
open Go.RowKit Go.Lib
set_option maxRecDepth 100000
set_option linter.unusedSimpArgs false
theorem under3 : Tryz.prog.underlying 3 = some (.int .i64) := by kernel_rfl
theorem under84 : Tryz.prog.underlying 220 = some (.map 3 221) := by kernel_rfl
theorem law3 : Maps.Keyed Tryz.prog 3 := Maps.int_keyed under3
theorem key3 {z : Int} (h : -9223372036854775808 ≤ z ∧ z ≤ 9223372036854775807) : keyOf Tryz.prog 3 (.int .i64 z) = some (.int .i64 z) := by
 have e : (Lit.int .i64 z).wf = true := by
  show (decide ((-9223372036854775808 : Int) ≤ z) && decide (z ≤ (9223372036854775807 : Int))) = true
  simp [h.1, h.2]
 unfold keyOf
 rw [under3]
 simp [mapKey, e]
@[go_sem] theorem run_makeMap_hint (w : World) (n : Nat) : (Instr.makeMap 220 (some (.int .i64 n))).run Tryz.prog w = .ok (.map (some w.heap.size)) (w.alloc (.map #[] 0)) := by
 unfold Instr.makeMap
 simp [asInt, asIntOf]
def SetF (w : World) (b n : Nat) (L : List Int) : Prop :=
 ∃ D : DataW Nat, w.ownsMap Tryz.prog 3 unitElem b n D ∧ (∀ z, Maps.has D (.int .i64 z) = decide (z ∈ L)) ∧ Maps.size D ≤ L.length ∧ (Maps.size D = L.length ↔ L.Nodup)
theorem SetF.made (w : World) : SetF (w.alloc (.map #[] 0)) w.heap.size 0 [] :=
 ⟨_, World.ownsMap_made w _ _ _, fun _ => by simp [Maps.has], by simp [Maps.size], by simp [Maps.size]⟩
theorem SetF.on {w w' : World} {b n : Nat} {L : List Int} (h : SetF w b n L) (hb : Bw w w') : SetF w' b n L := by
 obtain ⟨D, h1, h2⟩ := h
 obtain ⟨es, clock, hbb, r⟩ := h1
 exact ⟨D, ⟨es, clock, (hb.block b (Array.getElem?_eq_some_iff.1 hbb).1).trans hbb, r⟩, h2⟩
theorem SetF.ne {w : World} {b n g : Nat} {L : List Int} {cs : Array Value} {t : TypeId} (h : SetF w b n L) (k : Blk w g cs t) : g ≠ b := fun e => by
 subst e
 obtain ⟨D, ⟨es, clock, hb, r⟩, h2⟩ := h
 rw [k.h] at hb
 cases hb
theorem SetF.put {w : World} {b n : Nat} {L : List Int} (h : SetF w b n L) {ops : Array Oper} {rest : List Oper} {o : Oper} {a : Act} {Q : Exit → Act → World → Prop} (hg : o.guard = none) (m x v : Operand) (hop : o.op = Op.mapUpdate 220 m x v)
  (hm : a.eval m = .map (some b)) (z : Int) (hx : a.eval x = .int .i64 z) (hv : a.eval v = .agg #[]) (hz : -9223372036854775808 ≤ z ∧ z ≤ 9223372036854775807) (hn : n ≤ 1000000)
  (cont : ∀ w', SetF w' b (n + 1) (L ++ [z]) → w.grownBy w' (some b) → wpList Tryz.prog ops Q rest (a.put o.dst undef) w') : wpList Tryz.prog ops Q (o :: rest) a w := by
 obtain ⟨D, h1, h2, h3, h4⟩ := h
 refine wpList_mapUpdate_in (H := Nat) w hg m x v 220 hop 3 221 law3 under84 unitElem b n D hm h1 (by unfold maxLen; omega) (.int .i64 z) (.agg #[]) (.int .i64 z) hx hv (key3 hz) (.agg []) [] unitElem_mk ?_
 intro w' h5 h6
 refine cont w' ⟨D.put (.int .i64 z) (.agg []), h5, fun y => ?_, ?_, ?_⟩ h6.grown
 ·by_cases e : y = z
  ·subst e
   rw [Maps.has_put_same h1.isMap (show WideAt.IsKeyLit (Lit.int .i64 y) from trivial)]
   simp
  ·rw [Maps.has_put_other (fun e' => e (by injection e')), h2]
   simp [e]
 ·rw [Maps.size_put (h1.tidy law3), List.length_append, List.length_singleton]
  split <;> omega
 ·rw [Maps.size_put (h1.tidy law3), h2, List.length_append, List.length_singleton, List.nodup_append]
  by_cases e : z ∈ L
  ·simp only [e, decide_true, if_true]
   constructor
   ·intro h; omega
   ·intro h; exact absurd rfl (h.2.2 z e z (by simp))
  ·simp only [e, decide_false, Bool.false_eq_true, if_false]
   constructor
   ·intro h
    refine ⟨h4.1 (by omega), by simp, fun y hy y' hy' e' => e ?_⟩
    simp at hy'
    rw [← hy', ← e']
    exact hy
   ·intro h
    have := h4.2 h.1
    omega
theorem SetF.len {w : World} {b n : Nat} {L : List Int} (h : SetF w b n L) {ops : Array Oper} {rest : List Oper} {o : Oper} {a : Act} {Q : Exit → Act → World → Prop} (hg : o.guard = none) (m : Operand) (hop : o.op = Op.call { callee := Callee.builtin Builtin.len, args := #[m], argTypes := #[220] })
  (hm : a.eval m = .map (some b)) (cont : ∀ k : Nat, k ≤ L.length → (k = L.length ↔ L.Nodup) → wpList Tryz.prog ops Q rest (a.put o.dst (.int .i64 k)) w) : wpList Tryz.prog ops Q (o :: rest) a w := by
 obtain ⟨D, h1, h2, h3, h4⟩ := h
 exact wpList_len_own (H := Nat) w hg m 220 hop 3 221 under84 unitElem b n D hm h1 (cont _ h3 h4)
def seqI (q : Que) (k : Nat) : List Int := (q.items.take k).map (·.seq)
def seqH (q : Que) (k : Nat) : List Int := q.items.map (·.seq) ++ (q.held.take k).map (·.itm.seq)
structure OnI (w W : World) (cs : Array Value) (b k : Nat) (L : List Int) : Prop where
 set : SetF W b k L
 below : Bw w W
 blk : Blk W w.heap.size cs 82
 ge : w.heap.size ≤ b
theorem OnI.on {w W W' : World} {cs : Array Value} {b k : Nat} {L : List Int} (h : OnI w W cs b k L) (hb : Bw W W') : OnI w W' cs b k L := ⟨h.set.on hb, nxt h.below hb, h.blk.on hb, h.ge⟩
theorem OnI.up {w W W' : World} {cs : Array Value} {b k k' : Nat} {L L' : List Int} (h : OnI w W cs b k L) (hs : SetF W' b k' L') (hg : W.grownBy W' (some b)) : OnI w W' cs b k' L' :=
 ⟨hs, h.below.grown hg h.below.size (fun j hj => by injection hj with hj; have := h.ge; omega), h.blk.grown hg (fun e => h.set.ne h.blk (by injection e)), h.ge⟩
set_option maxHeartbeats 2000000 in
theorem once_any (w : World) (v : Value) (q : Que) (h : RdQ w v q) (hi' : q.items.length ≤ 1000) (hh' : q.held.length ≤ 1000) (hz : ∀ z ∈ seqs q, -9223372036854775808 ≤ z ∧ z ≤ 9223372036854775807) :
  Calls Tryz.prog 149 #[v] w fun e w' => e = .returned (.bool (decide (seqs q).Nodup)) ∧ Bw w w' := by
 have hL := fun W b => len_any W v q (h.on b) (by unfold lenQ; omega)
 obtain ⟨iv, hv, rfl, hi, hh⟩ := h
 obtain ⟨zi, ei, hi⟩ := hi
 obtain ⟨zh, eh, hh⟩ := hh
 obtain ⟨ai, ci, rfl⟩ := hi.len
 obtain ⟨ah, ch, rfl⟩ := hh.len
 obtain ⟨ni, hni⟩ : ∃ n, zi.length = n := ⟨_, rfl⟩
 obtain ⟨nh, hnh⟩ : ∃ n, zh.length = n := ⟨_, rfl⟩
 rw [hni] at hi hL ⊢
 rw [hnh] at hh hL ⊢
 have HI : Hid (RdZ 7 (ItR (RdP w)) w (.slice ai ni ci) zi) := hi
 have HH : Hid (RdZ 10 (HeR (RdP w)) w (.slice ah nh ch) zh) := hh
 have EI : Hid (zi.map (·.2) = q.items) := ei
 have EH : Hid (zh.map (·.2) = q.held) := eh
 have NI : Hid (zi.length = ni) := hni
 have NH : Hid (zh.length = nh) := hnh
 have HZ : Hid (∀ z ∈ seqs q, -9223372036854775808 ≤ z ∧ z ≤ 9223372036854775807) := hz
 have hni2 : ni ≤ 1000 := by rw [← ei, List.length_map, hni] at hi'; exact hi'
 have hnh2 : nh ≤ 1000 := by rw [← eh, List.length_map, hnh] at hh'; exact hh'
 have HLN : Hid ((seqs q).length = lenQ q ∧ lenQ q ≤ 2000) := ⟨by simp [seqs, lenQ], by unfold lenQ; omega⟩
 clear hi hh ei eh hni hnh hi' hh' hz
 unfold queV at *
 have b1 := (Below.refl w.heap.size w).alloc (Nat.le_refl _) (.cells (quA q (.slice ai ni ci) (.slice ah nh ch)) 82)
 have k1 := Blk.new w (quA q (.slice ai ni ci) (.slice ah nh ch)) 82
 go_enter Tryz.func149, Tryz.ntmps149
 go_wp2_with fail
 refine (hL _ b1).mono ?_
 rintro e w1 ⟨rfl, b2⟩
 have k2 := k1.on b2
 have b02 := nxt b1 b2
 clear k1 b1 b2
 have H3 : Hid (OnI w (w1.alloc (.map #[] 0)) (quA q (.slice ai ni ci) (.slice ah nh ch)) w1.heap.size 0 []) := ⟨SetF.made w1, b02.alloc b02.size _, k2.alloc _, b02.size⟩
 have k3 := (k2.alloc (.map #[] 0)).c7
 obtain ⟨d0, d1, d2, d3, d4, d5, d6⟩ := k3
 obtain ⟨bm, hbm⟩ : ∃ b, w1.heap.size = b := ⟨_, rfl⟩
 rw [hbm] at H3
 go_wp2_with fail
 clear hbm
 clear k2 b02 d0 d1 d2 d3 d4 d5 d6
 go_loopg [5, 14] ni (fun gg _ s14 wr => ∃ kk : Nat, kk ≤ ni ∧ ni - kk ≤ gg ∧ s14 = .int .i64 kk ∧ Hid (OnI w wr (quA q (.slice ai ni ci) (.slice ah nh ch)) bm kk (seqI q kk)))
 case atStart => exact ⟨0, Nat.zero_le _, by omega, rfl, H3.out⟩
 case round =>
  obtain ⟨kk, hkk, hg, rfl, HS⟩ := hrel
  clear H3
  by_cases hlt : kk < ni
  ·have hltz : (kk : Int) < (ni : Int) := by omega
   obtain ⟨b, o, pv, rfl, hz1, hp, c0, c1, c2, c3, c4, c5, c6⟩ := itm_at HI.out HS.out.below (i := kk) (by rw [NI.out]; exact hlt)
   have HX : Hid (seqI q (kk + 1) = seqI q kk ++ [(zi[kk]'(by rw [NI.out]; exact hlt)).2.seq]) := by
    show (q.items.take (kk + 1)).map (·.seq) = (q.items.take kk).map (·.seq) ++ _
    rw [← EI.out, List.take_succ_eq_append_getElem (by rw [List.length_map, NI.out]; exact hlt), List.getElem_map, List.map_append]
    rfl
   have HZ1 := HZ.out (zi[kk]'(by rw [NI.out]; exact hlt)).2.seq (List.mem_append_left _ (List.mem_map_of_mem (by rw [← EI.out]; exact List.mem_map_of_mem (List.getElem_mem _))))
   generalize (zi[kk]'(by rw [NI.out]; exact hlt)).2 = x at *
   clear hz1
   obtain ⟨wr, hwr⟩ : ∃ W, W = wr := ⟨_, rfl⟩
   subst hwr
   obtain ⟨pa, pc, rfl⟩ := hp.shape
   have HZ2 : Hid (-9223372036854775808 ≤ x.seq ∧ x.seq ≤ 9223372036854775807) := HZ1
   clear HZ1
   go_wp2_with (refine wpl_fresh rfl (.tmp 5) (.tmp 17) rfl _ _ rfl rfl (by kernel_rfl) rfl (by simp [Value.oneCell']) ?_)
   intro w2 k2 b2 s2
   have HS2 := HS.out.on b2
   clear HS hp c0 c1 c2 c3 c4 c5 c6 b2 s2
   obtain ⟨c0, c1, c2, c3, c4, c5, c6⟩ := k2.c7
   go_wp2_with (refine HS2.set.put rfl (.tmp 18) (.tmp 20) (.tmp 21) rfl rfl x.seq rfl rfl HZ2.out (by omega) ?_)
   intro w3 s3 g3
   have HS3 := HS2.up s3 g3
   rw [← HX.out] at HS3
   clear HS2 s3 g3 k2 c0 c1 c2 c3 c4 c5 c6 HX HZ2
   go_wp2_with fail
   go_roundg (ni - (kk + 1))
   case measure => omega
   case rel => exact ⟨kk + 1, by omega, by omega, by go_num, HS3⟩
  ·have hltz : ¬ (kk : Int) < (ni : Int) := by omega
   have e1 : seqI q kk = seqH q 0 := by unfold seqI seqH; simp only [List.take_zero, List.map_nil, List.append_nil]; rw [List.take_of_length_le (by rw [← EI.out, List.length_map, NI.out]; omega)]
   rw [e1] at HS
   have H2 : Hid (OnI w wr (quA q (.slice ai ni ci) (.slice ah nh ch)) bm (ni + 0) (seqH q 0)) := by
    have := HS.out
    rw [show kk = ni by omega] at this
    exact this
   obtain ⟨wr, hwr⟩ : ∃ W, W = wr := ⟨_, rfl⟩
   subst hwr
   obtain ⟨d0, d1, d2, d3, d4, d5, d6⟩ := HS.out.blk.c7
   clear HS HI e1
   go_wp2_with fail
   clear d0 d1 d2 d3 d4 d5 d6
   go_loopg [7, 26] nh (fun gg _ s26 wy => ∃ k2 : Nat, k2 ≤ nh ∧ nh - k2 ≤ gg ∧ s26 = .int .i64 k2 ∧ Hid (OnI w wy (quA q (.slice ai ni ci) (.slice ah nh ch)) bm (ni + k2) (seqH q k2)))
   case atStart => exact ⟨0, Nat.zero_le _, by omega, rfl, H2.out⟩
   case round =>
    obtain ⟨k2, hk2, hg2, rfl, HS⟩ := hrel
    clear H2
    by_cases hl2 : k2 < nh
    ·have hl2z : (k2 : Int) < (nh : Int) := by omega
     obtain ⟨b, o, pv, rfl, hz1, hp, c0, c1, c2, c3, c4, c5, c6, c7, c8, c9⟩ := hld_at HH.out HS.out.below (i := k2) (by rw [NH.out]; exact hl2)
     have HX : Hid (seqH q (k2 + 1) = seqH q k2 ++ [(zh[k2]'(by rw [NH.out]; exact hl2)).2.itm.seq]) := by
      show q.items.map (·.seq) ++ (q.held.take (k2 + 1)).map (·.itm.seq) = q.items.map (·.seq) ++ (q.held.take k2).map (·.itm.seq) ++ _
      rw [← EH.out, List.take_succ_eq_append_getElem (by rw [List.length_map, NH.out]; exact hl2), List.getElem_map, List.map_append, List.append_assoc]
      rfl
     have HZ1 := HZ.out (zh[k2]'(by rw [NH.out]; exact hl2)).2.itm.seq (List.mem_append_right _ (List.mem_map_of_mem (f := fun h : Hld => h.itm.seq) (by rw [← EH.out]; exact List.mem_map_of_mem (List.getElem_mem _))))
     generalize (zh[k2]'(by rw [NH.out]; exact hl2)).2 = x at *
     clear hz1
     obtain ⟨wt, hwt⟩ : ∃ W, W = wr := ⟨_, rfl⟩
     subst hwt
     obtain ⟨pa, pc, rfl⟩ := hp.shape
     have HZ2 : Hid (-9223372036854775808 ≤ x.itm.seq ∧ x.itm.seq ≤ 9223372036854775807) := HZ1
     clear HZ1
     go_wp2_with (refine wpl_fresh rfl (.tmp 7) (.tmp 29) rfl _ _ rfl rfl (by kernel_rfl) rfl (by simp [Value.oneCell']) ?_)
     intro w2 kx b2 s2
     have HS2 := HS.out.on b2
     clear HS hp c0 c1 c2 c3 c4 c5 c6 c7 c8 c9 b2 s2
     obtain ⟨c0, c1, c2, c3, c4, c5, c6, c7, c8, c9⟩ := kx.c10
     go_wp2_with (refine HS2.set.put rfl (.tmp 30) (.tmp 33) (.tmp 34) rfl rfl x.itm.seq rfl rfl HZ2.out (by omega) ?_)
     intro w3 s3 g3
     have HS3 := HS2.up s3 g3
     rw [← HX.out] at HS3
     clear HS2 s3 g3 kx c0 c1 c2 c3 c4 c5 c6 c7 c8 c9 HX HZ2
     go_wp2_with fail
     go_roundg (nh - (k2 + 1))
     case measure => omega
     case rel => exact ⟨k2 + 1, by omega, by omega, by go_num, HS3⟩
    ·have hl2z : ¬ (k2 : Int) < (nh : Int) := by omega
     have e1 : seqH q k2 = seqs q := by unfold seqH; rw [List.take_of_length_le (by rw [← EH.out, List.length_map, NH.out]; omega)]; rfl
     rw [e1] at HS
     obtain ⟨d0, d1, d2, d3, d4, d5, d6⟩ := HS.out.blk.c7
     have hs := HS.out.set
     have hb := HS.out.below
     obtain ⟨wt, hwt⟩ : ∃ W, W = wr := ⟨_, rfl⟩
     subst hwt
     have hl := hL wt hb
     clear HS e1 HH
     go_wp2_with (refine hs.len rfl (.tmp 36) rfl rfl ?_)
     intro k hk1 hk2
     have HK : Hid (k = (seqs q).length ↔ (seqs q).Nodup) := hk2
     clear hk2 hk1
     go_wp2_with fail
     refine hl.mono ?_
     rintro e w5 ⟨rfl, b5⟩
     clear hl d0 d1 d2 d3 d4 d5 d6
     go_wp2
     go_ret
     refine ⟨ret_b ?_, nxt hb b5⟩
     have h1 := HK.out
     rw [HLN.out.1] at h1
     by_cases e : k = lenQ q
     ·simp [e, h1.1 e]
     ·have : ¬ (seqs q).Nodup := fun h => e (h1.2 h)
      have e' : ¬ (k : Int) = (lenQ q : Int) := by omega
      simp [e', this]
theorem hlds_seqs {s t : Int} : ∀ {l : List Hld} {a : Int}, hldsB s t a l = true → ∀ h ∈ l, hldB s t h = true
 | [], _, _, h, hh => by simp at hh
 | x :: l, a, e, h, hh => by
  simp only [hldsB, Bool.and_eq_true] at e
  rcases List.mem_cons.1 hh with rfl | hh
  ·exact e.1.2
  ·exact hlds_seqs e.2 h hh
theorem itms_seqs {s : Int} : ∀ {l : List Itm} {a : Int}, itmsB s a l = true → ∀ h ∈ l, itmB s h = true
 | [], _, _, h, hh => by simp at hh
 | x :: l, a, e, h, hh => by
  simp only [itmsB, Bool.and_eq_true] at e
  rcases List.mem_cons.1 hh with rfl | hh
  ·exact e.1.2
  ·exact itms_seqs e.2 h hh
theorem itmB_num {s : Int} {x : Itm} (h : itmB s x = true) : 1 ≤ x.seq ∧ x.seq ≤ s := by
 simp only [itmB, givB, Bool.and_eq_true, decide_eq_true_eq] at h
 exact h.1
theorem seqs_small {q : Que} (h3 : numB q.seq = true) (h6 : itmsB q.seq 0 q.items = true) (h7 : hldsB q.seq q.tag 0 q.held = true) : ∀ z ∈ seqs q, 1 ≤ z ∧ z ≤ 1099511627776 := by
 intro z hz
 have hs : q.seq ≤ 1099511627776 := by simp [numB] at h3; exact h3.2
 rcases List.mem_append.1 hz with hz | hz
 ·obtain ⟨x, hx, rfl⟩ := List.mem_map.1 hz
  have := itmB_num (itms_seqs h6 x hx)
  omega
 ·obtain ⟨x, hx, rfl⟩ := List.mem_map.1 hz
  have h8 := hlds_seqs h7 x hx
  simp only [hldB, Bool.and_eq_true] at h8
  have := itmB_num h8.2
  omega
set_option maxHeartbeats 8000000 in
theorem good_any (w : World) (hva : To.Vars w) (v : Value) (q : Que) (h : RdQ w v q) (hbig : lenQ q ≤ 1000000) :
  Calls Tryz.prog 64 #[v] w fun e w' => e = .returned (.bool (goodQ q)) ∧ Bw w w' := by
 have hR := h
 obtain ⟨iv, hv, rfl, hi, hh⟩ := h
 have hii := hi.len
 have hhh := hh.len
 clear hi hh
 have H1 : ∀ W : World, Bw w W → Calls Tryz.prog 128 #[tx q.name] W fun e w' => e = .returned (.bool (nameL q.name)) ∧ Bw W w' := fun W _ => (name7 W ⟨q.name.toArray⟩).mono fun e w' ⟨h1, h2⟩ => ⟨by rw [h1, Go.ByteArray.toList_mk], h2 ▸ Below.refl _ _⟩
 have H2 : ∀ W : World, Bw w W → Calls Tryz.prog 144 #[.int .i64 q.depth] W fun e w' => e = .returned (.bool (depB q.depth)) ∧ Bw W w' := fun W _ => (dep_any W q.depth).mono fun e w' ⟨h1, h2⟩ => ⟨h1, h2 ▸ Below.refl _ _⟩
 have H3 : ∀ W : World, Bw w W → Calls Tryz.prog 145 #[.int .i64 q.seq] W fun e w' => e = .returned (.bool (numB q.seq)) ∧ Bw W w' := fun W _ => (num_any W q.seq).mono fun e w' ⟨h1, h2⟩ => ⟨h1, h2 ▸ Below.refl _ _⟩
 have H4 : ∀ W : World, Bw w W → Calls Tryz.prog 145 #[.int .i64 q.tag] W fun e w' => e = .returned (.bool (numB q.tag)) ∧ Bw W w' := fun W _ => (num_any W q.tag).mono fun e w' ⟨h1, h2⟩ => ⟨h1, h2 ▸ Below.refl _ _⟩
 have HL : ∀ W : World, Bw w W → Calls Tryz.prog 146 #[queV q iv hv] W fun e w' => e = .returned (.int .i64 (lenQ q)) ∧ Bw W w' := fun W b => len_any W _ q (hR.on b) (by omega)
 have H6 : ∀ W : World, Bw w W → Calls Tryz.prog 147 #[queV q iv hv] W fun e w' => e = .returned (.bool (itmsB q.seq 0 q.items)) ∧ Bw W w' := fun W b => goodItems_any W (hva.below b) _ q (hR.on b) (by unfold lenQ at hbig; omega)
 have H7 : ∀ W : World, Bw w W → Calls Tryz.prog 148 #[queV q iv hv] W fun e w' => e = .returned (.bool (hldsB q.seq q.tag 0 q.held)) ∧ Bw W w' := fun W b => goodHeld_any W (hva.below b) _ q (hR.on b) (by unfold lenQ at hbig; omega)
 have H8 : depB q.depth = true → numB q.seq = true → (lenQ q : Int) ≤ q.depth → itmsB q.seq 0 q.items = true → hldsB q.seq q.tag 0 q.held = true → ∀ W : World, Bw w W → Calls Tryz.prog 149 #[queV q iv hv] W fun e w' => e = .returned (.bool (decide (seqs q).Nodup)) ∧ Bw W w' := fun g2 g3 g5 g6 g7 W b => by
  have hd : q.depth ≤ 64 := by simp [depB] at g2; exact g2.2
  refine once_any W _ q (hR.on b) (by unfold lenQ at g5; omega) (by unfold lenQ at g5; omega) (fun z hz => ?_)
  have := seqs_small g3 g6 g7 z hz
  omega
 unfold goodQ
 generalize nameL q.name = c1 at *
 generalize depB q.depth = c2 at *
 generalize numB q.seq = c3 at *
 generalize numB q.tag = c4 at *
 generalize itmsB q.seq 0 q.items = c6 at *
 generalize hldsB q.seq q.tag 0 q.held = c7 at *
 generalize decide (seqs q).Nodup = c8 at *
 generalize lenQ q = m at *
 obtain ⟨ai, ci, rfl⟩ := hii
 obtain ⟨ah, ch, rfl⟩ := hhh
 generalize hIV : Value.slice ai q.items.length ci = iv at *
 generalize hHV : Value.slice ah q.held.length ch = hv at *
 have OI : iv.oneCell' = true := by rw [← hIV]; rfl
 have OH : hv.oneCell' = true := by rw [← hHV]; rfl
 clear hIV hHV hva hR
 unfold queV at *
 have kN := Blk.new w (quA q iv hv) 82
 have bN := (Below.refl w.heap.size w).alloc (Nat.le_refl _) (.cells (quA q iv hv) 82)
 go_enter Tryz.func64, Tryz.ntmps64
 go_upto_region 1 with fail
 obtain ⟨n, hn⟩ : ∃ n, w.heap.size = n := ⟨_, rfl⟩
 have hS : (fun W : World => Blk W n (quA q iv hv) 82 ∧ Bw w W) (w.alloc (.cells (quA q iv hv) 82)).drew := ⟨hn ▸ (⟨kN.h⟩ : Blk (w.alloc (.cells (quA q iv hv) 82)).drew w.heap.size (quA q iv hv) 82), bN.drew⟩
 rw [hn]
 clear hn kN bN
 refine rh (fun W : World => Blk W n (quA q iv hv) 82 ∧ Bw w W) ?_
 generalize (w.alloc (.cells (quA q iv hv) 82)).drew = w0 at *
 replace hS : Blk w0 n (quA q iv hv) 82 ∧ Bw w w0 := hS
 refine tks [0, 1] [.pointer (some ⟨n, 0, none⟩), tx q.name] 36 ?_ hS ?_
 ·simp only [tkY, tkf]
  refine ⟨.yes ?_, .yes ?_, trivial⟩
  all_goals
   intro W' hW'
   obtain ⟨d0, d1, d2, d3, d4, d5, d6⟩ := hW'.1.c7
   go_simp
 simp only [tkA, tkf]
 refine ak 2 fun K hK => ?_
 go_simp
 refine (H1 _ hS.2).mono ?_
 rintro e w2 ⟨rfl, b2⟩
 replace hS : Blk w2 n (quA q iv hv) 82 ∧ Bw w w2 := ⟨hS.1.on b2, nxt hS.2 b2⟩
 show K _ _
 refine hK _ _ hS ?_
 clear hK K b2
 cases h1 : c1 with
 | false =>
  refine tks [3, 4, 5, 6, 7, 8, 9, 10, 11, 12, 13, 14, 15, 16, 17, 18, 19, 21, 22, 20, 23, 24, 25, 26, 27, 28, 29, 30, 31, 32, 33, 34, 35, 36, 37] [.bool false, undef, undef, undef, .bool false, .bool false, undef, undef, undef, .bool false, .bool false, undef, undef, undef, .bool false, .bool false, undef, undef, undef, undef, undef, .bool false, .bool false, undef, undef, .bool false, .bool false, undef, undef, .bool false, .bool false, undef, undef, .bool false, .bool false] 0 ?_ hS ?_
  ·simp only [tkY, tkf]
   refine ⟨.yes ?_, .no, .no, .no, .yes ?_, .yes ?_, .no, .no, .no, .yes ?_, .yes ?_, .no, .no, .no, .yes ?_, .yes ?_, .no, .no, .no, .no, .no, .yes ?_, .yes ?_, .no, .no, .yes ?_, .yes ?_, .no, .no, .yes ?_, .yes ?_, .no, .no, .yes ?_, .yes ?_, trivial⟩
   all_goals
    intro W' hW'
    obtain ⟨d0, d1, d2, d3, d4, d5, d6⟩ := hW'.1.c7
    go_simp
  simp only [tkA, tkf]
  refine ad ?_
  go_wp2
  go_ret
  exact ⟨ret_b (by simp [h1]), hS.2⟩
 | true =>
  refine tks [3, 4, 5] [.bool true, .pointer (some ⟨n, 2, none⟩), .int .i64 q.depth] 32 ?_ hS ?_
  ·simp only [tkY, tkf]
   refine ⟨.yes ?_, .yes ?_, .yes ?_, trivial⟩
   all_goals
    intro W' hW'
    obtain ⟨d0, d1, d2, d3, d4, d5, d6⟩ := hW'.1.c7
    go_simp
  simp only [tkA, tkf]
  refine ak 6 fun K hK => ?_
  go_simp
  refine (H2 _ hS.2).mono ?_
  rintro e w6 ⟨rfl, b6⟩
  replace hS : Blk w6 n (quA q iv hv) 82 ∧ Bw w w6 := ⟨hS.1.on b6, nxt hS.2 b6⟩
  show K _ _
  refine hK _ _ hS ?_
  clear hK K b6
  cases h2 : c2 with
  | false =>
   refine tks [7, 8, 9, 10, 11, 12, 13, 14, 15, 16, 17, 18, 19, 21, 22, 20, 23, 24, 25, 26, 27, 28, 29, 30, 31, 32, 33, 34, 35, 36, 37] [.bool false, .bool false, undef, undef, undef, .bool false, .bool false, undef, undef, undef, .bool false, .bool false, undef, undef, undef, undef, undef, .bool false, .bool false, undef, undef, .bool false, .bool false, undef, undef, .bool false, .bool false, undef, undef, .bool false, .bool false] 0 ?_ hS ?_
   ·simp only [tkY, tkf]
    refine ⟨.yes ?_, .yes ?_, .no, .no, .no, .yes ?_, .yes ?_, .no, .no, .no, .yes ?_, .yes ?_, .no, .no, .no, .no, .no, .yes ?_, .yes ?_, .no, .no, .yes ?_, .yes ?_, .no, .no, .yes ?_, .yes ?_, .no, .no, .yes ?_, .yes ?_, trivial⟩
    all_goals
     intro W' hW'
     obtain ⟨d0, d1, d2, d3, d4, d5, d6⟩ := hW'.1.c7
     go_simp
   simp only [tkA, tkf]
   refine ad ?_
   go_wp2
   go_ret
   exact ⟨ret_b (by simp [h1, h2]), hS.2⟩
  | true =>
   refine tks [7, 8, 9, 10] [.bool true, .bool true, .pointer (some ⟨n, 3, none⟩), .int .i64 q.seq] 27 ?_ hS ?_
   ·simp only [tkY, tkf]
    refine ⟨.yes ?_, .yes ?_, .yes ?_, .yes ?_, trivial⟩
    all_goals
     intro W' hW'
     obtain ⟨d0, d1, d2, d3, d4, d5, d6⟩ := hW'.1.c7
     go_simp
   simp only [tkA, tkf]
   refine ak 11 fun K hK => ?_
   go_simp
   refine (H3 _ hS.2).mono ?_
   rintro e w11 ⟨rfl, b11⟩
   replace hS : Blk w11 n (quA q iv hv) 82 ∧ Bw w w11 := ⟨hS.1.on b11, nxt hS.2 b11⟩
   show K _ _
   refine hK _ _ hS ?_
   clear hK K b11
   cases h3 : c3 with
   | false =>
    refine tks [12, 13, 14, 15, 16, 17, 18, 19, 21, 22, 20, 23, 24, 25, 26, 27, 28, 29, 30, 31, 32, 33, 34, 35, 36, 37] [.bool false, .bool false, undef, undef, undef, .bool false, .bool false, undef, undef, undef, undef, undef, .bool false, .bool false, undef, undef, .bool false, .bool false, undef, undef, .bool false, .bool false, undef, undef, .bool false, .bool false] 0 ?_ hS ?_
    ·simp only [tkY, tkf]
     refine ⟨.yes ?_, .yes ?_, .no, .no, .no, .yes ?_, .yes ?_, .no, .no, .no, .no, .no, .yes ?_, .yes ?_, .no, .no, .yes ?_, .yes ?_, .no, .no, .yes ?_, .yes ?_, .no, .no, .yes ?_, .yes ?_, trivial⟩
     all_goals
      intro W' hW'
      obtain ⟨d0, d1, d2, d3, d4, d5, d6⟩ := hW'.1.c7
      go_simp
    simp only [tkA, tkf]
    refine ad ?_
    go_wp2
    go_ret
    exact ⟨ret_b (by simp [h1, h2, h3]), hS.2⟩
   | true =>
    refine tks [12, 13, 14, 15] [.bool true, .bool true, .pointer (some ⟨n, 4, none⟩), .int .i64 q.tag] 22 ?_ hS ?_
    ·simp only [tkY, tkf]
     refine ⟨.yes ?_, .yes ?_, .yes ?_, .yes ?_, trivial⟩
     all_goals
      intro W' hW'
      obtain ⟨d0, d1, d2, d3, d4, d5, d6⟩ := hW'.1.c7
      go_simp
    simp only [tkA, tkf]
    refine ak 16 fun K hK => ?_
    go_simp
    refine (H4 _ hS.2).mono ?_
    rintro e w16 ⟨rfl, b16⟩
    replace hS : Blk w16 n (quA q iv hv) 82 ∧ Bw w w16 := ⟨hS.1.on b16, nxt hS.2 b16⟩
    show K _ _
    refine hK _ _ hS ?_
    clear hK K b16
    cases h4 : c4 with
    | false =>
     refine tks [17, 18, 19, 21, 22, 20, 23, 24, 25, 26, 27, 28, 29, 30, 31, 32, 33, 34, 35, 36, 37] [.bool false, .bool false, undef, undef, undef, undef, undef, .bool false, .bool false, undef, undef, .bool false, .bool false, undef, undef, .bool false, .bool false, undef, undef, .bool false, .bool false] 0 ?_ hS ?_
     ·simp only [tkY, tkf]
      refine ⟨.yes ?_, .yes ?_, .no, .no, .no, .no, .no, .yes ?_, .yes ?_, .no, .no, .yes ?_, .yes ?_, .no, .no, .yes ?_, .yes ?_, .no, .no, .yes ?_, .yes ?_, trivial⟩
      all_goals
       intro W' hW'
       obtain ⟨d0, d1, d2, d3, d4, d5, d6⟩ := hW'.1.c7
       go_simp
     simp only [tkA, tkf]
     refine ad ?_
     go_wp2
     go_ret
     exact ⟨ret_b (by simp [h1, h2, h3, h4]), hS.2⟩
    | true =>
     refine tks [17, 18, 19, 21, 22] [.bool true, .bool true, .agg #[tx q.name, .bool q.dur, .int .i64 q.depth, .int .i64 q.seq, .int .i64 q.tag, iv, hv], .pointer (some ⟨n, 2, none⟩), .int .i64 q.depth] 16 ?_ hS ?_
     ·simp only [tkY, tkf]
      refine ⟨.yes ?_, .yes ?_, .yes ?_, .yes ?_, .yes ?_, trivial⟩
      all_goals
       intro W' hW'
       obtain ⟨d0, d1, d2, d3, d4, d5, d6⟩ := hW'.1.c7
       go_simp
     simp only [tkA, tkf]
     refine ak 20 fun K hK => ?_
     go_simp
     refine (HL _ hS.2).mono ?_
     rintro e w20 ⟨rfl, b20⟩
     replace hS : Blk w20 n (quA q iv hv) 82 ∧ Bw w w20 := ⟨hS.1.on b20, nxt hS.2 b20⟩
     show K _ _
     refine hK _ _ hS ?_
     clear hK K b20
     by_cases h5 : (m : Int) ≤ q.depth
     ·have h5d : decide ((m : Int) ≤ q.depth) = true := decide_eq_true h5
      refine tks [23, 24, 25, 26] [.bool true, .bool true, .bool true, .agg #[tx q.name, .bool q.dur, .int .i64 q.depth, .int .i64 q.seq, .int .i64 q.tag, iv, hv]] 11 ?_ hS ?_
      ·simp only [tkY, tkf]
       refine ⟨.yes ?_, .yes ?_, .yes ?_, .yes ?_, trivial⟩
       all_goals
        intro W' hW'
        obtain ⟨d0, d1, d2, d3, d4, d5, d6⟩ := hW'.1.c7
        go_simp
      simp only [tkA, tkf]
      refine ak 27 fun K hK => ?_
      go_simp
      refine (H6 _ hS.2).mono ?_
      rintro e w27 ⟨rfl, b27⟩
      replace hS : Blk w27 n (quA q iv hv) 82 ∧ Bw w w27 := ⟨hS.1.on b27, nxt hS.2 b27⟩
      show K _ _
      refine hK _ _ hS ?_
      clear hK K b27
      cases h6 : c6 with
      | false =>
       refine tks [28, 29, 30, 31, 32, 33, 34, 35, 36, 37] [.bool false, .bool false, undef, undef, .bool false, .bool false, undef, undef, .bool false, .bool false] 0 ?_ hS ?_
       ·simp only [tkY, tkf]
        refine ⟨.yes ?_, .yes ?_, .no, .no, .yes ?_, .yes ?_, .no, .no, .yes ?_, .yes ?_, trivial⟩
        all_goals
         intro W' hW'
         obtain ⟨d0, d1, d2, d3, d4, d5, d6⟩ := hW'.1.c7
         go_simp
       simp only [tkA, tkf]
       refine ad ?_
       go_wp2
       go_ret
       exact ⟨ret_b (by simp [h1, h2, h3, h4, h5, h6]), hS.2⟩
      | true =>
       refine tks [28, 29, 30] [.bool true, .bool true, .agg #[tx q.name, .bool q.dur, .int .i64 q.depth, .int .i64 q.seq, .int .i64 q.tag, iv, hv]] 7 ?_ hS ?_
       ·simp only [tkY, tkf]
        refine ⟨.yes ?_, .yes ?_, .yes ?_, trivial⟩
        all_goals
         intro W' hW'
         obtain ⟨d0, d1, d2, d3, d4, d5, d6⟩ := hW'.1.c7
         go_simp
       simp only [tkA, tkf]
       refine ak 31 fun K hK => ?_
       go_simp
       refine (H7 _ hS.2).mono ?_
       rintro e w31 ⟨rfl, b31⟩
       replace hS : Blk w31 n (quA q iv hv) 82 ∧ Bw w w31 := ⟨hS.1.on b31, nxt hS.2 b31⟩
       show K _ _
       refine hK _ _ hS ?_
       clear hK K b31
       cases h7 : c7 with
       | false =>
        refine tks [32, 33, 34, 35, 36, 37] [.bool false, .bool false, undef, undef, .bool false, .bool false] 0 ?_ hS ?_
        ·simp only [tkY, tkf]
         refine ⟨.yes ?_, .yes ?_, .no, .no, .yes ?_, .yes ?_, trivial⟩
         all_goals
          intro W' hW'
          obtain ⟨d0, d1, d2, d3, d4, d5, d6⟩ := hW'.1.c7
          go_simp
        simp only [tkA, tkf]
        refine ad ?_
        go_wp2
        go_ret
        exact ⟨ret_b (by simp [h1, h2, h3, h4, h5, h6, h7]), hS.2⟩
       | true =>
        refine tks [32, 33, 34] [.bool true, .bool true, .agg #[tx q.name, .bool q.dur, .int .i64 q.depth, .int .i64 q.seq, .int .i64 q.tag, iv, hv]] 3 ?_ hS ?_
        ·simp only [tkY, tkf]
         refine ⟨.yes ?_, .yes ?_, .yes ?_, trivial⟩
         all_goals
          intro W' hW'
          obtain ⟨d0, d1, d2, d3, d4, d5, d6⟩ := hW'.1.c7
          go_simp
        simp only [tkA, tkf]
        refine ak 35 fun K hK => ?_
        go_simp
        refine (H8 h2 h3 h5 h6 h7 _ hS.2).mono ?_
        rintro e w35 ⟨rfl, b35⟩
        replace hS : Blk w35 n (quA q iv hv) 82 ∧ Bw w w35 := ⟨hS.1.on b35, nxt hS.2 b35⟩
        show K _ _
        refine hK _ _ hS ?_
        clear hK K b35
        cases h8 : c8 with
        | false =>
         refine tks [36, 37] [.bool false, .bool false] 0 ?_ hS ?_
         ·simp only [tkY, tkf]
          refine ⟨.yes ?_, .yes ?_, trivial⟩
          all_goals
           intro W' hW'
           obtain ⟨d0, d1, d2, d3, d4, d5, d6⟩ := hW'.1.c7
           go_simp
         simp only [tkA, tkf]
         refine ad ?_
         go_wp2
         go_ret
         exact ⟨ret_b (by simp [h1, h2, h3, h4, h5, h6, h7, h8]), hS.2⟩
        | true =>
         refine tks [36, 37] [.bool true, .bool true] 0 ?_ hS ?_
         ·simp only [tkY, tkf]
          refine ⟨.yes ?_, .yes ?_, trivial⟩
          all_goals
           intro W' hW'
           obtain ⟨d0, d1, d2, d3, d4, d5, d6⟩ := hW'.1.c7
           go_simp
         simp only [tkA, tkf]
         refine ad ?_
         go_wp2
         go_ret
         exact ⟨ret_b (by simp [h1, h2, h3, h4, h5, h6, h7, h8]), hS.2⟩
     ·have h5d : decide ((m : Int) ≤ q.depth) = false := decide_eq_false h5
      refine tks [23, 24, 25, 26, 27, 28, 29, 30, 31, 32, 33, 34, 35, 36, 37] [.bool false, .bool false, .bool false, undef, undef, .bool false, .bool false, undef, undef, .bool false, .bool false, undef, undef, .bool false, .bool false] 0 ?_ hS ?_
      ·simp only [tkY, tkf]
       refine ⟨.yes ?_, .yes ?_, .yes ?_, .no, .no, .yes ?_, .yes ?_, .no, .no, .yes ?_, .yes ?_, .no, .no, .yes ?_, .yes ?_, trivial⟩
       all_goals
        intro W' hW'
        obtain ⟨d0, d1, d2, d3, d4, d5, d6⟩ := hW'.1.c7
        go_simp
      simp only [tkA, tkf]
      refine ad ?_
      go_wp2
      go_ret
      exact ⟨ret_b (by simp [h1, h2, h3, h4, h5]), hS.2⟩
end Go.Proofs.YtnpikgakpmkipabGreatDoor
namespace Go.Proofs.YtnpikgakpmkipabGreatDoor
open Go
section
variable {P : Program} {md : Region.Mode} {ops : Array Oper} {Q : Exit → Act → World → Prop} {S : World → Prop}
def wpTo (P : Program) (md : Region.Mode) (ops : Array Oper) (Q : Exit → Act → World → Prop) (S : World → Prop) (z : Nat) : Nat → Array Bool → Act → World → Prop
 | 0, l, a, w => Region.ready md ops l = [] ∧ Q .normal a w
 | n + 1, l, a, w => (Region.ready md ops l = [] → Q .normal a w) ∧ ∀ i ∈ Region.ready md ops l, wpOp P ops Q i (fun a' w' => (i ≠ z → S w') ∧ wpTo P md ops Q S z n (l.setIfInBounds i true) a' w') a w
theorem wpTo.any {z : Nat} : ∀ {n : Nat} {l : Array Bool} {a : Act} {w : World}, wpTo P md ops Q S z n l a w → wpAny P md ops Q n l a w
 | 0, _, _, _, h => h
 | _ + 1, _, _, _, h => ⟨h.1, fun i hi => wpOp_mono (fun _ _ k => k.2.any) (h.2 i hi)⟩
def waitsFor (md : Region.Mode) (ops : Array Oper) (z i : Nat) : Bool := match ops[z]? with
 | some o => o.after.any fun e => Region.binds md e && e.on == i
 | none => false
theorem not_ready {z i : Nat} {l : Array Bool} (hw : waitsFor md ops z i = true) (hi : i ∈ Region.ready md ops l) : z ∉ Region.ready md ops l := fun hz => by
 obtain ⟨_, o, ho, hall⟩ := mem_ready.1 hz
 unfold waitsFor at hw
 rw [ho] at hw
 obtain ⟨e, he, hb⟩ := Array.any_eq_true'.1 hw
 rw [Bool.and_eq_true, beq_iff_eq] at hb
 have h1 := hall e he hb.1
 have h2 := (mem_ready.1 hi).1
 rw [hb.2] at h1
 rcases Nat.lt_or_ge i l.size with h | h
 ·simp [h] at h1 h2
  rw [h1] at h2
  cases h2
 ·simp [Array.getElem?_eq_none h] at h1
theorem wpTo.take_at {z i : Nat} {oi : Oper} {v : Value} (hi : ops[i]? = some oi) (hsel : Region.noSelect ops = true) (hw : waitsFor md ops z i = true)
  (hQ : ∀ c a w, Q (.panic c) (a.put oi.dst v) w → Q (.panic c) a w) (n : Nat) : ∀ (l : Array Bool) (a : Act) (w : World),
  (∀ j oj, ops[j]? = some oj → j ≠ i → l.getD j true = false → (∀ e ∈ oj.after, Region.binds md e = true → e.on ≠ i) → oi.apart ops oj = true) →
  i ∈ Region.ready md ops l → YieldsIf P ops S oi v a → S w → wpTo P md ops Q S z n (l.setIfInBounds i true) (a.put oi.dst v) w → wpTo P md ops Q S z (n + 1) l a w := by
 have hsel := Region.noSelect_spec hsel
 induction n with
 | zero =>
  intro l a w _ hr hy hS H
  refine ⟨fun h => absurd (h ▸ hr) (by simp), fun j hj => ?_⟩
  by_cases e : j = i
  ·subst e
   exact hy.wpOp hi hS ⟨fun _ => hS, H⟩
  ·exact absurd (H.1 ▸ ready_mono hj e) (by simp)
 | succ n ih =>
  intro l a w hf hr hy hS H
  refine ⟨fun h => absurd (h ▸ hr) (by simp), fun j hj => ?_⟩
  by_cases e : j = i
  ·subst e
   exact hy.wpOp hi hS ⟨fun _ => hS, H⟩
  ·have hjz : j ≠ z := fun h => not_ready hw hr (h ▸ hj)
   obtain ⟨hun, oj, hoj, hall⟩ := mem_ready.1 hj
   have hnot : ∀ e ∈ oj.after, Region.binds md e = true → e.on ≠ i := fun e' he hb heq => by
    refine not_ready (z := j) (i := i) ?_ hr hj
    unfold waitsFor
    rw [hoj]
    exact Array.any_eq_true'.2 ⟨e', he, by rw [hb, heq]; simp⟩
   refine wpOp_mono ?_ (wpOp_putIf hoj (hf j oj hoj e hun hnot) (fun cs b => hsel i oi cs b hi) (fun cs b => hsel j oj cs b hoj) hQ hy (H.2 j (ready_mono hj e)))
   intro a' w' h3
   refine ⟨h3.2.1, ih (l.setIfInBounds j true) a' w' (fun k ok hk hki hu hn => ?_) (ready_mono hr (Ne.symm e)) h3.1 (h3.2.1 hjz) ?_⟩
   ·by_cases hjk : j = k
    ·subst hjk
     exact hf j ok hk hki hun hn
    ·rw [getD_set_ne true hjk] at hu
     exact hf k ok hk hki hu hn
   ·rw [Array.setIfInBounds_comm _ _ e]
    exact h3.2.2
theorem wpTo.take {z i : Nat} {oi : Oper} {v : Value} {n : Nat} {l : Array Bool} {a : Act} {w : World} (hi : ops[i]? = some oi) (hsel : Region.noSelect ops = true) (hw : waitsFor md ops z i = true)
  (hf : Region.free md ops l i = true) (hr : (Region.ready md ops l).contains i = true) (hQ : ∀ c a w, Q (.panic c) (a.put oi.dst v) w → Q (.panic c) a w)
  (hy : YieldsIf P ops S oi v a) (hS : S w) (h : wpTo P md ops Q S z n (l.setIfInBounds i true) (a.put oi.dst v) w) : wpTo P md ops Q S z (n + 1) l a w :=
 wpTo.take_at hi hsel hw hQ n l a w (Region.free_spec hi hf) (by simpa using hr) hy hS h
theorem wpTo.all {z : Nat} {rs : List Nat} {n : Nat} {l : Array Bool} {a : Act} {w : World} (hr : Region.ready md ops l = rs) (hne : rs ≠ [])
  (h : ∀ i ∈ rs, wpOp P ops Q i (fun a' w' => (i ≠ z → S w') ∧ wpTo P md ops Q S z n (l.setIfInBounds i true) a' w') a w) : wpTo P md ops Q S z (n + 1) l a w :=
 ⟨fun h0 => absurd (hr ▸ h0) hne, hr ▸ h⟩
theorem wpTo.done {z : Nat} {l : Array Bool} {a : Act} {w : World} (hr : Region.ready md ops l = []) (h : Q .normal a w) (n : Nat) : wpTo P md ops Q S z n l a w := by
 cases n with
 | zero => exact ⟨hr, h⟩
 | succ n => exact ⟨fun _ => h, by rw [hr]; simp⟩
theorem wpTo.one {z i : Nat} {o : Oper} {n : Nat} {l : Array Bool} {a : Act} {w : World} (hr : Region.ready md ops l = [i]) (ho : ops[i]? = some o) (hw : Region.wanted o (yielded ops a.tmps) = true)
  (h : ∀ K : Act → World → Prop, (∀ a' w', (i ≠ z → S w') → wpTo P md ops Q S z n (l.setIfInBounds i true) a' w' → K a' w') → o.wp P a w K Q) : wpTo P md ops Q S z (n + 1) l a w :=
 wpTo.all hr (by simp) (fun j hj => by
  simp only [List.mem_singleton] at hj
  subst hj
  unfold wpOp
  simp only [ho]
  rw [if_pos hw]
  exact .inl (h _ (fun _ _ h1 h2 => ⟨h1, h2⟩)))
theorem wp_region_to {id z : Nat} {a : Act} {w : World} (hm : P.follows .mixedOrders = true) (h : wpTo P .any ops Q S z ops.size (Array.replicate ops.size false) a w.drew) : (Code.region id ops true).wp P Q a w :=
 wp_region_any hm h.any
end
end Go.Proofs.YtnpikgakpmkipabGreatDoor
namespace Go.Proofs.YtnpikgakpmkipabGreatDoor
open Go.RowKit Go.Lib
set_option maxRecDepth 100000
theorem appI_one {w W : World} {v : Value} {zs : Zs Itm} (ho' : OwnZ 131 7 (ItR (OwnP W w.heap.size)) W w.heap.size v zs) (hb' : Bw w W) {o : Oper} {a : Act} {K : Act → World → Prop} {Q : Exit → Act → World → Prop} (s x : Operand)
  (ho : o.op = .call { callee := .builtin .append, args := #[s, x], argTypes := #[79, 79] }) (hs : a.eval s = v) (b : Nat) (hx : a.eval x = .slice (some ⟨b, 0, none⟩) 1 1) (it : Itm) (pv : Value) (hblk : Blk W b (itmV it pv).toArray 131) (hp : OwnP W w.heap.size pv it.msg.props) (hk : zs.length ≤ 1000)
  (cont : ∀ v' w', OwnZ 131 7 (ItR (OwnP w' w.heap.size)) w' w.heap.size v' (zs ++ [(itmV it pv, it)]) → W.grownBy w' v.ownBlock → K (a.put o.dst v') w') : o.wp Tryz.prog a W K Q := by
 obtain ⟨i0, hi, hz0, hz1, hz2⟩ := info_parts info43
 have hone : pv.oneCell' = true := hp.rd.one
 have hz := itmV_one it hone
 refine wp_append_own _ s x 79 ho w.heap.size 131 i0 (.agg #[.int .i64 0, .bool false, .string ⟨#[]⟩, .string ⟨#[]⟩, .slice none 0 0, .bool false, .int .i64 0]) 7 88 Tryz.underlying79 hi hz0 hz1 hz2 rfl (by decide) v zs.length (cellsZ zs) hs ho'.1 ⟨b, 0, none⟩ 1 1 (itmV it pv) hx (by rw [hz.1]) ?_ hz.2 (by unfold maxLen; omega) (by omega) hb'.size ?_
 ·intro j u hj
  rw [Addr.add_lit, Nat.zero_add, hblk.cell j]
  simpa using hj
 ·intro v' w' h1 h2 _
  have k54 : Kt 66 W w' := Kt.of_grown ho'.1 h2 (by decide)
  refine cont v' w' ⟨?_, ?_⟩ h2
  ·rw [cellsZ_app, List.length_append]
   simpa [cellsZ] using h1
  ·intro y hy
   rcases List.mem_append.1 hy with hy | hy
   ·have := ho'.2 y hy
    exact ⟨this.1, this.2.keep k54⟩
   ·rw [List.mem_singleton.1 hy]
    exact ⟨hz, pv, rfl, hp.keep k54⟩
theorem appH_one {w W : World} {v : Value} {zs : Zs Hld} (ho' : OwnZ 133 10 (HeR (OwnP W w.heap.size)) W w.heap.size v zs) (hb' : Bw w W) {o : Oper} {a : Act} {K : Act → World → Prop} {Q : Exit → Act → World → Prop} (s x : Operand)
  (ho : o.op = .call { callee := .builtin .append, args := #[s, x], argTypes := #[80, 80] }) (hs : a.eval s = v) (b : Nat) (hx : a.eval x = .slice (some ⟨b, 0, none⟩) 1 1) (it : Hld) (pv : Value) (hblk : Blk W b (hldV it pv).toArray 133) (hp : OwnP W w.heap.size pv it.itm.msg.props) (hk : zs.length ≤ 1000)
  (cont : ∀ v' w', OwnZ 133 10 (HeR (OwnP w' w.heap.size)) w' w.heap.size v' (zs ++ [(hldV it pv, it)]) → W.grownBy w' v.ownBlock → K (a.put o.dst v') w') : o.wp Tryz.prog a W K Q := by
 obtain ⟨i0, hi, hz0, hz1, hz2⟩ := info_parts info61
 have hone : pv.oneCell' = true := hp.rd.one
 have hz := hldV_one it hone
 refine wp_append_own _ s x 80 ho w.heap.size 133 i0 (.agg #[.int .i64 0, .int .i64 0, .int .i64 0, .int .i64 0, .bool false, .string ⟨#[]⟩, .string ⟨#[]⟩, .slice none 0 0, .bool false, .int .i64 0]) 10 112 Tryz.underlying80 hi hz0 hz1 hz2 rfl (by decide) v zs.length (cellsZ zs) hs ho'.1 ⟨b, 0, none⟩ 1 1 (hldV it pv) hx (by rw [hz.1]) ?_ hz.2 (by unfold maxLen; omega) (by omega) hb'.size ?_
 ·intro j u hj
  rw [Addr.add_lit, Nat.zero_add, hblk.cell j]
  simpa using hj
 ·intro v' w' h1 h2 _
  have k54 : Kt 66 W w' := Kt.of_grown ho'.1 h2 (by decide)
  refine cont v' w' ⟨?_, ?_⟩ h2
  ·rw [cellsZ_app, List.length_append]
   simpa [cellsZ] using h1
  ·intro y hy
   rcases List.mem_append.1 hy with hy | hy
   ·have := ho'.2 y hy
    exact ⟨this.1, this.2.keep k54⟩
   ·rw [List.mem_singleton.1 hy]
    exact ⟨hz, pv, rfl, hp.keep k54⟩
end Go.Proofs.YtnpikgakpmkipabGreatDoor
