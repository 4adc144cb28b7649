/- What eachOnce answers of a queue whose numbers are small. Conditions: those that each row states. -/
import Derived.Test.YtlbcefocmdnlgaaGreatDoorZe
import Derived.Maps.OwnSet
import Derived.Deep.LoopGhost
namespace Go.Proofs.YtlbcefocmdnlgaaGreatDoor
open Go.RowKit Go.Lib
set_option maxRecDepth 100000
set_option linter.unusedSimpArgs false

theorem under3 : Tryz.prog.underlying 3 = some (.int .i64) := by kernel_rfl
theorem under84 : Tryz.prog.underlying 84 = some (.map 3 85) := by kernel_rfl
theorem law3 : Maps.Keyed Tryz.prog 3 := Maps.int_keyed under3
theorem key3 {z : Int} (h : -9223372036854775808 ≤ z ∧ z ≤ 9223372036854775807) : keyOf Tryz.prog 3 (.int .i64 z) = some (.int .i64 z) := by
  have e : (Lit.int .i64 z).wf = true := by
    show (decide ((-9223372036854775808 : Int) ≤ z) && decide (z ≤ (9223372036854775807 : Int))) = true
    simp [h.1, h.2]
  unfold keyOf
  rw [under3]
  simp [mapKey, e]
@[go_sem] theorem run_makeMap_hint (w : World) (n : Nat) : (Instr.makeMap 84 (some (.int .i64 n))).run Tryz.prog w = .ok (.map (some w.heap.size)) (w.alloc (.map #[] 0)) := by
  unfold Instr.makeMap
  simp [asInt, asIntOf]
/-- Block b is a map with the numbers of a list as its keys. -/
def SetF (w : World) (b n : Nat) (L : List Int) : Prop :=
  ∃ D : DataW Nat, w.ownsMap Tryz.prog 3 unitElem b n D ∧ (∀ z, Maps.has D (.int .i64 z) = decide (z ∈ L)) ∧ Maps.size D ≤ L.length ∧ (Maps.size D = L.length ↔ L.Nodup)
theorem SetF.made (w : World) : SetF (w.alloc (.map #[] 0)) w.heap.size 0 [] :=
  ⟨_, World.ownsMap_made w _ _ _, fun _ => by simp [Maps.has], by simp [Maps.size], by simp [Maps.size]⟩
theorem SetF.lt {w : World} {b n : Nat} {L : List Int} (h : SetF w b n L) : b < w.heap.size := let ⟨_, h, _⟩ := h; h.lt
theorem SetF.on {w w' : World} {b n : Nat} {L : List Int} (h : SetF w b n L) (hb : Below w.heap.size w w') : SetF w' b n L := by
  obtain ⟨D, h1, h2⟩ := h
  obtain ⟨es, clock, hbb, r⟩ := h1
  exact ⟨D, ⟨es, clock, (hb.block b (Array.getElem?_eq_some_iff.1 hbb).1).trans hbb, r⟩, h2⟩
theorem SetF.ne {w : World} {b n g : Nat} {L : List Int} {cs : Array Value} {t : TypeId} (h : SetF w b n L) (k : Blk w g cs t) : g ≠ b := fun e => by
  subst e
  obtain ⟨D, ⟨es, clock, hb, r⟩, h2⟩ := h
  rw [k.h] at hb
  cases hb
theorem SetF.put {w : World} {b n : Nat} {L : List Int} (h : SetF w b n L) {ops : Array Oper} {rest : List Oper} {o : Oper} {a : Act} {Q : Exit → Act → World → Prop} (hg : o.guard = none) (m x v : Operand) (hop : o.op = Op.mapUpdate 84 m x v)
    (hm : a.eval m = .map (some b)) (z : Int) (hx : a.eval x = .int .i64 z) (hv : a.eval v = .agg #[]) (hz : -9223372036854775808 ≤ z ∧ z ≤ 9223372036854775807) (hn : n ≤ 1000000)
    (cont : ∀ w', SetF w' b (n + 1) (L ++ [z]) → w.grownBy w' (some b) → wpList Tryz.prog ops Q rest (a.put o.dst undef) w') : wpList Tryz.prog ops Q (o :: rest) a w := by
  obtain ⟨D, h1, h2, h3, h4⟩ := h
  refine wpList_mapUpdate_in (H := Nat) w hg m x v 84 hop 3 85 law3 under84 unitElem b n D hm h1 (by unfold maxLen; omega) (.int .i64 z) (.agg #[]) (.int .i64 z) hx hv (key3 hz) (.agg []) [] unitElem_mk ?_
  intro w' h5 h6
  refine cont w' ⟨D.put (.int .i64 z) (.agg []), h5, fun y => ?_, ?_, ?_⟩ h6.grown
  · by_cases e : y = z
    · subst e
      rw [Maps.has_put_same h1.isMap (show WideAt.IsKeyLit (Lit.int .i64 y) from trivial)]
      simp
    · rw [Maps.has_put_other (fun e' => e (by injection e')), h2]
      simp [e]
  · rw [Maps.size_put (h1.tidy law3), List.length_append, List.length_singleton]
    split <;> omega
  · rw [Maps.size_put (h1.tidy law3), h2, List.length_append, List.length_singleton, List.nodup_append]
    by_cases e : z ∈ L
    · simp only [e, decide_true, if_true]
      constructor
      · intro h; omega
      · intro h; exact absurd rfl (h.2.2 z e z (by simp))
    · simp only [e, decide_false, Bool.false_eq_true, if_false]
      constructor
      · intro h
        refine ⟨h4.1 (by omega), by simp, fun y hy y' hy' e' => e ?_⟩
        simp at hy'
        rw [← hy', ← e']
        exact hy
      · intro h
        have := h4.2 h.1
        omega
theorem SetF.len {w : World} {b n : Nat} {L : List Int} (h : SetF w b n L) {ops : Array Oper} {rest : List Oper} {o : Oper} {a : Act} {Q : Exit → Act → World → Prop} (hg : o.guard = none) (m : Operand) (hop : o.op = Op.call { callee := Callee.builtin Builtin.len, args := #[m], argTypes := #[84] })
    (hm : a.eval m = .map (some b)) (cont : ∀ k : Nat, k ≤ L.length → (k = L.length ↔ L.Nodup) → wpList Tryz.prog ops Q rest (a.put o.dst (.int .i64 k)) w) : wpList Tryz.prog ops Q (o :: rest) a w := by
  obtain ⟨D, h1, h2, h3, h4⟩ := h
  exact wpList_len_own (H := Nat) w hg m 84 hop 3 85 under84 unitElem b n D hm h1 (cont _ h3 h4)

/-- The numbers of the first items; of all items and the first held ones. -/
def seqI (q : Que) (k : Nat) : List Int := (q.items.take k).map (·.seq)
def seqH (q : Que) (k : Nat) : List Int := q.items.map (·.seq) ++ (q.held.take k).map (·.itm.seq)
structure OnI (w W : World) (cs : Array Value) (b k : Nat) (L : List Int) : Prop where
  set : SetF W b k L
  below : Below w.heap.size w W
  blk : Blk W w.heap.size cs 25
  ge : w.heap.size ≤ b
theorem OnI.on {w W W' : World} {cs : Array Value} {b k : Nat} {L : List Int} (h : OnI w W cs b k L) (hb : Below W.heap.size W W') : OnI w W' cs b k L := ⟨h.set.on hb, nxt h.below hb, h.blk.on hb, h.ge⟩
theorem OnI.up {w W W' : World} {cs : Array Value} {b k k' : Nat} {L L' : List Int} (h : OnI w W cs b k L) (hs : SetF W' b k' L') (hg : W.grownBy W' (some b)) : OnI w W' cs b k' L' :=
  ⟨hs, h.below.grown hg h.below.size (fun j hj => by injection hj with hj; have := h.ge; omega), h.blk.grown hg (fun e => h.set.ne h.blk (by injection e)), h.ge⟩

set_option maxHeartbeats 2000000 in
theorem once_any (w : World) (v : Value) (q : Que) (h : RdQ w v q) (hi' : q.items.length ≤ 1000) (hh' : q.held.length ≤ 1000) (hz : ∀ z ∈ seqs q, -9223372036854775808 ≤ z ∧ z ≤ 9223372036854775807) :
    Calls Tryz.prog 39 #[v] w fun e w' => e = .returned (.bool (decide (seqs q).Nodup)) ∧ Below w.heap.size w w' := by
  have hL := fun W b => len_any W v q (h.on b) (by unfold lenQ; omega)
  obtain ⟨iv, hv, rfl, hi, hh⟩ := h
  obtain ⟨zi, ei, hi⟩ := hi
  obtain ⟨zh, eh, hh⟩ := hh
  obtain ⟨ai, ci, rfl⟩ := hi.len
  obtain ⟨ah, ch, rfl⟩ := hh.len
  obtain ⟨ni, hni⟩ : ∃ n, zi.length = n := ⟨_, rfl⟩
  obtain ⟨nh, hnh⟩ : ∃ n, zh.length = n := ⟨_, rfl⟩
  rw [hni] at hi hL ⊢
  rw [hnh] at hh hL ⊢
  have HI : Hid (RdZ 7 (ItR (RdP w)) w (.slice ai ni ci) zi) := hi
  have HH : Hid (RdZ 10 (HeR (RdP w)) w (.slice ah nh ch) zh) := hh
  have EI : Hid (zi.map (·.2) = q.items) := ei
  have EH : Hid (zh.map (·.2) = q.held) := eh
  have NI : Hid (zi.length = ni) := hni
  have NH : Hid (zh.length = nh) := hnh
  have HZ : Hid (∀ z ∈ seqs q, -9223372036854775808 ≤ z ∧ z ≤ 9223372036854775807) := hz
  have hni2 : ni ≤ 1000 := by rw [← ei, List.length_map, hni] at hi'; exact hi'
  have hnh2 : nh ≤ 1000 := by rw [← eh, List.length_map, hnh] at hh'; exact hh'
  have HLN : Hid ((seqs q).length = lenQ q ∧ lenQ q ≤ 2000) := ⟨by simp [seqs, lenQ], by unfold lenQ; omega⟩
  clear hi hh ei eh hni hnh hi' hh' hz
  unfold queV at *
  have b1 := (Below.refl w.heap.size w).alloc (Nat.le_refl _) (.cells #[tx q.name, .bool q.dur, .int .i64 q.depth, .int .i64 q.seq, .int .i64 q.tag, .slice ai ni ci, .slice ah nh ch] 25)
  have k1 := Blk.new w #[tx q.name, .bool q.dur, .int .i64 q.depth, .int .i64 q.seq, .int .i64 q.tag, .slice ai ni ci, .slice ah nh ch] 25
  go_enter Tryz.func39, Tryz.ntmps39
  go_wp2_with fail
  refine (hL _ b1).mono ?_
  rintro e w1 ⟨rfl, b2⟩
  have k2 := k1.on b2
  have b02 := nxt b1 b2
  clear k1 b1 b2
  have H3 : Hid (OnI w (w1.alloc (.map #[] 0)) #[tx q.name, .bool q.dur, .int .i64 q.depth, .int .i64 q.seq, .int .i64 q.tag, .slice ai ni ci, .slice ah nh ch] w1.heap.size 0 []) := ⟨SetF.made w1, b02.alloc b02.size _, k2.alloc _, b02.size⟩
  have k3 := (k2.alloc (.map #[] 0)).c7
  obtain ⟨d0, d1, d2, d3, d4, d5, d6⟩ := k3
  obtain ⟨bm, hbm⟩ : ∃ b, w1.heap.size = b := ⟨_, rfl⟩
  rw [hbm] at H3
  go_wp2_with fail
  clear hbm
  clear k2 b02 d0 d1 d2 d3 d4 d5 d6
  go_loopg [5, 14] ni (fun gg _ s14 wr => ∃ kk : Nat, kk ≤ ni ∧ ni - kk ≤ gg ∧ s14 = .int .i64 kk ∧ Hid (OnI w wr #[tx q.name, .bool q.dur, .int .i64 q.depth, .int .i64 q.seq, .int .i64 q.tag, .slice ai ni ci, .slice ah nh ch] bm kk (seqI q kk)))
  case atStart => exact ⟨0, Nat.zero_le _, by omega, rfl, H3.out⟩
  case round =>
    obtain ⟨kk, hkk, hg, rfl, HS⟩ := hrel
    clear H3
    by_cases hlt : kk < ni
    · have hltz : (kk : Int) < (ni : Int) := by omega
      obtain ⟨b, o, pv, rfl, hz1, hp, c0, c1, c2, c3, c4, c5, c6⟩ := itm_at HI.out HS.out.below (i := kk) (by rw [NI.out]; exact hlt)
      have HX : Hid (seqI q (kk + 1) = seqI q kk ++ [(zi[kk]'(by rw [NI.out]; exact hlt)).2.seq]) := by
        show (q.items.take (kk + 1)).map (·.seq) = (q.items.take kk).map (·.seq) ++ _
        rw [← EI.out, List.take_succ_eq_append_getElem (by rw [List.length_map, NI.out]; exact hlt), List.getElem_map, List.map_append]
        rfl
      have HZ1 := HZ.out (zi[kk]'(by rw [NI.out]; exact hlt)).2.seq (List.mem_append_left _ (List.mem_map_of_mem (by rw [← EI.out]; exact List.mem_map_of_mem (List.getElem_mem _))))
      generalize (zi[kk]'(by rw [NI.out]; exact hlt)).2 = x at *
      clear hz1
      obtain ⟨wr, hwr⟩ : ∃ W, W = wr := ⟨_, rfl⟩
      subst hwr
      obtain ⟨pa, pc, rfl⟩ := hp.shape
      have HZ2 : Hid (-9223372036854775808 ≤ x.seq ∧ x.seq ≤ 9223372036854775807) := HZ1
      clear HZ1
      go_wp2_with (refine wpl_fresh rfl (.tmp 5) (.tmp 17) rfl _ _ rfl rfl (by kernel_rfl) rfl (by simp [Value.oneCell']) ?_)
      intro w2 k2 b2 s2
      have HS2 := HS.out.on b2
      clear HS hp c0 c1 c2 c3 c4 c5 c6 b2 s2
      obtain ⟨c0, c1, c2, c3, c4, c5, c6⟩ := k2.c7
      go_wp2_with (refine HS2.set.put rfl (.tmp 18) (.tmp 20) (.tmp 21) rfl rfl x.seq rfl rfl HZ2.out (by omega) ?_)
      intro w3 s3 g3
      have HS3 := HS2.up s3 g3
      rw [← HX.out] at HS3
      clear HS2 s3 g3 k2 c0 c1 c2 c3 c4 c5 c6 HX HZ2
      go_wp2_with fail
      go_roundg (ni - (kk + 1))
      case measure => omega
      case rel => exact ⟨kk + 1, by omega, by omega, by go_num, HS3⟩
    · have hltz : ¬ (kk : Int) < (ni : Int) := by omega
      have e1 : seqI q kk = seqH q 0 := by unfold seqI seqH; simp only [List.take_zero, List.map_nil, List.append_nil]; rw [List.take_of_length_le (by rw [← EI.out, List.length_map, NI.out]; omega)]
      rw [e1] at HS
      have H2 : Hid (OnI w wr #[tx q.name, .bool q.dur, .int .i64 q.depth, .int .i64 q.seq, .int .i64 q.tag, .slice ai ni ci, .slice ah nh ch] bm (ni + 0) (seqH q 0)) := by
        have := HS.out
        rw [show kk = ni by omega] at this
        exact this
      obtain ⟨wr, hwr⟩ : ∃ W, W = wr := ⟨_, rfl⟩
      subst hwr
      obtain ⟨d0, d1, d2, d3, d4, d5, d6⟩ := HS.out.blk.c7
      clear HS HI e1
      go_wp2_with fail
      clear d0 d1 d2 d3 d4 d5 d6
      go_loopg [7, 26] nh (fun gg _ s26 wy => ∃ k2 : Nat, k2 ≤ nh ∧ nh - k2 ≤ gg ∧ s26 = .int .i64 k2 ∧ Hid (OnI w wy #[tx q.name, .bool q.dur, .int .i64 q.depth, .int .i64 q.seq, .int .i64 q.tag, .slice ai ni ci, .slice ah nh ch] bm (ni + k2) (seqH q k2)))
      case atStart => exact ⟨0, Nat.zero_le _, by omega, rfl, H2.out⟩
      case round =>
        obtain ⟨k2, hk2, hg2, rfl, HS⟩ := hrel
        clear H2
        by_cases hl2 : k2 < nh
        · have hl2z : (k2 : Int) < (nh : Int) := by omega
          obtain ⟨b, o, pv, rfl, hz1, hp, c0, c1, c2, c3, c4, c5, c6, c7, c8, c9⟩ := hld_at HH.out HS.out.below (i := k2) (by rw [NH.out]; exact hl2)
          have HX : Hid (seqH q (k2 + 1) = seqH q k2 ++ [(zh[k2]'(by rw [NH.out]; exact hl2)).2.itm.seq]) := by
            show q.items.map (·.seq) ++ (q.held.take (k2 + 1)).map (·.itm.seq) = q.items.map (·.seq) ++ (q.held.take k2).map (·.itm.seq) ++ _
            rw [← EH.out, List.take_succ_eq_append_getElem (by rw [List.length_map, NH.out]; exact hl2), List.getElem_map, List.map_append, List.append_assoc]
            rfl
          have HZ1 := HZ.out (zh[k2]'(by rw [NH.out]; exact hl2)).2.itm.seq (List.mem_append_right _ (List.mem_map_of_mem (f := fun h : Hld => h.itm.seq) (by rw [← EH.out]; exact List.mem_map_of_mem (List.getElem_mem _))))
          generalize (zh[k2]'(by rw [NH.out]; exact hl2)).2 = x at *
          clear hz1
          obtain ⟨wt, hwt⟩ : ∃ W, W = wr := ⟨_, rfl⟩
          subst hwt
          obtain ⟨pa, pc, rfl⟩ := hp.shape
          have HZ2 : Hid (-9223372036854775808 ≤ x.itm.seq ∧ x.itm.seq ≤ 9223372036854775807) := HZ1
          clear HZ1
          go_wp2_with (refine wpl_fresh rfl (.tmp 7) (.tmp 29) rfl _ _ rfl rfl (by kernel_rfl) rfl (by simp [Value.oneCell']) ?_)
          intro w2 kx b2 s2
          have HS2 := HS.out.on b2
          clear HS hp c0 c1 c2 c3 c4 c5 c6 c7 c8 c9 b2 s2
          obtain ⟨c0, c1, c2, c3, c4, c5, c6, c7, c8, c9⟩ := kx.c10
          go_wp2_with (refine HS2.set.put rfl (.tmp 30) (.tmp 33) (.tmp 34) rfl rfl x.itm.seq rfl rfl HZ2.out (by omega) ?_)
          intro w3 s3 g3
          have HS3 := HS2.up s3 g3
          rw [← HX.out] at HS3
          clear HS2 s3 g3 kx c0 c1 c2 c3 c4 c5 c6 c7 c8 c9 HX HZ2
          go_wp2_with fail
          go_roundg (nh - (k2 + 1))
          case measure => omega
          case rel => exact ⟨k2 + 1, by omega, by omega, by go_num, HS3⟩
        · have hl2z : ¬ (k2 : Int) < (nh : Int) := by omega
          have e1 : seqH q k2 = seqs q := by unfold seqH; rw [List.take_of_length_le (by rw [← EH.out, List.length_map, NH.out]; omega)]; rfl
          rw [e1] at HS
          obtain ⟨d0, d1, d2, d3, d4, d5, d6⟩ := HS.out.blk.c7
          have hs := HS.out.set
          have hb := HS.out.below
          obtain ⟨wt, hwt⟩ : ∃ W, W = wr := ⟨_, rfl⟩
          subst hwt
          have hl := hL wt hb
          clear HS e1 HH
          go_wp2_with (refine hs.len rfl (.tmp 36) rfl rfl ?_)
          intro k hk1 hk2
          have HK : Hid (k = (seqs q).length ↔ (seqs q).Nodup) := hk2
          clear hk2 hk1
          go_wp2_with fail
          refine hl.mono ?_
          rintro e w5 ⟨rfl, b5⟩
          clear hl d0 d1 d2 d3 d4 d5 d6
          go_wp2
          go_ret
          refine ⟨ret_b ?_, nxt hb b5⟩
          have h1 := HK.out
          rw [HLN.out.1] at h1
          by_cases e : k = lenQ q
          · simp [e, h1.1 e]
          · have : ¬ (seqs q).Nodup := fun h => e (h1.2 h)
            have e' : ¬ (k : Int) = (lenQ q : Int) := by omega
            simp [e', this]
end Go.Proofs.YtlbcefocmdnlgaaGreatDoor
