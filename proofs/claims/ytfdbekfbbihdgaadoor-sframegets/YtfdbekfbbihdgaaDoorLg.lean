
/- The law of SframeGets: it answers true at any frame and any header. Conditions: those that each row states. -/
import Derived.Test.YtfdbekfbbihdgaaDoorSo
namespace Go.Proofs.YtfdbekfbbihdgaaDoor
open Go.RowKit Go.Lib
set_option maxRecDepth 100000
set_option linter.unusedSimpArgs false

theorem getL_app (n t : Bs) : ∀ H : List Hd, getL n (H ++ [(n, t)]) = some ((getL n H).getD t)
  | [] => by simp [getL]
  | x :: H => by
    rw [List.cons_append, getL, getL]
    split
    · rfl
    · exact getL_app n t H
theorem RdH.grownB {w w' : World} {v : Value} {l : List Hd} {q : Nat} (h : RdH w v l) (hne : ∀ b o c, v = .slice (some ⟨b, o, none⟩) l.length c → 0 < l.length → b ≠ q) (hg : w.grownBy w' (some q)) : RdH w' v l := by
  rcases h with h | ⟨b, o, c, rfl, hc, h⟩
  · exact .inl h
  · refine .inr ⟨b, o, c, rfl, hc, fun i hi => ?_⟩
    obtain ⟨h0, h1⟩ := h i hi
    have hb := World.block_lt_of_cell? w ⟨b, o + i * 2, none⟩ h0
    have hq := hne b o c rfl (by omega)
    have e := hg.block b hb (by simpa using hq)
    exact ⟨by simp only [World.cell?] at h0 ⊢; rw [e]; exact h0, by simp only [World.cell?] at h1 ⊢; rw [e]; exact h1⟩
theorem OwnH.grown' {w w' : World} {B q : Nat} {v : Value} {l : List Hd} (h : OwnH w B v l) (hg : w.grownBy w' (some q)) (hq : q < B) : OwnH w' B v l := h.grown hg (fun k hk => by cases hk; exact hq)
theorem grownBy_refl (w : World) (r : Option Nat) : w.grownBy w r := ⟨rfl, rfl, rfl, Nat.le_refl _, fun _ _ _ => rfl⟩
theorem appHG {o : Oper} {a : Act} {K : Act → World → Prop} {Q : Exit → Act → World → Prop} (s x : Operand)
    (ho : o.op = .call { callee := .builtin .append, args := #[s, x], argTypes := #[22, 22] }) (B : Nat) (v vx : Value) (l l2 : List Hd) (w : World)
    (hs : a.eval s = v) (hown : OwnH w B v l) (hx : a.eval x = vx) (hsrc : RdH w vx l2) (hn : l.length + l2.length ≤ 1000000000) (hB : B ≤ w.heap.size)
    (h : ∀ v' w', OwnH w' B v' (l ++ l2) → w.grownBy w' v.ownBlock → K (a.put o.dst v') w') : o.wp Tryd.prog a w K Q := by
  obtain ⟨i0, hi, hz0, hz1, hz2⟩ := info_parts info42
  rcases hsrc with ⟨⟨ad, c, rfl⟩, rfl⟩ | ⟨b, off, c, rfl, hc, hsrc⟩
  · have hrun : (Builtin.append_ #[22, 22] o.type #[v, .slice ad 0 c]).run Tryd.prog w = .ok v w := by
      rcases hown.2 with ⟨rfl, _⟩ | ⟨g, cap, cur, rfl, _, _, hnc, _⟩
      · cases ad <;> simp [Builtin.append_, run_underlying Tryd.underlying22, sizeOf, typeInfo, hi, Builtin.lenOf, Builtin.firstCells, loadCells, loadCellsFrom]
      · cases ad <;> simp [Builtin.append_, run_underlying Tryd.underlying22, sizeOf, typeInfo, hi, Builtin.lenOf, Builtin.firstCells, hnc, storeCells, loadCells, loadCellsFrom]
    unfold Oper.wp execOp
    simp only [ho, resolve, invoke, builtin, Sem.run_bind, Sem.run_pure, Result.andThen_ok, List.map_toArray, List.map_cons, List.map_nil, hs, hx, hrun]
    exact h v w (by rw [List.append_nil]; exact hown) (grownBy_refl _ _)
  · refine wp_append_own _ s x 22 ho B 42 i0 (.agg #[.string ⟨#[]⟩, .string ⟨#[]⟩]) 2 32 Tryd.underlying22 hi hz0 hz1 hz2 rfl (by decide) v l.length (cellsH l) hs hown ⟨b, off, none⟩ l2.length c (cellsH l2) hx (cellsH_len l2) ?_ (cellsH_one l2) (by unfold maxLen; omega) (by omega) hB ?_
    · intro j u hj
      rw [Addr.add_lit]
      exact hdAt_cells hsrc j u hj
    · intro v' w' h1 h2 _
      refine h v' w' ?_ h2
      unfold OwnH
      rw [List.length_append, cellsH_app]
      exact h1
theorem ownH_empty (w : World) (B : Nat) (hB : B ≤ w.heap.size) : OwnH (w.alloc (.cells #[] 42)) B (.slice (some ⟨w.heap.size, 0, none⟩) 0 0) [] :=
  World.ownsRow_made w #[] 0 hB (Nat.zero_le _) rfl
theorem ownH_one (w : World) (B : Nat) (h : Hd) (hB : B ≤ w.heap.size) : OwnH (w.alloc (.cells (hdA h) 42)) B (.slice (some ⟨w.heap.size, 0, none⟩) 1 1) [h] :=
  ⟨rfl, .inr ⟨w.heap.size, 1, hdA h, rfl, hB, heap_alloc_new w _, Nat.le_refl _, by unfold maxLen; omega, rfl, rfl⟩⟩
set_option maxHeartbeats 4000000 in
theorem gets_law (w : World) (c b n t : Bs) (hv : Value) (H : List Hd) (hr : RdH w hv H) (hl : H.length ≤ 9000000000000000000) (hcb : c.length + b.length ≤ 1000000000000000000) (hw : ∀ h ∈ H, h.1.length + h.2.length ≤ 1000000000000000000) (hV : Vars w.heap.size w) :
    Calls Tryd.prog 7 #[frV c hv b, .agg (hdA (n, t))] w fun e w' => e = .returned (.bool true) ∧ Below w.heap.size w w' := by
  obtain ⟨ha, hn, hc, rfl⟩ : ∃ a n c, hv = .slice a n c := by
    rcases hr with ⟨⟨a, cp, rfl⟩, rfl⟩ | ⟨g, o, cp, rfl, _⟩
    · exact ⟨_, _, _, rfl⟩
    · exact ⟨_, _, _, rfl⟩
  have b1 := below_new w (.cells #[str c, .slice ha hn hc, str b] 24)
  have k1 := Blk.new w #[str c, .slice ha hn hc, str b] 24
  have s1 : (w.alloc (.cells #[str c, .slice ha hn hc, str b] 24)).heap.size = w.heap.size + 1 := by simp
  generalize hw1 : w.alloc (.cells #[str c, .slice ha hn hc, str b] 24) = w1 at *
  have b2 := b1.trans ((below_new w1 (.cells #[str n, str t] 42)).mono b1.size)
  have k2 := Blk.new w1 #[str n, str t] 42
  have k12 := k1.alloc (.cells #[str n, str t] 42)
  have s2 : (w1.alloc (.cells #[str n, str t] 42)).heap.size = w.heap.size + 2 := by simp [s1]
  rw [s1] at k2
  generalize hw2 : w1.alloc (.cells #[str n, str t] 42) = w2 at *
  have W := wakes_any w2 ((hV.on b2).mono b2.size)
  have hr2 := hr.on (b2.mono (Nat.le_refl _))
  clear k1 b1
  go_enter Tryd.func7, Tryd.ntmps7
  go_wp2_with fail
  refine W.mono ?_
  rintro e w3 ⟨rfl, b3⟩
  have B3 := b2.trans (b3.mono b2.size)
  have k13 := k12.on b3
  have k23 := k2.on b3
  have hr3 := hr2.on b3
  have HV := heavy_any w3 c b _ H hr3 hl hcb hw
  have d0 := k13.cell 0
  have d1 := k13.cell 1
  have d2 := k13.cell 2
  simp only [List.getElem?_toArray, List.getElem?_cons_zero, List.getElem?_cons_succ] at d0 d1 d2
  clear W b3 k12 k2 hr2 hr
  go_wp2_with fail
  refine HV.mono ?_
  rintro e w4 ⟨rfl | ⟨rfl, hwt⟩, b4⟩
  · go_wp2
    go_ret
    exact ⟨rfl, B3.trans (b4.mono B3.size)⟩
  · have B4 := B3.trans (b4.mono B3.size)
    have k14 := k13.on b4
    have k24 := k23.on b4
    have hr4 := hr3.on b4
    have hlen := (wtL_mem H).1
    clear HV d0 d1 d2 k13 k23 hr3 b4 hcb hw hl
    have G1 := get_any w4 c b n _ H hr4 (by omega)
    have d0 := k14.cell 0
    have d1 := k14.cell 1
    have d2 := k14.cell 2
    have f0 := k24.cell 0
    simp only [List.getElem?_toArray, List.getElem?_cons_zero, List.getElem?_cons_succ] at d0 d1 d2 f0
    go_wp2_with fail
    refine G1.mono ?_
    rintro e w5 ⟨rfl, b5⟩
    have B5 := B4.trans (b5.mono B4.size)
    have k15 := k14.on b5
    have k25 := k24.on b5
    have hr5 := hr4.on b5
    clear G1 d0 d1 d2 f0 k14 k24 hr4 b5
    have hgv : ∃ (x : Bs) (y : Bool), getV n H = .tuple #[str x, .bool y] ∧ ((y = true ∧ getL n H = some x) ∨ (y = false ∧ x = [] ∧ getL n H = none)) := by
      unfold getV
      cases e : getL n H with
      | some x => exact ⟨x, true, rfl, .inl ⟨rfl, rfl⟩⟩
      | none => exact ⟨[], false, rfl, .inr ⟨rfl, rfl, rfl⟩⟩
    obtain ⟨x, y, hgv, hcase⟩ := hgv
    rw [hgv]
    have d0 := k15.cell 0
    have d1 := k15.cell 1
    have d2 := k15.cell 2
    simp only [List.getElem?_toArray, List.getElem?_cons_zero, List.getElem?_cons_succ] at d0 d1 d2
    go_upto_region 7 with fail
    have hq2 : ∀ b o cc, Value.slice ha hn hc = .slice (some ⟨b, o, none⟩) H.length cc → 0 < H.length → b ≠ w5.heap.size := fun b o cc e h0 => by
      rcases hr5 with ⟨_, h⟩ | ⟨b', o', c', e', _, h⟩
      · rw [h] at h0; exact absurd h0 (Nat.lt_irrefl _)
      · rw [e] at e'
        injection e' with e' _ _
        injection e' with e'
        injection e' with e' _ _
        have := World.block_lt_of_cell? w5 _ (h 0 h0).1
        subst e'
        exact Nat.ne_of_lt this
    have k6 := Blk.new w5 #[str c, .slice ha hn hc, str b] 24
    have k16 := k15.alloc (.cells #[str c, .slice ha hn hc, str b] 24)
    have k26 := k25.alloc (.cells #[str c, .slice ha hn hc, str b] 24)
    have hr6 := hr5.on (below_new w5 (.cells #[str c, .slice ha hn hc, str b] 24))
    have B6 := B5.trans ((below_new w5 (.cells #[str c, .slice ha hn hc, str b] 24)).mono B5.size)
    have s6 : (w5.alloc (.cells #[str c, .slice ha hn hc, str b] 24)).heap.size = w5.heap.size + 1 := by simp
    have l1 := k15.lt
    have l2 := k25.lt
    clear d0 d1 d2 k15 k25 hr5 B5
    generalize w5.alloc (.cells #[str c, .slice ha hn hc, str b] 24) = w6 at *
    refine wp_region_held (S := fun W => Blk W w.heap.size #[str c, .slice ha hn hc, str b] 24 ∧ Blk W (w.heap.size + 1) #[str n, str t] 42) hmix ?_
    show wpAnyH _ _ _ _ _ _ _ _ (World.drew _)
    have bw0 : Below w6.heap.size w6 w6.drew := (Below.refl _ w6).drew
    generalize w6.drew = W0 at *
    refine tks [1, 2, 4] [.pointer (some ⟨w.heap.size, 1, none⟩), .slice ha hn hc, .agg #[str n, str t]] 6 ?_ ⟨k16.on bw0, k26.on bw0⟩ ?_
    · simp only [tkY, tkf]
      refine ⟨.yes ?_, .yes ?_, .yes ?_, trivial⟩
      all_goals
        rintro W' ⟨h1, h2⟩
        have d1 := h1.cell 1
        have f0 := h2.cell 0
        have f1 := h2.cell 1
        simp only [List.getElem?_toArray, List.getElem?_cons_zero, List.getElem?_cons_succ] at d1 f0 f1
        go_simp
    simp only [tkA, tkf]
    refine wpAnyH_two (i := 0) (j := 5) (by kernel_rfl) rfl (by rfl) rfl (by rfl) (fun K hK => ?_) (fun K hK => ?_)
    · go_wp2_with fail
      have bw1 := bw0.alloc bw0.size (.cells #[] 42)
      have own0 := ownH_empty W0 w6.heap.size bw0.size
      refine hK _ _ ⟨k16.on bw1, k26.on bw1⟩ ?_
      clear hK K
      have ge0 := bw0.size
      have gs0 : W0.heap.size < (W0.alloc (.cells #[] 42)).heap.size := by simp
      generalize hg0 : W0.heap.size = g0 at *
      generalize W0.alloc (.cells #[] 42) = W1 at *
      refine wpAnyH_two (i := 3) (j := 5) (by kernel_rfl) rfl (by rfl) rfl (by rfl) (fun K hK => ?_) (fun K hK => ?_)
      · refine appHG (.tmp 22) (.tmp 24) rfl w6.heap.size (.slice (some ⟨g0, 0, none⟩) 0 0) (.slice ha hn hc) [] H W1 rfl own0 rfl (hr6.on bw1) (by simp; omega) bw1.size ?_
        intro v3 W2 ho3 gw3
        rw [List.nil_append] at ho3
        have bw2 := bw1.grown gw3 bw1.size (fun k hk => by have : g0 = k := Option.some.inj hk; omega)
        refine hK _ _ ⟨k16.on bw2, k26.on bw2⟩ ?_
        clear hK K own0 gw3
        refine ak 5 (fun K hK => ?_)
        go_wp2_with fail
        have bw3 := bw2.alloc bw2.size (.cells (hdA (n, t)) 42)
        have k5 := Blk.new W2 (hdA (n, t)) 42
        have ho3 := ho3.up (below_new W2 (.cells (hdA (n, t)) 42))
        refine hK _ _ ⟨k16.on bw3, k26.on bw3⟩ ?_
        clear hK K
        have ge5 := bw2.size
        have gs5 : W2.heap.size < (W2.alloc (.cells (hdA (n, t)) 42)).heap.size := by simp
        generalize hg5 : W2.heap.size = g5 at *
        generalize W2.alloc (.cells (hdA (n, t)) 42) = W3 at *
        refine ak 6 (fun K hK => ?_)
        have r5 : RdH W3 (.slice (some ⟨g5, 0, none⟩) 1 1) [(n, t)] := .inr ⟨g5, 0, 1, rfl, Nat.le_refl _, fun i hi => by
          have : i = 0 := by simpa using hi
          subst this
          exact ⟨k5.cell 0, k5.cell 1⟩⟩
        refine appHG (.tmp 25) (.tmp 27) rfl w6.heap.size v3 (.slice (some ⟨g5, 0, none⟩) 1 1) H [(n, t)] W3 rfl ho3 rfl r5 (by simp; omega) bw3.size ?_
        intro v6 W9 ho9 gw9
        have bw9 := bw3.grown gw9 bw3.size (fun k hk => (World.ownsRow.lt ho3 k hk).1)
        refine hK _ _ ⟨k16.on bw9, k26.on bw9⟩ ?_
        clear hK K
        refine ak 7 (fun K hK => ?_)
        go_wp2_with fail
        refine hK _ _ ⟨k16.on bw9, k26.on bw9⟩ ?_
        clear hK K
        refine ak 8 (fun K hK => ?_)
        obtain ⟨va, vn, vc, rfl⟩ : ∃ a n c, v6 = .slice a n c := by
          obtain ⟨_, h⟩ := ho9
          rcases h with ⟨rfl, _⟩ | ⟨g, cap, cur, rfl, _⟩
          · exact ⟨_, _, _, rfl⟩
          · exact ⟨_, _, _, rfl⟩
        refine opw_set (.tmp 29) (.tmp 28) rfl w5.heap.size 1 _ rfl rfl (k6.on bw9) (by kernel_rfl) rfl rfl (by simp) ?_
        intro W10 k10 g10 s10
        have k10 : Blk W10 w5.heap.size #[str c, .slice va vn vc, str b] 24 := k10
        have k110 := (k16.on bw9).grown g10 (by simp; omega)
        have k210 := (k26.on bw9).grown g10 (by simp; omega)
        have hr10 : RdH W10 (.slice va vn vc) (H ++ [(n, t)]) := (ho9.grown' g10 (by omega)).rd
        have hh10 : RdH W10 (.slice ha hn hc) H := RdH.grownB (hr6.on bw9) hq2 g10
        have B10 : Below w.heap.size w W10 := (B6.trans (bw9.mono B6.size)).grown g10 (by have := bw9.size; have := B6.size; omega) (fun k hk => by cases hk; omega)
        refine hK _ _ ⟨k110, k210⟩ ?_
        clear hK K
        refine wpAnyH_done (by kernel_rfl) ?_ _
        have hq10 := k10.lt
        have G2 := get_any W10 c b n (.slice va vn vc) (H ++ [(n, t)]) hr10 (by simp; omega)
        have hg2 : getV n (H ++ [(n, t)]) = .tuple #[str ((getL n H).getD t), .bool true] := by unfold getV; rw [getL_app]
        rw [hg2] at G2
        have d0 := k10.cell 0
        have d1 := k10.cell 1
        have d2 := k10.cell 2
        have f0 := k210.cell 0
        have f1 := k210.cell 1
        simp only [List.getElem?_toArray, List.getElem?_cons_zero, List.getElem?_cons_succ] at d0 d1 d2 f0 f1
        clear hr10 hg2
        go_wp2_with fail
        refine G2.mono ?_
        rintro e W11 ⟨rfl, b11⟩
        have k11 := k10.on b11
        have k111 := k110.on b11
        have k211 := k210.on b11
        have hh11 := hh10.on b11
        have B11 := B10.trans (b11.mono B10.size)
        have d0 := k111.cell 0
        have d1 := k111.cell 1
        have d2 := k111.cell 2
        have f0 := k211.cell 0
        have f1 := k211.cell 1
        simp only [List.getElem?_toArray, List.getElem?_cons_zero, List.getElem?_cons_succ] at d0 d1 d2 f0 f1
        have hnow : (y = true ∧ (getL n H).getD t = x) ∨ (y = false ∧ x = [] ∧ t = (getL n H).getD t) := by
          rcases hcase with ⟨h1, h2⟩ | ⟨h1, h2, h3⟩
          · exact .inl ⟨h1, by rw [h2]; rfl⟩
          · exact .inr ⟨h1, h2, by rw [h3]; rfl⟩
        generalize (getL n H).getD t = z at *
        clear G2 hcase k10 k110 k210 hh10 b11
        have r12 : RdH (W11.alloc (.cells (hdA (n, t)) 42)) (.slice ha hn hc) H := hh11.on (below_new W11 _)
        have o12 := ownH_one W11 W11.heap.size (n, t) (Nat.le_refl _)
        have B12 := B11.trans ((below_new W11 (.cells (hdA (n, t)) 42)).mono B11.size)
        have k12 := k11.alloc (.cells (hdA (n, t)) 42)
        have k212 := k211.alloc (.cells (hdA (n, t)) 42)
        have q1 := (k111.alloc (.cells #[str n, str t] 42)).cell 1
        simp only [List.getElem?_toArray, List.getElem?_cons_zero, List.getElem?_cons_succ] at q1
        have hl11 := k11.lt
        have hl211 := k211.lt
        rcases hnow with ⟨rfl, rfl⟩ | ⟨rfl, rfl, rfl⟩
        all_goals
          go_wp2_with (first | (at_builtin; refine wpList_plain rfl fun K hK => ?_; refine appHG (.tmp 62) (.tmp 64) rfl W11.heap.size (.slice (some ⟨W11.heap.size, 0, none⟩) 1 1) (.slice ha hn hc) [(n, t)] H _ rfl o12 rfl r12 (by simp; omega) (by simp) ?_; intro v13 W13 ho13 gw13; obtain ⟨xa, xn, xc, rfl⟩ := ho13.shape; have k13 := k12.grown gw13 (fun e => by have : w5.heap.size = W11.heap.size := Option.some.inj e; omega); refine hK _ _ ?_) | (refine wpl_set rfl (.tmp 66) (.tmp 65) rfl w5.heap.size 1 _ rfl rfl k13 (by kernel_rfl) rfl rfl (by simp) ?_))
          intro W14 k14 g14 s14
          have B13 := B12.grown gw13 (by have := B11.size; simp; omega) (fun k hk => by have : W11.heap.size = k := Option.some.inj hk; have := B11.size; omega)
          have k213 := k212.grown gw13 (fun e => by have : w.heap.size + 1 = W11.heap.size := Option.some.inj e; omega)
          have k14 : Blk W14 w5.heap.size #[str c, .slice xa xn xc, str b] 24 := k14
          have k214 := k213.grown g14 (by simp; omega)
          have hr14 : RdH W14 (.slice xa xn xc) ((n, t) :: H) := (ho13.grown' g14 (by omega)).rd
          have B14 := B13.grown g14 (by have := B13.size; omega) (fun k hk => by cases hk; omega)
          have G3 := get_any W14 c b n (.slice xa xn xc) ((n, t) :: H) hr14 (by simp; omega)
          have hg3 : getV n ((n, t) :: H) = .tuple #[str t, .bool true] := by unfold getV; rw [getL, if_pos rfl]
          rw [hg3] at G3
          have d0 := k14.cell 0
          have d1 := k14.cell 1
          have d2 := k14.cell 2
          have f0 := k214.cell 0
          have f1 := k214.cell 1
          simp only [List.getElem?_toArray, List.getElem?_cons_zero, List.getElem?_cons_succ] at d0 d1 d2 f0 f1
          go_wp2_with fail
          refine G3.mono ?_
          rintro e W15 ⟨rfl, b15⟩
          have k215 := k214.on b15
          have f1 := k215.cell 1
          simp only [List.getElem?_toArray, List.getElem?_cons_zero, List.getElem?_cons_succ] at f1
          go_wp2
          go_ret
          exact ⟨rfl, B14.trans (b15.mono B14.size)⟩
      · go_wp2_with fail
        have bw2 := bw1.alloc bw1.size (.cells (hdA (n, t)) 42)
        have k5 := Blk.new W1 (hdA (n, t)) 42
        have own0 := own0.up (below_new W1 (.cells (hdA (n, t)) 42))
        refine hK _ _ ⟨k16.on bw2, k26.on bw2⟩ ?_
        clear hK K
        have ge5 := bw1.size
        have gs5 : W1.heap.size < (W1.alloc (.cells (hdA (n, t)) 42)).heap.size := by simp
        generalize hg5 : W1.heap.size = g5 at *
        generalize W1.alloc (.cells (hdA (n, t)) 42) = W2 at *
        refine ak 3 (fun K hK => ?_)
        refine appHG (.tmp 22) (.tmp 24) rfl w6.heap.size (.slice (some ⟨g0, 0, none⟩) 0 0) (.slice ha hn hc) [] H W2 rfl own0 rfl (hr6.on bw2) (by simp; omega) bw2.size ?_
        intro v3 W3 ho3 gw3
        rw [List.nil_append] at ho3
        have bw3 := bw2.grown gw3 bw2.size (fun k hk => by have : g0 = k := Option.some.inj hk; omega)
        have k5 := k5.grown gw3 (fun e => by have : g5 = g0 := Option.some.inj e; omega)
        refine hK _ _ ⟨k16.on bw3, k26.on bw3⟩ ?_
        clear hK K own0 gw3
        refine ak 6 (fun K hK => ?_)
        have r5 : RdH W3 (.slice (some ⟨g5, 0, none⟩) 1 1) [(n, t)] := .inr ⟨g5, 0, 1, rfl, Nat.le_refl _, fun i hi => by
          have : i = 0 := by simpa using hi
          subst this
          exact ⟨k5.cell 0, k5.cell 1⟩⟩
        refine appHG (.tmp 25) (.tmp 27) rfl w6.heap.size v3 (.slice (some ⟨g5, 0, none⟩) 1 1) H [(n, t)] W3 rfl ho3 rfl r5 (by simp; omega) bw3.size ?_
        intro v6 W9 ho9 gw9
        have bw9 := bw3.grown gw9 bw3.size (fun k hk => (World.ownsRow.lt ho3 k hk).1)
        refine hK _ _ ⟨k16.on bw9, k26.on bw9⟩ ?_
        clear hK K
        refine ak 7 (fun K hK => ?_)
        go_wp2_with fail
        refine hK _ _ ⟨k16.on bw9, k26.on bw9⟩ ?_
        clear hK K
        refine ak 8 (fun K hK => ?_)
        obtain ⟨va, vn, vc, rfl⟩ : ∃ a n c, v6 = .slice a n c := by
          obtain ⟨_, h⟩ := ho9
          rcases h with ⟨rfl, _⟩ | ⟨g, cap, cur, rfl, _⟩
          · exact ⟨_, _, _, rfl⟩
          · exact ⟨_, _, _, rfl⟩
        refine opw_set (.tmp 29) (.tmp 28) rfl w5.heap.size 1 _ rfl rfl (k6.on bw9) (by kernel_rfl) rfl rfl (by simp) ?_
        intro W10 k10 g10 s10
        have k10 : Blk W10 w5.heap.size #[str c, .slice va vn vc, str b] 24 := k10
        have k110 := (k16.on bw9).grown g10 (by simp; omega)
        have k210 := (k26.on bw9).grown g10 (by simp; omega)
        have hr10 : RdH W10 (.slice va vn vc) (H ++ [(n, t)]) := (ho9.grown' g10 (by omega)).rd
        have hh10 : RdH W10 (.slice ha hn hc) H := RdH.grownB (hr6.on bw9) hq2 g10
        have B10 : Below w.heap.size w W10 := (B6.trans (bw9.mono B6.size)).grown g10 (by have := bw9.size; have := B6.size; omega) (fun k hk => by cases hk; omega)
        refine hK _ _ ⟨k110, k210⟩ ?_
        clear hK K
        refine wpAnyH_done (by kernel_rfl) ?_ _
        have hq10 := k10.lt
        have G2 := get_any W10 c b n (.slice va vn vc) (H ++ [(n, t)]) hr10 (by simp; omega)
        have hg2 : getV n (H ++ [(n, t)]) = .tuple #[str ((getL n H).getD t), .bool true] := by unfold getV; rw [getL_app]
        rw [hg2] at G2
        have d0 := k10.cell 0
        have d1 := k10.cell 1
        have d2 := k10.cell 2
        have f0 := k210.cell 0
        have f1 := k210.cell 1
        simp only [List.getElem?_toArray, List.getElem?_cons_zero, List.getElem?_cons_succ] at d0 d1 d2 f0 f1
        clear hr10 hg2
        go_wp2_with fail
        refine G2.mono ?_
        rintro e W11 ⟨rfl, b11⟩
        have k11 := k10.on b11
        have k111 := k110.on b11
        have k211 := k210.on b11
        have hh11 := hh10.on b11
        have B11 := B10.trans (b11.mono B10.size)
        have d0 := k111.cell 0
        have d1 := k111.cell 1
        have d2 := k111.cell 2
        have f0 := k211.cell 0
        have f1 := k211.cell 1
        simp only [List.getElem?_toArray, List.getElem?_cons_zero, List.getElem?_cons_succ] at d0 d1 d2 f0 f1
        have hnow : (y = true ∧ (getL n H).getD t = x) ∨ (y = false ∧ x = [] ∧ t = (getL n H).getD t) := by
          rcases hcase with ⟨h1, h2⟩ | ⟨h1, h2, h3⟩
          · exact .inl ⟨h1, by rw [h2]; rfl⟩
          · exact .inr ⟨h1, h2, by rw [h3]; rfl⟩
        generalize (getL n H).getD t = z at *
        clear G2 hcase k10 k110 k210 hh10 b11
        have r12 : RdH (W11.alloc (.cells (hdA (n, t)) 42)) (.slice ha hn hc) H := hh11.on (below_new W11 _)
        have o12 := ownH_one W11 W11.heap.size (n, t) (Nat.le_refl _)
        have B12 := B11.trans ((below_new W11 (.cells (hdA (n, t)) 42)).mono B11.size)
        have k12 := k11.alloc (.cells (hdA (n, t)) 42)
        have k212 := k211.alloc (.cells (hdA (n, t)) 42)
        have q1 := (k111.alloc (.cells #[str n, str t] 42)).cell 1
        simp only [List.getElem?_toArray, List.getElem?_cons_zero, List.getElem?_cons_succ] at q1
        have hl11 := k11.lt
        have hl211 := k211.lt
        rcases hnow with ⟨rfl, rfl⟩ | ⟨rfl, rfl, rfl⟩
        all_goals
          go_wp2_with (first | (at_builtin; refine wpList_plain rfl fun K hK => ?_; refine appHG (.tmp 62) (.tmp 64) rfl W11.heap.size (.slice (some ⟨W11.heap.size, 0, none⟩) 1 1) (.slice ha hn hc) [(n, t)] H _ rfl o12 rfl r12 (by simp; omega) (by simp) ?_; intro v13 W13 ho13 gw13; obtain ⟨xa, xn, xc, rfl⟩ := ho13.shape; have k13 := k12.grown gw13 (fun e => by have : w5.heap.size = W11.heap.size := Option.some.inj e; omega); refine hK _ _ ?_) | (refine wpl_set rfl (.tmp 66) (.tmp 65) rfl w5.heap.size 1 _ rfl rfl k13 (by kernel_rfl) rfl rfl (by simp) ?_))
          intro W14 k14 g14 s14
          have B13 := B12.grown gw13 (by have := B11.size; simp; omega) (fun k hk => by have : W11.heap.size = k := Option.some.inj hk; have := B11.size; omega)
          have k213 := k212.grown gw13 (fun e => by have : w.heap.size + 1 = W11.heap.size := Option.some.inj e; omega)
          have k14 : Blk W14 w5.heap.size #[str c, .slice xa xn xc, str b] 24 := k14
          have k214 := k213.grown g14 (by simp; omega)
          have hr14 : RdH W14 (.slice xa xn xc) ((n, t) :: H) := (ho13.grown' g14 (by omega)).rd
          have B14 := B13.grown g14 (by have := B13.size; omega) (fun k hk => by cases hk; omega)
          have G3 := get_any W14 c b n (.slice xa xn xc) ((n, t) :: H) hr14 (by simp; omega)
          have hg3 : getV n ((n, t) :: H) = .tuple #[str t, .bool true] := by unfold getV; rw [getL, if_pos rfl]
          rw [hg3] at G3
          have d0 := k14.cell 0
          have d1 := k14.cell 1
          have d2 := k14.cell 2
          have f0 := k214.cell 0
          have f1 := k214.cell 1
          simp only [List.getElem?_toArray, List.getElem?_cons_zero, List.getElem?_cons_succ] at d0 d1 d2 f0 f1
          go_wp2_with fail
          refine G3.mono ?_
          rintro e W15 ⟨rfl, b15⟩
          have k215 := k214.on b15
          have f1 := k215.cell 1
          simp only [List.getElem?_toArray, List.getElem?_cons_zero, List.getElem?_cons_succ] at f1
          go_wp2
          go_ret
          exact ⟨rfl, B14.trans (b15.mono B14.size)⟩
    · go_wp2_with fail
      have bw1 := bw0.alloc bw0.size (.cells (hdA (n, t)) 42)
      have k5 := Blk.new W0 (hdA (n, t)) 42
      refine hK _ _ ⟨k16.on bw1, k26.on bw1⟩ ?_
      clear hK K
      have ge5 := bw0.size
      have gs5 : W0.heap.size < (W0.alloc (.cells (hdA (n, t)) 42)).heap.size := by simp
      generalize hg5 : W0.heap.size = g5 at *
      generalize W0.alloc (.cells (hdA (n, t)) 42) = W1 at *
      refine ak 0 (fun K hK => ?_)
      go_wp2_with fail
      have bw2 := bw1.alloc bw1.size (.cells #[] 42)
      have own0 := ownH_empty W1 w6.heap.size bw1.size
      have k5 := k5.alloc (.cells #[] 42)
      refine hK _ _ ⟨k16.on bw2, k26.on bw2⟩ ?_
      clear hK K
      have ge0 := bw1.size
      have gs0 : W1.heap.size < (W1.alloc (.cells #[] 42)).heap.size := by simp
      generalize hg0 : W1.heap.size = g0 at *
      generalize W1.alloc (.cells #[] 42) = W2 at *
      refine ak 3 (fun K hK => ?_)
      refine appHG (.tmp 22) (.tmp 24) rfl w6.heap.size (.slice (some ⟨g0, 0, none⟩) 0 0) (.slice ha hn hc) [] H W2 rfl own0 rfl (hr6.on bw2) (by simp; omega) bw2.size ?_
      intro v3 W3 ho3 gw3
      rw [List.nil_append] at ho3
      have bw3 := bw2.grown gw3 bw2.size (fun k hk => by have : g0 = k := Option.some.inj hk; omega)
      have k5 := k5.grown gw3 (fun e => by have : g5 = g0 := Option.some.inj e; omega)
      refine hK _ _ ⟨k16.on bw3, k26.on bw3⟩ ?_
      clear hK K own0 gw3
      refine ak 6 (fun K hK => ?_)
      have r5 : RdH W3 (.slice (some ⟨g5, 0, none⟩) 1 1) [(n, t)] := .inr ⟨g5, 0, 1, rfl, Nat.le_refl _, fun i hi => by
        have : i = 0 := by simpa using hi
        subst this
        exact ⟨k5.cell 0, k5.cell 1⟩⟩
      refine appHG (.tmp 25) (.tmp 27) rfl w6.heap.size v3 (.slice (some ⟨g5, 0, none⟩) 1 1) H [(n, t)] W3 rfl ho3 rfl r5 (by simp; omega) bw3.size ?_
      intro v6 W9 ho9 gw9
      have bw9 := bw3.grown gw9 bw3.size (fun k hk => (World.ownsRow.lt ho3 k hk).1)
      refine hK _ _ ⟨k16.on bw9, k26.on bw9⟩ ?_
      clear hK K
      refine ak 7 (fun K hK => ?_)
      go_wp2_with fail
      refine hK _ _ ⟨k16.on bw9, k26.on bw9⟩ ?_
      clear hK K
      refine ak 8 (fun K hK => ?_)
      obtain ⟨va, vn, vc, rfl⟩ : ∃ a n c, v6 = .slice a n c := by
        obtain ⟨_, h⟩ := ho9
        rcases h with ⟨rfl, _⟩ | ⟨g, cap, cur, rfl, _⟩
        · exact ⟨_, _, _, rfl⟩
        · exact ⟨_, _, _, rfl⟩
      refine opw_set (.tmp 29) (.tmp 28) rfl w5.heap.size 1 _ rfl rfl (k6.on bw9) (by kernel_rfl) rfl rfl (by simp) ?_
      intro W10 k10 g10 s10
      have k10 : Blk W10 w5.heap.size #[str c, .slice va vn vc, str b] 24 := k10
      have k110 := (k16.on bw9).grown g10 (by simp; omega)
      have k210 := (k26.on bw9).grown g10 (by simp; omega)
      have hr10 : RdH W10 (.slice va vn vc) (H ++ [(n, t)]) := (ho9.grown' g10 (by omega)).rd
      have hh10 : RdH W10 (.slice ha hn hc) H := RdH.grownB (hr6.on bw9) hq2 g10
      have B10 : Below w.heap.size w W10 := (B6.trans (bw9.mono B6.size)).grown g10 (by have := bw9.size; have := B6.size; omega) (fun k hk => by cases hk; omega)
      refine hK _ _ ⟨k110, k210⟩ ?_
      clear hK K
      refine wpAnyH_done (by kernel_rfl) ?_ _
      have hq10 := k10.lt
      have G2 := get_any W10 c b n (.slice va vn vc) (H ++ [(n, t)]) hr10 (by simp; omega)
      have hg2 : getV n (H ++ [(n, t)]) = .tuple #[str ((getL n H).getD t), .bool true] := by unfold getV; rw [getL_app]
      rw [hg2] at G2
      have d0 := k10.cell 0
      have d1 := k10.cell 1
      have d2 := k10.cell 2
      have f0 := k210.cell 0
      have f1 := k210.cell 1
      simp only [List.getElem?_toArray, List.getElem?_cons_zero, List.getElem?_cons_succ] at d0 d1 d2 f0 f1
      clear hr10 hg2
      go_wp2_with fail
      refine G2.mono ?_
      rintro e W11 ⟨rfl, b11⟩
      have k11 := k10.on b11
      have k111 := k110.on b11
      have k211 := k210.on b11
      have hh11 := hh10.on b11
      have B11 := B10.trans (b11.mono B10.size)
      have d0 := k111.cell 0
      have d1 := k111.cell 1
      have d2 := k111.cell 2
      have f0 := k211.cell 0
      have f1 := k211.cell 1
      simp only [List.getElem?_toArray, List.getElem?_cons_zero, List.getElem?_cons_succ] at d0 d1 d2 f0 f1
      have hnow : (y = true ∧ (getL n H).getD t = x) ∨ (y = false ∧ x = [] ∧ t = (getL n H).getD t) := by
        rcases hcase with ⟨h1, h2⟩ | ⟨h1, h2, h3⟩
        · exact .inl ⟨h1, by rw [h2]; rfl⟩
        · exact .inr ⟨h1, h2, by rw [h3]; rfl⟩
      generalize (getL n H).getD t = z at *
      clear G2 hcase k10 k110 k210 hh10 b11
      have r12 : RdH (W11.alloc (.cells (hdA (n, t)) 42)) (.slice ha hn hc) H := hh11.on (below_new W11 _)
      have o12 := ownH_one W11 W11.heap.size (n, t) (Nat.le_refl _)
      have B12 := B11.trans ((below_new W11 (.cells (hdA (n, t)) 42)).mono B11.size)
      have k12 := k11.alloc (.cells (hdA (n, t)) 42)
      have k212 := k211.alloc (.cells (hdA (n, t)) 42)
      have q1 := (k111.alloc (.cells #[str n, str t] 42)).cell 1
      simp only [List.getElem?_toArray, List.getElem?_cons_zero, List.getElem?_cons_succ] at q1
      have hl11 := k11.lt
      have hl211 := k211.lt
      rcases hnow with ⟨rfl, rfl⟩ | ⟨rfl, rfl, rfl⟩
      all_goals
        go_wp2_with (first | (at_builtin; refine wpList_plain rfl fun K hK => ?_; refine appHG (.tmp 62) (.tmp 64) rfl W11.heap.size (.slice (some ⟨W11.heap.size, 0, none⟩) 1 1) (.slice ha hn hc) [(n, t)] H _ rfl o12 rfl r12 (by simp; omega) (by simp) ?_; intro v13 W13 ho13 gw13; obtain ⟨xa, xn, xc, rfl⟩ := ho13.shape; have k13 := k12.grown gw13 (fun e => by have : w5.heap.size = W11.heap.size := Option.some.inj e; omega); refine hK _ _ ?_) | (refine wpl_set rfl (.tmp 66) (.tmp 65) rfl w5.heap.size 1 _ rfl rfl k13 (by kernel_rfl) rfl rfl (by simp) ?_))
        intro W14 k14 g14 s14
        have B13 := B12.grown gw13 (by have := B11.size; simp; omega) (fun k hk => by have : W11.heap.size = k := Option.some.inj hk; have := B11.size; omega)
        have k213 := k212.grown gw13 (fun e => by have : w.heap.size + 1 = W11.heap.size := Option.some.inj e; omega)
        have k14 : Blk W14 w5.heap.size #[str c, .slice xa xn xc, str b] 24 := k14
        have k214 := k213.grown g14 (by simp; omega)
        have hr14 : RdH W14 (.slice xa xn xc) ((n, t) :: H) := (ho13.grown' g14 (by omega)).rd
        have B14 := B13.grown g14 (by have := B13.size; omega) (fun k hk => by cases hk; omega)
        have G3 := get_any W14 c b n (.slice xa xn xc) ((n, t) :: H) hr14 (by simp; omega)
        have hg3 : getV n ((n, t) :: H) = .tuple #[str t, .bool true] := by unfold getV; rw [getL, if_pos rfl]
        rw [hg3] at G3
        have d0 := k14.cell 0
        have d1 := k14.cell 1
        have d2 := k14.cell 2
        have f0 := k214.cell 0
        have f1 := k214.cell 1
        simp only [List.getElem?_toArray, List.getElem?_cons_zero, List.getElem?_cons_succ] at d0 d1 d2 f0 f1
        go_wp2_with fail
        refine G3.mono ?_
        rintro e W15 ⟨rfl, b15⟩
        have k215 := k214.on b15
        have f1 := k215.cell 1
        simp only [List.getElem?_toArray, List.getElem?_cons_zero, List.getElem?_cons_succ] at f1
        go_wp2
        go_ret
        exact ⟨rfl, B14.trans (b15.mono B14.size)⟩
end Go.Proofs.YtfdbekfbbihdgaaDoor
