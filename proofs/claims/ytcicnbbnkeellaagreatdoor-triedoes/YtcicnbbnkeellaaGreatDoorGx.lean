/- (*node).grow: the walk. Conditions: those that each row states. -/
import Derived.Test.YtcicnbbnkeellaaGreatDoorGr
namespace Go.Proofs.YtcicnbbnkeellaaGreatDoor
open Go.RowKit Go.Shelf
attribute [local go_sem] Oper.semAt_some
set_option maxRecDepth 100000

set_option maxHeartbeats 2000000 in
theorem grow_any (hix : IdxDot) (hcl : ClnW) (w : World) {N : Nat} {T : Tr} (h : TrW w N T) {nd : Nd} (hp : T [] = some nd) (l : List UInt8) (hl : l.length ≤ 64) (hn : (wordsL l).length ≤ 8) (hN : N ≤ 1000000) :
    Calls Tryz.prog 24 #[ptrO (some nd.q), str l] w fun e w' => ∃ T' nx, e = .returned (ptrO (some nx.q)) ∧ T' (wordsL l) = some nx ∧ TrW w' (N + 8) T' ∧ (∀ p, idsAt T' p = idsAt T p) ∧ (∀ p nd, T p = some nd → T' p = some nd) ∧ Fr (XT T) (XT T') w w' := by
  have hG := GrS.start h hp l
  have hN2 := (gwW_new w nd.q l).2.2
  have hsz := gwW_size w nd.q l
  have hSp := split_w (w.alloc (.cells #[ptrO (some nd.q)] 47)) l
  have H1 : Hid (GrS w (gwW w nd.q l) N T [] T nd) := hG
  have H2 : Hid (SqC l (w.heap.size + 2) (w.heap.size + 1) (w.heap.size + 3) 0 (gwW w nd.q l)) := hN2
  clear hG hN2
  simp only [World.size_alloc] at hSp
  simp only [ptrO, str] at hSp
  generalize hRR : (fun e w' => ∃ T' nx, e = Ending.returned (ptrO (some nx.q)) ∧ T' (wordsL l) = some nx ∧ TrW w' (N + 8) T' ∧ (∀ p, idsAt T' p = idsAt T p) ∧ (∀ p nd, T p = some nd → T' p = some nd) ∧ Fr (XT T) (XT T') w w') = RR
  have HRR : Hid ((fun e w' => ∃ T' nx, e = Ending.returned (ptrO (some nx.q)) ∧ T' (wordsL l) = some nx ∧ TrW w' (N + 8) T' ∧ (∀ p, idsAt T' p = idsAt T p) ∧ (∀ p nd, T p = some nd → T' p = some nd) ∧ Fr (XT T) (XT T') w w') = RR) := hRR
  clear hRR
  simp only [ptrO, str]
  refine calls_of_wpF Tryz.func24 rfl ?_
  simp only [Tryz.ntmps24, List.size_toArray, List.length_cons, List.length_nil, Nat.reduceAdd, Nat.reduceSub, Array.replicate_succ, Array.replicate_zero, List.push_toArray, List.append_toArray, List.nil_append, List.cons_append]
  refine wpF_seq (wpF_of_wp ?_)
  go_wp2
  refine wpF_seq (wpF_seq (wpF_of_wp ?_))
  go_wp2_with (go_at_call 31; refine hSp.mono ?_; rintro e w1 ⟨rfl, hw1⟩)
  simp only [Nat.add_assoc, Nat.reduceAdd]
  show wpF Tryz.prog 24 _ _ _ (gwW w nd.q l)
  clear hw1 hSp
  generalize gwW w nd.q l = W0 at *
  refine wpF_block (wpF_range rfl (enters_of Tryz.func77 (by kernel_rfl) rfl) (split_iter hix l (w.heap.size + 2) (w.heap.size + 1) (w.heap.size + 3) (by omega) (by omega)) (fun _ => rfl)
    (fun k W => ∃ T' nk, GrS w W N T ((wordsL l).take k) T' nk) (fun W => False) ?hZ ?hI ?hX ?hC ?h0
    (fun k => { tmps := #[.pointer (some ⟨nd.q, 0, none⟩), .string ⟨l.toArray⟩, .pointer (some ⟨w.heap.size, 0, none⟩), undef, .pointer none, str ((wordsL l).getD k []), .string ⟨l.toArray⟩, .func (.func 77) #[] #[.pointer (some ⟨w.heap.size + 2, 0, none⟩), .pointer (some ⟨w.heap.size + 1, 0, none⟩), .pointer (some ⟨w.heap.size + 3, 0, none⟩)], str ((wordsL l).getD k []), undef, undef, undef, undef, undef, undef, undef, undef, undef, undef, undef, undef, undef, undef, undef, undef, undef, undef, undef, undef, undef], defers := [] }) ?assign ?body ?done ?stop)
  case hZ => intro b hb; omega
  case hI =>
    rintro k A B ⟨T', nk, h1⟩ hc
    exact ⟨T', nk, h1.chg hc (fun b hb => by omega)⟩
  case hX =>
    rintro A B h1 hc
    exact h1
  case hC =>
    rintro k A B hc hb
    exact ⟨(hb _ (by omega)).trans hc.s, (hb _ (by omega)).trans hc.p, (hb _ (by omega)).trans hc.v⟩
  case h0 =>
    intro W hb hs
    refine ⟨⟨T, nd, ?_⟩, ?_⟩
    · have h3 := H1.out
      have hbb : ∀ b, b < w.heap.size + 4 → W.heap[b]? = W0.heap[b]? := fun b hb' => hb.block b (by omega)
      exact ⟨hb.os.trans h3.os, hb.tape.trans h3.tape, hb.output.trans h3.output, by omega, fun b h4 h5 => (hbb b (by omega)).trans (h3.keep b h4 h5), h3.new, (hbb _ (by omega)).trans h3.b0, h3.at', h3.tr.below hb, h3.ext, h3.ids⟩
    · exact ⟨(hb.block _ (by omega)).trans H2.out.s, (hb.block _ (by omega)).trans H2.out.p, (hb.block _ (by omega)).trans H2.out.v⟩
  case assign =>
    intro lo k W K hK
    simp only [str] at hK ⊢
    gi_wp2
    exact hK
  case body =>
    rintro lo k W hk ⟨T', nk, hS⟩ hC ⟨rc, hL⟩
    have hat := hS.tr.at' _ nk hS.at'
    obtain ⟨c0, _, _, _⟩ := cell_q hat.cells
    have d0 := (cell_1 hS.b0).1
    have f0 := (cell_1 hS.b0).2
    have hgd : (wordsL l).getD k [] = (wordsL l)[k] := by rw [List.getD_eq_getElem?_getD, List.getElem?_eq_getElem hk]; rfl
    have htk : (wordsL l).take (k + 1) = (wordsL l).take k ++ [(wordsL l).getD k []] := by rw [hgd, List.take_succ_eq_append_getElem hk]
    have hlw : ((wordsL l).getD k []).length ≤ 64 ∧ ∀ c ∈ (wordsL l).getD k [], c ≠ 46 := by
      rw [hgd]
      exact ⟨Nat.le_trans (words_len_le l _ (List.getElem_mem hk)) hl, fun c hc => (words_sub l _ (List.getElem_mem hk) c hc).2⟩
    have hwl : ((wordsL l).getD k []).length ≤ maxLen := by unfold maxLen; omega
    have hlk := hat.map.look hwl
    have hDs : w.heap.size + 6 ≤ W.heap.size := by have := lt_of_some hL; omega
    rw [htk]
    have hpl : ((wordsL l).take k).length < 8 := by rw [List.length_take]; omega
    cases hx : T' ((wordsL l).take k ++ [(wordsL l).getD k []]) with
    | some nk2 =>
      rw [hx, Option.map_some] at hlk
      have HP := hS.go hx
      have HS : Hid _ := HP
      have HC : Hid (SqC l (w.heap.size + 2) (w.heap.size + 1) (w.heap.size + 3) k W) := hC
      have HK : Hid (∀ (b : Nat), w.heap.size < b → ∀ v, (W.setCell ⟨w.heap.size, 0, none⟩ v).heap[b]? = W.heap[b]?) := fun b hb v => RowKit.Below.heap_setCell _ _ _ _ (show b ≠ w.heap.size by omega)
      clear htk hgd hwl HP hC hlw hS hat hx
      generalize hq2 : nk2.q = q2 at *
      have HQ : Hid (nk2.q = q2) := hq2
      clear hq2
      generalize (wordsL l).getD k [] = x at *
      generalize (wordsL l).take k = pk at *
      simp only [ptrO, str] at *
      gi_wp2
      refine ⟨⟨HK.out _ (by omega) _, HK.out _ (by omega) _⟩, ⟨T', nk2, ?_⟩, ?_⟩
      · have := HS.out
        exact this
      · have hc := HC.out
        exact ⟨(HK.out _ (by omega) _).trans hc.s, (HK.out _ (by omega) _).trans hc.p, (HK.out _ (by omega) _).trans hc.v⟩
    | none =>
      rw [hx, Option.map_none] at hlk
      have HC : Hid (SqC l (w.heap.size + 2) (w.heap.size + 1) (w.heap.size + 3) k W) := hC
      have HX : Hid (T' ((wordsL l).take k ++ [(wordsL l).getD k []]) = none) := hx
      have HS : Hid (GrS w W N T ((wordsL l).take k) T' nk) := hS
      clear htk hgd hwl hC hS hat hx
      generalize (wordsL l).getD k [] = x at *
      generalize (wordsL l).take k = pk at *
      simp only [ptrO, str] at *
      gi_wp2
      rename_i Q0 K0 hK0
      have hmix : Tryz.prog.follows .mixedOrders = true := by kernel_rfl
      refine region_in_round (S := fun W' => W'.cell? ⟨w.heap.size, 0, none⟩ = some (.pointer (some ⟨nk.q, 0, none⟩)) ∧ W'.cell? ⟨nk.q, 0, none⟩ = some (.map (some nk.m))) hmix (by kernel_rfl) ?_ ?_
      · rintro ⟨a0, w0, _, ⟨h0, _⟩ | ⟨h0, _⟩⟩ <;> cases h0
      have hS : W.drew.cell? ⟨w.heap.size, 0, none⟩ = some (.pointer (some ⟨nk.q, 0, none⟩)) ∧ W.drew.cell? ⟨nk.q, 0, none⟩ = some (.map (some nk.m)) := ⟨d0, c0⟩
      refine wpAnyH_take (i := 0) (v := .pointer (some ⟨nk.q, 0, none⟩)) rfl (by kernel_rfl) (by kernel_rfl) (by kernel_rfl) (fun _ _ _ h => h) (.inl ⟨by rfl, fun W' hW' => ?_⟩) hS ?_
      · obtain ⟨u1, u2⟩ := hW'
        go_simp
      simp only [Act.put, List.getElem_toArray, List.getElem_cons_zero, List.setIfInBounds_toArray, List.set_cons_succ, List.set_cons_zero]
      refine wpAnyH_take (i := 1) (v := .pointer (some ⟨nk.q, 0, none⟩)) rfl (by kernel_rfl) (by kernel_rfl) (by kernel_rfl) (fun _ _ _ h => h) (.inl ⟨by rfl, fun W' hW' => ?_⟩) hS ?_
      · obtain ⟨u1, u2⟩ := hW'
        go_simp
      simp only [Act.put, List.getElem_toArray, List.getElem_cons_succ, List.getElem_cons_zero, List.setIfInBounds_toArray, List.set_cons_succ, List.set_cons_zero]
      refine wpAnyH_take (i := 2) (v := .pointer (some ⟨nk.q, 0, none⟩)) rfl (by kernel_rfl) (by kernel_rfl) (by kernel_rfl) (fun _ _ _ h => h) (.inl ⟨by rfl, fun W' hW' => ?_⟩) hS ?_
      · obtain ⟨u1, u2⟩ := hW'
        go_simp
      simp only [Act.put, List.getElem_toArray, List.getElem_cons_succ, List.getElem_cons_zero, List.setIfInBounds_toArray, List.set_cons_succ, List.set_cons_zero]
      refine wpAnyH_take (i := 3) (v := .map (some nk.m)) rfl (by kernel_rfl) (by kernel_rfl) (by kernel_rfl) (fun _ _ _ h => h) (.inl ⟨by rfl, fun W' hW' => ?_⟩) hS ?_
      · obtain ⟨u1, u2⟩ := hW'
        go_simp
      simp only [Act.put, List.getElem_toArray, List.getElem_cons_succ, List.getElem_cons_zero, List.setIfInBounds_toArray, List.set_cons_succ, List.set_cons_zero]
      refine wpAnyH_take (i := 4) (v := .string ⟨x.toArray⟩) rfl (by kernel_rfl) (by kernel_rfl) (by kernel_rfl) (fun _ _ _ h => h) (.inl ⟨by rfl, fun W' hW' => ?_⟩) hS ?_
      · obtain ⟨u1, u2⟩ := hW'
        go_simp
      simp only [Act.put, List.getElem_toArray, List.getElem_cons_succ, List.getElem_cons_zero, List.setIfInBounds_toArray, List.set_cons_succ, List.set_cons_zero]
      refine wpAnyH_one (i := 5) (by kernel_rfl) rfl (by rfl) (fun K hK => ?_)
      go_simp
      refine (hcl x W.drew hlw.1).mono ?_
      rintro e w2 ⟨rfl, hb2⟩
      have s1 : w2.cell? ⟨w.heap.size, 0, none⟩ = some (.pointer (some ⟨nk.q, 0, none⟩)) := (hb2.cell (p := ⟨w.heap.size, 0, none⟩) (World.block_lt_of_cell? W _ d0)).trans d0
      have s2 : w2.cell? ⟨nk.q, 0, none⟩ = some (.map (some nk.m)) := (hb2.cell (p := ⟨nk.q, 0, none⟩) (World.block_lt_of_cell? W _ c0)).trans c0
      refine hK _ _ ⟨s1, s2⟩ ?_
      clear hK K
      refine wpAnyH_one (i := 6) (by kernel_rfl) rfl (by rfl) (fun K hK => ?_)
      go_simp
      refine (node_any w2).mono ?_
      rintro e w3 ⟨rfl, hw3⟩
      have hb3 : Below W.heap.size W w3 := by
        rw [hw3]
        have hb9 : Below W.heap.size W w2 := ⟨hb2.os, hb2.tape, hb2.output, hb2.size, hb2.block⟩
        have e9 := hb9.size
        exact (hb9.alloc e9 _).alloc (by simp only [World.size_alloc]; omega) _
      have hsz2 : W.heap.size ≤ w2.heap.size := hb2.size
      have hsz3 : w3.heap.size = w2.heap.size + 2 := by rw [hw3]; simp only [World.size_alloc]
      have hq3 : w3.heap[w2.heap.size + 1]? = some (.cells #[.map (some w2.heap.size), .slice none 0 0] 58 (0, 0)) := by
        rw [hw3, alloc_at', if_pos (by rw [World.size_alloc])]
      have hm3 : MapF w3 w2.heap.size 0 (fun _ => none) := (MapF.made w2).on (by
        rw [hw3, alloc_at' _ (.cells _ _), if_neg (by rw [World.size_alloc]; omega)])
      have hM3 : MapF w3 nk.m (N + pk.length) (fun y => (T' (pk ++ [y])).map Nd.q) := (HS.out.tr.at' _ nk HS.out.at').map.on (hb3.block _ (HS.out.tr.lt ⟨_, nk, HS.out.at', .inr (.inl rfl)⟩))
      obtain ⟨w4, hrun4, hM4, hturn⟩ := hM3.put (k := x) (by unfold maxLen; omega) (by unfold maxLen; omega) (w2.heap.size + 1)
      have hg4 := hturn.grown
      have hne0 : w.heap.size ≠ nk.m := fun e => by
        obtain ⟨es, cl, hm⟩ := hM3.isMap
        have := hb3.block w.heap.size (by omega)
        rw [← e, this] at hm
        unfold World.cell? at d0
        rw [hm] at d0
        cases d0
      have hne1 : nk.q ≠ nk.m := HS.out.tr.qm HS.out.at' HS.out.at'
      have hcell : ∀ b, b < W.heap.size → b ≠ nk.m → w4.heap[b]? = W.heap[b]? := fun b hb hne => (hg4.block b (Nat.lt_of_lt_of_le hb hb3.size) (fun e => hne (by injection e))).trans (hb3.block b hb)
      have hqlt : nk.q < W.heap.size := World.block_lt_of_cell? W _ c0
      have t1 : w3.cell? ⟨w.heap.size, 0, none⟩ = some (.pointer (some ⟨nk.q, 0, none⟩)) := (hb3.cell (p := ⟨w.heap.size, 0, none⟩) (World.block_lt_of_cell? W _ d0)).trans d0
      have t2 : w3.cell? ⟨nk.q, 0, none⟩ = some (.map (some nk.m)) := (hb3.cell (p := ⟨nk.q, 0, none⟩) (World.block_lt_of_cell? W _ c0)).trans c0
      have v1 : w4.cell? ⟨w.heap.size, 0, none⟩ = some (.pointer (some ⟨nk.q, 0, none⟩)) := by
        rw [← d0]
        unfold World.cell?
        rw [hcell w.heap.size (by omega) hne0]
      have v2 : w4.cell? ⟨nk.q, 0, none⟩ = some (.map (some nk.m)) := by
        rw [← c0]
        unfold World.cell?
        rw [hcell nk.q hqlt hne1]
      have g1 : w4.frozen? ⟨w.heap.size, 0, none⟩ = false := by
        rw [← f0]
        unfold World.frozen?
        rw [hcell w.heap.size (by omega) hne0]
      have hlk4 := hM4.look (k := x) (by unfold maxLen; omega)
      rw [show updF (fun y => (T' (pk ++ [y])).map Nd.q) x (some (w2.heap.size + 1)) x = some (w2.heap.size + 1) from if_pos rfl] at hlk4
      have hmade := HS.out.made HX.out hlw hpl hDs (q := w2.heap.size + 1) (m := w2.heap.size) (by omega) hsz2 (W' := w4) ((hg4.block _ (by omega) (fun e => by
          injection e with e
          have := HS.out.tr.lt ⟨_, nk, HS.out.at', .inr (.inl rfl)⟩
          omega)).trans hq3) (hm3.on (hg4.block _ (by omega) (fun e => by
          injection e with e
          have := HS.out.tr.lt ⟨_, nk, HS.out.at', .inr (.inl rfl)⟩
          omega))) (hg4.os.trans hb3.os) (hg4.tape.trans hb3.tape) (hg4.output.trans hb3.output) (Nat.le_trans hb3.size hg4.size) hM4 hcell
      have HM : Hid _ := hmade.2
      have hcl2 : Hid (∀ b, b < W.heap.size → b ≠ nk.m → w4.heap[b]? = W.heap[b]?) := hcell
      have HW : Hid (∀ b, w.heap.size < b → b < w.heap.size + 6 → ∀ v, (w4.setCell ⟨w.heap.size, 0, none⟩ v).heap[b]? = W.heap[b]?) := fun b hb hb' v =>
        (RowKit.Below.heap_setCell _ _ _ _ (show b ≠ w.heap.size by omega)).trans (hcell b (by omega) (fun e => by
          rcases HS.out.new _ ⟨_, nk, HS.out.at', .inr (.inl rfl)⟩ with h2 | h2
          · have := h2.2; omega
          · omega))
      refine hK _ _ ⟨t1, t2⟩ ?_
      clear hK K hmade hcell hM3 hM4 hm3 hq3 hw3 hb3 hg4 hturn hlk
      simp only [ptrO, str] at hrun4 hlk4 ⊢
      refine wpAnyH_one (i := 7) (by kernel_rfl) rfl (by rfl) (fun K hK => ?_)
      go_simp
      refine hK _ _ ⟨v1, v2⟩ ?_
      clear hK K hrun4
      refine wpAnyH_done (by kernel_rfl) ?_ _
      refine hK0 _ _ ?_
      gi_wp2
      refine ⟨⟨HW.out _ (by omega) (by omega) _, HW.out _ (by omega) (by omega) _⟩, ⟨_, _, HM.out⟩, ?_⟩
      have hc := HC.out
      exact ⟨(HW.out _ (by omega) (by omega) _).trans hc.s, (HW.out _ (by omega) (by omega) _).trans hc.p, (HW.out _ (by omega) (by omega) _).trans hc.v⟩
  case done =>
    rintro W ⟨T', nk, hS⟩ hD
    have d0 := (cell_1 hS.b0).1
    have HS : Hid (GrS w W N T ((wordsL l).take (wordsL l).length) T' nk) := hS
    clear hS
    simp only [ptrO] at *
    refine wpF_of_wp ?_
    go_wp2
    refine .inl ⟨W0.heap.size, #[], _, .pointer (some ⟨nk.q, 0, none⟩), rfl, run_takeDeferred hD, ?_, ?_⟩
    · simp [results, Tryz.results24, go_sem]
    · have hS2 := HS.out.chg (Chg.put (Z := fun b => b = W0.heap.size) (.deferred none) W0.heap.size rfl) (fun b hb => by omega)
      rw [List.take_length] at hS2
      rw [← HRR.out]
      refine ⟨T', nk, rfl, hS2.at', hS2.tr.mono (by omega), hS2.ids, hS2.ext, ⟨hS2.os, hS2.tape, hS2.output, by have := hS2.size; omega, hS2.keep, fun b hb => ?_⟩⟩
      rcases hS2.new b hb with h1 | h1
      · exact .inl h1.1
      · right; omega
  case stop => exact fun W h1 _ => h1.elim
end Go.Proofs.YtcicnbbnkeellaaGreatDoor
