/- tape.read. -/
import Derived.Test.YthgkkmcpmhfehaaRx
import Derived.Test.YthgkkmcpmhfehaaRh
namespace Go.Proofs.Ythgkkmcpmhfehaa
open Go.RowKit Go.Lib Go.Shelf
set_option maxRecDepth 100000
attribute [local go_sem] Oper.semAt_some
attribute [local go_sem ↓] max_i min_i
attribute [-go_sem] Go.Builtin.append_

set_option maxHeartbeats 2000000 in
theorem read_any (w : World) (X : Nat → Prop) (t q n : Nat) (S : DS) (lo hi place count met from' to' : Nat) (h : Drum w X q n S) (ht : Tp w t q lo hi place count met) (hpg : S.down = true → 0 < pgN from' to') (hft : from' ≤ to') (hto : lo * 256 + to' ≤ n * 256) :
    Calls Try.prog 87 #[.pointer (some ⟨t, 0, none⟩), .int .i64 from', .int .i64 to'] w fun e w' => Below w.heap.size w w' ∧ ((S.down = false ∧ e = .returned (.slice (some ⟨w.heap.size + 3, 0, none⟩) (to' - from') (to' - from')) ∧
      w'.heap[w.heap.size + 3]? = some (.cells (byteCells (cutB S.P lo from' (to' - from'))).toArray 5 (0, 0))) ∨ (S.down = true ∧ e = .panicked (gup 20))) := by
  have hn : n ≤ 4096 := by obtain ⟨g, v, hr, ok⟩ := h; exact ok.top
  have hPl : S.P.length = n * 256 := by obtain ⟨g, v, hr, ok⟩ := h; exact ok.len
  have hmk : (Instr.makeSlice 30 (.int .i64 (0 : Int)) (.int .i64 ((to' : Int) - (from' : Int)))).run Try.prog (((w.alloc (.cells #[.pointer (some ⟨t, 0, none⟩)] 72)).alloc (.cells #[.int .i64 from'] 3)).alloc (.cells #[.int .i64 to'] 3)) = .ok (.slice (some ⟨w.heap.size + 3, 0, none⟩) 0 (to' - from')) ((((w.alloc (.cells #[.pointer (some ⟨t, 0, none⟩)] 72)).alloc (.cells #[.int .i64 from'] 3)).alloc (.cells #[.int .i64 to'] 3)).alloc (.cells (byteCells (List.replicate (to' - from') 0)).toArray 5)) := by
    have := makeB (((w.alloc (.cells #[.pointer (some ⟨t, 0, none⟩)] 72)).alloc (.cells #[.int .i64 from'] 3)).alloc (.cells #[.int .i64 to'] 3)) 0 (to' - from') (by omega) (by omega)
    rw [show ((to' - from' : Nat) : Int) = (to' : Int) - (from' : Int) by omega] at this
    simp only [World.size_alloc] at this
    exact this
  have hNew : Hid _ := RdS.new w t from' to'
  refine calls_of_wpF Try.func87 rfl ?_
  simp only [Try.ntmps87, List.size_toArray, List.length_cons, List.length_nil, Nat.reduceAdd, Nat.reduceSub, Array.replicate_succ, Array.replicate_zero, List.push_toArray, List.append_toArray, List.nil_append, List.cons_append]
  refine wpF_seq (wpF_of_wp ?_)
  go_wp2
  refine wpF_seq (wpF_of_wp ?_)
  go_wp2
  clear hmk
  refine wpF_seq (wpF_seq (wpF_of_wp ?_))
  go_wp2_with (go_at_call 88; refine (pages_w _ t _ _).mono ?_; rintro e w1 ⟨rfl, hw1⟩)
  simp only [Nat.add_assoc, Nat.reduceAdd]
  show wpF Try.prog 87 _ _ _ (rdW w t from' to')
  have hsz := rdW_size w t from' to'
  clear hw1
  generalize rdW w t from' to' = W0 at hNew hsz ⊢
  refine wpF_block (wpF_range Try.func87 rfl (enters_of Try.func95 (by kernel_rfl) rfl) (pages_iter (w.heap.size + 5) (w.heap.size + 6) (w.heap.size + 7) t lo from' to' (by omega) hft (by omega)) (fun _ => rfl)
    (fun k W => RdS w W t from' to' (cutB S.P lo from' (gotN from' to' k)) ∧ (S.down = true → k = 0)) (fun ch W => S.down = true ∧ ch = gup 20 ∧ Below w.heap.size w W) ?cap ?book ?start (fun k => { tmps := #[.pointer (some ⟨t, 0, none⟩), .int .i64 (from' : Int), .int .i64 (to' : Int), .pointer (some ⟨w.heap.size, 0, none⟩), .pointer (some ⟨w.heap.size + 1, 0, none⟩), .pointer (some ⟨w.heap.size + 2, 0, none⟩), .slice none 0 0, .pointer (some ⟨w.heap.size + 4, 0, none⟩), .int .i64 ((lo : Int) + ((from' / 256 + k : Nat) : Int)), .int .i64 (((from' / 256 + k : Nat) : Int) * 256), undef, undef, .int .i64 (to' : Int), .int .i64 (from' : Int), .int .i64 ((to' : Int) - (from' : Int)), .slice (some ⟨w.heap.size + 3, 0, none⟩) 0 (to' - from'), .pointer (some ⟨t, 0, none⟩), .int .i64 (from' : Int), .int .i64 (to' : Int), .func (.func 95) #[] #[.pointer (some ⟨w.heap.size + 6, 0, none⟩), .pointer (some ⟨w.heap.size + 7, 0, none⟩), .pointer (some ⟨w.heap.size + 5, 0, none⟩)], .int .i64 ((lo : Int) + ((from' / 256 + k : Nat) : Int)), .int .i64 (((from' / 256 + k : Nat) : Int) * 256), undef, undef, undef, undef, undef, undef, undef, undef, undef, undef, undef, undef, undef, undef, undef, undef, undef, undef, undef, undef, undef, undef, undef, undef], defers := [] }) ?assign ?body ?done ?stop)
  case cap =>
    rintro k W ⟨hR, _⟩
    obtain ⟨c0, c1, c2, c3, f3, c5, c6, c7⟩ := hR.cells
    exact ⟨c5, c6, c7, (ht.below hR.below).cells.2.1⟩
  case book =>
    rintro k A B ⟨hR, hk⟩ hb
    exact ⟨hR.on (by rw [← hsz]; exact hb.below), hk⟩
  case start =>
    intro W hb _
    rw [got_zero]
    exact ⟨by have := hNew.out.on (W' := W) (by rw [← hsz]; exact hb); simpa [cutB] using this, fun _ => rfl⟩
  case assign =>
    intro l k W K hK
    simp only [pgE]
    gi_wp2
    exact hK
  case body =>
    rintro l k W hk ⟨hR, hk0⟩ hD hL
    obtain ⟨c0, c1, c2, c4, f4, c5, c6, c7⟩ := hR.cells
    have hdr := h.below hR.below
    obtain ⟨t0, t1, t2, t3, t4, t5, tf⟩ := (ht.below hR.below).cells
    have hstep := cut_step S.P lo from' to' k hft hk
    have hgl : (cutB S.P lo from' (gotN from' to' k)).length = gotN from' to' k := cutB_length _ _ _ _ (by have := got_le from' to' k; omega)
    have hg0 : gotN from' to' k = min to' ((from' / 256 + k) * 256) - from' := rfl
    have hpgn : pgN from' to' = (to' + 255) / 256 - from' / 256 := rfl
    have hWs := hR.size
    generalize hx : from' / 256 + k = x at *
    have hxn : lo + x < n := by omega
    generalize cutB S.P lo from' (gotN from' to' k) = L at *
    by_cases hd : S.down = false
    · have R31 : Calls Try.prog 32 #[.pointer (some ⟨q, 0, none⟩), .int .i64 ((lo : Int) + (x : Int))] W fun e w' => e = .returned (.tuple #[.slice (some ⟨W.heap.size, 0, none⟩) 256 256, .int .i64 0]) ∧ PageAt W w' (pageOf S.P (lo + x)) := by
        rw [← Int.natCast_add]; exact read0 W X q n S (lo + x) hxn hd hdr
      have hpl : (pageOf S.P (lo + x)).length = 256 := pageOf_length _ n _ hPl hxn
      gi_wp2_with (first | (refine ⟨trivial, ?_⟩; gi_at_call 32; refine (CallsIn.inRound l (callsIn_wide.2 R31)).mono ?_; rintro e w1 ⟨rfl, hp⟩) | (refine ⟨trivial, ?_⟩; gi_at_call 89; refine (CallsIn.inRound l (callsIn_wide.2 (insist_ok _))).mono ?_; rintro e w2 ⟨rfl, rfl⟩))
      have hR1 := hR.on (hp.below.mono hWs)
      obtain ⟨d0, d1, d2, d4, e4, d5, d6, d7⟩ := hR1.cells
      have hrd : ∀ a m : Nat, a + m ≤ 256 → w2.drew.rangeAt W.heap.size a (byteCells (((pageOf S.P (lo + x)).drop a).take m)) := by
        intro a m ham j u hj
        have hb := hp.block
        show w2.cell? _ = _
        rw [cell_of_row _ _ _ _ _ _ hb, List.getElem?_toArray]
        have hj2 : j < m := by
          have := (List.getElem?_eq_some_iff.1 hj).1
          rw [byteCells_length, List.length_take] at this; omega
        rw [← hj]
        simp only [byteCells, List.getElem?_map, List.getElem?_take, hj2, if_true, List.getElem?_drop]
      have hb3 : w2.drew.heap[w.heap.size + 3]? = _ := hR1.b3
      have hgg : ∀ (a m : Nat), a + m ≤ 256 → L.length + m ≤ to' - from' → ∀ d ty, (app22 ty (.slice (some ⟨w.heap.size + 3, 0, none⟩) L.length (to' - from')) (.slice (some ⟨W.heap.size, a, none⟩) m d)).run Try.prog w2.drew = .ok (.slice (some ⟨w.heap.size + 3, 0, none⟩) (L.length + m) (to' - from')) (w2.drew.setRow (w.heap.size + 3) (byteCells (splice (L ++ List.replicate (to' - from' - L.length) 0) L.length (((pageOf S.P (lo + x)).drop a).take m))).toArray) := by
        intro a m ham hm d ty
        exact app22_room w2.drew ty _ _ _ _ hb3 _ _ _ _ _ (by rw [List.length_take, List.length_drop]; omega) (hrd a m ham) hm (by rw [List.length_append, List.length_replicate]; omega)
      have hmix : Try.prog.follows .mixedOrders = true := by kernel_rfl
      obtain ⟨A, hA⟩ : ∃ A : Nat, A = from' - x * 256 := ⟨_, rfl⟩
      obtain ⟨Z, hZ⟩ : ∃ Z : Nat, Z = min (to' - x * 256) 256 := ⟨_, rfl⟩
      have hmx : mxI ((from' : Int) - (x : Int) * 256) 0 = (A : Int) := by unfold mxI; omega
      have hmn : mnI ((to' : Int) - (x : Int) * 256) 256 = (Z : Int) := by unfold mnI; omega
      have hwr1 : IntKind.i64.wrap ((from' : Int) - (x : Int) * 256) = (from' : Int) - (x : Int) * 256 := wrapI _ (by omega) (by omega)
      have hwr2 : IntKind.i64.wrap ((to' : Int) - (x : Int) * 256) = (to' : Int) - (x : Int) * 256 := wrapI _ (by omega) (by omega)
      have hz1 : (Z : Int) ≤ 256 := by omega
      have hz2 : (A : Int) ≤ (Z : Int) := by omega
      have hz3 : Z ≤ 256 := by omega
      have hz4 : A ≤ Z := by omega
      have hz5 : ¬ (256 = A) := by omega
      have hM3 : L.length + (Z - A) ≤ to' - from' := by omega
      have hap := hgg A (Z - A) (by omega) hM3
      rw [← hA, ← hZ] at hstep
      have HS : Hid _ := hstep
      clear hstep hgg hrd hA hZ hgl hg0
      simp only [app22] at hap
      have hCl : (((pageOf S.P (lo + x)).drop A).take (Z - A)).length = Z - A := by rw [List.length_take, List.length_drop]; omega
      obtain ⟨w3, hw3⟩ : ∃ w3, w3 = w2.drew.setRow (w.heap.size + 3) (byteCells (splice (L ++ List.replicate (to' - from' - L.length) 0) L.length (((pageOf S.P (lo + x)).drop A).take (Z - A)))).toArray := ⟨_, rfl⟩
      rw [← hw3] at hap
      obtain ⟨r1, r2, r3, r4, q1, q2⟩ := hR1.app hw3
      rw [hCl] at r1 r2
      have hend : Hid _ := r1
      have hend2 : Hid _ := r2
      clear hw3 r1 r2 hb3
      refine region_in_round (S := fun W' => W'.cell? ⟨w.heap.size + 1, 0, none⟩ = some (.int .i64 from') ∧ W'.cell? ⟨w.heap.size + 2, 0, none⟩ = some (.int .i64 to')) hmix (by kernel_rfl) ?_ ?_
      · rintro ⟨a0, w0, _, ⟨h0, _⟩ | ⟨ch, h0, _⟩⟩ <;> cases h0
      have s1 : w2.drew.cell? ⟨w.heap.size + 1, 0, none⟩ = some (.int .i64 from') := d1
      have s2 : w2.drew.cell? ⟨w.heap.size + 2, 0, none⟩ = some (.int .i64 to') := d2
      have hS : w2.drew.cell? ⟨w.heap.size + 1, 0, none⟩ = some (.int .i64 from') ∧ w2.drew.cell? ⟨w.heap.size + 2, 0, none⟩ = some (.int .i64 to') := ⟨d1, d2⟩
      refine wpAnyH_take (i := 1) (v := .slice (some ⟨W.heap.size, 0, none⟩) 256 256) rfl (by kernel_rfl) (by kernel_rfl) (by kernel_rfl) (fun _ _ _ h => h) (.inl ⟨by rfl, fun W' hW' => ?_⟩) hS ?_
      · obtain ⟨u1, u2⟩ := hW'
        go_simp
      dsimp only [Act.put]
      refine wpAnyH_take (i := 2) (v := .int .i64 (from' : Int)) rfl (by kernel_rfl) (by kernel_rfl) (by kernel_rfl) (fun _ _ _ h => h) (.inl ⟨by rfl, fun W' hW' => ?_⟩) hS ?_
      · obtain ⟨u1, u2⟩ := hW'
        go_simp
      dsimp only [Act.put]
      refine wpAnyH_take (i := 3) (v := .int .i64 ((x : Int) * 256)) rfl (by kernel_rfl) (by kernel_rfl) (by kernel_rfl) (fun _ _ _ h => h) (.inl ⟨by rfl, fun W' hW' => ?_⟩) hS ?_
      · obtain ⟨u1, u2⟩ := hW'
        go_simp
      dsimp only [Act.put]
      refine wpAnyH_take (i := 4) (v := .int .i64 ((from' : Int) - (x : Int) * 256)) rfl (by kernel_rfl) (by kernel_rfl) (by kernel_rfl) (fun _ _ _ h => h) (.inl ⟨by rfl, fun W' hW' => ?_⟩) hS ?_
      · obtain ⟨u1, u2⟩ := hW'
        go_simp
      dsimp only [Act.put]
      refine wpAnyH_take (i := 5) (v := .int .i64 (A : Int)) rfl (by kernel_rfl) (by kernel_rfl) (by kernel_rfl) (fun _ _ _ h => h) (.inl ⟨by rfl, fun W' hW' => ?_⟩) hS ?_
      · obtain ⟨u1, u2⟩ := hW'
        go_simp
      dsimp only [Act.put]
      refine wpAnyH_take (i := 6) (v := .int .i64 (to' : Int)) rfl (by kernel_rfl) (by kernel_rfl) (by kernel_rfl) (fun _ _ _ h => h) (.inl ⟨by rfl, fun W' hW' => ?_⟩) hS ?_
      · obtain ⟨u1, u2⟩ := hW'
        go_simp
      dsimp only [Act.put]
      refine wpAnyH_take (i := 7) (v := .int .i64 ((x : Int) * 256)) rfl (by kernel_rfl) (by kernel_rfl) (by kernel_rfl) (fun _ _ _ h => h) (.inl ⟨by rfl, fun W' hW' => ?_⟩) hS ?_
      · obtain ⟨u1, u2⟩ := hW'
        go_simp
      dsimp only [Act.put]
      refine wpAnyH_take (i := 8) (v := .int .i64 ((to' : Int) - (x : Int) * 256)) rfl (by kernel_rfl) (by kernel_rfl) (by kernel_rfl) (fun _ _ _ h => h) (.inl ⟨by rfl, fun W' hW' => ?_⟩) hS ?_
      · obtain ⟨u1, u2⟩ := hW'
        go_simp
      dsimp only [Act.put]
      refine wpAnyH_take (i := 9) (v := .int .i64 (Z : Int)) rfl (by kernel_rfl) (by kernel_rfl) (by kernel_rfl) (fun _ _ _ h => h) (.inl ⟨by rfl, fun W' hW' => ?_⟩) hS ?_
      · obtain ⟨u1, u2⟩ := hW'
        go_simp
      dsimp only [Act.put]
      refine wpAnyH_take (i := 10) (v := .slice (some ⟨W.heap.size, A, none⟩) (Z - A) (256 - A)) rfl (by kernel_rfl) (by kernel_rfl) (by kernel_rfl) (fun _ _ _ h => h) (.inl ⟨by rfl, fun W' hW' => ?_⟩) hS ?_
      · obtain ⟨u1, u2⟩ := hW'
        go_simp
      dsimp only [Act.put]
      have d4' : w2.drew.cell? ⟨w.heap.size + 4, 0, none⟩ = _ := d4
      refine wpAnyH_one (i := 0) (by kernel_rfl) rfl (by rfl) (fun K hK => ?_)
      go_simp
      refine hK _ _ hS ?_
      clear hK K
      refine wpAnyH_one (i := 11) (by kernel_rfl) rfl (by rfl) (fun K hK => ?_)
      go_simp
      have s1' : w3.cell? ⟨w.heap.size + 1, 0, none⟩ = some (.int .i64 from') := q1
      have s2' : w3.cell? ⟨w.heap.size + 2, 0, none⟩ = some (.int .i64 to') := q2
      refine hK _ _ ⟨s1', s2'⟩ ?_
      clear hK K
      refine wpAnyH_one (i := 12) (by kernel_rfl) rfl (by rfl) (fun K hK => ?_)
      go_simp
      refine hK _ _ ⟨by rw [World.cell?_setCell_other _ _ _ _ (by simp)]; exact s1', by rw [World.cell?_setCell_other _ _ _ _ (by simp)]; exact s2'⟩ ?_
      clear hK K
      refine wpAnyH_done (by kernel_rfl) ?_ _
      have hDl : W0.heap.size < W.heap.size := (Array.getElem?_eq_some_iff.1 hD).1
      obtain ⟨rr, hL⟩ := hL
      have hLl : W0.heap.size + 1 < W.heap.size := (Array.getElem?_eq_some_iff.1 hL).1
      refine ⟨⟨?_, ?_⟩, .inl ⟨rfl, ?_, fun hd' => by rw [hd] at hd'; cases hd'⟩⟩
      · rw [hend2.out _ (by omega)]; exact hp.below.block _ hDl
      · rw [hend2.out _ (by omega)]; exact hp.below.block _ hLl
      · rw [HS.out]; exact hend.out
    · have hd1 : S.down = true := by cases hq : S.down <;> simp_all
      have R31 : Calls Try.prog 32 #[.pointer (some ⟨q, 0, none⟩), .int .i64 ((lo : Int) + (x : Int))] W fun e w' => e = .returned (.tuple #[.slice none 0 0, .int .i64 20]) ∧ w' = W := by
        have hc : S.readCode n ((lo : Int) + (x : Int)) = 20 := by unfold DS.readCode; rw [if_pos (by omega), hd1]; rfl
        have := read_bad W X q n S ((lo : Int) + (x : Int)) (by rw [hc]; decide) hdr
        rw [hc] at this
        exact this
      gi_wp2_with (first | (refine ⟨trivial, ?_⟩; gi_at_call 32; refine (CallsIn.inRound l (callsIn_wide.2 R31)).mono ?_; rintro e w1 ⟨rfl, rfl⟩) | (refine ⟨trivial, ?_⟩; gi_at_call 89; refine (CallsIn.inRound l (callsIn_wide.2 (insist_no _ 20 (by decide)))).mono ?_; rintro e w2 ⟨rfl, rfl⟩))
      exact hR.below
  case done =>
    rintro W ⟨hR, hk0⟩ hD
    have hd : S.down = false := by
      cases hq : S.down with
      | false => rfl
      | true => exact absurd (hk0 hq) (by have := hpg hq; omega)
    rw [got_all _ _ hft] at hR
    obtain ⟨c0, c1, c2, c4, f4, c5, c6, c7⟩ := hR.cells
    have hl : (cutB S.P lo from' (to' - from')).length = to' - from' := cutB_length _ _ _ _ (by omega)
    refine wpF_of_wp ?_
    go_wp2
    refine ⟨W0.heap.size, #[], W.putObj W0.heap.size (.deferred none), .slice (some ⟨w.heap.size + 3, 0, none⟩) (to' - from') (to' - from'), ?_, run_takeDeferred hD, ?_, ?_⟩
    · rw [hsz]
    · simp [results, Try.results87, go_sem]
    have hb : Book W0.heap.size W (W.putObj W0.heap.size (.deferred none)) := Book.put _ _ (.inl rfl)
    have hR2 := hR.on (W' := W.putObj W0.heap.size (.deferred none)) (by rw [← hsz]; exact hb.below)
    refine ⟨hR2.below, .inl ⟨hd, ?_, ?_⟩⟩
    · rfl
    · have := hR2.b3
      rw [hl, Nat.sub_self, List.replicate_zero, List.append_nil] at this
      exact this
  case stop =>
    rintro ch W ⟨hd, rfl, hb⟩ hD
    refine .inr ⟨W0.heap.size, #[], _, rfl, run_takeDeferred hD, ?_⟩
    have hb2 : Book W0.heap.size W (W.putObj W0.heap.size (.deferred none)) := Book.put _ _ (.inl rfl)
    exact ⟨hb.trans (hb2.below.mono (by omega)), .inr ⟨hd, rfl⟩⟩
end Go.Proofs.Ythgkkmcpmhfehaa
