/- tape.lay. -/
import Derived.Test.YthgkkmcpmhfehaaLt
namespace Go.Proofs.Ythgkkmcpmhfehaa
open Go.RowKit Go.Lib Go.Shelf
set_option maxRecDepth 100000

attribute [local go_sem] Oper.semAt_some
attribute [local go_sem ↓] max_i min_i
set_option maxHeartbeats 8000000 in
theorem lay_any (w : World) (X : Nat → Prop) (t q n : Nat) (S : DS) (lo hi p c met : Nat) (h : Drum w X q n S) (ht : Tp w t q lo hi p c met) (hx : ¬ X t) (hlh : lo ≤ hi) (hh : hi ≤ n) (hd : S.down = false) (hW : S.W.length < 10000) (hops : S.ops ≤ 100000)
    (F : List UInt8) (a : Option Addr) (fc : Nat) (hF : Sl.RdA w (.slice a F.length fc) F) (hFl : 1 ≤ F.length) (hpl : p + F.length ≤ (hi - lo) * 256) :
    Calls Try.prog 74 #[.pointer (some ⟨t, 0, none⟩), .slice a F.length fc] w fun e w' => ∃ X', Drum w' X' q n (layD S lo p F ((hi - lo) * 256)).1 ∧ Step X X' w w' ∧
      (((layD S lo p F ((hi - lo) * 256)).2 = 0 ∧ e = .returned (.tuple #[])) ∨ ((layD S lo p F ((hi - lo) * 256)).2 ≠ 0 ∧ e = .panicked (gup (layD S lo p F ((hi - lo) * 256)).2))) := by
  have hn : n ≤ 4096 := by obtain ⟨g, v, hr, ok⟩ := h; exact ok.top
  have hPl : S.P.length = n * 256 := by obtain ⟨g, v, hr, ok⟩ := h; exact ok.len
  have hmix : Try.prog.follows .mixedOrders = true := by kernel_rfl
  obtain ⟨t0, t1, t2, t3, t4, t5, tf⟩ := ht.cells
  obtain ⟨sz, hsz⟩ : ∃ sz, sz = (hi - lo) * 256 := ⟨_, rfl⟩
  rw [← hsz] at hpl ⊢
  have HZ : Hid (sz = (hi - lo) * 256) := hsz
  have hszn : lo * 256 + sz ≤ n * 256 := by omega
  clear hsz
  obtain ⟨R, hR⟩ : ∃ R, Hid (R = layD S lo p F sz) := ⟨_, rfl⟩
  rw [← hR.out]
  have hb0 : Below w.heap.size w (w.alloc (.cells #[.pointer (some ⟨t, 0, none⟩)] 72)) := (Below.refl _ _).alloc (Nat.le_refl _) _
  have hc0 : (w.alloc (.cells #[.pointer (some ⟨t, 0, none⟩)] 72)).heap[w.heap.size]? = some (.cells #[.pointer (some ⟨t, 0, none⟩)] 72 (0, 0)) := heap_alloc_new w _
  have hs0 : (w.alloc (.cells #[.pointer (some ⟨t, 0, none⟩)] 72)).heap.size = w.heap.size + 1 := by simp
  obtain ⟨w0, hw0⟩ : ∃ w0, w0 = w.alloc (.cells #[.pointer (some ⟨t, 0, none⟩)] 72) := ⟨_, rfl⟩
  rw [← hw0] at hb0 hc0 hs0
  refine calls_of_wpF Try.func74 rfl ?_
  simp only [Try.ntmps74, List.size_toArray, List.length_cons, List.length_nil, Nat.reduceAdd, Nat.reduceSub, Array.replicate_succ, Array.replicate_zero, List.push_toArray, List.append_toArray, List.nil_append, List.cons_append]
  refine wpF_seq (wpF_of_wp ?_)
  go_wp2
  rw [← hw0]
  -- REGION 1
  clear hw0
  refine wpF_seq (wpF_of_wp ?_)
  have hp26 : p ≤ 1048576 := by omega
  have hmod : ((p : Nat) : Int).tmod 256 = (p : Int) % 256 := Int.tmod_eq_emod_of_nonneg (by omega)
  obtain ⟨fi, hfi'⟩ : ∃ fi : Nat, fi = p / 256 * 256 := ⟨_, rfl⟩
  have hw9 : IntKind.i64.wrap ((p : Int) - (p : Int) % 256) = (fi : Int) := by rw [wrapI _ (by omega) (by omega)]; omega
  have hfi : Hid (fi = p / 256 * 256) := hfi'
  have hfp : fi ≤ p := by omega
  have hfp2 : p < fi + 256 := by omega
  clear hfi'
  have hT0 : Tp w0 t q lo hi p c met := ht.below hb0
  have a1 : w0.drew.cell? ⟨w.heap.size, 0, none⟩ = some (.pointer (some ⟨t, 0, none⟩)) := by show w0.cell? _ = _; rw [cell_of_row _ _ _ _ _ _ hc0]; rfl
  have a2 : w0.drew.cell? ⟨t, 3, none⟩ = some (.int .i64 p) := hT0.cells.2.2.2.1
  have hS := And.intro a1 a2
  refine wp_region_held (S := fun W' => W'.cell? ⟨w.heap.size, 0, none⟩ = some (.pointer (some ⟨t, 0, none⟩)) ∧ W'.cell? ⟨t, 3, none⟩ = some (.int .i64 p)) hmix ?_
  show wpAnyH _ _ _ _ _ _ _ _ w0.drew
  refine wpAnyH_take (i := 0) (v := .pointer (some ⟨t, 0, none⟩)) rfl (by kernel_rfl) (by kernel_rfl) (by kernel_rfl) (fun _ _ _ h => h) (.inl ⟨by rfl, fun W' hW' => ?_⟩) hS ?_
  · obtain ⟨u1, u2⟩ := hW'
    go_simp
  dsimp only [Act.put]
  refine wpAnyH_take (i := 1) (v := .pointer (some ⟨t, 0, none⟩)) rfl (by kernel_rfl) (by kernel_rfl) (by kernel_rfl) (fun _ _ _ h => h) (.inl ⟨by rfl, fun W' hW' => ?_⟩) hS ?_
  · obtain ⟨u1, u2⟩ := hW'
    go_simp
  dsimp only [Act.put]
  refine wpAnyH_take (i := 2) (v := .pointer (some ⟨t, 3, none⟩)) rfl (by kernel_rfl) (by kernel_rfl) (by kernel_rfl) (fun _ _ _ h => h) (.inl ⟨by rfl, fun W' hW' => ?_⟩) hS ?_
  · obtain ⟨u1, u2⟩ := hW'
    go_simp
  dsimp only [Act.put]
  refine wpAnyH_take (i := 3) (v := .int .i64 (p : Int)) rfl (by kernel_rfl) (by kernel_rfl) (by kernel_rfl) (fun _ _ _ h => h) (.inl ⟨by rfl, fun W' hW' => ?_⟩) hS ?_
  · obtain ⟨u1, u2⟩ := hW'
    go_simp
  dsimp only [Act.put]
  refine wpAnyH_take (i := 4) (v := .pointer (some ⟨t, 0, none⟩)) rfl (by kernel_rfl) (by kernel_rfl) (by kernel_rfl) (fun _ _ _ h => h) (.inl ⟨by rfl, fun W' hW' => ?_⟩) hS ?_
  · obtain ⟨u1, u2⟩ := hW'
    go_simp
  dsimp only [Act.put]
  refine wpAnyH_take (i := 5) (v := .pointer (some ⟨t, 0, none⟩)) rfl (by kernel_rfl) (by kernel_rfl) (by kernel_rfl) (fun _ _ _ h => h) (.inl ⟨by rfl, fun W' hW' => ?_⟩) hS ?_
  · obtain ⟨u1, u2⟩ := hW'
    go_simp
  dsimp only [Act.put]
  refine wpAnyH_take (i := 6) (v := .pointer (some ⟨t, 3, none⟩)) rfl (by kernel_rfl) (by kernel_rfl) (by kernel_rfl) (fun _ _ _ h => h) (.inl ⟨by rfl, fun W' hW' => ?_⟩) hS ?_
  · obtain ⟨u1, u2⟩ := hW'
    go_simp
  dsimp only [Act.put]
  refine wpAnyH_take (i := 7) (v := .int .i64 (p : Int)) rfl (by kernel_rfl) (by kernel_rfl) (by kernel_rfl) (fun _ _ _ h => h) (.inl ⟨by rfl, fun W' hW' => ?_⟩) hS ?_
  · obtain ⟨u1, u2⟩ := hW'
    go_simp
  dsimp only [Act.put]
  refine wpAnyH_take (i := 8) (v := .int .i64 ((p : Int) % 256)) rfl (by kernel_rfl) (by kernel_rfl) (by kernel_rfl) (fun _ _ _ h => h) (.inl ⟨by rfl, fun W' hW' => ?_⟩) hS ?_
  · obtain ⟨u1, u2⟩ := hW'
    go_simp
  dsimp only [Act.put]
  refine wpAnyH_take (i := 9) (v := .int .i64 (fi : Int)) rfl (by kernel_rfl) (by kernel_rfl) (by kernel_rfl) (fun _ _ _ h => h) (.inl ⟨by rfl, fun W' hW' => ?_⟩) hS ?_
  · obtain ⟨u1, u2⟩ := hW'
    go_simp
  dsimp only [Act.put]
  obtain ⟨w1, hw1⟩ : ∃ w1, w1 = (w0.alloc (.cells #[.int .i64 0] 3)).drew := ⟨_, rfl⟩
  have hb1 : Below w0.heap.size w0 w1 := by rw [hw1]; exact (below_drew w0).trans ((Below.refl _ w0.drew).alloc (Nat.le_refl _) _)
  have hc1 : w1.heap[w.heap.size + 1]? = some (.cells #[.int .i64 0] 3 (0, 0)) := by rw [hw1, ← hs0]; exact heap_alloc_new w0 _
  have hs1 : w1.heap.size = w.heap.size + 2 := by rw [hw1]; show (w0.alloc _).heap.size = _; simp [hs0]
  refine wpAnyH_one (i := 10) (by kernel_rfl) rfl (by rfl) (fun K hK => ?_)
  go_simp
  rw [← hw1]
  have b1 : w1.cell? ⟨w.heap.size, 0, none⟩ = some (.pointer (some ⟨t, 0, none⟩)) := (hb1.cell (p := ⟨w.heap.size, 0, none⟩) (by show w.heap.size < w0.heap.size; omega)).trans a1
  have b2 : w1.cell? ⟨t, 3, none⟩ = some (.int .i64 p) := (hb1.cell (p := ⟨t, 3, none⟩) hT0.lt).trans a2
  refine hK _ _ ⟨b1, b2⟩ ?_
  clear hK K
  have b3 : w1.cell? ⟨w.heap.size + 1, 0, none⟩ = some (.int .i64 0) := by rw [cell_of_row _ _ _ _ _ _ hc1]; rfl
  have b4 : w1.frozen? ⟨w.heap.size + 1, 0, none⟩ = false := frozen_of_row _ _ 0 _ _ hc1
  clear hw1
  refine wpAnyH_one (i := 11) (by kernel_rfl) rfl (by rfl) (fun K hK => ?_)
  go_simp
  obtain ⟨w2, hw2⟩ : ∃ w2, w2 = w1.setCell ⟨w.heap.size + 1, 0, none⟩ (.int .i64 (fi : Int)) := ⟨_, rfl⟩
  rw [← hw2]
  have hb2 : Below w0.heap.size w0 w2 := by rw [hw2]; exact hb1.setCell (p := ⟨w.heap.size + 1, 0, none⟩) (by show w0.heap.size ≤ w.heap.size + 1; omega) _
  have hc2 : w2.heap[w.heap.size + 1]? = some (.cells #[.int .i64 (fi : Int)] 3 (0, 0)) := by rw [hw2]; exact heap_setCell_same _ _ _ _ _ _ hc1
  have hs2 : w2.heap.size = w.heap.size + 2 := by rw [hw2]; simp [hs1]
  have d1 : w2.cell? ⟨w.heap.size, 0, none⟩ = some (.pointer (some ⟨t, 0, none⟩)) := (hb2.cell (p := ⟨w.heap.size, 0, none⟩) (by show w.heap.size < w0.heap.size; omega)).trans a1
  have d2 : w2.cell? ⟨t, 3, none⟩ = some (.int .i64 p) := (hb2.cell (p := ⟨t, 3, none⟩) hT0.lt).trans a2
  refine hK _ _ ⟨d1, d2⟩ ?_
  clear hK K
  refine wpAnyH_done (by kernel_rfl) ?_ _
  clear hw2 b1 b2 b3 b4 hc1 hb1 hs1 w1
  -- REGIONS 2 TO 4
  have hb02 : Below w.heap.size w w2 := hb0.trans (hb2.mono hb0.size)
  have hT2 : Tp w2 t q lo hi p c met := ht.below hb02
  have d3 : w2.cell? ⟨w.heap.size + 1, 0, none⟩ = some (.int .i64 (fi : Int)) := by rw [cell_of_row _ _ _ _ _ _ hc2]; rfl
  refine wpF_seq (wpF_of_wp ?_)
  go_wp2
  refine wpF_seq (wpF_of_wp ?_)
  have N41 : Calls Try.prog 71 #[.pointer (some ⟨t, 0, none⟩)] w2 fun e w' => e = .returned (.int .i64 (sz : Int)) ∧ w' = w2.drew := by rw [HZ.out]; exact size_any w2 t q lo hi p c met hT2 hlh (by omega)
  have hmod2 : ((p : Int) + (F.length : Int)).tmod 256 = ((p : Int) + (F.length : Int)) % 256 := Int.tmod_eq_emod_of_nonneg (by omega)
  obtain ⟨T, hT⟩ : ∃ T : Nat, T = tillOf p F.length sz := ⟨_, rfl⟩
  have hmn : mnI ((p : Int) + (F.length : Int) - ((p : Int) + (F.length : Int)) % 256 + 256) (sz : Int) = (T : Int) := by unfold mnI; rw [hT]; unfold tillOf; omega
  have hTl : fi ≤ T ∧ p + F.length ≤ T ∧ T ≤ sz ∧ T ≤ fi + (F.length + 512) := by rw [hT, hfi.out]; unfold tillOf; omega
  have HT : Hid (T = tillOf p F.length sz) := hT
  clear hT
  go_wp2_with (go_at_call 71; refine N41.mono ?_; rintro e w' ⟨rfl, rfl⟩)
  refine wpF_seq (wpF_of_wp ?_)
  obtain ⟨m, hm⟩ : ∃ m : Nat, m = T - fi := ⟨_, rfl⟩
  have hmI : (T : Int) - (fi : Int) = (m : Int) := by omega
  have hmI2 : T - fi = m := hm.symm
  have hm9 : p + F.length ≤ fi + m ∧ m ≤ 1048576 ∧ m ≤ F.length + 512 := by omega
  have HM : Hid (m = T - fi) := hm
  clear hm
  have hmk : (Instr.makeSlice 30 (.int .i64 (m : Int)) (.int .i64 (m : Int))).run Try.prog w2.drew = .ok (.slice (some ⟨w.heap.size + 2, 0, none⟩) m m) (w2.drew.alloc (.cells (byteCells (List.replicate m 0)).toArray 5)) := by
    have := makeB w2.drew m m (by omega) (by omega)
    rw [show w2.drew.heap.size = w.heap.size + 2 from hs2] at this
    exact this
  have d3' : w2.drew.cell? ⟨w.heap.size + 1, 0, none⟩ = some (.int .i64 (fi : Int)) := d3
  go_wp2_with fail
  obtain ⟨w4, hw4⟩ : ∃ w4, w4 = ((w2.alloc (.cells (byteCells (List.replicate m 0)).toArray 5)).alloc (.cells #[.slice (some ⟨w.heap.size + 2, 0, none⟩) m m] 30)).drew := ⟨_, rfl⟩
  rw [← hw4]
  have hl4 : LyS w w4 t fi (List.replicate m 0) := by
    have hh2 : ∀ k, w4.heap[k]? = if k = w.heap.size + 3 then some (.cells #[.slice (some ⟨w.heap.size + 2, 0, none⟩) m m] 30 (0, 0)) else if k = w.heap.size + 2 then some (.cells (byteCells (List.replicate m 0)).toArray 5 (0, 0)) else w2.heap[k]? := fun k => by
      rw [hw4]
      show ((w2.alloc _).alloc _).heap[k]? = _
      rw [alloc_at', alloc_at', World.size_alloc, hs2]
    refine ⟨by rw [hw4]; show _ ≤ ((w2.alloc _).alloc _).heap.size; simp only [World.size_alloc]; omega, ?_, ?_, ?_, ?_⟩
    · rw [hh2, if_neg (by omega), if_neg (by omega), hb2.block _ (by omega)]; exact hc0
    · rw [hh2, if_neg (by omega), if_neg (by omega)]; exact hc2
    · rw [hh2, if_neg (by omega), if_pos rfl]
    · rw [hh2, if_pos rfl, List.length_replicate]
  have hb4 : Below w.heap.size w w4 := by
    rw [hw4]
    exact hb02.trans (((((Below.refl w.heap.size w2).alloc (by omega) _).alloc (by rw [World.size_alloc]; omega) _).trans ⟨rfl, rfl, rfl, Nat.le_refl _, fun _ _ => rfl⟩))
  have hs4 : w4.heap.size = w.heap.size + 4 := by rw [hw4]; show ((w2.alloc _).alloc _).heap.size = _; simp only [World.size_alloc]; omega
  clear hw4 hmk d1 d2 d3 d3' hc2 hs2 hb2 N41
  -- REGION 5
  refine wpF_seq (wpF_of_wp ?_)
  obtain ⟨pf, hpf⟩ : ∃ pf : Nat, pf = p - fi := ⟨_, rfl⟩
  have hpfI : (p : Int) - (fi : Int) = (pf : Int) := by omega
  have hpf9 : pf < 256 ∧ fi + pf = p ∧ pf + F.length ≤ m := by omega
  have HPF : Hid (pf = p - fi) := hpf
  clear hpf
  have hT4 : Tp w4 t q lo hi p c met := ht.below hb4
  obtain ⟨l1, l2, l3⟩ := hl4.cells
  rw [List.length_replicate] at l3
  have a1 : w4.drew.cell? ⟨w.heap.size, 0, none⟩ = some (.pointer (some ⟨t, 0, none⟩)) := l1
  have a2 : w4.drew.cell? ⟨w.heap.size + 1, 0, none⟩ = some (.int .i64 (fi : Int)) := l2
  have a3 : w4.drew.cell? ⟨w.heap.size + 3, 0, none⟩ = some (.slice (some ⟨w.heap.size + 2, 0, none⟩) m m) := l3
  have a4 : w4.drew.cell? ⟨t, 3, none⟩ = some (.int .i64 p) := hT4.cells.2.2.2.1
  have hS : w4.drew.cell? ⟨w.heap.size, 0, none⟩ = some (.pointer (some ⟨t, 0, none⟩)) ∧ w4.drew.cell? ⟨w.heap.size + 1, 0, none⟩ = some (.int .i64 (fi : Int)) ∧ w4.drew.cell? ⟨w.heap.size + 3, 0, none⟩ = some (.slice (some ⟨w.heap.size + 2, 0, none⟩) m m) ∧ w4.drew.cell? ⟨t, 3, none⟩ = some (.int .i64 p) := ⟨a1, a2, a3, a4⟩
  refine wp_region_held (S := fun W' => W'.cell? ⟨w.heap.size, 0, none⟩ = some (.pointer (some ⟨t, 0, none⟩)) ∧ W'.cell? ⟨w.heap.size + 1, 0, none⟩ = some (.int .i64 (fi : Int)) ∧ W'.cell? ⟨w.heap.size + 3, 0, none⟩ = some (.slice (some ⟨w.heap.size + 2, 0, none⟩) m m) ∧ W'.cell? ⟨t, 3, none⟩ = some (.int .i64 p)) hmix ?_
  show wpAnyH _ _ _ _ _ _ _ _ w4.drew
  refine wpAnyH_take (i := 0) (v := .slice (some ⟨w.heap.size + 2, 0, none⟩) m m) rfl (by kernel_rfl) (by kernel_rfl) (by kernel_rfl) (fun _ _ _ h => h) (.inl ⟨by rfl, fun W' hW' => ?_⟩) hS ?_
  · obtain ⟨u1, u2, u3, u4⟩ := hW'
    go_simp
  dsimp only [Act.put]
  refine wpAnyH_take (i := 1) (v := .pointer (some ⟨t, 0, none⟩)) rfl (by kernel_rfl) (by kernel_rfl) (by kernel_rfl) (fun _ _ _ h => h) (.inl ⟨by rfl, fun W' hW' => ?_⟩) hS ?_
  · obtain ⟨u1, u2, u3, u4⟩ := hW'
    go_simp
  dsimp only [Act.put]
  refine wpAnyH_take (i := 2) (v := .int .i64 (fi : Int)) rfl (by kernel_rfl) (by kernel_rfl) (by kernel_rfl) (fun _ _ _ h => h) (.inl ⟨by rfl, fun W' hW' => ?_⟩) hS ?_
  · obtain ⟨u1, u2, u3, u4⟩ := hW'
    go_simp
  dsimp only [Act.put]
  refine wpAnyH_take (i := 3) (v := .pointer (some ⟨t, 0, none⟩)) rfl (by kernel_rfl) (by kernel_rfl) (by kernel_rfl) (fun _ _ _ h => h) (.inl ⟨by rfl, fun W' hW' => ?_⟩) hS ?_
  · obtain ⟨u1, u2, u3, u4⟩ := hW'
    go_simp
  dsimp only [Act.put]
  refine wpAnyH_take (i := 4) (v := .pointer (some ⟨t, 0, none⟩)) rfl (by kernel_rfl) (by kernel_rfl) (by kernel_rfl) (fun _ _ _ h => h) (.inl ⟨by rfl, fun W' hW' => ?_⟩) hS ?_
  · obtain ⟨u1, u2, u3, u4⟩ := hW'
    go_simp
  dsimp only [Act.put]
  refine wpAnyH_take (i := 5) (v := .pointer (some ⟨t, 3, none⟩)) rfl (by kernel_rfl) (by kernel_rfl) (by kernel_rfl) (fun _ _ _ h => h) (.inl ⟨by rfl, fun W' hW' => ?_⟩) hS ?_
  · obtain ⟨u1, u2, u3, u4⟩ := hW'
    go_simp
  dsimp only [Act.put]
  refine wpAnyH_take (i := 6) (v := .int .i64 (p : Int)) rfl (by kernel_rfl) (by kernel_rfl) (by kernel_rfl) (fun _ _ _ h => h) (.inl ⟨by rfl, fun W' hW' => ?_⟩) hS ?_
  · obtain ⟨u1, u2, u3, u4⟩ := hW'
    go_simp
  dsimp only [Act.put]
  have N56 := read_any w4.drew X t q n S lo hi p c met fi p (h.below hb4).drew (hT4.on rfl) (by rw [hd]; simp) (by omega) (by omega)
  refine wpAnyH_one (i := 7) (by kernel_rfl) rfl (by rfl) (fun K hK => ?_)
  go_simp
  refine N56.mono ?_
  rintro e w5 ⟨hb5, hor⟩
  obtain ⟨rfl, hh5⟩ : e = .returned (.slice (some ⟨w.heap.size + 7, 0, none⟩) pf pf) ∧ w5.heap[w.heap.size + 7]? = some (.cells (byteCells (cutB S.P lo fi pf)).toArray 5 (0, 0)) := by
    have e4 : w4.drew.heap.size + 3 = w.heap.size + 7 := by show w4.heap.size + 3 = _; omega
    have e5 : p - fi = pf := HPF.out.symm
    rcases hor with ⟨_, h1, h2⟩ | ⟨h1, _⟩
    · rw [e4, e5] at h1 h2; exact ⟨h1, h2⟩
    · rw [hd] at h1; cases h1
  clear hor N56
  have hS5 : w5.cell? ⟨w.heap.size, 0, none⟩ = some (.pointer (some ⟨t, 0, none⟩)) ∧ w5.cell? ⟨w.heap.size + 1, 0, none⟩ = some (.int .i64 (fi : Int)) ∧ w5.cell? ⟨w.heap.size + 3, 0, none⟩ = some (.slice (some ⟨w.heap.size + 2, 0, none⟩) m m) ∧ w5.cell? ⟨t, 3, none⟩ = some (.int .i64 p) := by
    have kk : ∀ j o, j < w4.heap.size → w5.cell? ⟨j, o, none⟩ = w4.cell? ⟨j, o, none⟩ := fun j o hj => hb5.cell (p := ⟨j, o, none⟩) hj
    exact ⟨(kk _ _ (by omega)).trans a1, (kk _ _ (by omega)).trans a2, (kk _ _ (by omega)).trans a3, (kk _ _ (by have := hT4.lt; omega)).trans a4⟩
  show K _ _
  refine hK _ _ hS5 ?_
  clear hK K
  have hi5 : w5.heap[w.heap.size + 2]? = some (.cells (byteCells (List.replicate m 0)).toArray 5 (0, 0)) := (hb5.block _ (by show _ < w4.heap.size; omega)).trans hl4.b2
  have hal : (cutB S.P lo fi pf).length = pf := cutB_length _ _ _ _ (by omega)
  generalize hAA : cutB S.P lo fi pf = AA at *
  obtain ⟨w6, hw6⟩ : ∃ w6, w6 = w5.setRow (w.heap.size + 2) (splice (byteCells (List.replicate m 0)) 0 (byteCells AA)).toArray := ⟨_, rfl⟩
  have ho6 : ∀ j, j ≠ w.heap.size + 2 → w6.heap[j]? = w5.heap[j]? := fun j hj => by rw [hw6]; exact setRow_other _ _ _ _ hj
  have hi6 : w6.heap[w.heap.size + 2]? = some (.cells (byteCells (AA ++ List.replicate (m - pf) 0)).toArray 5 (0, 0)) := by
    rw [hw6, setRow_heap _ _ _ _ _ _ hi5, splice_bytes]
    congr 3
    unfold splice
    rw [List.take_zero, List.nil_append, List.drop_replicate, hal, Nat.zero_add]
  have hs6 : w6.heap.size = w5.heap.size := by rw [hw6]; simp
  have hS6 : w6.cell? ⟨w.heap.size, 0, none⟩ = some (.pointer (some ⟨t, 0, none⟩)) ∧ w6.cell? ⟨w.heap.size + 1, 0, none⟩ = some (.int .i64 (fi : Int)) ∧ w6.cell? ⟨w.heap.size + 3, 0, none⟩ = some (.slice (some ⟨w.heap.size + 2, 0, none⟩) m m) ∧ w6.cell? ⟨t, 3, none⟩ = some (.int .i64 p) := by
    have kk : ∀ j o, j ≠ w.heap.size + 2 → w6.cell? ⟨j, o, none⟩ = w5.cell? ⟨j, o, none⟩ := fun j o hj => by simp only [World.cell?, ho6 j hj]
    exact ⟨(kk _ _ (by omega)).trans hS5.1, (kk _ _ (by omega)).trans hS5.2.1, (kk _ _ (by omega)).trans hS5.2.2.1, (kk _ _ (by have := ht.lt; omega)).trans hS5.2.2.2⟩
  refine wpAnyH_one (i := 8) (by kernel_rfl) rfl (by rfl) (fun K hK => ?_)
  refine copy_at (.tmp 39) (.tmp 46) 30 30 rfl 5 Try.underlying30 info5s (some ⟨w.heap.size + 2, 0, none⟩) (some ⟨w.heap.size + 7, 0, none⟩) m m pf pf rfl rfl (w.heap.size + 2) 0 (byteCells (List.replicate m 0)) 5 hi5 (byteCells AA) (by rw [byteCells_length, hal]; exact (Nat.min_eq_left (by omega)).symm) (fun _ => ⟨rfl, _, rfl, fun j v hj => by rw [Addr.add_lit]; exact range_of_block hh5 j v hj⟩) (by rw [byteCells_length, byteCells_length, List.length_replicate, hal]; omega) (fun v hv => by obtain ⟨x, _, rfl⟩ := List.mem_map.1 hv; rfl) ?_
  rw [← hw6]
  refine hK _ _ hS6 ?_
  clear hK K
  refine wpAnyH_done (by kernel_rfl) ?_ _
  have hb6 : Below w.heap.size w w6 := ⟨by rw [hw6]; exact hb5.os.trans hb4.os, by rw [hw6]; exact hb5.tape.trans hb4.tape, by rw [hw6]; exact hb5.output.trans hb4.output, by rw [hs6]; exact Nat.le_trans hb4.size hb5.size, fun k hk => (ho6 k (by omega)).trans ((hb5.block k (by show k < w4.heap.size; omega)).trans (hb4.block k hk))⟩
  have hl6 : LyS w w6 t fi (AA ++ List.replicate (m - pf) 0) := by
    have k1 : ∀ j, j < w4.heap.size → j ≠ w.heap.size + 2 → w6.heap[j]? = w4.heap[j]? := fun j h1 h2 => (ho6 j h2).trans (hb5.block j h1)
    have el : (AA ++ List.replicate (m - pf) 0).length = m := by rw [List.length_append, List.length_replicate, hal]; omega
    refine ⟨by rw [hs6]; exact Nat.le_trans hl4.size hb5.size, (k1 _ (by omega) (by omega)).trans hl4.b0, (k1 _ (by omega) (by omega)).trans hl4.b1, hi6, ?_⟩
    rw [el]
    have := hl4.b3
    rw [List.length_replicate] at this
    exact (k1 _ (by omega) (by omega)).trans this
  clear hw6 hS5 hS hh5 hi5
  -- REGION 6
  refine wpF_seq (wpF_of_wp ?_)
  -- R6
  have w6' : IntKind.i64.wrap ((p : Int) - (fi : Int)) = (pf : Int) := by rw [wrapI _ (by omega) (by omega)]; exact hpfI
  have w6'' : IntKind.i64.wrap (pf : Int) = (pf : Int) := wrapI _ (by omega) (by omega)
  have q1 : (pf : Int) ≤ (m : Int) := by omega
  have q2 : ¬ (m = pf) := by omega
  have hS : w6.drew.cell? ⟨w.heap.size, 0, none⟩ = some (.pointer (some ⟨t, 0, none⟩)) ∧ w6.drew.cell? ⟨w.heap.size + 1, 0, none⟩ = some (.int .i64 (fi : Int)) ∧ w6.drew.cell? ⟨w.heap.size + 3, 0, none⟩ = some (.slice (some ⟨w.heap.size + 2, 0, none⟩) m m) ∧ w6.drew.cell? ⟨t, 3, none⟩ = some (.int .i64 p) := hS6
  refine wp_region_held (S := fun W' => W'.cell? ⟨w.heap.size, 0, none⟩ = some (.pointer (some ⟨t, 0, none⟩)) ∧ W'.cell? ⟨w.heap.size + 1, 0, none⟩ = some (.int .i64 (fi : Int)) ∧ W'.cell? ⟨w.heap.size + 3, 0, none⟩ = some (.slice (some ⟨w.heap.size + 2, 0, none⟩) m m) ∧ W'.cell? ⟨t, 3, none⟩ = some (.int .i64 p)) hmix ?_
  show wpAnyH _ _ _ _ _ _ _ _ w6.drew
  refine wpAnyH_take (i := 0) (v := .slice (some ⟨w.heap.size + 2, 0, none⟩) m m) rfl (by kernel_rfl) (by kernel_rfl) (by kernel_rfl) (fun _ _ _ h => h) (.inl ⟨by rfl, fun W' hW' => ?_⟩) hS ?_
  · obtain ⟨u1, u2, u3, u4⟩ := hW'
    go_simp
  dsimp only [Act.put]
  refine wpAnyH_take (i := 1) (v := .pointer (some ⟨t, 0, none⟩)) rfl (by kernel_rfl) (by kernel_rfl) (by kernel_rfl) (fun _ _ _ h => h) (.inl ⟨by rfl, fun W' hW' => ?_⟩) hS ?_
  · obtain ⟨u1, u2, u3, u4⟩ := hW'
    go_simp
  dsimp only [Act.put]
  refine wpAnyH_take (i := 2) (v := .pointer (some ⟨t, 0, none⟩)) rfl (by kernel_rfl) (by kernel_rfl) (by kernel_rfl) (fun _ _ _ h => h) (.inl ⟨by rfl, fun W' hW' => ?_⟩) hS ?_
  · obtain ⟨u1, u2, u3, u4⟩ := hW'
    go_simp
  dsimp only [Act.put]
  refine wpAnyH_take (i := 3) (v := .pointer (some ⟨t, 3, none⟩)) rfl (by kernel_rfl) (by kernel_rfl) (by kernel_rfl) (fun _ _ _ h => h) (.inl ⟨by rfl, fun W' hW' => ?_⟩) hS ?_
  · obtain ⟨u1, u2, u3, u4⟩ := hW'
    go_simp
  dsimp only [Act.put]
  refine wpAnyH_take (i := 4) (v := .int .i64 (p : Int)) rfl (by kernel_rfl) (by kernel_rfl) (by kernel_rfl) (fun _ _ _ h => h) (.inl ⟨by rfl, fun W' hW' => ?_⟩) hS ?_
  · obtain ⟨u1, u2, u3, u4⟩ := hW'
    go_simp
  dsimp only [Act.put]
  refine wpAnyH_take (i := 5) (v := .int .i64 (fi : Int)) rfl (by kernel_rfl) (by kernel_rfl) (by kernel_rfl) (fun _ _ _ h => h) (.inl ⟨by rfl, fun W' hW' => ?_⟩) hS ?_
  · obtain ⟨u1, u2, u3, u4⟩ := hW'
    go_simp
  dsimp only [Act.put]
  refine wpAnyH_take (i := 6) (v := .int .i64 (pf : Int)) rfl (by kernel_rfl) (by kernel_rfl) (by kernel_rfl) (fun _ _ _ h => h) (.inl ⟨by rfl, fun W' hW' => ?_⟩) hS ?_
  · obtain ⟨u1, u2, u3, u4⟩ := hW'
    go_simp
  dsimp only [Act.put]
  refine wpAnyH_take (i := 7) (v := .slice (some ⟨w.heap.size + 2, pf, none⟩) (m - pf) (m - pf)) rfl (by kernel_rfl) (by kernel_rfl) (by kernel_rfl) (fun _ _ _ h => h) (.inl ⟨by rfl, fun W' hW' => ?_⟩) hS ?_
  · obtain ⟨u1, u2, u3, u4⟩ := hW'
    go_simp
  dsimp only [Act.put]
  refine wpAnyH_take (i := 8) (v := .slice a F.length fc) rfl (by kernel_rfl) (by kernel_rfl) (by kernel_rfl) (fun _ _ _ h => h) (.inl ⟨by rfl, fun W' hW' => ?_⟩) hS ?_
  · obtain ⟨u1, u2, u3, u4⟩ := hW'
    go_simp
  dsimp only [Act.put]
  have hF6 : ∃ b o, a = some ⟨b, o, none⟩ ∧ w6.drew.rangeAt b o (byteCells F) := by
    rcases Sl.RdA.on hF hb6 with (⟨e1, e2⟩ | ⟨b, o, c', e1, _, e3⟩) | ⟨_, e2⟩
    · rw [e2] at hFl; simp at hFl
    · cases e1
      refine ⟨b, o, rfl, fun j u hj => ?_⟩
      have hjl : j < F.length := by have := (List.getElem?_eq_some_iff.1 hj).1; rwa [byteCells_length] at this
      have := e3 j hjl
      show w6.cell? _ = _
      rw [this, ← hj]
      simp [byteCells, List.getElem?_eq_getElem hjl]
    · rw [e2] at hFl; simp at hFl
  obtain ⟨fb, fo, rfl, hFr⟩ := hF6
  obtain ⟨w7, hw7⟩ : ∃ w7, w7 = w6.drew.setRow (w.heap.size + 2) (splice (byteCells (AA ++ List.replicate (m - pf) 0)) pf (byteCells F)).toArray := ⟨_, rfl⟩
  have ho7 : ∀ j, j ≠ w.heap.size + 2 → w7.heap[j]? = w6.heap[j]? := fun j hj => by rw [hw7]; exact setRow_other _ _ _ _ hj
  have hi7 : w7.heap[w.heap.size + 2]? = some (.cells (byteCells (AA ++ F ++ List.replicate (m - pf - F.length) 0)).toArray 5 (0, 0)) := by
    rw [hw7, setRow_heap _ _ _ _ _ _ (show w6.drew.heap[w.heap.size + 2]? = _ from hi6), splice_bytes]
    congr 3
    unfold splice
    rw [List.take_append_of_le_length (by omega), List.take_of_length_le (by omega), List.drop_append, List.drop_eq_nil_of_le (by omega), List.nil_append, List.drop_replicate, List.append_assoc]
    rw [show m - pf - (pf + F.length - AA.length) = m - pf - F.length by omega]
  have hs7 : w7.heap.size = w6.heap.size := by rw [hw7]; simp
  have hS7 : w7.cell? ⟨w.heap.size, 0, none⟩ = some (.pointer (some ⟨t, 0, none⟩)) ∧ w7.cell? ⟨w.heap.size + 1, 0, none⟩ = some (.int .i64 (fi : Int)) ∧ w7.cell? ⟨w.heap.size + 3, 0, none⟩ = some (.slice (some ⟨w.heap.size + 2, 0, none⟩) m m) ∧ w7.cell? ⟨t, 3, none⟩ = some (.int .i64 p) := by
    have kk : ∀ j o, j ≠ w.heap.size + 2 → w7.cell? ⟨j, o, none⟩ = w6.cell? ⟨j, o, none⟩ := fun j o hj => by simp only [World.cell?, ho7 j hj]
    exact ⟨(kk _ _ (by omega)).trans hS6.1, (kk _ _ (by omega)).trans hS6.2.1, (kk _ _ (by omega)).trans hS6.2.2.1, (kk _ _ (by have := ht.lt; omega)).trans hS6.2.2.2⟩
  have hi6' : w6.drew.heap[w.heap.size + 2]? = some (.cells (byteCells (AA ++ List.replicate (m - pf) 0)).toArray 5 (0, 0)) := hi6
  simp only [List.getElem_toArray, List.getElem_cons_succ, List.getElem_cons_zero, List.setIfInBounds_toArray, List.set_cons_succ, List.set_cons_zero]
  refine wpAnyH_one (i := 9) (by kernel_rfl) rfl (by rfl) (fun K hK => ?_)
  refine copy_at (P := Try.prog) (w := w6.drew) (.tmp 55) (.tmp 56) 30 30 rfl 5 Try.underlying30 info5s (some ⟨w.heap.size + 2, pf, none⟩) (some ⟨fb, fo, none⟩) (m - pf) (m - pf) F.length fc ?_ ?_ (w.heap.size + 2) pf (byteCells (AA ++ List.replicate (m - pf) 0)) 5 hi6' (byteCells F) (by rw [byteCells_length]; exact (Nat.min_eq_left (by omega)).symm) (fun _ => ⟨rfl, _, rfl, fun j v hj => by rw [Addr.add_lit]; exact hFr j v hj⟩) (by rw [byteCells_length, byteCells_length, List.length_append, List.length_replicate, hal]; omega) (fun v hv => by obtain ⟨x, _, rfl⟩ := List.mem_map.1 hv; rfl) ?_
  · rfl
  · rfl
  rw [← hw7]
  refine hK _ _ hS7 ?_
  clear hK K
  refine wpAnyH_done (by kernel_rfl) ?_ _
  have hb7 : Below w.heap.size w w7 := ⟨by rw [hw7]; exact hb6.os, by rw [hw7]; exact hb6.tape, by rw [hw7]; exact hb6.output, by rw [hs7]; exact hb6.size, fun k hk => (ho7 k (by omega)).trans (hb6.block k hk)⟩
  have hIl : (AA ++ F ++ List.replicate (m - pf - F.length) 0).length = m := by rw [List.length_append, List.length_append, List.length_replicate, hal]; omega
  have hl7 : LyS w w7 t fi (AA ++ F ++ List.replicate (m - pf - F.length) 0) := by
    refine ⟨by rw [hs7]; exact hl6.size, (ho7 _ (by omega)).trans hl6.b0, (ho7 _ (by omega)).trans hl6.b1, hi7, ?_⟩
    rw [hIl]
    have e6 : (AA ++ List.replicate (m - pf) (0 : UInt8)).length = m := by rw [List.length_append, List.length_replicate, hal]; omega
    have e7 := hl6.b3
    rw [e6] at e7
    exact (ho7 _ (by omega)).trans e7
  obtain ⟨f, hf⟩ : ∃ f, f = p / 256 := ⟨_, rfl⟩
  have hTm : T % 256 = 0 := by rw [HT.out, HZ.out]; unfold tillOf; omega
  have hfi2 : fi = f * 256 := by rw [hfi.out, hf]
  obtain ⟨N, hN⟩ : ∃ N, N = m / 256 := ⟨_, rfl⟩
  have hmN : m = N * 256 := by have := HM.out; omega
  have hRD : R = layE S (lo + f) (AA ++ F ++ List.replicate (m - pf - F.length) 0) N pf := by
    rw [hR.out]
    unfold layD imgOf
    rw [← HT.out, ← hf, ← hfi2, ← HPF.out, hAA, ← HM.out, ← hN]
    rw [show T - (p + F.length) = m - pf - F.length by have := HM.out; have := HPF.out; omega]
  rw [hRD]
  have hxl : ∀ k, X k → k < w.heap.size := by obtain ⟨g, v, hr, ok⟩ := h; exact hr.lt
  exact lay_tail w w7 X t q n S lo hi p c met (h.below hb7) hxl hb7 (ht.below hb7) ht.lt hx hd hW hops f N pf fi T _ hl7 (by rw [hIl, hmN]) (by omega) hfi2 (show T = f * 256 + N * 256 by have := HM.out; omega) (by have := HZ.out; have := HM.out; omega) (show p = f * 256 + pf by have := HPF.out; omega) (by omega) hn _ _ _ _ _ _ _ _ _ _ _ _ _ _ _ _ _ _ _ _ _ _ _ _ _ _ _ _ _ _ _ _ _ _ _ _ _ _ _ _ _ _ _ _ _ _ _ _ _ _ _ _ _ _ _ _ _ _ _ _ _ _ _ _ _ _ _ _ _ _ _ _ _ _ _ _ _ _ _ _ _ _ _ _ _ _ _ _ _ _ _ _ _ _ _ _ _ _ _ _ _ _ _ _ _ _ _ _ _ _ _
end Go.Proofs.Ythgkkmcpmhfehaa
