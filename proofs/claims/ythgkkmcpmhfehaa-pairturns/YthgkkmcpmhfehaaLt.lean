/- tape.lay from its loop on. -/
import Derived.Test.YthgkkmcpmhfehaaLz
namespace Go.Proofs.Ythgkkmcpmhfehaa
open Go.RowKit Go.Lib Go.Shelf
set_option maxRecDepth 100000
attribute [local go_sem] Oper.semAt_some

theorem oper_zero {S : DS} (h : S.oper.2 = 0) : S.oper.1.down = S.down ∧ S.oper.1.W = S.W ∧ S.oper.1.ops = S.ops + 1 ∧ S.oper.1.P = S.P := by
  unfold DS.oper at h ⊢
  split at h
  · rename_i h1; rw [if_pos h1]; exact ⟨rfl, rfl, rfl, rfl⟩
  · rename_i h1
    rw [if_neg h1]
    split at h
    · simp at h
    · rename_i h2; rw [if_neg h2]; exact ⟨rfl, rfl, rfl, rfl⟩
theorem runW_zero (i : Nat) (I : List UInt8) (S : DS) (hd : S.down = false) : ∀ k, (runW i I S k).2 = 0 → (runW i I S k).1.down = false ∧ (runW i I S k).1.W.length = S.W.length + k ∧ (runW i I S k).1.ops = S.ops + k
  | 0, _ => ⟨hd, rfl, rfl⟩
  | k + 1, h => by
    unfold runW at h ⊢
    split at h
    · rename_i h1
      rw [if_pos h1]
      obtain ⟨e1, e2, e3⟩ := runW_zero i I S hd k h1
      obtain ⟨d1, d2, d3, _⟩ := oper_zero h
      refine ⟨d1.trans e1, ?_, ?_⟩
      · rw [d2]; show (_ ++ [_]).length = _; rw [List.length_append, e2]; rfl
      · rw [d3]; show (runW i I S k).1.ops + 1 = _; omega
    · rename_i h1; exact absurd h h1
theorem Book.step {D : Nat} {A B : World} (h : Book D A B) : Step (fun k => k = D ∨ k = D + 1) (fun k => k = D ∨ k = D + 1) A B :=
  ⟨h.os, h.tape, h.output, Nat.le_of_eq h.size.symm, fun k _ hk => h.block k (fun e => hk (.inl e)) (fun e => hk (.inr e)), fun _ h => .inl h⟩
/-- The boxes of a call of pages. -/
structure PgB (W : World) (b t fi T : Nat) : Prop where
  b0 : W.heap[b]? = some (.cells #[.pointer (some ⟨t, 0, none⟩)] 72 (0, 0))
  b1 : W.heap[b + 1]? = some (.cells #[.int .i64 fi] 3 (0, 0))
  b2 : W.heap[b + 2]? = some (.cells #[.int .i64 T] 3 (0, 0))
def tlW (W : World) (t fi T : Nat) : World := ((W.alloc (.cells #[.pointer (some ⟨t, 0, none⟩)] 72)).alloc (.cells #[.int .i64 fi] 3)).alloc (.cells #[.int .i64 T] 3)
theorem tlW_facts (W : World) (t fi T : Nat) : Below W.heap.size W (tlW W t fi T) ∧ (tlW W t fi T).heap.size = W.heap.size + 3 ∧ PgB (tlW W t fi T) W.heap.size t fi T := by
  unfold tlW
  refine ⟨(((Below.refl _ W).alloc (Nat.le_refl _) _).alloc (by simp only [World.size_alloc]; omega) _).alloc (by simp only [World.size_alloc]; omega) _, by simp only [World.size_alloc], ?_, ?_, ?_⟩
  all_goals
    simp only [alloc_at', World.size_alloc]
    repeat (first | rw [if_pos (by omega)] | rw [if_neg (by omega)])
    try rfl

set_option maxHeartbeats 16000000 in
theorem lay_tail (w W : World) (X : Nat → Prop) (t q n : Nat) (S : DS) (lo hi p c met : Nat) (hdr : Drum W X q n S) (hxl : ∀ k, X k → k < w.heap.size) (hbW : Below w.heap.size w W) (htp : Tp W t q lo hi p c met) (htl : t < w.heap.size) (hx : ¬ X t) (hd : S.down = false) (hW : S.W.length < 10000) (hops : S.ops ≤ 100000)
    (f N pf fi T : Nat) (I : List UInt8) (hl : LyS w W t fi I) (hIl : I.length = N * 256) (hN1 : 1 ≤ N) (hfi : Hid (fi = f * 256)) (hT : Hid (T = f * 256 + N * 256)) (hTn : lo + f + N ≤ n) (hp : Hid (p = f * 256 + pf)) (hpf : pf < 256) (hn : n ≤ 4096)
    (x0 x1 x3 x5 x8 x9 x10 x11 x12 x13 x14 x15 x16 x17 x18 x19 x20 x21 x22 x23 x24 x25 x26 x27 x28 x29 x30 x31 x32 x33 x34 x35 x36 x37 x38 x39 x40 x41 x42 x43 x44 x45 x46 x47 x48 x49 x50 x51 x52 x53 x54 x55 x56 x57 x58 x59 x60 x61 x62 x63 x64 x65 x66 x67 x68 x69 x70 x71 x72 x73 x74 x75 x76 x77 x78 x79 x80 x81 x82 x83 x84 x85 x86 x87 x88 x89 x90 x91 x92 x93 x94 x95 x96 x97 x98 x99 x100 x101 x102 x103 x104 x105 x106 x107 x108 x109 x110 x111 x112 x113 x114 : Value) :
    wpF Try.prog 74 (sndC (sndC (sndC (sndC (sndC (sndC (sndC (Try.f74.body.getD .skip)))))))) (bodyPostF Try.prog Try.f74 fun e w' => ∃ X', Drum w' X' q n (layE S (lo + f) I N pf).1 ∧ Step X X' w w' ∧
      (((layE S (lo + f) I N pf).2 = 0 ∧ e = .returned (.tuple #[])) ∨ ((layE S (lo + f) I N pf).2 ≠ 0 ∧ e = .panicked (gup (layE S (lo + f) I N pf).2)))) { tmps := #[x0, x1, .pointer (some ⟨w.heap.size, 0, none⟩), x3, .pointer (some ⟨w.heap.size + 1, 0, none⟩), x5, .int .i64 (T : Int), .pointer (some ⟨w.heap.size + 3, 0, none⟩), x8, x9, x10, x11, x12, x13, x14, x15, x16, x17, x18, x19, x20, x21, x22, x23, x24, x25, x26, x27, x28, x29, x30, x31, x32, x33, x34, x35, x36, x37, x38, x39, x40, x41, x42, x43, x44, x45, x46, x47, x48, x49, x50, x51, x52, x53, x54, x55, x56, x57, x58, x59, x60, x61, x62, x63, x64, x65, x66, x67, x68, x69, x70, x71, x72, x73, x74, x75, x76, x77, x78, x79, x80, x81, x82, x83, x84, x85, x86, x87, x88, x89, x90, x91, x92, x93, x94, x95, x96, x97, x98, x99, x100, x101, x102, x103, x104, x105, x106, x107, x108, x109, x110, x111, x112, x113, x114], defers := [] } W := by
  have hmix : Try.prog.follows .mixedOrders = true := by kernel_rfl
  obtain ⟨R, hR⟩ : ∃ R, Hid (R = layE S (lo + f) I N pf) := ⟨_, rfl⟩
  rw [← hR.out]
  obtain ⟨l1, l2, l3⟩ := hl.cells
  have hpN : pgN fi T = N := by have := hfi.out; have := hT.out; unfold pgN; omega
  have hf9 : fi / 256 = f := by have := hfi.out; omega
  have hT9 : T ≤ 1048576 ∧ fi ≤ T := by have := hfi.out; have := hT.out; omega
  have hsW := hl.size
  obtain ⟨hbT, hsT, hpT⟩ := tlW_facts W t fi T
  refine wpF_seq (wpF_seq (wpF_of_wp ?_))
  go_wp2_with (go_at_call 88; refine (pages_w _ t _ _).mono ?_; rintro e w1 ⟨rfl, hw1⟩)
  clear hw1
  show wpF Try.prog 74 _ _ _ (tlW W t fi T)
  generalize tlW W t fi T = W1 at *
  refine wpF_block (wpF_range Try.func74 rfl (enters_of Try.func95 (by kernel_rfl) rfl) (pages_iter W.heap.size (W.heap.size + 1) (W.heap.size + 2) t lo fi T (by omega) (by omega) (by omega)) (fun _ => rfl)
    (fun k W' => ∃ X', Drum W' X' q n (runW (lo + f) I S k).1 ∧ (runW (lo + f) I S k).2 = 0 ∧ LyS w W' t fi I ∧ PgB W' W.heap.size t fi T ∧ Tp W' t q lo hi p c met ∧ Step X X' w W' ∧ (∀ j, X' j → X j ∨ W.heap.size + 5 ≤ j))
    (fun ch W' => ∃ X', ch = gup (runW (lo + f) I S N).2 ∧ (runW (lo + f) I S N).2 ≠ 0 ∧ Drum W' X' q n (runW (lo + f) I S N).1 ∧ Step X X' w W' ∧ (∀ j, X' j → X j ∨ W.heap.size + 5 ≤ j)) ?cap ?book ?start (fun k => { tmps := #[x0, x1, .pointer (some ⟨w.heap.size, 0, none⟩), x3, .pointer (some ⟨w.heap.size + 1, 0, none⟩), x5, .int .i64 (T : Int), .pointer (some ⟨w.heap.size + 3, 0, none⟩), .int .i64 ((lo : Int) + ((f + k : Nat) : Int)), .int .i64 (((f + k : Nat) : Int) * 256), x10, x11, x12, x13, x14, x15, x16, x17, x18, x19, x20, x21, x22, x23, x24, x25, x26, x27, x28, x29, x30, x31, x32, x33, x34, x35, x36, x37, x38, x39, x40, x41, x42, x43, x44, x45, x46, x47, x48, x49, x50, x51, x52, x53, x54, x55, x56, x57, .pointer (some ⟨t, 0, none⟩), .int .i64 (fi : Int), .int .i64 (T : Int), .func (.func 95) #[] #[.pointer (some ⟨W.heap.size + 1, 0, none⟩), .pointer (some ⟨W.heap.size + 2, 0, none⟩), .pointer (some ⟨W.heap.size, 0, none⟩)], .int .i64 ((lo : Int) + ((f + k : Nat) : Int)), .int .i64 (((f + k : Nat) : Int) * 256), x64, x65, x66, x67, x68, x69, x70, x71, x72, x73, x74, x75, x76, x77, x78, x79, x80, x81, x82, x83, x84, x85, x86, x87, x88, x89, x90, x91, x92, x93, x94, x95, x96, x97, x98, x99, x100, x101, x102, x103, x104, x105, x106, x107, x108, x109, x110, x111, x112, x113, x114], defers := [] }) ?assign ?body ?done ?stop)
  case cap =>
    rintro k A ⟨X', h1, h2, h3, h4, h5, h6, h7⟩
    exact ⟨by rw [cell_of_row _ _ _ _ _ _ h4.b0]; rfl, by rw [cell_of_row _ _ _ _ _ _ h4.b1]; rfl, by rw [cell_of_row _ _ _ _ _ _ h4.b2]; rfl, h5.cells.2.1⟩
  case book =>
    rintro k A B ⟨X', h1, h2, h3, h4, h5, h6, h7⟩ hb
    rw [hsT] at hb
    have hbb : ∀ j, j < W.heap.size + 3 → B.heap[j]? = A.heap[j]? := fun j hj => hb.block j (by omega) (by omega)
    refine ⟨X', h1.on hb.step (fun j hj e => ?_), h2, h3.on (Nat.le_of_eq hb.size.symm) (fun j hj => hbb _ (by omega)), ⟨(hbb _ (by omega)).trans h4.b0, (hbb _ (by omega)).trans h4.b1, (hbb _ (by omega)).trans h4.b2⟩, h5.on (hbb _ (by omega)), ?_, h7⟩
    · have := h7 j hj
      rcases this with h | h
      · have := hxl j h; omega
      · omega
    · exact ⟨hb.os.trans h6.os, hb.tape.trans h6.tape, hb.output.trans h6.output, by rw [hb.size]; exact h6.size, fun j hj hxj => (hbb j (by omega)).trans (h6.block j hj hxj), h6.grow⟩
  case start =>
    intro W2 hb2 hs2
    rw [hsT] at hb2 hs2
    have hb02 : Below W.heap.size W W2 := hbT.trans (hb2.mono (by omega))
    have hb3 : ∀ j, j < W.heap.size → W2.heap[j]? = W.heap[j]? := fun j hj => hb02.block j hj
    refine ⟨X, hdr.below hb02, rfl, hl.on hb02.size (fun j hj => hb3 _ (by omega)), ⟨(hb2.block _ (by omega)).trans hpT.b0, (hb2.block _ (by omega)).trans hpT.b1, (hb2.block _ (by omega)).trans hpT.b2⟩, htp.below hb02, Step.of_below (hbW.trans (hb02.mono hbW.size)), fun j hj => .inl hj⟩
  case assign =>
    intro l k W' K hK
    simp only [pgE]
    gi_wp2
    exact hK
  case body =>
    rintro l k A hk ⟨X', h1, h2, h3, h4, h5, h6, h7⟩ hD hL
    rw [hpN] at hk
    obtain ⟨c1, c2, c3⟩ := h3.cells
    obtain ⟨t0, t1, t2, t3, t4, t5, tf⟩ := h5.cells
    obtain ⟨e1, e2, e3⟩ := runW_zero (lo + f) I S hd k h2
    have hDl : W.heap.size + 3 < A.heap.size := by rw [hsT] at hD; exact (Array.getElem?_eq_some_iff.1 hD).1
    have hLl : W.heap.size + 4 < A.heap.size := by obtain ⟨r, hL⟩ := hL; rw [hsT] at hL; exact (Array.getElem?_eq_some_iff.1 hL).1
    obtain ⟨m, hm⟩ : ∃ m : Nat, m = I.length := ⟨_, rfl⟩
    rw [← hm] at c3
    obtain ⟨o, ho⟩ : ∃ o : Nat, o = k * 256 := ⟨_, rfl⟩
    obtain ⟨o2, ho2⟩ : ∃ o2 : Nat, o2 = o + 256 := ⟨_, rfl⟩
    have hom : o2 ≤ m := by rw [ho2, ho, hm, hIl]; have := Nat.mul_le_mul_right 256 (Nat.succ_le_of_lt hk); omega
    have hm26 : m ≤ 1048576 := by omega
    have w8 : IntKind.i64.wrap (((f : Int) + (k : Int)) * 256 - (fi : Int)) = (o : Int) := by have := hfi.out; rw [wrapI _ (by omega) (by omega)]; omega
    have w12 : IntKind.i64.wrap ((o : Int) + 256) = (o2 : Int) := by rw [wrapI _ (by omega) (by omega)]; omega
    have s1 : (o2 : Int) ≤ (m : Int) := by omega
    have s2 : (o : Int) ≤ (o2 : Int) := by omega
    have s3 : ¬ (m = o) := by omega
    have s4 : o2 - o = 256 := by omega
    have HO : Hid (o = k * 256) := ho
    have HM : Hid (m = I.length) := hm
    clear ho ho2 hm
    have hS : A.drew.cell? ⟨w.heap.size, 0, none⟩ = some (.pointer (some ⟨t, 0, none⟩)) ∧ A.drew.cell? ⟨w.heap.size + 1, 0, none⟩ = some (.int .i64 (fi : Int)) ∧ A.drew.cell? ⟨w.heap.size + 3, 0, none⟩ = some (.slice (some ⟨w.heap.size + 2, 0, none⟩) m m) ∧ A.drew.cell? ⟨t, 0, none⟩ = some (.pointer (some ⟨q, 0, none⟩)) := ⟨c1, c2, c3, t0⟩
    have N27 := write_ok A.drew X' q n (runW (lo + f) I S k).1 (lo + f + k) (.slice (some ⟨w.heap.size + 2, o, none⟩) 256 (m - o)) (pgI I k) (by omega) e1 (by omega) (by omega) h1.drew
      (by unfold pgI; rw [List.length_take, List.length_drop, hIl]; have := Nat.mul_le_mul_right 256 (Nat.succ_le_of_lt hk); omega)
      ⟨_, _, by rw [show (pgI I k).length = 256 by unfold pgI; rw [List.length_take, List.length_drop, hIl]; have := Nat.mul_le_mul_right 256 (Nat.succ_le_of_lt hk); omega], fun _ => ⟨_, _, rfl, by unfold pgI; rw [← HO.out]; exact range_cut (w := A.drew) h3.b2 o 256⟩⟩
      (by intro j hj hxj
          have hj' : j = w.heap.size + 2 := by cases hj; rfl
          subst hj'
          rcases h7 _ hxj with h | h
          · have := hxl _ h; omega
          · omega)
    rw [show ((lo + f + k : Nat) : Int) = (lo : Int) + ((f + k : Nat) : Int) by omega] at N27
    have hrun : runW (lo + f) I S (k + 1) = ((runW (lo + f) I S k).1.put (lo + f + k) (pgI I k)).oper := by rw [runW, if_pos h2]
    rw [← hrun] at N27
    have hstay : ∀ (X2 : Nat → Prop) (A2 : World), Step X' X2 A.drew A2 → (∀ j, j < W.heap.size + 5 → (X j → False) → A2.heap[j]? = A.heap[j]?) ∧ (∀ j, X2 j → X j ∨ W.heap.size + 5 ≤ j) ∧ Step X X2 w A2 := fun X2 A2 hs => by
      have h0 : ∀ j, j < W.heap.size + 5 → (X j → False) → A2.heap[j]? = A.heap[j]? := fun j hj hxj => hs.block j (by show j < A.heap.size; omega) (fun hxx => by rcases h7 j hxx with h | h; exact hxj h; omega)
      refine ⟨h0, fun j hj => ?_, (h6.drew).trans hs⟩
      rcases hs.grow j hj with h | h
      · exact h7 j h
      · exact .inr (by have : A.heap.size ≤ j := h; omega)
    have hnx : ∀ j, w.heap.size ≤ j → X j → False := fun j hj hxj => by have := hxl j hxj; omega
    gi_wp2_with fail
    refine region_in_round (S := fun W' => W'.cell? ⟨w.heap.size, 0, none⟩ = some (.pointer (some ⟨t, 0, none⟩)) ∧ W'.cell? ⟨w.heap.size + 1, 0, none⟩ = some (.int .i64 (fi : Int)) ∧ W'.cell? ⟨w.heap.size + 3, 0, none⟩ = some (.slice (some ⟨w.heap.size + 2, 0, none⟩) m m) ∧ W'.cell? ⟨t, 0, none⟩ = some (.pointer (some ⟨q, 0, none⟩))) hmix (by kernel_rfl) ?_ ?_
    · rintro ⟨a0, w0, _, ⟨h0, _⟩ | ⟨ch, h0, _⟩⟩ <;> cases h0
    refine wpAnyH_take (i := 0) (v := .pointer (some ⟨t, 0, none⟩)) rfl (by kernel_rfl) (by kernel_rfl) (by kernel_rfl) (fun _ _ _ h => h) (.inl ⟨by rfl, fun W' hW' => ?_⟩) hS ?_
    · obtain ⟨u1, u2, u3, u4⟩ := hW'
      go_simp
    dsimp only [Act.put]
    refine wpAnyH_take (i := 1) (v := .pointer (some ⟨t, 0, none⟩)) rfl (by kernel_rfl) (by kernel_rfl) (by kernel_rfl) (fun _ _ _ h => h) (.inl ⟨by rfl, fun W' hW' => ?_⟩) hS ?_
    · obtain ⟨u1, u2, u3, u4⟩ := hW'
      go_simp
    dsimp only [Act.put]
    refine wpAnyH_take (i := 2) (v := .pointer (some ⟨t, 0, none⟩)) rfl (by kernel_rfl) (by kernel_rfl) (by kernel_rfl) (fun _ _ _ h => h) (.inl ⟨by rfl, fun W' hW' => ?_⟩) hS ?_
    · obtain ⟨u1, u2, u3, u4⟩ := hW'
      go_simp
    dsimp only [Act.put]
    refine wpAnyH_take (i := 3) (v := .pointer (some ⟨q, 0, none⟩)) rfl (by kernel_rfl) (by kernel_rfl) (by kernel_rfl) (fun _ _ _ h => h) (.inl ⟨by rfl, fun W' hW' => ?_⟩) hS ?_
    · obtain ⟨u1, u2, u3, u4⟩ := hW'
      go_simp
    dsimp only [Act.put]
    refine wpAnyH_take (i := 4) (v := .int .i64 ((lo : Int) + ((f + k : Nat) : Int))) rfl (by kernel_rfl) (by kernel_rfl) (by kernel_rfl) (fun _ _ _ h => h) (.inl ⟨by rfl, fun W' hW' => ?_⟩) hS ?_
    · obtain ⟨u1, u2, u3, u4⟩ := hW'
      go_simp
    dsimp only [Act.put]
    refine wpAnyH_take (i := 5) (v := .slice (some ⟨w.heap.size + 2, 0, none⟩) m m) rfl (by kernel_rfl) (by kernel_rfl) (by kernel_rfl) (fun _ _ _ h => h) (.inl ⟨by rfl, fun W' hW' => ?_⟩) hS ?_
    · obtain ⟨u1, u2, u3, u4⟩ := hW'
      go_simp
    dsimp only [Act.put]
    refine wpAnyH_take (i := 6) (v := .int .i64 (((f + k : Nat) : Int) * 256)) rfl (by kernel_rfl) (by kernel_rfl) (by kernel_rfl) (fun _ _ _ h => h) (.inl ⟨by rfl, fun W' hW' => ?_⟩) hS ?_
    · obtain ⟨u1, u2, u3, u4⟩ := hW'
      go_simp
    dsimp only [Act.put]
    refine wpAnyH_take (i := 7) (v := .int .i64 (fi : Int)) rfl (by kernel_rfl) (by kernel_rfl) (by kernel_rfl) (fun _ _ _ h => h) (.inl ⟨by rfl, fun W' hW' => ?_⟩) hS ?_
    · obtain ⟨u1, u2, u3, u4⟩ := hW'
      go_simp
    dsimp only [Act.put]
    refine wpAnyH_take (i := 8) (v := .int .i64 (o : Int)) rfl (by kernel_rfl) (by kernel_rfl) (by kernel_rfl) (fun _ _ _ h => h) (.inl ⟨by rfl, fun W' hW' => ?_⟩) hS ?_
    · obtain ⟨u1, u2, u3, u4⟩ := hW'
      go_simp
    dsimp only [Act.put]
    refine wpAnyH_take (i := 9) (v := .int .i64 (((f + k : Nat) : Int) * 256)) rfl (by kernel_rfl) (by kernel_rfl) (by kernel_rfl) (fun _ _ _ h => h) (.inl ⟨by rfl, fun W' hW' => ?_⟩) hS ?_
    · obtain ⟨u1, u2, u3, u4⟩ := hW'
      go_simp
    dsimp only [Act.put]
    refine wpAnyH_take (i := 10) (v := .int .i64 (fi : Int)) rfl (by kernel_rfl) (by kernel_rfl) (by kernel_rfl) (fun _ _ _ h => h) (.inl ⟨by rfl, fun W' hW' => ?_⟩) hS ?_
    · obtain ⟨u1, u2, u3, u4⟩ := hW'
      go_simp
    dsimp only [Act.put]
    refine wpAnyH_take (i := 11) (v := .int .i64 (o : Int)) rfl (by kernel_rfl) (by kernel_rfl) (by kernel_rfl) (fun _ _ _ h => h) (.inl ⟨by rfl, fun W' hW' => ?_⟩) hS ?_
    · obtain ⟨u1, u2, u3, u4⟩ := hW'
      go_simp
    dsimp only [Act.put]
    refine wpAnyH_take (i := 12) (v := .int .i64 (o2 : Int)) rfl (by kernel_rfl) (by kernel_rfl) (by kernel_rfl) (fun _ _ _ h => h) (.inl ⟨by rfl, fun W' hW' => ?_⟩) hS ?_
    · obtain ⟨u1, u2, u3, u4⟩ := hW'
      go_simp
    dsimp only [Act.put]
    refine wpAnyH_take (i := 13) (v := .slice (some ⟨w.heap.size + 2, o, none⟩) 256 (m - o)) rfl (by kernel_rfl) (by kernel_rfl) (by kernel_rfl) (fun _ _ _ h => h) (.inl ⟨by rfl, fun W' hW' => ?_⟩) hS ?_
    · obtain ⟨u1, u2, u3, u4⟩ := hW'
      go_simp
    dsimp only [Act.put]
    refine wpAnyH_one (i := 14) (by kernel_rfl) rfl (by rfl) (fun K hK => ?_)
    go_simp
    refine N27.mono ?_
    rintro e A2 ⟨X2, rfl, hdr2, hs2⟩
    obtain ⟨hst1, hst2, hst3⟩ := hstay X2 A2 hs2
    have hS2 : A2.cell? ⟨w.heap.size, 0, none⟩ = some (.pointer (some ⟨t, 0, none⟩)) ∧ A2.cell? ⟨w.heap.size + 1, 0, none⟩ = some (.int .i64 (fi : Int)) ∧ A2.cell? ⟨w.heap.size + 3, 0, none⟩ = some (.slice (some ⟨w.heap.size + 2, 0, none⟩) m m) ∧ A2.cell? ⟨t, 0, none⟩ = some (.pointer (some ⟨q, 0, none⟩)) := by
      have k1 : ∀ j, j < W.heap.size + 5 → (X j → False) → A2.cell? ⟨j, 0, none⟩ = A.cell? ⟨j, 0, none⟩ := fun j hj hxj => by simp only [World.cell?, hst1 j hj hxj]
      exact ⟨(k1 _ (by omega) (hnx _ (by omega))).trans c1, (k1 _ (by omega) (hnx _ (by omega))).trans c2, (k1 _ (by omega) (hnx _ (by omega))).trans c3, (k1 _ (by omega) hx).trans t0⟩
    show K _ _
    refine hK _ _ hS2 ?_
    clear hK K
    have hHl2 : LyS w A2 t fi I := h3.on (by have := hs2.size; exact this) (fun j hj => hst1 _ (by omega) (hnx _ (by omega)))
    have hfin1 : (runW (lo + f) I S (k + 1)).2 = 0 → ((A2.heap[W1.heap.size]? = A.heap[W1.heap.size]? ∧ A2.heap[W1.heap.size + 1]? = A.heap[W1.heap.size + 1]?) ∧ ∃ X', Drum A2 X' q n (runW (lo + f) I S (k + 1)).1 ∧ (runW (lo + f) I S (k + 1)).2 = 0 ∧ LyS w A2 t fi I ∧ PgB A2 W.heap.size t fi T ∧ Tp A2 t q lo hi p c met ∧ Step X X' w A2 ∧ (∀ j, X' j → X j ∨ W.heap.size + 5 ≤ j)) := fun h0 =>
      ⟨⟨hst1 _ (by omega) (hnx _ (by omega)), hst1 _ (by omega) (hnx _ (by omega))⟩, X2, hdr2, h0, hHl2, ⟨(hst1 _ (by omega) (hnx _ (by omega))).trans h4.b0, (hst1 _ (by omega) (hnx _ (by omega))).trans h4.b1, (hst1 _ (by omega) (hnx _ (by omega))).trans h4.b2⟩, h5.on (hst1 _ (by omega) hx), hst3, hst2⟩
    have hfin2 : (runW (lo + f) I S (k + 1)).2 ≠ 0 → ((A2.heap[W1.heap.size]? = A.heap[W1.heap.size]? ∧ A2.heap[W1.heap.size + 1]? = A.heap[W1.heap.size + 1]?) ∧ ∃ X', gup (runW (lo + f) I S (k + 1)).2 = gup (runW (lo + f) I S N).2 ∧ (runW (lo + f) I S N).2 ≠ 0 ∧ Drum A2 X' q n (runW (lo + f) I S N).1 ∧ Step X X' w A2 ∧ (∀ j, X' j → X j ∨ W.heap.size + 5 ≤ j)) := fun h0 => by
      have := runW_stop (lo + f) I S (k + 1) h0 (N - (k + 1))
      rw [show k + 1 + (N - (k + 1)) = N by omega] at this
      rw [this]
      exact ⟨⟨hst1 _ (by omega) (hnx _ (by omega)), hst1 _ (by omega) (hnx _ (by omega))⟩, X2, rfl, h0, hdr2, hst3, hst2⟩
    have HF1 : Hid _ := hfin1
    have HF2 : Hid _ := hfin2
    clear hfin1 hfin2
    obtain ⟨E, hE⟩ : ∃ E, Hid (E = (runW (lo + f) I S (k + 1)).2) := ⟨_, rfl⟩
    rw [← hE.out]
    by_cases hE0 : E = 0
    · have HF3 := HF1.out (hE.out.symm.trans hE0)
      subst hE0
      refine wpAnyH_one (i := 15) (by kernel_rfl) rfl (by rfl) (fun K hK => ?_)
      go_simp
      refine (insist_ok _).mono ?_
      rintro e A3 ⟨rfl, hA3⟩
      have hA3 := hA3.symm
      subst hA3
      show K _ _
      refine hK _ _ hS2 ?_
      clear hK K
      refine wpAnyH_done (by kernel_rfl) ?_ _
      exact ⟨HF3.1, .inl ⟨rfl, HF3.2⟩⟩
    · have HF3 := HF2.out (fun h => hE0 (hE.out.trans h))
      rw [← hE.out] at HF3
      refine wpAnyH_one (i := 15) (by kernel_rfl) rfl (by rfl) (fun K hK => ?_)
      go_simp
      refine (insist_no _ E hE0).mono ?_
      rintro e A3 ⟨rfl, hA3⟩
      have hA3 := hA3.symm
      subst hA3
      exact ⟨HF3.1, .inr ⟨_, rfl, rfl, HF3.2⟩⟩
  case done =>
    rintro A ⟨X', h1, h2, h3, h4, h5, h6, h7⟩ hD
    rw [hpN] at h1 h2
    obtain ⟨m, hm⟩ : ∃ m : Nat, m = I.length := ⟨_, rfl⟩
    have hm9 : 256 ≤ m ∧ m ≤ 1048576 := by rw [hm, hIl]; omega
    obtain ⟨e1, e2, e3⟩ := runW_zero (lo + f) I S hd N h2
    have hDl : W.heap.size + 3 < A.heap.size := by rw [hsT] at hD; exact (Array.getElem?_eq_some_iff.1 hD).1
    have hnx : ∀ j, w.heap.size ≤ j → X j → False := fun j hj hxj => by have := hxl j hxj; omega
    rw [hsT] at hD
    -- whatever the drum does, the rest stays
    have hstay : ∀ (B : World) (X1 X2 : Nat → Prop) (C : World), Step X1 X2 B C → (∀ j, X1 j → X j ∨ W.heap.size + 4 ≤ j) → W.heap.size + 4 ≤ B.heap.size → (∀ j, j < W.heap.size + 4 → (X j → False) → C.heap[j]? = B.heap[j]?) ∧ (∀ j, X2 j → X j ∨ W.heap.size + 4 ≤ j) := fun B X1 X2 C hs h7 hB =>
      ⟨fun j hj hxj => hs.block j (by omega) (fun hxx => by rcases h7 j hxx with h | h; exact hxj h; omega), fun j hj => by
        rcases hs.grow j hj with h | h
        · exact h7 j h
        · exact .inr (by omega)⟩
    have hout : ∀ (X2 : Nat → Prop), (∀ j, X2 j → X j ∨ W.heap.size + 4 ≤ j) → ∀ j, w.heap.size ≤ j → j < W.heap.size + 4 → ¬ X2 j := fun X2 h7 j h1 h2 hxx => by
      rcases h7 j hxx with h | h
      · exact hnx j h1 h
      · omega
    have hpan : ∀ (C : World) (X2 : Nat → Prop) (S2 : DS) (E : Int) (tm : Array Value), Drum C X2 q n S2 → Step X X2 w C → (∀ j, X2 j → X j ∨ W.heap.size + 4 ≤ j) → C.heap[W.heap.size + 3]? = some (.deferred (some [])) → R = (S2, E) → E ≠ 0 → bodyPostF Try.prog Try.f74 (fun e w' => ∃ X', Drum w' X' q n R.1 ∧ Step X X' w w' ∧ ((R.2 = 0 ∧ e = .returned (.tuple #[])) ∨ (R.2 ≠ 0 ∧ e = .panicked (gup R.2)))) (.panic (gup E)) { tmps := tm, defers := [{ target := .collected (W.heap.size + 3), args := #[] }] } C := fun C X2 S2 E tm g1 g2 g3 g4 g5 g6 => by
      have hb2 : Book (W.heap.size + 3) C (C.putObj (W.heap.size + 3) (.deferred none)) := Book.put _ _ (.inl rfl)
      refine .inr ⟨W.heap.size + 3, #[], _, rfl, run_takeDeferred g4, X2, ?_, ?_, .inr ⟨by rw [g5]; exact g6, by rw [g5]⟩⟩
      · rw [g5]
        exact g1.on (Y := fun k => k = W.heap.size + 3) (Y' := fun k => k = W.heap.size + 3) ⟨hb2.os, hb2.tape, hb2.output, Nat.le_of_eq hb2.size.symm, fun k _ hk => World.putObj_heap_other hk, fun _ h => .inl h⟩ (fun j hj e => hout X2 g3 j (by omega) (by omega) hj)
      · exact ⟨hb2.os.trans g2.os, hb2.tape.trans g2.tape, hb2.output.trans g2.output, by rw [hb2.size]; exact g2.size, fun j hj hxj => (hb2.block j (by omega) (by omega)).trans (g2.block j hj hxj), g2.grow⟩
    have h7' : ∀ j, X' j → X j ∨ W.heap.size + 4 ≤ j := fun j hj => (h7 j hj).imp id (fun h => by omega)
    have hR1 : Hid (R = if (runW (lo + f) I S N).1.flush.2 ≠ 0 then (runW (lo + f) I S N).1.flush else if ((runW (lo + f) I S N).1.flush.1.put (lo + f) (pgI (I.set pf 1) 0)).oper.2 ≠ 0 then ((runW (lo + f) I S N).1.flush.1.put (lo + f) (pgI (I.set pf 1) 0)).oper else ((runW (lo + f) I S N).1.flush.1.put (lo + f) (pgI (I.set pf 1) 0)).oper.1.flush) := by show _ = _; rw [hR.out, layE, if_neg (by simp [h2])]
    generalize runW (lo + f) I S N = r at *
    obtain ⟨c1, c2, c3⟩ := h3.cells
    obtain ⟨t0, t1, t2, t3, t4, t5, tf⟩ := h5.cells
    have N28 := flush_any A X' q n r.1 (by omega) (by omega) h1
    have hfl : r.1.flush = ({ r.1.oper.1 with W := [] }, r.1.oper.2) := by unfold DS.flush; rw [e1]; rfl
    have hflW : r.1.flush.2 = 0 → r.1.flush.1.down = false ∧ r.1.flush.1.W = [] ∧ r.1.flush.1.ops = r.1.ops + 1 := fun h0 => by
      rw [hfl] at h0 ⊢
      obtain ⟨d1, d2, d3, _⟩ := oper_zero h0
      exact ⟨d1.trans e1, rfl, d3⟩
    show wpF Try.prog 74 _ _ _ _
    rw [hsT]
    refine wpF_seq (wpF_of_wp ?_)
    go_wp2_with fail
    refine N28.mono ?_
    rintro e A2 ⟨rfl, hdr2, hs2⟩
    obtain ⟨k1, k2⟩ := hstay A X' X' A2 hs2 h7' (by omega)
    have hD2 := (k1 (W.heap.size + 3) (by omega) (hnx _ (by omega))).trans hD
    have hst2 := h6.trans hs2
    have hl2 : LyS w A2 t fi I := h3.on hs2.size (fun j hj => k1 _ (by omega) (hnx _ (by omega)))
    have ht2 : Tp A2 t q lo hi p c met := h5.on (k1 _ (by omega) hx)
    have hA2 : W.heap.size + 4 ≤ A2.heap.size := by have := hs2.size; omega
    obtain ⟨E1, hE1⟩ : ∃ E, Hid (E = r.1.flush.2) := ⟨_, rfl⟩
    rw [← hE1.out]
    by_cases hE0 : E1 = 0
    rotate_left
    · have hRR : R = (r.1.flush.1, E1) := by rw [hR1.out, if_pos (by rw [← hE1.out]; exact hE0), hE1.out]
      have hfin := hpan A2 X' r.1.flush.1 E1
      go_wp2_with (go_at_call 89; refine (insist_no _ E1 hE0).mono ?_; rintro e A3 ⟨rfl, hA3⟩; have hA3 := hA3.symm; subst hA3)
      exact hfin _ hdr2 hst2 k2 hD2 hRR hE0
    have hF1 := hflW (hE1.out.symm.trans hE0)
    have hR2 := hR1.out
    rw [if_neg (by rw [← hE1.out]; simp [hE0])] at hR2
    have hR3 : Hid _ := hR2
    clear hR1 hR2 hflW hfl hR
    subst hE0
    go_wp2_with (go_at_call 89; refine (insist_ok _).mono ?_; rintro e A3 ⟨rfl, hA3⟩; have hA3 := hA3.symm; subst hA3)
    -- REGION 12
    clear N28
    refine wpF_seq (wpF_of_wp ?_)
    obtain ⟨c1, c2, c3⟩ := hl2.cells
    obtain ⟨t0, t1, t2, t3, t4, t5, tf⟩ := ht2.cells
    rw [← hm] at c3
    have HM : Hid (m = I.length) := hm
    clear hm
    have w6 : IntKind.i64.wrap ((p : Int) - (fi : Int)) = (pf : Int) := by have := hfi.out; have := hp.out; rw [wrapI _ (by omega) (by omega)]; omega
    have i1 : (pf : Int) < (m : Int) := by omega
    have hS : A2.drew.cell? ⟨w.heap.size, 0, none⟩ = some (.pointer (some ⟨t, 0, none⟩)) ∧ A2.drew.cell? ⟨w.heap.size + 1, 0, none⟩ = some (.int .i64 (fi : Int)) ∧ A2.drew.cell? ⟨w.heap.size + 3, 0, none⟩ = some (.slice (some ⟨w.heap.size + 2, 0, none⟩) m m) ∧ A2.drew.cell? ⟨t, 3, none⟩ = some (.int .i64 p) := ⟨c1, c2, c3, t3⟩
    have hI0 : A2.drew.cell? ⟨w.heap.size + 2, pf, none⟩ = some (.int .u8 ((I.getD pf 0).toNat : Int)) := by
      show A2.cell? _ = _
      rw [cell_of_row _ _ _ _ _ _ hl2.b2]
      simp [byteCells, List.getElem?_eq_getElem (show pf < I.length by have := HM.out; omega)]
    have hI1 : A2.drew.frozen? ⟨w.heap.size + 2, pf, none⟩ = false := frozen_of_row A2.drew _ pf _ _ hl2.b2
    generalize I.getD pf 0 = y at hI0
    refine wp_region_held (S := fun W' => W'.cell? ⟨w.heap.size, 0, none⟩ = some (.pointer (some ⟨t, 0, none⟩)) ∧ W'.cell? ⟨w.heap.size + 1, 0, none⟩ = some (.int .i64 (fi : Int)) ∧ W'.cell? ⟨w.heap.size + 3, 0, none⟩ = some (.slice (some ⟨w.heap.size + 2, 0, none⟩) m m) ∧ W'.cell? ⟨t, 3, none⟩ = some (.int .i64 p)) hmix ?_
    show wpAnyH _ _ _ _ _ _ _ _ A2.drew
    refine wpAnyH_take (i := 0) (v := .slice (some ⟨w.heap.size + 2, 0, none⟩) m m) rfl (by kernel_rfl) (by kernel_rfl) (by kernel_rfl) (fun _ _ _ h => h) (.inl ⟨by rfl, fun W' hW' => ?_⟩) hS ?_
    · obtain ⟨u1, u2, u3, u4⟩ := hW'
      go_simp
    dsimp only [Act.put]
    refine wpAnyH_take (i := 1) (v := .pointer (some ⟨t, 0, none⟩)) rfl (by kernel_rfl) (by kernel_rfl) (by kernel_rfl) (fun _ _ _ h => h) (.inl ⟨by rfl, fun W' hW' => ?_⟩) hS ?_
    · obtain ⟨u1, u2, u3, u4⟩ := hW'
      go_simp
    dsimp only [Act.put]
    refine wpAnyH_take (i := 2) (v := .pointer (some ⟨t, 0, none⟩)) rfl (by kernel_rfl) (by kernel_rfl) (by kernel_rfl) (fun _ _ _ h => h) (.inl ⟨by rfl, fun W' hW' => ?_⟩) hS ?_
    · obtain ⟨u1, u2, u3, u4⟩ := hW'
      go_simp
    dsimp only [Act.put]
    refine wpAnyH_take (i := 3) (v := .pointer (some ⟨t, 3, none⟩)) rfl (by kernel_rfl) (by kernel_rfl) (by kernel_rfl) (fun _ _ _ h => h) (.inl ⟨by rfl, fun W' hW' => ?_⟩) hS ?_
    · obtain ⟨u1, u2, u3, u4⟩ := hW'
      go_simp
    dsimp only [Act.put]
    refine wpAnyH_take (i := 4) (v := .int .i64 (p : Int)) rfl (by kernel_rfl) (by kernel_rfl) (by kernel_rfl) (fun _ _ _ h => h) (.inl ⟨by rfl, fun W' hW' => ?_⟩) hS ?_
    · obtain ⟨u1, u2, u3, u4⟩ := hW'
      go_simp
    dsimp only [Act.put]
    refine wpAnyH_take (i := 5) (v := .int .i64 (fi : Int)) rfl (by kernel_rfl) (by kernel_rfl) (by kernel_rfl) (fun _ _ _ h => h) (.inl ⟨by rfl, fun W' hW' => ?_⟩) hS ?_
    · obtain ⟨u1, u2, u3, u4⟩ := hW'
      go_simp
    dsimp only [Act.put]
    refine wpAnyH_take (i := 6) (v := .int .i64 (pf : Int)) rfl (by kernel_rfl) (by kernel_rfl) (by kernel_rfl) (fun _ _ _ h => h) (.inl ⟨by rfl, fun W' hW' => ?_⟩) hS ?_
    · obtain ⟨u1, u2, u3, u4⟩ := hW'
      go_simp
    dsimp only [Act.put]
    refine wpAnyH_take (i := 7) (v := .pointer (some ⟨w.heap.size + 2, pf, none⟩)) rfl (by kernel_rfl) (by kernel_rfl) (by kernel_rfl) (fun _ _ _ h => h) (.inl ⟨by rfl, fun W' hW' => ?_⟩) hS ?_
    · obtain ⟨u1, u2, u3, u4⟩ := hW'
      go_simp
    dsimp only [Act.put]
    refine wpAnyH_one (i := 8) (by kernel_rfl) rfl (by rfl) (fun K hK => ?_)
    go_simp
    obtain ⟨A3, hA3⟩ : ∃ A3, A3 = (A2.setCell ⟨w.heap.size + 2, pf, none⟩ (.int .u8 1)).drew := ⟨_, rfl⟩
    rw [← hA3]
    have ho3 : ∀ j, j ≠ w.heap.size + 2 → A3.heap[j]? = A2.heap[j]? := fun j hj => by rw [hA3]; show (A2.setCell _ _).heap[j]? = _; rw [heap_setCell_other _ _ _ _ hj]
    have hs3 : A3.heap.size = A2.heap.size := by rw [hA3]; show (A2.setCell _ _).heap.size = _; simp
    have hc3 : ∀ j o, j ≠ w.heap.size + 2 → A3.cell? ⟨j, o, none⟩ = A2.cell? ⟨j, o, none⟩ := fun j o hj => by simp only [World.cell?, ho3 j hj]
    have hl3 : LyS w A3 t fi (I.set pf 1) := by
      refine ⟨by rw [hs3]; exact hl2.size, (ho3 _ (by omega)).trans hl2.b0, (ho3 _ (by omega)).trans hl2.b1, ?_, by rw [List.length_set]; exact (ho3 _ (by omega)).trans hl2.b3⟩
      rw [hA3]
      show (A2.setCell _ _).heap[_]? = _
      rw [heap_setCell_same _ _ _ _ _ _ hl2.b2]
      congr 2
      simp [byteCells, List.map_set]
    have hst3 : Step X X' w A3 := by
      exact ⟨by rw [hA3]; exact hst2.os, by rw [hA3]; exact hst2.tape, by rw [hA3]; exact hst2.output, by rw [hs3]; exact hst2.size, fun j hj hxj => by rw [ho3 j (by omega)]; exact hst2.block j hj hxj, hst2.grow⟩
    have hdr3 : Drum A3 X' q n r.1.flush.1 := by
      refine hdr2.on (Y := fun k => k = w.heap.size + 2) (Y' := fun k => k = w.heap.size + 2) ⟨by rw [hA3]; rfl, by rw [hA3]; rfl, by rw [hA3]; rfl, Nat.le_of_eq hs3.symm, fun j _ hj => ho3 j hj, fun _ h => .inl h⟩ (fun j hj e => hout X' k2 j (by omega) (by omega) hj)
    have hD3 := (ho3 (W.heap.size + 3) (by omega)).trans hD2
    have ht3 : Tp A3 t q lo hi p c met := ht2.on (ho3 _ (by omega))
    have hA3s : W.heap.size + 4 ≤ A3.heap.size := by omega
    have hS3 : A3.cell? ⟨w.heap.size, 0, none⟩ = some (.pointer (some ⟨t, 0, none⟩)) ∧ A3.cell? ⟨w.heap.size + 1, 0, none⟩ = some (.int .i64 (fi : Int)) ∧ A3.cell? ⟨w.heap.size + 3, 0, none⟩ = some (.slice (some ⟨w.heap.size + 2, 0, none⟩) m m) ∧ A3.cell? ⟨t, 3, none⟩ = some (.int .i64 p) := ⟨(hc3 _ _ (by omega)).trans c1, (hc3 _ _ (by omega)).trans c2, (hc3 _ _ (by omega)).trans c3, (hc3 _ _ (by omega)).trans t3⟩
    refine hK _ _ hS3 ?_
    clear hK K hA3
    refine wpAnyH_done (by kernel_rfl) ?_ _
    -- REGION 13
    refine wpF_seq (wpF_of_wp ?_)
    obtain ⟨t0, t1, t2, t3, t4, t5, tf⟩ := ht3.cells
    have hq9 : ((fi : Nat) : Int).tdiv 256 = (f : Int) := by have := hfi.out; rw [Int.tdiv_eq_ediv_of_nonneg (by omega)]; omega
    have w10 : IntKind.i64.wrap ((lo : Int) + (f : Int)) = (lo : Int) + (f : Int) := wrapI _ (by omega) (by omega)
    have w9 : IntKind.i64.wrap (f : Int) = (f : Int) := wrapI _ (by omega) (by omega)
    have j1 : (256 : Int) ≤ (m : Int) := by omega
    have j2 : ¬ (m = 0) := by omega
    have hS4 : A3.drew.cell? ⟨w.heap.size, 0, none⟩ = some (.pointer (some ⟨t, 0, none⟩)) ∧ A3.drew.cell? ⟨w.heap.size + 1, 0, none⟩ = some (.int .i64 (fi : Int)) ∧ A3.drew.cell? ⟨w.heap.size + 3, 0, none⟩ = some (.slice (some ⟨w.heap.size + 2, 0, none⟩) m m) ∧ A3.drew.cell? ⟨t, 0, none⟩ = some (.pointer (some ⟨q, 0, none⟩)) ∧ A3.drew.cell? ⟨t, 1, none⟩ = some (.int .i64 lo) := ⟨hS3.1, hS3.2.1, hS3.2.2.1, t0, t1⟩
    have hpl : (pgI (I.set pf 1) 0).length = 256 := by unfold pgI; rw [List.length_take, List.length_drop, List.length_set]; have := HM.out; omega
    have N27 := write_ok A3.drew X' q n r.1.flush.1 (lo + f) (.slice (some ⟨w.heap.size + 2, 0, none⟩) 256 m) (pgI (I.set pf 1) 0) (by omega) hF1.1 (by rw [hF1.2.1]; decide) (by omega) hdr3.drew hpl
      ⟨_, _, by rw [hpl], fun _ => ⟨_, _, rfl, by unfold pgI; exact range_cut (w := A3.drew) hl3.b2 0 256⟩⟩
      (by intro j hj hxj
          have hj' : j = w.heap.size + 2 := by cases hj; rfl
          subst hj'
          exact hout X' k2 _ (by omega) (by omega) hxj)
    rw [show ((lo + f : Nat) : Int) = (lo : Int) + (f : Int) by omega] at N27
    have hop0 : (r.1.flush.1.put (lo + f) (pgI (I.set pf 1) 0)).oper.2 = 0 → (r.1.flush.1.put (lo + f) (pgI (I.set pf 1) 0)).oper.1.down = false ∧ (r.1.flush.1.put (lo + f) (pgI (I.set pf 1) 0)).oper.1.W.length ≤ 1 ∧ (r.1.flush.1.put (lo + f) (pgI (I.set pf 1) 0)).oper.1.ops = r.1.ops + 2 := fun h0 => by
      obtain ⟨d1, d2, d3, _⟩ := oper_zero h0
      refine ⟨d1.trans hF1.1, ?_, ?_⟩
      · rw [d2]; show (_ ++ [_]).length ≤ _; rw [hF1.2.1]; simp
      · rw [d3]; show r.1.flush.1.ops + 1 = _; rw [hF1.2.2]
    generalize (r.1.flush.1.put (lo + f) (pgI (I.set pf 1) 0)).oper = g at *
    refine wp_region_held (S := fun W' => W'.cell? ⟨w.heap.size, 0, none⟩ = some (.pointer (some ⟨t, 0, none⟩)) ∧ W'.cell? ⟨w.heap.size + 1, 0, none⟩ = some (.int .i64 (fi : Int)) ∧ W'.cell? ⟨w.heap.size + 3, 0, none⟩ = some (.slice (some ⟨w.heap.size + 2, 0, none⟩) m m) ∧ W'.cell? ⟨t, 0, none⟩ = some (.pointer (some ⟨q, 0, none⟩)) ∧ W'.cell? ⟨t, 1, none⟩ = some (.int .i64 lo)) hmix ?_
    show wpAnyH _ _ _ _ _ _ _ _ A3.drew
    refine wpAnyH_take (i := 0) (v := .pointer (some ⟨t, 0, none⟩)) rfl (by kernel_rfl) (by kernel_rfl) (by kernel_rfl) (fun _ _ _ h => h) (.inl ⟨by rfl, fun W' hW' => ?_⟩) hS4 ?_
    · obtain ⟨u1, u2, u3, u4, u5⟩ := hW'
      go_simp
    dsimp only [Act.put]
    refine wpAnyH_take (i := 1) (v := .pointer (some ⟨t, 0, none⟩)) rfl (by kernel_rfl) (by kernel_rfl) (by kernel_rfl) (fun _ _ _ h => h) (.inl ⟨by rfl, fun W' hW' => ?_⟩) hS4 ?_
    · obtain ⟨u1, u2, u3, u4, u5⟩ := hW'
      go_simp
    dsimp only [Act.put]
    refine wpAnyH_take (i := 2) (v := .pointer (some ⟨t, 0, none⟩)) rfl (by kernel_rfl) (by kernel_rfl) (by kernel_rfl) (fun _ _ _ h => h) (.inl ⟨by rfl, fun W' hW' => ?_⟩) hS4 ?_
    · obtain ⟨u1, u2, u3, u4, u5⟩ := hW'
      go_simp
    dsimp only [Act.put]
    refine wpAnyH_take (i := 3) (v := .pointer (some ⟨q, 0, none⟩)) rfl (by kernel_rfl) (by kernel_rfl) (by kernel_rfl) (fun _ _ _ h => h) (.inl ⟨by rfl, fun W' hW' => ?_⟩) hS4 ?_
    · obtain ⟨u1, u2, u3, u4, u5⟩ := hW'
      go_simp
    dsimp only [Act.put]
    refine wpAnyH_take (i := 4) (v := .pointer (some ⟨t, 0, none⟩)) rfl (by kernel_rfl) (by kernel_rfl) (by kernel_rfl) (fun _ _ _ h => h) (.inl ⟨by rfl, fun W' hW' => ?_⟩) hS4 ?_
    · obtain ⟨u1, u2, u3, u4, u5⟩ := hW'
      go_simp
    dsimp only [Act.put]
    refine wpAnyH_take (i := 5) (v := .pointer (some ⟨t, 0, none⟩)) rfl (by kernel_rfl) (by kernel_rfl) (by kernel_rfl) (fun _ _ _ h => h) (.inl ⟨by rfl, fun W' hW' => ?_⟩) hS4 ?_
    · obtain ⟨u1, u2, u3, u4, u5⟩ := hW'
      go_simp
    dsimp only [Act.put]
    refine wpAnyH_take (i := 6) (v := .pointer (some ⟨t, 1, none⟩)) rfl (by kernel_rfl) (by kernel_rfl) (by kernel_rfl) (fun _ _ _ h => h) (.inl ⟨by rfl, fun W' hW' => ?_⟩) hS4 ?_
    · obtain ⟨u1, u2, u3, u4, u5⟩ := hW'
      go_simp
    dsimp only [Act.put]
    refine wpAnyH_take (i := 7) (v := .int .i64 (lo : Int)) rfl (by kernel_rfl) (by kernel_rfl) (by kernel_rfl) (fun _ _ _ h => h) (.inl ⟨by rfl, fun W' hW' => ?_⟩) hS4 ?_
    · obtain ⟨u1, u2, u3, u4, u5⟩ := hW'
      go_simp
    dsimp only [Act.put]
    refine wpAnyH_take (i := 8) (v := .int .i64 (fi : Int)) rfl (by kernel_rfl) (by kernel_rfl) (by kernel_rfl) (fun _ _ _ h => h) (.inl ⟨by rfl, fun W' hW' => ?_⟩) hS4 ?_
    · obtain ⟨u1, u2, u3, u4, u5⟩ := hW'
      go_simp
    dsimp only [Act.put]
    refine wpAnyH_take (i := 9) (v := .int .i64 (f : Int)) rfl (by kernel_rfl) (by kernel_rfl) (by kernel_rfl) (fun _ _ _ h => h) (.inl ⟨by rfl, fun W' hW' => ?_⟩) hS4 ?_
    · obtain ⟨u1, u2, u3, u4, u5⟩ := hW'
      go_simp
    dsimp only [Act.put]
    refine wpAnyH_take (i := 10) (v := .int .i64 ((lo : Int) + (f : Int))) rfl (by kernel_rfl) (by kernel_rfl) (by kernel_rfl) (fun _ _ _ h => h) (.inl ⟨by rfl, fun W' hW' => ?_⟩) hS4 ?_
    · obtain ⟨u1, u2, u3, u4, u5⟩ := hW'
      go_simp
    dsimp only [Act.put]
    refine wpAnyH_take (i := 11) (v := .slice (some ⟨w.heap.size + 2, 0, none⟩) m m) rfl (by kernel_rfl) (by kernel_rfl) (by kernel_rfl) (fun _ _ _ h => h) (.inl ⟨by rfl, fun W' hW' => ?_⟩) hS4 ?_
    · obtain ⟨u1, u2, u3, u4, u5⟩ := hW'
      go_simp
    dsimp only [Act.put]
    refine wpAnyH_take (i := 12) (v := .slice (some ⟨w.heap.size + 2, 0, none⟩) 256 m) rfl (by kernel_rfl) (by kernel_rfl) (by kernel_rfl) (fun _ _ _ h => h) (.inl ⟨by rfl, fun W' hW' => ?_⟩) hS4 ?_
    · obtain ⟨u1, u2, u3, u4, u5⟩ := hW'
      go_simp
    dsimp only [Act.put]
    refine wpAnyH_one (i := 13) (by kernel_rfl) rfl (by rfl) (fun K hK => ?_)
    go_simp
    refine N27.mono ?_
    rintro e A4 ⟨X4, rfl, hdr4, hs4⟩
    obtain ⟨k3, k4⟩ := hstay A3.drew X' X4 A4 hs4 k2 hA3s
    have hD4 := (k3 (W.heap.size + 3) (by omega) (hnx _ (by omega))).trans hD3
    have hst4 : Step X X4 w A4 := (hst3.drew).trans hs4
    have ht4 : Tp A4 t q lo hi p c met := ht3.on (k3 _ (by omega) hx)
    have hA4 : W.heap.size + 4 ≤ A4.heap.size := by have := hs4.size; have : A3.heap.size ≤ A4.heap.size := this; omega
    have hS5 : A4.cell? ⟨w.heap.size, 0, none⟩ = some (.pointer (some ⟨t, 0, none⟩)) ∧ A4.cell? ⟨w.heap.size + 1, 0, none⟩ = some (.int .i64 (fi : Int)) ∧ A4.cell? ⟨w.heap.size + 3, 0, none⟩ = some (.slice (some ⟨w.heap.size + 2, 0, none⟩) m m) ∧ A4.cell? ⟨t, 0, none⟩ = some (.pointer (some ⟨q, 0, none⟩)) ∧ A4.cell? ⟨t, 1, none⟩ = some (.int .i64 lo) := by
      have kk : ∀ j o, j < W.heap.size + 4 → (X j → False) → A4.cell? ⟨j, o, none⟩ = A3.cell? ⟨j, o, none⟩ := fun j o hj hxj => by simp only [World.cell?, k3 j hj hxj]; rfl
      exact ⟨(kk _ _ (by omega) (hnx _ (by omega))).trans hS3.1, (kk _ _ (by omega) (hnx _ (by omega))).trans hS3.2.1, (kk _ _ (by omega) (hnx _ (by omega))).trans hS3.2.2.1, (kk _ _ (by omega) hx).trans t0, (kk _ _ (by omega) hx).trans t1⟩
    show K _ _
    refine hK _ _ hS5 ?_
    clear hK K
    obtain ⟨E2, hE2⟩ : ∃ E, Hid (E = g.2) := ⟨_, rfl⟩
    rw [← hE2.out]
    by_cases hE0 : E2 = 0
    rotate_left
    · have hRR : Hid (R = (g.1, E2)) := by show _ = _; rw [hR3.out, if_pos (by rw [← hE2.out]; exact hE0), hE2.out]
      have hfin := hpan A4 X4 g.1 E2
      refine wpAnyH_one (i := 14) (by kernel_rfl) rfl (by rfl) (fun K hK => ?_)
      go_simp
      refine (insist_no _ E2 hE0).mono ?_
      rintro e A5 ⟨rfl, hA5⟩
      have hA5 := hA5.symm
      subst hA5
      exact hfin _ hdr4 hst4 k4 hD4 hRR.out hE0
    have hF2 := hop0 (hE2.out.symm.trans hE0)
    have hR4 := hR3.out
    rw [if_neg (by rw [← hE2.out]; simp [hE0])] at hR4
    have hR5 : Hid _ := hR4
    clear hR3 hR4 hop0
    subst hE0
    refine wpAnyH_one (i := 14) (by kernel_rfl) rfl (by rfl) (fun K hK => ?_)
    go_simp
    refine (insist_ok _).mono ?_
    rintro e A5 ⟨rfl, hA5⟩
    have hA5 := hA5.symm
    subst hA5
    show K _ _
    refine hK _ _ hS5 ?_
    clear hK K
    refine wpAnyH_done (by kernel_rfl) ?_ _
    -- REGION 14
    refine wpF_of_wp ?_
    have N28 := flush_any A4 X4 q n g.1 (by omega) (by omega) hdr4
    obtain ⟨u0, u1, u2, u3, u4⟩ := hS5
    clear N27 hS hS3 hS4
    go_wp2_with fail
    refine N28.mono ?_
    rintro e A6 ⟨rfl, hdr6, hs6⟩
    obtain ⟨k5, k6⟩ := hstay A4 X4 X4 A6 hs6 k4 hA4
    have hD6 := (k5 (W.heap.size + 3) (by omega) (hnx _ (by omega))).trans hD4
    have hst6 := hst4.trans hs6
    obtain ⟨E3, hE3⟩ : ∃ E, Hid (E = g.1.flush.2) := ⟨_, rfl⟩
    have hRR : R = (g.1.flush.1, E3) := by rw [hR5.out, hE3.out]
    rw [← hE3.out]
    by_cases hE0 : E3 = 0
    rotate_left
    · have hfin := hpan A6 X4 g.1.flush.1 E3
      go_wp2_with (go_at_call 89; refine (insist_no _ E3 hE0).mono ?_; rintro e A3 ⟨rfl, hA3⟩; have hA3 := hA3.symm; subst hA3)
      exact hfin _ hdr6 hst6 k6 hD6 hRR hE0
    have hb6 : Book (W.heap.size + 3) A6 (A6.putObj (W.heap.size + 3) (.deferred none)) := Book.put _ _ (.inl rfl)
    have hdr7 : Drum (A6.putObj (W.heap.size + 3) (.deferred none)) X4 q n R.1 := by
      rw [hRR]
      exact hdr6.on (Y := fun k => k = W.heap.size + 3) (Y' := fun k => k = W.heap.size + 3) ⟨hb6.os, hb6.tape, hb6.output, Nat.le_of_eq hb6.size.symm, fun k _ hk => World.putObj_heap_other hk, fun _ h => .inl h⟩ (fun j hj e => hout X4 k6 j (by omega) (by omega) hj)
    have hst7 : Step X X4 w (A6.putObj (W.heap.size + 3) (.deferred none)) := ⟨hb6.os.trans hst6.os, hb6.tape.trans hst6.tape, hb6.output.trans hst6.output, by rw [hb6.size]; exact hst6.size, fun j hj hxj => (hb6.block j (by omega) (by omega)).trans (hst6.block j hj hxj), hst6.grow⟩
    have hR20 : R.2 = 0 := by rw [hRR]; exact hE0
    have HD6 : Hid _ := hD6
    have HX : Hid _ := And.intro hdr7 (And.intro hst7 hR20)
    clear hRR hR5 hR20
    subst hE0
    go_wp2_with (go_at_call 89; refine (insist_ok _).mono ?_; rintro e A3 ⟨rfl, hA3⟩; have hA3 := hA3.symm; subst hA3)
    exact ⟨W.heap.size + 3, #[], _, .tuple #[], rfl, run_takeDeferred HD6.out, by simp [results, Try.results74], X4, HX.out.1, HX.out.2.1, .inl ⟨HX.out.2.2, rfl⟩⟩
  case stop =>
    rintro ch A ⟨X', rfl, h2, h1, h6, h7⟩ hD
    have hR0 : R = runW (lo + f) I S N := by rw [hR.out, layE, if_pos h2]
    have hb2 : Book W1.heap.size A (A.putObj W1.heap.size (.deferred none)) := Book.put _ _ (.inl rfl)
    refine .inr ⟨W1.heap.size, #[], _, rfl, run_takeDeferred hD, X', ?_, ?_, .inr ⟨by rw [hR0]; exact h2, by rw [hR0]⟩⟩
    · rw [hR0]
      refine h1.on hb2.step (fun j hj e => ?_)
      rcases h7 j hj with h | h
      · have := hxl j h; omega
      · omega
    · exact ⟨hb2.os.trans h6.os, hb2.tape.trans h6.tape, hb2.output.trans h6.output, by rw [hb2.size]; exact h6.size, fun j hj hxj => (hb2.block j (by omega) (by omega)).trans (h6.block j hj hxj), h6.grow⟩
end Go.Proofs.Ythgkkmcpmhfehaa
