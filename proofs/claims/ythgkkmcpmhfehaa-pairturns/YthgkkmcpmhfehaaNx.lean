/- tape.next: the record at the place. -/
import Derived.Test.YthgkkmcpmhfehaaRy
import Derived.Test.YthgkkmcpmhfehaaSm
namespace Go.Proofs.Ythgkkmcpmhfehaa
open Go.RowKit Go.Lib
set_option maxRecDepth 100000

/-- What stands at a place: 0 none, 1 a record, else an error. -/
def nxt (P : List UInt8) (lo size p c : Nat) : Nat × List UInt8 :=
  if size < p + 12 then (0, []) else
  if (cutB P lo p 12).getD 0 0 = 0 then (0, []) else
  if (cutB P lo p 12).getD 0 0 ≠ 1 ∨ 65536 < Sl.de (((cutB P lo p 12).drop 1).take 3) ∨ size < p + 12 + Sl.de (((cutB P lo p 12).drop 1).take 3) then (11, []) else
  if Sl.de ((cutB P lo p 12).drop 4) ≠ sumN c (((cutB P lo p 12).drop 1).take 3) (cutB P lo (p + 12) (Sl.de (((cutB P lo p 12).drop 1).take 3))) then (12, []) else
  (1, cutB P lo (p + 12) (Sl.de (((cutB P lo p 12).drop 1).take 3)))

/-- A record in memory of its own. -/
def RecAt (w : World) (B : Nat) (v : Value) (r : List UInt8) : Prop := ∃ g, v = .slice (some ⟨g, 0, none⟩) r.length r.length ∧ B ≤ g ∧ w.heap[g]? = some (.cells (byteCells r).toArray 5 (0, 0))

/-- What next answers. -/
def NextPost (w : World) (R : Nat × List UInt8) (e : Ending) (w' : World) : Prop :=
  Below w.heap.size w w' ∧ ((R.1 = 0 ∧ e = .returned (.tuple #[.slice none 0 0, .bool false])) ∨ (R.1 = 1 ∧ ∃ v, e = .returned (.tuple #[v, .bool true]) ∧ RecAt w' w.heap.size v R.2) ∨
    ((R.1 = 11 ∨ R.1 = 12) ∧ e = .panicked (gup (R.1 : Int))))

theorem below_drew (w : World) : Below w.heap.size w w.drew := ⟨rfl, rfl, rfl, Nat.le_refl _, fun _ _ => rfl⟩

set_option maxHeartbeats 4000000 in
theorem next_any (w : World) (X : Nat → Prop) (t q n : Nat) (S : DS) (lo hi p c met : Nat) (h : Drum w X q n S) (ht : Tp w t q lo hi p c met) (hlh : lo ≤ hi) (hh : hi ≤ n) (hp : p ≤ (hi - lo) * 256) (hd : S.down = false) :
    Calls Try.prog 94 #[.pointer (some ⟨t, 0, none⟩)] w (NextPost w (nxt S.P lo ((hi - lo) * 256) p c)) := by
  have hn : n ≤ 4096 := by obtain ⟨g, v, hr, ok⟩ := h; exact ok.top
  have hPl : S.P.length = n * 256 := by obtain ⟨g, v, hr, ok⟩ := h; exact ok.len
  obtain ⟨t0, t1, t2, t3, t4, t5, tf⟩ := ht.cells
  obtain ⟨sz, hsz⟩ : ∃ sz, sz = (hi - lo) * 256 := ⟨_, rfl⟩
  have N41 : ∀ w1, Tp w1 t q lo hi p c met → Calls Try.prog 71 #[.pointer (some ⟨t, 0, none⟩)] w1 fun e w' => e = .returned (.int .i64 (sz : Int)) ∧ w' = w1.drew := fun w1 h1 => by rw [hsz]; exact size_any w1 t q lo hi p c met h1 hlh (by omega)
  rw [← hsz] at hp ⊢
  have hszb : lo * 256 + sz ≤ n * 256 := by omega
  obtain ⟨R, hR⟩ : ∃ R, Hid (R = nxt S.P lo sz p c) := ⟨_, rfl⟩
  rw [← hR.out]
  clear hsz
  go_enter Try.func94, Try.ntmps94
  go_wp2_with fail
  refine (N41 w ht).mono ?_
  rintro e w1 ⟨rfl, rfl⟩
  by_cases hA : sz < p + 12
  · have hR0 : R = (0, []) := by rw [hR.out, nxt, if_pos hA]
    have hA' : (sz : Int) < (p : Int) + 12 := by omega
    go_wp2_with fail
    go_ret2
    exact ⟨below_drew w, .inl ⟨by rw [hR0], rfl⟩⟩
  have hA' : ¬ (sz : Int) < (p : Int) + 12 := by omega
  have N56 : Calls Try.prog 87 #[.pointer (some ⟨t, 0, none⟩), .int .i64 p, .int .i64 ((p : Int) + 12)] w.drew _ := read_any w.drew X t q n S lo hi p c met p (p + 12) h.drew (ht.on rfl) (by rw [hd]; simp) (by omega) (by omega)
  go_wp2_with fail
  refine N56.mono ?_
  rintro e w2 ⟨hb2, hor⟩
  obtain ⟨rfl, hh2⟩ : e = .returned (.slice (some ⟨w.heap.size + 3, 0, none⟩) 12 12) ∧ w2.heap[w.heap.size + 3]? = some (.cells (byteCells (cutB S.P lo p 12)).toArray 5 (0, 0)) := by
    have e12 : p + 12 - p = 12 := by omega
    rcases hor with ⟨_, h1, h2⟩ | ⟨h1, _⟩
    · rw [e12] at h1 h2; exact ⟨h1, h2⟩
    · rw [hd] at h1; cases h1
  clear hor
  have hHl : (cutB S.P lo p 12).length = 12 := cutB_length _ _ _ _ (by omega)
  have hR1 : Hid (R = if (cutB S.P lo p 12).getD 0 0 = 0 then (0, []) else if (cutB S.P lo p 12).getD 0 0 ≠ 1 ∨ 65536 < Sl.de (((cutB S.P lo p 12).drop 1).take 3) ∨ sz < p + 12 + Sl.de (((cutB S.P lo p 12).drop 1).take 3) then (11, []) else if Sl.de ((cutB S.P lo p 12).drop 4) ≠ sumN c (((cutB S.P lo p 12).drop 1).take 3) (cutB S.P lo (p + 12) (Sl.de (((cutB S.P lo p 12).drop 1).take 3))) then (12, []) else (1, cutB S.P lo (p + 12) (Sl.de (((cutB S.P lo p 12).drop 1).take 3)))) := by show _ = _; rw [hR.out, nxt, if_neg hA]
  clear hR
  generalize hH : cutB S.P lo p 12 = H at *
  have hb02 : Below w.heap.size w w2 := (below_drew w).trans hb2
  have hH0 : w2.cell? ⟨w.heap.size + 3, 0, none⟩ = some (.int .u8 ((H.getD 0 0).toNat : Int)) := by
    rw [cell_of_row _ _ _ _ _ _ hh2]
    simp [byteCells, List.getElem?_eq_getElem (show 0 < H.length by omega)]
  generalize H.getD 0 0 = y at *
  by_cases hB : y = 0
  · have hR0 : R = (0, []) := by rw [hR1.out, if_pos hB]
    rw [hB] at hH0
    go_wp2_with fail
    go_ret2
    exact ⟨hb02, .inl ⟨by rw [hR0], rfl⟩⟩
  have hB0 : ¬ y.toNat = 0 := fun e => hB (UInt8.toNat_inj.1 e)
  have hB' : ¬ (y.toNat : Int) = 0 := by omega
  have hR2 := hR1.out
  rw [if_neg hB] at hR2
  have hR3 : Hid _ := hR2
  clear hR1 hR2
  have h13 : w2.rangeAt (w.heap.size + 3) 1 (byteCells ((H.drop 1).take 3)) := range_cut hh2 1 3
  have h4 : Sl.RdA w2 (.slice (some ⟨w.heap.size + 3, 0, none⟩) 12 12) (H.take 4 ++ H.drop 4) := by
    have := sl_range (c := 12) (range_of_block hh2) (by omega)
    rw [hHl] at this
    rw [List.take_append_drop]; exact this
  have hl3 : ((H.drop 1).take 3).length = 3 := by rw [List.length_take, List.length_drop]; omega
  have h3A : Sl.RdA w2 (.slice (some ⟨w.heap.size + 3, 1, none⟩) 3 11) ((H.drop 1).take 3) := by
    have := sl_range (c := 11) h13 (by omega)
    rw [hl3] at this; exact this
  have hl8 : (H.drop 4).length = 8 := by rw [List.length_drop]; omega
  have N62 := number_any w2 (w.heap.size + 3) 1 11 ((H.drop 1).take 3) hl3 h13
  have hm24 : Sl.de ((H.drop 1).take 3) < 16777216 := by
    have := Sl.de_lt ((H.drop 1).take 3)
    rw [hl3] at this; exact this
  generalize (H.drop 1).take 3 = L3 at *
  generalize H.drop 4 = L8 at *
  have hl4 : (H.take 4).length = 4 := by rw [List.length_take]; omega
  generalize H.take 4 = L4 at *
  obtain ⟨m, hm⟩ : ∃ m, m = Sl.de L3 := ⟨_, rfl⟩
  rw [← hm] at N62 hm24 hR3
  have HM : Hid (m = Sl.de L3) := hm
  clear hm
  have hdr2 : Drum w2 X q n S := h.below hb02
  have ht2 : Tp w2 t q lo hi p c met := ht.below hb02
  obtain ⟨u0, u1, u2, u3, u4, u5, uf⟩ := ht2.cells
  have HF2 : Hid _ := hh2
  clear hh2 h13 hHl hH
  go_wp2_with fail
  refine N62.mono ?_
  rintro e w3 ⟨rfl, rfl⟩
  by_cases hC : y ≠ 1 ∨ 65536 < m ∨ sz < p + 12 + m
  · have hR0 : R = (11, []) := by rw [hR3.out, if_pos hC]
    have hfin : NextPost w R (.panicked (gup 11)) w3 := ⟨hb02, .inr (.inr ⟨by rw [hR0]; simp, by rw [hR0]; rfl⟩)⟩
    have hfin2 : NextPost w R (.panicked (gup 11)) w3.drew := ⟨hb02.trans ((below_drew w3).mono hb02.size), .inr (.inr ⟨by rw [hR0]; simp, by rw [hR0]; rfl⟩)⟩
    clear hR0 hR3
    by_cases hy1 : y = 1
    · subst hy1
      by_cases hm1 : 65536 < m
      · have hm1' : (65536 : Int) < (m : Int) := by omega
        go_wp2_with fail
        exact ⟨rfl, hfin⟩
      · have hm1' : ¬ (65536 : Int) < (m : Int) := by omega
        have hm2' : (sz : Int) - ((p : Int) + 12) < (m : Int) := by rcases hC with h1 | h1 | h1 <;> first | (exact absurd rfl h1) | omega
        go_wp2_with (go_at_call 71; refine (N41 w3 ht2).mono ?_; rintro e w4 ⟨rfl, rfl⟩)
        exact ⟨rfl, hfin2⟩
    · have hy1' : ¬ (y.toNat : Int) = 1 := fun e => hy1 (UInt8.toNat_inj.1 (by show y.toNat = 1; omega))
      go_wp2_with fail
      exact ⟨rfl, hfin⟩
  have hR4 := hR3.out
  rw [if_neg hC] at hR4
  have hR5 : Hid _ := hR4
  clear hR3 hR4
  obtain ⟨hy1, hm1, hm2⟩ : y = 1 ∧ m ≤ 65536 ∧ p + 12 + m ≤ sz := by
    refine ⟨?_, ?_, ?_⟩
    · by_cases h1 : y = 1
      · exact h1
      · exact absurd (.inl h1) hC
    · by_cases h1 : 65536 < m
      · exact absurd (.inr (.inl h1)) hC
      · omega
    · by_cases h1 : sz < p + 12 + m
      · exact absurd (.inr (.inr h1)) hC
      · omega
  clear hC
  subst hy1
  have hm1' : ¬ (65536 : Int) < (m : Int) := by omega
  have hm2' : ¬ (sz : Int) - ((p : Int) + 12) < (m : Int) := by omega
  go_wp2_with (go_at_call 71; refine (N41 w3 ht2).mono ?_; rintro e w4 ⟨rfl, rfl⟩)
  have N56b := read_any w3.drew X t q n S lo hi p c met (p + 12) (p + 12 + m) hdr2.drew (ht2.on rfl) (by rw [hd]; simp) (by omega) (by omega)
  rw [show ((p + 12 + m : Nat) : Int) = (p : Int) + 12 + (m : Int) by omega, show ((p + 12 : Nat) : Int) = (p : Int) + 12 by omega] at N56b
  refine N56b.mono ?_
  rintro e w5 ⟨hb5, hor⟩
  obtain ⟨rfl, hh5⟩ : e = .returned (.slice (some ⟨w3.heap.size + 3, 0, none⟩) m m) ∧ w5.heap[w3.heap.size + 3]? = some (.cells (byteCells (cutB S.P lo (p + 12) m)).toArray 5 (0, 0)) := by
    have e12 : p + 12 + m - (p + 12) = m := by omega
    rcases hor with ⟨_, h1, h2⟩ | ⟨h1, _⟩
    · rw [e12] at h1 h2; exact ⟨h1, h2⟩
    · rw [hd] at h1; cases h1
  clear hor N56b N56
  have hrl : (cutB S.P lo (p + 12) m).length = m := cutB_length _ _ _ _ (by omega)
  generalize cutB S.P lo (p + 12) m = r at *
  have hb35 : Below w3.heap.size w3 w5 := (below_drew w3).trans hb5
  have h45 : Sl.RdA w5 (.slice (some ⟨w.heap.size + 3, 0, none⟩) 12 12) (L4 ++ L8) := Sl.RdA.on h4 hb35
  have N63 := Sl.take_many w5 _ L4 L8 h45 hl8 (by omega)
  generalize hd8 : Sl.de L8 = D8 at *
  go_wp2_with fail
  refine N63.mono ?_
  rintro e w6 ⟨v6, rfl, ho6, hb6⟩
  have hb36 : Below w3.heap.size w3 w6 := hb35.trans (hb6.mono hb35.size)
  have h36 : Sl.RdA w6 (.slice (some ⟨w.heap.size + 3, 1, none⟩) 3 11) L3 := Sl.RdA.on h3A hb36
  have hh6 : w6.heap[w3.heap.size + 3]? = some (.cells (byteCells r).toArray 5 (0, 0)) := (hb6.block _ (Array.getElem?_eq_some_iff.1 hh5).1).trans hh5
  have hr6 : Sl.RdA w6 (.slice (some ⟨w3.heap.size + 3, 0, none⟩) m m) r := by
    have := sl_range (c := m) (range_of_block hh6) (by omega)
    rw [hrl] at this; exact this
  have N60 : Hid (∀ k, Calls Try.prog 91 #[.int .i64 (c : Int), .slice (some ⟨w.heap.size + 3, 1, none⟩) 3 11, .slice (some ⟨w3.heap.size + 3, 0, none⟩) m m] (w6.drewN k) fun e w' => e = .returned (.int .u64 (sumN c L3 r : Nat)) ∧ w' = w6.drewN k) := fun k => by
    have hbk : Below w6.heap.size w6 (w6.drewN k) := ⟨rfl, rfl, rfl, Nat.le_refl _, fun _ _ => rfl⟩
    exact sumOf_any (w6.drewN k) c _ _ L3 r (Sl.RdA.on h36 hbk) (Sl.RdA.on hr6 hbk) (by omega) (by omega)
  have hb06 : Below w.heap.size w w6 := hb02.trans (hb36.mono hb02.size)
  obtain ⟨x0, x1, x2, x3, x4, x5, xf⟩ := (ht.below hb06).cells
  obtain ⟨Z, hZ⟩ : ∃ Z, Hid (Z = sumN c L3 r) := ⟨_, rfl⟩
  rw [← hZ.out] at N60 hR5
  clear N63 N62 N41
  go_wp2_with fail
  by_cases hE : D8 = Z
  · have hR0 : R = (1, r) := by rw [hR5.out, if_neg (by simp [hE])]
    have hfin : ∀ k, NextPost w R (.returned (.tuple #[.slice (some ⟨w3.heap.size + 3, 0, none⟩) m m, .bool true])) (w6.drewN k) := fun k =>
      ⟨hb06.trans ⟨rfl, rfl, rfl, Nat.le_refl _, fun _ _ => rfl⟩, .inr (.inl ⟨by rw [hR0], _, rfl, w3.heap.size + 3, by rw [hR0, hrl], Nat.le_trans hb02.size (Nat.le_add_right _ _), by rw [hR0]; exact hh6⟩)⟩
    clear hR0 hR5 hZ
    subst hE
    go_quiet ((go_at_call 91; exact Calls.quiet_of_same (N60.out _)))
    go_wp2
    go_ret2
    exact hfin _
  · have hR0 : R = (12, []) := by rw [hR5.out, if_pos hE]
    have hfin : ∀ k, NextPost w R (.panicked (gup 12)) (w6.drewN k) := fun k =>
      ⟨hb06.trans ⟨rfl, rfl, rfl, Nat.le_refl _, fun _ _ => rfl⟩, .inr (.inr ⟨by rw [hR0]; simp, by rw [hR0]; rfl⟩)⟩
    clear hR0 hR5 hZ
    have hE' : ¬ (D8 : Int) = (Z : Int) := by omega
    go_quiet ((go_at_call 91; exact Calls.quiet_of_same (N60.out _)))
    go_wp2
    exact ⟨rfl, hfin _⟩

theorem next_down (w : World) (X : Nat → Prop) (t q n : Nat) (S : DS) (lo hi p c met : Nat) (h : Drum w X q n S) (ht : Tp w t q lo hi p c met) (hlh : lo ≤ hi) (hh : hi ≤ n) (hp : p + 12 ≤ (hi - lo) * 256) (hd : S.down = true) :
    Calls Try.prog 94 #[.pointer (some ⟨t, 0, none⟩)] w fun e w' => e = .panicked (gup 20) ∧ Below w.heap.size w w' := by
  have hn : n ≤ 4096 := by obtain ⟨g, v, hr, ok⟩ := h; exact ok.top
  obtain ⟨t0, t1, t2, t3, t4, t5, tf⟩ := ht.cells
  obtain ⟨sz, hsz⟩ : ∃ sz, sz = (hi - lo) * 256 := ⟨_, rfl⟩
  have N41 : Calls Try.prog 71 #[.pointer (some ⟨t, 0, none⟩)] w fun e w' => e = .returned (.int .i64 (sz : Int)) ∧ w' = w.drew := by rw [hsz]; exact size_any w t q lo hi p c met ht hlh (by omega)
  rw [← hsz] at hp
  have hszb : lo * 256 + sz ≤ n * 256 := by omega
  have N56 : Calls Try.prog 87 #[.pointer (some ⟨t, 0, none⟩), .int .i64 p, .int .i64 ((p : Int) + 12)] w.drew _ := read_any w.drew X t q n S lo hi p c met p (p + 12) h.drew (ht.on rfl) (fun _ => by unfold pgN; omega) (by omega) (by omega)
  clear hsz
  have hA' : ¬ (sz : Int) < (p : Int) + 12 := by omega
  go_enter Try.func94, Try.ntmps94
  go_wp2_with fail
  refine N41.mono ?_
  rintro e w1 ⟨rfl, rfl⟩
  go_wp2_with fail
  refine N56.mono ?_
  rintro e w2 ⟨hb2, hor⟩
  obtain rfl : e = .panicked (gup 20) := by
    rcases hor with ⟨h1, _⟩ | ⟨_, h1⟩
    · rw [hd] at h1; cases h1
    · exact h1
  exact ⟨rfl, rfl, (below_drew w).trans hb2⟩
end Go.Proofs.Ythgkkmcpmhfehaa
