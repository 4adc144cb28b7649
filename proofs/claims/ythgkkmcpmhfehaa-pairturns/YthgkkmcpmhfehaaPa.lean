/- pair: insist, guarded; the small functions span, first, pagesOf, leavesPage, read, told, Count. -/
import Derived.Test.YthgkkmcpmhfehaaDl
import Derived.Test.YthgkkmcpmhfehaaSm
import Derived.BigQuiet
namespace Go.Proofs.Ythgkkmcpmhfehaa
open Go.RowKit Go.Lib Go.Shelf
set_option maxRecDepth 100000

theorem p_insist_ok (w : World) : Calls Try.prog 68 #[.int .i64 0] w fun e w' => e = .returned (.tuple #[]) ∧ w' = w := by
  go_enter Try.func68, Try.ntmps68
  go_wp2
  go_end0
  exact ⟨rfl, rfl⟩
theorem p_insist_no (w : World) (n : Int) (hn : ¬ n = 0) : Calls Try.prog 68 #[.int .i64 n] w fun e w' => e = .panicked (gup n) ∧ w' = w := by
  go_enter Try.func68, Try.ntmps68
  go_wp2
  exact ⟨rfl, rfl, rfl⟩

set_option maxRecDepth 100000 in
theorem p_catch_p (p : Addr) (x : Value) (n : Int) (w : World) (hc : w.cell? p = some x) (hx : x = .int .i64 0) (hz : w.frozen? p = false) :
    CallsD Try.prog 58 #[.pointer (some p)] (.panicking (gup n)) w fun e u' w' =>
      e = .returned (.tuple #[]) ∧ u' = .panicking [{ v := .iface 32 (.int .i64 n), recovered := true }] ∧ w' = w.setCell p (.int .i64 n) := by
  subst hx
  refine callsD_of_wpS Try.func58 rfl fun c₀ cs hu => ?_
  apply wpS_seq
  apply wpS_region
  simp [wpOpsS, go_sem, recoverD, hu, Try.ntmps58, Exit.thenS, gup]
  refine wpS_of_wp ?_
  simp only [Array.replicate_succ, Array.replicate_zero, List.push_toArray, List.append_toArray, List.nil_append, List.cons_append, List.setIfInBounds_toArray, List.set_cons_succ, List.set_cons_zero]
  have hta := assert34
  go_wp2
  simp [bodyPostS, results, Try.results58]
theorem p_catch_i (p : Addr) (w : World) :
    CallsD Try.prog 58 #[.pointer (some p)] .returning w fun e u' w' => e = .returned (.tuple #[]) ∧ u' = .returning ∧ w' = w := by
  refine callsD_of_wpS Try.func58 rfl fun c₀ cs hu => ?_
  apply wpS_seq
  apply wpS_region
  simp [wpOpsS, go_sem, recoverD, hu, Try.ntmps58, Exit.thenS]
  refine wpS_of_wp ?_
  simp only [Array.replicate_succ, Array.replicate_zero, List.push_toArray, List.append_toArray, List.nil_append, List.cons_append, List.setIfInBounds_toArray, List.set_cons_succ, List.set_cons_zero]
  go_wp2
  cases c₀
  simp_all [bodyPostS, results, Try.results58]

theorem p_guarded_any (f : Nat) (eg : ∀ args w, (callFunc f args).run Try.prog w = .ok (.enter f args) w) (cap : Array Value) (w : World) (A : World → Prop) (G : Int → World → Prop)
    (hc : Calls Try.prog f cap (w.alloc (.cells #[.int .i64 0] 32)) fun e w2 => (w2.cell? ⟨w.heap.size, 0, none⟩ = some (.int .i64 0) ∧ w2.frozen? ⟨w.heap.size, 0, none⟩ = false) ∧
      ((e = .returned (.tuple #[]) ∧ A w2) ∨ (∃ n, e = .panicked (gup n) ∧ G n w2))) :
    Calls Try.prog 35 #[.func (.func f) #[] cap] w fun e w' => (e = .returned (.int .i64 0) ∧ ∃ w2, A w2 ∧ w' = w2.setCell ⟨w.heap.size, 0, none⟩ (.int .i64 0)) ∨
      (∃ n, e = .returned (.int .i64 n) ∧ ∃ w2, G n w2 ∧ w' = w2.setCell ⟨w.heap.size, 0, none⟩ (.int .i64 n)) := by
  have hmf : ∀ (fn : Fn) (first cap : Array Value) (w : World), (Instr.makeFunc fn first cap).run Try.prog w = .ok (.func fn first cap) w := fun _ _ _ _ => rfl
  go_enter_defers Try.func35, Try.ntmps35
  go_wp2_with fail
  refine hc.mono ?_
  rintro e w2 ⟨⟨c0, z0⟩, ⟨rfl, hA⟩ | ⟨n, rfl, hG⟩⟩
  · go_wp2
    refine leaves_cons (f := 58) (args := #[.pointer (some ⟨w.heap.size, 0, none⟩)]) (by simp) (by simp [go_sem]) ?_
    refine (p_catch_i ⟨w.heap.size, 0, none⟩ _).mono ?_
    rintro e u' w'' ⟨rfl, rfl, rfl⟩
    have e1 := World.cell?_setCell_same _ _ (Value.int .i64 0) c0
    simp only [Leaves, settle, results, Try.results35]
    refine ⟨.int .i64 0, by simp [go_sem, e1], .inl ⟨rfl, w2, hA, rfl⟩⟩
  · refine leaves_cons (f := 58) (args := #[.pointer (some ⟨w.heap.size, 0, none⟩)]) (by simp) (by simp [go_sem]) ?_
    refine (p_catch_p ⟨w.heap.size, 0, none⟩ _ n _ c0 rfl z0).mono ?_
    rintro e u' w'' ⟨rfl, rfl, rfl⟩
    have e1 := World.cell?_setCell_same _ _ (Value.int .i64 n) c0
    change Leaves Try.prog Try.f35 _ _ [] .returning _
    simp only [Leaves, results, Try.results35]
    refine ⟨.int .i64 n, by simp [go_sem, e1], .inr ⟨n, rfl, w2, hG, rfl⟩⟩

/-- A pair's own block. -/
structure Pr (w : World) (p q half : Nat) (tv : Value) (met : Nat) : Prop where
  b : w.heap[p]? = some (.cells #[.pointer (some ⟨q, 0, none⟩), .int .i64 half, tv, .int .i64 met] 74 (0, 0))
theorem Pr.cells {w : World} {p q half : Nat} {tv : Value} {met : Nat} (h' : Pr w p q half tv met) :
    w.cell? ⟨p, 0, none⟩ = some (.pointer (some ⟨q, 0, none⟩)) ∧ w.cell? ⟨p, 1, none⟩ = some (.int .i64 half) ∧ w.cell? ⟨p, 2, none⟩ = some tv ∧ w.cell? ⟨p, 3, none⟩ = some (.int .i64 met) ∧ ∀ i, w.frozen? ⟨p, i, none⟩ = false := by
  have h := h'.b
  exact ⟨by rw [cell_of_row _ _ _ _ _ _ h]; rfl, by rw [cell_of_row _ _ _ _ _ _ h]; rfl, by rw [cell_of_row _ _ _ _ _ _ h]; rfl, by rw [cell_of_row _ _ _ _ _ _ h]; rfl, fun i => frozen_of_row _ _ i _ _ h⟩
theorem Pr.lt {w : World} {p q half : Nat} {tv : Value} {met : Nat} (h : Pr w p q half tv met) : p < w.heap.size := (Array.getElem?_eq_some_iff.1 h.b).1
theorem Pr.on {w w' : World} {p q half : Nat} {tv : Value} {met : Nat} (h : Pr w p q half tv met) (hb : w'.heap[p]? = w.heap[p]?) : Pr w' p q half tv met := ⟨hb.trans h.b⟩
theorem Pr.below {w w' : World} {p q half : Nat} {tv : Value} {met : Nat} (h : Pr w p q half tv met) (hb : Below w.heap.size w w') : Pr w' p q half tv met := h.on (hb.block p h.lt)

/-- How many pages a half has. -/
def spanN (n : Nat) : Nat := (n - 1) / 2
/-- How many pages a snapshot takes. -/
def takesN (l : Nat) : Nat := (l + 267) / 256
/-- The page at which a half begins. -/
def firstN (n half : Nat) : Nat := 1 + half * spanN n

theorem span_any (w : World) (X : Nat → Prop) (p q n : Nat) (S : DS) (half : Nat) (tv : Value) (met : Nat) (h : Drum w X q n S) (hp : Pr w p q half tv met) (hn : 1 ≤ n) :
    Calls Try.prog 67 #[.pointer (some ⟨p, 0, none⟩)] w fun e w' => e = .returned (.int .i64 (spanN n : Nat)) ∧ w' = w := by
  obtain ⟨t0, t1, t2, t3, tf⟩ := hp.cells
  have N34 := pages_any w X q n S h
  have hn2 := h.top
  go_enter Try.func67, Try.ntmps67
  go_wp2_with (go_at_call 34; refine N34.mono ?_; rintro e w' ⟨rfl, he⟩; have he := he.symm; subst he)
  go_ret
  exact ⟨by show Ending.returned (.int .i64 _) = _; unfold spanN; congr 2; omega, rfl⟩
theorem pagesOf_any (w : World) (l : Nat) (hl : l ≤ 1099511627776) :
    Calls Try.prog 63 #[.int .i64 (l : Int)] w fun e w' => e = .returned (.int .i64 (takesN l : Nat)) ∧ w' = w := by
  go_enter Try.func63, Try.ntmps63
  go_wp2
  go_ret
  exact ⟨by show Ending.returned (.int .i64 _) = _; unfold takesN; congr 2; omega, rfl⟩
theorem first_any (w : World) (X : Nat → Prop) (p q n : Nat) (S : DS) (half : Nat) (tv : Value) (met : Nat) (a : Nat) (ha : a ≤ 1) (h : Drum w X q n S) (hp : Pr w p q half tv met) (hn : 1 ≤ n) :
    Calls Try.prog 60 #[.pointer (some ⟨p, 0, none⟩), .int .i64 (a : Int)] w fun e w' => e = .returned (.int .i64 (firstN n a : Nat)) ∧ w' = w := by
  have N67 := span_any w X p q n S half tv met h hp hn
  have hn2 := h.top
  have hs : spanN n ≤ 4096 := by unfold spanN; omega
  have hf : Hid (firstN n a = 1 + a * spanN n) := rfl
  generalize spanN n = s at *
  have hm : (a : Int) * (s : Int) ≤ 4096 ∧ 0 ≤ (a : Int) * (s : Int) := by
    rcases (show a = 0 ∨ a = 1 by omega) with rfl | rfl <;> omega
  generalize hx : (a : Int) * (s : Int) = x at *
  go_enter Try.func60, Try.ntmps60
  go_wp2_with (go_at_call 67; refine N67.mono ?_; rintro e w' ⟨rfl, he⟩; have he := he.symm; subst he)
  go_ret
  refine ⟨?_, rfl⟩
  show Ending.returned (.int .i64 _) = _
  rw [hf.out]; congr 2; simp only [Int.natCast_add, Int.natCast_mul]; omega
theorem leaves_any (w : World) (X : Nat → Prop) (p q n : Nat) (S : DS) (half : Nat) (tv : Value) (met : Nat) (l : Nat) (hl : l ≤ 1099511627776) (h : Drum w X q n S) (hp : Pr w p q half tv met) (hn : 1 ≤ n) :
    Calls Try.prog 46 #[.pointer (some ⟨p, 0, none⟩), .int .i64 (l : Int)] w fun e w' => e = .returned (.bool (decide (takesN l < spanN n))) ∧ w' = w := by
  have N67 := span_any w X p q n S half tv met h hp hn
  have N63 := pagesOf_any w l hl
  generalize spanN n = s at *
  generalize takesN l = m at *
  go_enter Try.func46, Try.ntmps46
  go_wp2_with (first | (go_at_call 67; refine N67.mono ?_; rintro e w' ⟨rfl, he⟩; have he := he.symm; subst he) | (go_at_call 63; refine N63.mono ?_; rintro e w' ⟨rfl, he⟩; have he := he.symm; subst he))
  go_ret
  refine ⟨?_, rfl⟩
  show Ending.returned (.bool _) = _
  congr 2
theorem pread_ok (w : World) (X : Nat → Prop) (p q n : Nat) (S : DS) (half : Nat) (tv : Value) (met : Nat) (i : Nat) (hi : i < n) (hd : S.down = false) (h : Drum w X q n S) (hp : Pr w p q half tv met) :
    Calls Try.prog 59 #[.pointer (some ⟨p, 0, none⟩), .int .i64 (i : Int)] w fun e w' => e = .returned (.slice (some ⟨w.heap.size, 0, none⟩) 256 256) ∧ PageAt w w' (pageOf S.P i) := by
  obtain ⟨t0, t1, t2, t3, tf⟩ := hp.cells
  have N32 := read0 w X q n S i hi hd h
  go_enter Try.func59, Try.ntmps59
  go_wp2_with (first | (go_at_call 32; refine N32.mono ?_; rintro e w' ⟨rfl, hpg⟩) | (go_at_call 68; refine (p_insist_ok _).mono ?_; rintro e w'' ⟨rfl, he⟩; have he := he.symm; subst he))
  go_ret
  exact ⟨rfl, hpg⟩
theorem told_any (w : World) (X : Nat → Prop) (p q n : Nat) (S : DS) (half : Nat) (tv : Value) (met : Nat) (hn : 1 ≤ n) (hd : S.down = false) (h : Drum w X q n S) (hp : Pr w p q half tv met) (a : Nat) (ha : a ≤ 1) (ha0 : S.P[0]? = some (UInt8.ofNat a)) :
    Calls Try.prog 37 #[.pointer (some ⟨p, 0, none⟩)] w fun e w' => e = .returned (.int .i64 (a : Int)) ∧ Below w.heap.size w w' := by
  have N59 := pread_ok w X p q n S half tv met 0 (by omega) hd h hp
  have hpl : (pageOf S.P 0).length = 256 := pageOf_length _ n _ h.len (by omega)
  have h0 : (pageOf S.P 0)[0]? = some (UInt8.ofNat a) := by rw [pageOf_get _ _ _ (by omega)]; exact ha0
  have N59' : Calls Try.prog 59 #[.pointer (some ⟨p, 0, none⟩), .int .i64 (0 : Int)] w fun e w' => e = .returned (.slice (some ⟨w.heap.size, 0, none⟩) 256 256) ∧ w'.cell? ⟨w.heap.size, 0, none⟩ = some (.int .u8 (a : Int)) ∧ Below w.heap.size w w' := by
    refine N59.mono ?_
    rintro e w' ⟨rfl, hpg⟩
    refine ⟨rfl, ?_, hpg.below⟩
    rw [cell_of_row _ _ _ _ _ _ hpg.block]
    simp only [byteCells, List.getElem?_toArray, List.getElem?_map, h0, Option.map_some]
    congr 2
    rcases (show a = 0 ∨ a = 1 by omega) with rfl | rfl <;> rfl
  clear N59 h0
  have hle : ¬ 1 < (a : Int) := by omega
  have ha8 : (a : Int) < 256 := by omega
  go_enter Try.func37, Try.ntmps37
  go_wp2_with (go_at_call 59; refine N59'.mono ?_; rintro e w' ⟨rfl, hc, hb⟩)
  go_ret
  exact ⟨rfl, hb⟩
theorem pcount_any (w : World) (p q half t lo hi place count m : Nat) (met : Nat) (hp : Pr w p q half (.pointer (some ⟨t, 0, none⟩)) met) (ht : Tp w t q lo hi place count m) :
    Calls Try.prog 28 #[.pointer (some ⟨p, 0, none⟩)] w fun e w' => e = .returned (.int .i64 (count : Int)) ∧ w' = w := by
  obtain ⟨t0, t1, t2, t3, tf⟩ := hp.cells
  have N55 := count_any w t q lo hi place count m ht
  go_enter Try.func28, Try.ntmps28
  go_wp2_with (go_at_call 55; refine N55.mono ?_; rintro e w' ⟨rfl, he⟩; have he := he.symm; subst he)
  go_ret
  exact ⟨rfl, rfl⟩
end Go.Proofs.Ythgkkmcpmhfehaa
