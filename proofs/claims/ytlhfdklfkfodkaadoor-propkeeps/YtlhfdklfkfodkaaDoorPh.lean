/- What prop.Text answers of values that are no floats. -/
import Derived.Test.YtlhfdklfkfodkaaDoorPg
import Derived.Test.YtlhfdklfkfodkaaDoorNum
namespace Go.Proofs.YtlhfdklfkfodkaaDoor
open Go.RowKit Go.Lib Ieee

theorem below_grow (w : World) (k : Nat) (os : Array Obj) : Below w.heap.size w (Sort.grow (w.drewN k) os) :=
  ⟨rfl, rfl, rfl, by simp [Sort.grow, World.drewN], fun j hj => by simp [Sort.grow, World.drewN, Array.getElem?_append, hj]⟩

theorem itoa7 (w : World) (n : Int) (h0 : -9223372036854775808 ≤ n) (h1 : n ≤ 9223372036854775807) (ht : Tab w.heap.size w) :
    Calls Tryd.prog 35 #[.int .i64 n] w fun e w' => e = .returned (.string ⟨(itoa n).toArray⟩) ∧ Below w.heap.size w w' := by
  refine (Tryd.strconv_Itoa n h0 h1 w (ht w (Below.refl _ _))).mono ?_
  rintro e w' ⟨rfl, k, os, rfl⟩
  exact ⟨rfl, below_grow w k os⟩

theorem cons_app (c : UInt8) (l : List UInt8) : (⟨#[c]⟩ : ByteArray) ++ ⟨l.toArray⟩ = ⟨(c :: l).toArray⟩ := by
  apply ByteArray.ext
  simp

set_option maxRecDepth 4000 in
theorem text7_bad (w : World) (x : Val) (hg : goodV x = false) : Calls Tryd.prog 18 #[x.v] w fun e w' => e = .returned (.tuple #[.string ⟨#[]⟩, .int .i64 36]) ∧ Below w.heap.size w w' := by
  obtain ⟨k, n, t, r⟩ := x
  have HG := fun W : World => good7 W ⟨k, n, t, r⟩
  simp only [hg] at HG
  have hb1 : Below w.heap.size w (w.alloc (.cells #[.int .i64 k, .int .i64 n, .string t, .float .f64 r] 24)) := (Below.refl _ w).alloc (Nat.le_refl _) _
  have hs1 : (w.alloc (.cells #[.int .i64 k, .int .i64 n, .string t, .float .f64 r] 24)).heap.size = w.heap.size + 1 := by simp
  unfold Val.v at *
  dsimp only at *
  go_enter Tryd.func18, Tryd.ntmps18
  go_wp2_with fail
  refine (HG _).mono ?_
  rintro e w3 ⟨rfl, hb3⟩
  go_wp2
  go_ret2
  exact ⟨rfl, hb1.trans (hb3.mono (by omega))⟩

set_option maxRecDepth 4000 in
theorem text7_1 (w : World) (n : Int) (h0 : -9223372036854775808 ≤ n) (h1 : n ≤ 9223372036854775807) (ht : Tab w.heap.size w) :
    Calls Tryd.prog 18 #[(⟨1, n, ⟨#[]⟩, 0⟩ : Val).v] w fun e w' => e = .returned (.tuple #[.string ⟨(105 :: itoa n).toArray⟩, .int .i64 0]) ∧ Below w.heap.size w w' := by
  rw [← cons_app]
  have HG := fun W : World => good7 W ⟨1, n, ⟨#[]⟩, 0⟩
  have hg : goodV ⟨1, n, ⟨#[]⟩, 0⟩ = true := by simp [goodV, sameV]
  simp only [hg] at HG
  have hb1 : Below w.heap.size w (w.alloc (.cells #[.int .i64 1, .int .i64 n, .string ⟨#[]⟩, .float .f64 0] 24)) := (Below.refl _ w).alloc (Nat.le_refl _) _
  have hs1 : (w.alloc (.cells #[.int .i64 1, .int .i64 n, .string ⟨#[]⟩, .float .f64 0] 24)).heap.size = w.heap.size + 1 := by simp
  have c0 : (w.alloc (.cells #[.int .i64 1, .int .i64 n, .string ⟨#[]⟩, .float .f64 0] 24)).cell? ⟨w.heap.size, 0, none⟩ = some (.int .i64 1) := World.cell?_alloc_new ..
  have c1 : (w.alloc (.cells #[.int .i64 1, .int .i64 n, .string ⟨#[]⟩, .float .f64 0] 24)).cell? ⟨w.heap.size, 1, none⟩ = some (.int .i64 n) := World.cell?_alloc_new ..
  unfold Val.v at *
  dsimp only at *
  go_enter Tryd.func18, Tryd.ntmps18
  go_wp2_with fail
  refine (HG _).mono ?_
  rintro e w3 ⟨rfl, hb3⟩
  have b3 := hb1.trans (hb3.mono (by omega))
  have hs3 := hb3.size
  have d0 : w3.cell? ⟨w.heap.size, 0, none⟩ = some (.int .i64 1) := by rw [hb3.cell (by dsimp only; omega)]; exact c0
  have d1 : w3.cell? ⟨w.heap.size, 1, none⟩ = some (.int .i64 n) := by rw [hb3.cell (by dsimp only; omega)]; exact c1
  go_wp2_with fail
  refine (itoa7 w3 n h0 h1 ((ht.on b3).mono (by omega))).mono ?_
  rintro e w4 ⟨rfl, hb4⟩
  have hil := itoa_length n h0 h1
  go_wp2
  go_ret2
  exact ⟨rfl, b3.trans (hb4.mono (by omega))⟩
set_option maxRecDepth 4000 in
theorem text7_2 (w : World) (n : Int) (hn : n = 0 ∨ n = 1) (ht : Tab w.heap.size w) :
    Calls Tryd.prog 18 #[(⟨2, n, ⟨#[]⟩, 0⟩ : Val).v] w fun e w' => e = .returned (.tuple #[.string ⟨(98 :: itoa n).toArray⟩, .int .i64 0]) ∧ Below w.heap.size w w' := by
  have h0 : -9223372036854775808 ≤ n := by omega
  have h1 : n ≤ 9223372036854775807 := by omega
  rw [← cons_app]
  have HG := fun W : World => good7 W ⟨2, n, ⟨#[]⟩, 0⟩
  have hg : goodV ⟨2, n, ⟨#[]⟩, 0⟩ = true := by rcases hn with rfl | rfl <;> simp [goodV, sameV]
  simp only [hg] at HG
  have hb1 : Below w.heap.size w (w.alloc (.cells #[.int .i64 2, .int .i64 n, .string ⟨#[]⟩, .float .f64 0] 24)) := (Below.refl _ w).alloc (Nat.le_refl _) _
  have hs1 : (w.alloc (.cells #[.int .i64 2, .int .i64 n, .string ⟨#[]⟩, .float .f64 0] 24)).heap.size = w.heap.size + 1 := by simp
  have c0 : (w.alloc (.cells #[.int .i64 2, .int .i64 n, .string ⟨#[]⟩, .float .f64 0] 24)).cell? ⟨w.heap.size, 0, none⟩ = some (.int .i64 2) := World.cell?_alloc_new ..
  have c1 : (w.alloc (.cells #[.int .i64 2, .int .i64 n, .string ⟨#[]⟩, .float .f64 0] 24)).cell? ⟨w.heap.size, 1, none⟩ = some (.int .i64 n) := World.cell?_alloc_new ..
  unfold Val.v at *
  dsimp only at *
  go_enter Tryd.func18, Tryd.ntmps18
  go_wp2_with fail
  refine (HG _).mono ?_
  rintro e w3 ⟨rfl, hb3⟩
  have b3 := hb1.trans (hb3.mono (by omega))
  have hs3 := hb3.size
  have d0 : w3.cell? ⟨w.heap.size, 0, none⟩ = some (.int .i64 2) := by rw [hb3.cell (by dsimp only; omega)]; exact c0
  have d1 : w3.cell? ⟨w.heap.size, 1, none⟩ = some (.int .i64 n) := by rw [hb3.cell (by dsimp only; omega)]; exact c1
  go_wp2_with fail
  refine (itoa7 w3 n h0 h1 ((ht.on b3).mono (by omega))).mono ?_
  rintro e w4 ⟨rfl, hb4⟩
  have hil := itoa_length n h0 h1
  go_wp2
  go_ret2
  exact ⟨rfl, b3.trans (hb4.mono (by omega))⟩
set_option maxRecDepth 4000 in
theorem text7_3 (w : World) (t : ByteArray) (h : t.size ≤ 256) :
    Calls Tryd.prog 18 #[(⟨3, 0, t, 0⟩ : Val).v] w fun e w' => e = .returned (.tuple #[.string (⟨#[116]⟩ ++ t), .int .i64 0]) ∧ Below w.heap.size w w' := by
  have HG := fun W : World => good7 W ⟨3, 0, t, 0⟩
  have hg : goodV ⟨3, 0, t, 0⟩ = true := by simp [goodV, sameV]; omega
  simp only [hg] at HG
  have hb1 : Below w.heap.size w (w.alloc (.cells #[.int .i64 3, .int .i64 0, .string t, .float .f64 0] 24)) := (Below.refl _ w).alloc (Nat.le_refl _) _
  have hs1 : (w.alloc (.cells #[.int .i64 3, .int .i64 0, .string t, .float .f64 0] 24)).heap.size = w.heap.size + 1 := by simp
  have c0 : (w.alloc (.cells #[.int .i64 3, .int .i64 0, .string t, .float .f64 0] 24)).cell? ⟨w.heap.size, 0, none⟩ = some (.int .i64 3) := World.cell?_alloc_new ..
  have c1 : (w.alloc (.cells #[.int .i64 3, .int .i64 0, .string t, .float .f64 0] 24)).cell? ⟨w.heap.size, 2, none⟩ = some (.string t) := World.cell?_alloc_new ..
  unfold Val.v at *
  dsimp only at *
  go_enter Tryd.func18, Tryd.ntmps18
  go_wp2_with fail
  refine (HG _).mono ?_
  rintro e w3 ⟨rfl, hb3⟩
  have b3 := hb1.trans (hb3.mono (by omega))
  have hs3 := hb3.size
  have d0 : w3.cell? ⟨w.heap.size, 0, none⟩ = some (.int .i64 3) := by rw [hb3.cell (by dsimp only; omega)]; exact c0
  have d1 : w3.cell? ⟨w.heap.size, 2, none⟩ = some (.string t) := by rw [hb3.cell (by dsimp only; omega)]; exact c1
  go_wp2
  go_ret2
  exact ⟨rfl, b3⟩


theorem toList_inj {s t : ByteArray} (h : s.toList = t.toList) : s = t := by
  rw [ByteArray.toList_eq, ByteArray.toList_eq] at h
  exact ByteArray.ext (Array.ext' h)
theorem sameV_eq (a b : Val) : sameV a b = true ↔ a = b := by
  obtain ⟨k, n, t, r⟩ := a
  obtain ⟨k', n', t', r'⟩ := b
  simp only [sameV, Bool.and_eq_true, beq_iff_eq, Val.mk.injEq, Int.natCast_inj]
  constructor
  · rintro ⟨h1, h2, h3, h4⟩
    exact ⟨h1, h2, toList_inj h3, h4⟩
  · rintro ⟨h1, h2, rfl, h4⟩
    exact ⟨h1, h2, rfl, h4⟩
theorem goodV_cases (x : Val) (h : goodV x = true) : (∃ n, x = ⟨1, n, ⟨#[]⟩, 0⟩) ∨ (∃ n, (n = 0 ∨ n = 1) ∧ x = ⟨2, n, ⟨#[]⟩, 0⟩) ∨ (∃ t : ByteArray, t.size ≤ 256 ∧ x = ⟨3, 0, t, 0⟩) ∨ ∃ r, canonB r = r ∧ x = ⟨4, 0, ⟨#[]⟩, r⟩ := by
  unfold goodV at h
  split at h
  · exact .inl ⟨_, (sameV_eq _ _).1 h⟩
  split at h
  · simp only [Bool.and_eq_true, Bool.or_eq_true, beq_iff_eq] at h
    exact .inr (.inl ⟨_, h.1, (sameV_eq _ _).1 h.2⟩)
  split at h
  · simp only [Bool.and_eq_true, decide_eq_true_eq] at h
    exact .inr (.inr (.inl ⟨_, by omega, (sameV_eq _ _).1 h.2⟩))
  split at h
  · have e := (sameV_eq _ _).1 h
    refine .inr (.inr (.inr ⟨x.real, ?_, ?_⟩))
    · have := congrArg Val.real e
      exact this.symm
    · have e2 := congrArg Val.real e
      dsimp only at e2
      rw [← e2] at e
      exact e
  · cases h
end Go.Proofs.YtlhfdklfkfodkaaDoor
