/- What prop.Compare answers of any two values. -/
import Derived.Test.YtlhfdklfkfodkaaDoorPa
import Derived.Test.YtlhfdklfkfodkaaDoorRc
import Derived.Deep.QuietTactic
import Derived.Deep.Cut
import Derived.Shelf.RegionOpen
namespace Go.Proofs.YtlhfdklfkfodkaaDoor
open Go.RowKit Go.Lib Ieee

theorem hmix : Tryd.prog.follows .mixedOrders = true := by kernel_rfl

/-- A value as the program holds it. -/
structure Val where
  kind : Int
  num : Int
  text : ByteArray
  real : Nat
def Val.v (x : Val) : Value := .agg #[.int .i64 x.kind, .int .i64 x.num, .string x.text, .float .f64 x.real]
def cmpV (a b : Val) : Int := or4 (cmpZ a.kind b.kind) (cmpZ a.num b.num) (cmpL a.text.toList b.text.toList) (cmpN (keyB a.real) (keyB b.real))

theorem box1 (w : World) (C D : Array Value) (tc td j : Nat) (v : Value) (h : C[j]? = some v) : (((w.alloc (.cells C tc)).alloc (.cells D td)).drew).cell? ⟨w.heap.size, j, none⟩ = some v := by
  show ((w.alloc (.cells C tc)).alloc (.cells D td)).cell? ⟨w.heap.size, j, none⟩ = some v
  rw [((Below.refl _ (w.alloc (.cells C tc))).alloc (Nat.le_refl _) (.cells D td)).cell (by simp), World.cell?_alloc_new]
  exact h
theorem box2 (w : World) (C D : Array Value) (tc td j : Nat) (v : Value) (h : D[j]? = some v) : (((w.alloc (.cells C tc)).alloc (.cells D td)).drew).cell? ⟨w.heap.size + 1, j, none⟩ = some v := by
  show ((w.alloc (.cells C tc)).alloc (.cells D td)).cell? ⟨w.heap.size + 1, j, none⟩ = some v
  have e : (w.alloc (.cells C tc)).heap.size = w.heap.size + 1 := by simp
  rw [← e, World.cell?_alloc_new]
  exact h

theorem compare7 (w : World) (a b : Val) (ha : a.real < 2 ^ 64) (hb : b.real < 2 ^ 64) :
    Calls Tryd.prog 7 #[a.v, b.v] w fun e w' => e = .returned (.int .i64 (cmpV a b)) ∧ Below w.heap.size w w' := by
  obtain ⟨k, n, t, r⟩ := a
  obtain ⟨k', n', t', r'⟩ := b
  unfold cmpV Val.v
  dsimp only at *
  have H1 := fun W : World => cmpI_any W k k'
  have H2 := fun W : World => cmpI_any W n n'
  have H3 := fun W : World => cmpS_any W t t'
  have H4 := fun W : World => compare_any W r r' ha hb
  generalize cmpZ k k' = c1 at *
  generalize cmpZ n n' = c2 at *
  generalize cmpL t.toList t'.toList = c3 at *
  generalize cmpN (keyB r) (keyB r') = c4 at *
  clear ha hb
  go_enter Tryd.func7, Tryd.ntmps7
  go_upto_region 1 with fail
  refine wp_region_held (S := fun W => W.cell? ⟨w.heap.size, 0, none⟩ = some (.int .i64 k) ∧ W.cell? ⟨w.heap.size, 1, none⟩ = some (.int .i64 n) ∧ W.cell? ⟨w.heap.size, 2, none⟩ = some (.string t) ∧ W.cell? ⟨w.heap.size, 3, none⟩ = some (.float .f64 r) ∧ W.cell? ⟨w.heap.size + 1, 0, none⟩ = some (.int .i64 k') ∧ W.cell? ⟨w.heap.size + 1, 1, none⟩ = some (.int .i64 n') ∧ W.cell? ⟨w.heap.size + 1, 2, none⟩ = some (.string t') ∧ W.cell? ⟨w.heap.size + 1, 3, none⟩ = some (.float .f64 r')) hmix ?_
  show wpAnyH _ _ _ _ _ _ _ _ (World.drew _)
  have hb1 : Below w.heap.size w (((w.alloc (Obj.cells #[Value.int IntKind.i64 k, Value.int IntKind.i64 n, Value.string t, Value.float FloatKind.f64 r] 24)).alloc (Obj.cells #[Value.int IntKind.i64 k', Value.int IntKind.i64 n', Value.string t', Value.float FloatKind.f64 r'] 24)).drew) := ((Below.refl _ w).alloc (Nat.le_refl _) _ |>.alloc (by simp) _).drew
  have hs1 : (((w.alloc (Obj.cells #[Value.int IntKind.i64 k, Value.int IntKind.i64 n, Value.string t, Value.float FloatKind.f64 r] 24)).alloc (Obj.cells #[Value.int IntKind.i64 k', Value.int IntKind.i64 n', Value.string t', Value.float FloatKind.f64 r'] 24)).drew).heap.size = w.heap.size + 2 := by simp [World.drew]
  have hS : (fun W : World => W.cell? ⟨w.heap.size, 0, none⟩ = some (.int .i64 k) ∧ W.cell? ⟨w.heap.size, 1, none⟩ = some (.int .i64 n) ∧ W.cell? ⟨w.heap.size, 2, none⟩ = some (.string t) ∧ W.cell? ⟨w.heap.size, 3, none⟩ = some (.float .f64 r) ∧ W.cell? ⟨w.heap.size + 1, 0, none⟩ = some (.int .i64 k') ∧ W.cell? ⟨w.heap.size + 1, 1, none⟩ = some (.int .i64 n') ∧ W.cell? ⟨w.heap.size + 1, 2, none⟩ = some (.string t') ∧ W.cell? ⟨w.heap.size + 1, 3, none⟩ = some (.float .f64 r')) (((w.alloc (Obj.cells #[Value.int IntKind.i64 k, Value.int IntKind.i64 n, Value.string t, Value.float FloatKind.f64 r] 24)).alloc (Obj.cells #[Value.int IntKind.i64 k', Value.int IntKind.i64 n', Value.string t', Value.float FloatKind.f64 r'] 24)).drew) := by
    exact ⟨box1 w _ _ _ _ 0 _ rfl, box1 w _ _ _ _ 1 _ rfl, box1 w _ _ _ _ 2 _ rfl, box1 w _ _ _ _ 3 _ rfl, box2 w _ _ _ _ 0 _ rfl, box2 w _ _ _ _ 1 _ rfl, box2 w _ _ _ _ 2 _ rfl, box2 w _ _ _ _ 3 _ rfl⟩
  generalize (((w.alloc (Obj.cells #[Value.int IntKind.i64 k, Value.int IntKind.i64 n, Value.string t, Value.float FloatKind.f64 r] 24)).alloc (Obj.cells #[Value.int IntKind.i64 k', Value.int IntKind.i64 n', Value.string t', Value.float FloatKind.f64 r'] 24)).drew) = w1 at *
  refine wpAnyH_take (i := 0) (v := .pointer (some ⟨w.heap.size, 0, none⟩)) rfl (by kernel_rfl) (by kernel_rfl) (by kernel_rfl) (fun _ _ _ h => h) (.inl ⟨by rfl, fun W' hW' => ?_⟩) hS ?_
  · go_simp
  dsimp only [Act.put]
  refine wpAnyH_take (i := 1) (v := .int .i64 k) rfl (by kernel_rfl) (by kernel_rfl) (by kernel_rfl) (fun _ _ _ h => h) (.inl ⟨by rfl, fun W' hW' => ?_⟩) hS ?_
  · obtain ⟨d0, d1, d2, d3, d4, d5, d6, d7⟩ := hW'
    go_simp
  dsimp only [Act.put]
  refine wpAnyH_take (i := 2) (v := .pointer (some ⟨w.heap.size + 1, 0, none⟩)) rfl (by kernel_rfl) (by kernel_rfl) (by kernel_rfl) (fun _ _ _ h => h) (.inl ⟨by rfl, fun W' hW' => ?_⟩) hS ?_
  · go_simp
  dsimp only [Act.put]
  refine wpAnyH_take (i := 3) (v := .int .i64 k') rfl (by kernel_rfl) (by kernel_rfl) (by kernel_rfl) (fun _ _ _ h => h) (.inl ⟨by rfl, fun W' hW' => ?_⟩) hS ?_
  · obtain ⟨d0, d1, d2, d3, d4, d5, d6, d7⟩ := hW'
    go_simp
  dsimp only [Act.put]
  refine wpAnyH_take (i := 5) (v := .pointer (some ⟨w.heap.size, 1, none⟩)) rfl (by kernel_rfl) (by kernel_rfl) (by kernel_rfl) (fun _ _ _ h => h) (.inl ⟨by rfl, fun W' hW' => ?_⟩) hS ?_
  · go_simp
  dsimp only [Act.put]
  refine wpAnyH_take (i := 6) (v := .int .i64 n) rfl (by kernel_rfl) (by kernel_rfl) (by kernel_rfl) (fun _ _ _ h => h) (.inl ⟨by rfl, fun W' hW' => ?_⟩) hS ?_
  · obtain ⟨d0, d1, d2, d3, d4, d5, d6, d7⟩ := hW'
    go_simp
  dsimp only [Act.put]
  refine wpAnyH_take (i := 7) (v := .pointer (some ⟨w.heap.size + 1, 1, none⟩)) rfl (by kernel_rfl) (by kernel_rfl) (by kernel_rfl) (fun _ _ _ h => h) (.inl ⟨by rfl, fun W' hW' => ?_⟩) hS ?_
  · go_simp
  dsimp only [Act.put]
  refine wpAnyH_take (i := 8) (v := .int .i64 n') rfl (by kernel_rfl) (by kernel_rfl) (by kernel_rfl) (fun _ _ _ h => h) (.inl ⟨by rfl, fun W' hW' => ?_⟩) hS ?_
  · obtain ⟨d0, d1, d2, d3, d4, d5, d6, d7⟩ := hW'
    go_simp
  dsimp only [Act.put]
  refine wpAnyH_take (i := 10) (v := .pointer (some ⟨w.heap.size, 2, none⟩)) rfl (by kernel_rfl) (by kernel_rfl) (by kernel_rfl) (fun _ _ _ h => h) (.inl ⟨by rfl, fun W' hW' => ?_⟩) hS ?_
  · go_simp
  dsimp only [Act.put]
  refine wpAnyH_take (i := 11) (v := .string t) rfl (by kernel_rfl) (by kernel_rfl) (by kernel_rfl) (fun _ _ _ h => h) (.inl ⟨by rfl, fun W' hW' => ?_⟩) hS ?_
  · obtain ⟨d0, d1, d2, d3, d4, d5, d6, d7⟩ := hW'
    go_simp
  dsimp only [Act.put]
  refine wpAnyH_take (i := 12) (v := .pointer (some ⟨w.heap.size + 1, 2, none⟩)) rfl (by kernel_rfl) (by kernel_rfl) (by kernel_rfl) (fun _ _ _ h => h) (.inl ⟨by rfl, fun W' hW' => ?_⟩) hS ?_
  · go_simp
  dsimp only [Act.put]
  refine wpAnyH_take (i := 13) (v := .string t') rfl (by kernel_rfl) (by kernel_rfl) (by kernel_rfl) (fun _ _ _ h => h) (.inl ⟨by rfl, fun W' hW' => ?_⟩) hS ?_
  · obtain ⟨d0, d1, d2, d3, d4, d5, d6, d7⟩ := hW'
    go_simp
  dsimp only [Act.put]
  refine wpAnyH_take (i := 15) (v := .pointer (some ⟨w.heap.size, 3, none⟩)) rfl (by kernel_rfl) (by kernel_rfl) (by kernel_rfl) (fun _ _ _ h => h) (.inl ⟨by rfl, fun W' hW' => ?_⟩) hS ?_
  · go_simp
  dsimp only [Act.put]
  refine wpAnyH_take (i := 16) (v := .float .f64 r) rfl (by kernel_rfl) (by kernel_rfl) (by kernel_rfl) (fun _ _ _ h => h) (.inl ⟨by rfl, fun W' hW' => ?_⟩) hS ?_
  · obtain ⟨d0, d1, d2, d3, d4, d5, d6, d7⟩ := hW'
    go_simp
  dsimp only [Act.put]
  refine wpAnyH_take (i := 17) (v := .pointer (some ⟨w.heap.size + 1, 3, none⟩)) rfl (by kernel_rfl) (by kernel_rfl) (by kernel_rfl) (fun _ _ _ h => h) (.inl ⟨by rfl, fun W' hW' => ?_⟩) hS ?_
  · go_simp
  dsimp only [Act.put]
  refine wpAnyH_take (i := 18) (v := .float .f64 r') rfl (by kernel_rfl) (by kernel_rfl) (by kernel_rfl) (fun _ _ _ h => h) (.inl ⟨by rfl, fun W' hW' => ?_⟩) hS ?_
  · obtain ⟨d0, d1, d2, d3, d4, d5, d6, d7⟩ := hW'
    go_simp
  dsimp only [Act.put]
  refine wpAnyH_one (i := 4) (by kernel_rfl) rfl (by rfl) (fun K hK => ?_)
  go_simp
  refine (H1 _).mono ?_
  rintro e w' ⟨rfl, rfl⟩
  show K _ _
  refine hK _ _ hS ?_
  clear hK K
  refine wpAnyH_one (i := 9) (by kernel_rfl) rfl (by rfl) (fun K hK => ?_)
  go_simp
  refine (H2 _).mono ?_
  rintro e w' ⟨rfl, rfl⟩
  show K _ _
  refine hK _ _ hS ?_
  clear hK K
  refine wpAnyH_one (i := 14) (by kernel_rfl) rfl (by rfl) (fun K hK => ?_)
  go_simp
  refine (H3 _).mono ?_
  rintro e w' ⟨rfl, rfl⟩
  show K _ _
  refine hK _ _ hS ?_
  clear hK K
  refine wpAnyH_one (i := 19) (by kernel_rfl) rfl (by rfl) (fun K hK => ?_)
  go_simp
  refine (H4 _).mono ?_
  rintro e w' ⟨rfl, rfl⟩
  show K _ _
  refine hK _ _ hS ?_
  clear hK K
  refine wpAnyH_one (i := 20) (by kernel_rfl) rfl (by rfl) (fun K hK => ?_)
  go_simp
  have hS2 : (fun W : World => W.cell? ⟨w.heap.size, 0, none⟩ = some (.int .i64 k) ∧ W.cell? ⟨w.heap.size, 1, none⟩ = some (.int .i64 n) ∧ W.cell? ⟨w.heap.size, 2, none⟩ = some (.string t) ∧ W.cell? ⟨w.heap.size, 3, none⟩ = some (.float .f64 r) ∧ W.cell? ⟨w.heap.size + 1, 0, none⟩ = some (.int .i64 k') ∧ W.cell? ⟨w.heap.size + 1, 1, none⟩ = some (.int .i64 n') ∧ W.cell? ⟨w.heap.size + 1, 2, none⟩ = some (.string t') ∧ W.cell? ⟨w.heap.size + 1, 3, none⟩ = some (.float .f64 r')) (w'.alloc (Obj.cells #[Value.int IntKind.i64 c1, Value.int IntKind.i64 c2, Value.int IntKind.i64 c3, Value.int IntKind.i64 c4] 3)) := by
    obtain ⟨d0, d1, d2, d3, d4, d5, d6, d7⟩ := hS
    have hbA : Below w'.heap.size w' (w'.alloc (Obj.cells #[Value.int IntKind.i64 c1, Value.int IntKind.i64 c2, Value.int IntKind.i64 c3, Value.int IntKind.i64 c4] 3)) := (Below.refl _ w').alloc (Nat.le_refl _) _
    refine ⟨?_, ?_, ?_, ?_, ?_, ?_, ?_, ?_⟩ <;> (rw [hbA.cell (by dsimp only; omega)]; assumption)
  refine hK _ _ hS2 ?_
  clear hK K
  have hq : (w'.alloc (Obj.cells #[Value.int IntKind.i64 c1, Value.int IntKind.i64 c2, Value.int IntKind.i64 c3, Value.int IntKind.i64 c4] 3)).heap[w.heap.size + 2]? = some (.cells #[Value.int IntKind.i64 c1, Value.int IntKind.i64 c2, Value.int IntKind.i64 c3, Value.int IntKind.i64 c4] 3 (0, 0)) := by
    rw [← hs1]
    show (w'.heap.push _)[w'.heap.size]? = _
    simp
  have hb2 : Below w.heap.size w (w'.alloc (Obj.cells #[Value.int IntKind.i64 c1, Value.int IntKind.i64 c2, Value.int IntKind.i64 c3, Value.int IntKind.i64 c4] 3)) := hb1.alloc (by omega) _
  generalize w'.alloc (Obj.cells #[Value.int IntKind.i64 c1, Value.int IntKind.i64 c2, Value.int IntKind.i64 c3, Value.int IntKind.i64 c4] 3) = w2 at *
  have hO := or_any w2 (w.heap.size + 2) c1 c2 c3 c4 (0, 0) hq
  obtain ⟨rr, hrr⟩ : ∃ rr, rr = or4 c1 c2 c3 c4 := ⟨_, rfl⟩
  rw [← hrr] at hO
  refine wpAnyH_one (i := 21) (by kernel_rfl) rfl (by rfl) (fun K hK => ?_)
  go_simp
  refine hO.mono ?_
  rintro e w3 ⟨rfl, rfl⟩
  show K _ _
  refine hK _ _ hS2 ?_
  clear hK K
  refine wpAnyH_take (i := 22) (v := .int .i64 rr) rfl (by kernel_rfl) (by kernel_rfl) (by kernel_rfl) (fun _ _ _ h => h) (.inl ⟨by rfl, fun W' hW' => ?_⟩) hS2 ?_
  · go_simp
  refine wpAnyH_done (by kernel_rfl) ?_ _
  simp only [Act.put, List.getElem_toArray, List.getElem_cons_succ, List.getElem_cons_zero, List.setIfInBounds_toArray, List.set_cons_succ, List.set_cons_zero]
  go_wp2
  go_ret
  exact ⟨by rw [← hrr]; rfl, hb2⟩
end Go.Proofs.YtlhfdklfkfodkaaDoor
