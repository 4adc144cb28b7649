/- What prop.Set answers of a list of none. -/
import Derived.Test.YtlhfdklfkfodkaaDoorQd
namespace Go.Proofs.YtlhfdklfkfodkaaDoor
open Go.RowKit Go.Lib Ieee
set_option linter.unusedSimpArgs false

theorem cat_nil (w5 : World) (p : Pr) (a a' : Option Addr) (c c' : Nat) :
    Calls Tryd.prog 28 #[.slice (some ⟨w5.heap.size + 1, 0, none⟩) 3 3] ((w5.alloc (Obj.cells #[Value.string p.name, Value.int IntKind.i64 p.val.kind, Value.int IntKind.i64 p.val.num, Value.string p.val.text, Value.float FloatKind.f64 p.val.real] 33)).alloc (Obj.cells #[Value.slice a 0 c, Value.slice (some ⟨w5.heap.size, 0, none⟩) 1 1, Value.slice a' 0 c'] 30)) fun e w' =>
      ∃ v', e = .returned v' ∧ OwnP w' w5.heap.size v' [p] ∧ Below w5.heap.size w5 w' := by
  have hb6 : Below w5.heap.size w5 (w5.alloc (Obj.cells #[Value.string p.name, Value.int IntKind.i64 p.val.kind, Value.int IntKind.i64 p.val.num, Value.string p.val.text, Value.float FloatKind.f64 p.val.real] 33)) := (Below.refl _ w5).alloc (Nat.le_refl _) _
  have hs6 : (w5.alloc (Obj.cells #[Value.string p.name, Value.int IntKind.i64 p.val.kind, Value.int IntKind.i64 p.val.num, Value.string p.val.text, Value.float FloatKind.f64 p.val.real] 33)).heap.size = w5.heap.size + 1 := by simp
  have r1 := rd_one w5 p
  generalize (w5.alloc (Obj.cells #[Value.string p.name, Value.int IntKind.i64 p.val.kind, Value.int IntKind.i64 p.val.num, Value.string p.val.text, Value.float FloatKind.f64 p.val.real] 33)) = w6 at *
  have hb7 : Below w6.heap.size w6 (w6.alloc (Obj.cells #[Value.slice a 0 c, Value.slice (some ⟨w5.heap.size, 0, none⟩) 1 1, Value.slice a' 0 c'] 30)) := (Below.refl _ w6).alloc (Nat.le_refl _) _
  rw [← hs6]
  refine Calls.mono (concat7 _ w6.heap.size (fun | 0 => a | 1 => some ⟨w5.heap.size, 0, none⟩ | _ => a') (fun | 0 => 0 | 1 => 1 | _ => 0) (fun | 0 => c | 1 => 1 | _ => c') (fun | 0 => [] | 1 => [p] | _ => []) ?_ ?_ ?_ (by decide) (by decide)) ?_
  · intro j hj
    rw [World.cell?_alloc_new]
    match j, hj with
    | 0, _ => rfl
    | 1, _ => rfl
    | 2, _ => rfl
  · intro j hj
    match j, hj with
    | 0, _ => exact .inl ⟨⟨_, _, rfl⟩, rfl⟩
    | 1, _ => exact r1.on hb7
    | 2, _ => exact .inl ⟨⟨_, _, rfl⟩, rfl⟩
  · intro j hj
    match j, hj with
    | 0, _ => rfl
    | 1, _ => rfl
    | 2, _ => rfl
  · rintro e w' ⟨v', rfl, ho, hb⟩
    refine ⟨v', rfl, ho.low (by simp; omega), ?_⟩
    exact hb6.trans ((hb7.trans (hb.mono (by simp))).mono (by omega))

set_option maxRecDepth 4000 in
set_option maxHeartbeats 2000000 in
theorem set7_none (w : World) (p : Pr) (hp : canB p = true) :
    Calls Tryd.prog 13 #[.slice none 0 0, p.v] w fun e w' => ∃ v', e = .returned (.tuple #[v', .int .i64 0]) ∧ OwnP w' w.heap.size v' [p] ∧ Below w.heap.size w w' := by
  have hb1 : Below w.heap.size w (w.alloc (Obj.cells #[Value.string p.name, Value.int IntKind.i64 p.val.kind, Value.int IntKind.i64 p.val.num, Value.string p.val.text, Value.float FloatKind.f64 p.val.real] 33)) := (Below.refl _ w).alloc (Nat.le_refl _) _
  have HV := valid7 (w.alloc (Obj.cells #[Value.string p.name, Value.int IntKind.i64 p.val.kind, Value.int IntKind.i64 p.val.num, Value.string p.val.text, Value.float FloatKind.f64 p.val.real] 33)) (.slice none 0 0) [] (.inl ⟨⟨_, _, rfl⟩, rfl⟩)
  have HC := fun W : World => canbe7 W p
  have HP := fun W : World => place7 W (.slice none 0 0) [] p.name (by simp) (.inl ⟨⟨_, _, rfl⟩, rfl⟩) rfl
  have hs1 : (w.alloc (Obj.cells #[Value.string p.name, Value.int IntKind.i64 p.val.kind, Value.int IntKind.i64 p.val.num, Value.string p.val.text, Value.float FloatKind.f64 p.val.real] 33)).heap.size = w.heap.size + 1 := by simp
  have c0 : (w.alloc (Obj.cells #[Value.string p.name, Value.int IntKind.i64 p.val.kind, Value.int IntKind.i64 p.val.num, Value.string p.val.text, Value.float FloatKind.f64 p.val.real] 33)).cell? ⟨w.heap.size, 0, none⟩ = some (.string p.name) := World.cell?_alloc_new ..
  have c1 : (w.alloc (Obj.cells #[Value.string p.name, Value.int IntKind.i64 p.val.kind, Value.int IntKind.i64 p.val.num, Value.string p.val.text, Value.float FloatKind.f64 p.val.real] 33)).cell? ⟨w.heap.size, 1, none⟩ = some (.int .i64 p.val.kind) := World.cell?_alloc_new ..
  have c2 : (w.alloc (Obj.cells #[Value.string p.name, Value.int IntKind.i64 p.val.kind, Value.int IntKind.i64 p.val.num, Value.string p.val.text, Value.float FloatKind.f64 p.val.real] 33)).cell? ⟨w.heap.size, 2, none⟩ = some (.int .i64 p.val.num) := World.cell?_alloc_new ..
  have c3 : (w.alloc (Obj.cells #[Value.string p.name, Value.int IntKind.i64 p.val.kind, Value.int IntKind.i64 p.val.num, Value.string p.val.text, Value.float FloatKind.f64 p.val.real] 33)).cell? ⟨w.heap.size, 3, none⟩ = some (.string p.val.text) := World.cell?_alloc_new ..
  have c4 : (w.alloc (Obj.cells #[Value.string p.name, Value.int IntKind.i64 p.val.kind, Value.int IntKind.i64 p.val.num, Value.string p.val.text, Value.float FloatKind.f64 p.val.real] 33)).cell? ⟨w.heap.size, 4, none⟩ = some (.float .f64 p.val.real) := World.cell?_alloc_new ..
  unfold Pr.v at *
  rw [show validL [] = true from rfl] at HV
  simp only [hp] at HC
  clear hp
  go_enter Tryd.func13, Tryd.ntmps13
  go_upto_region 1 with fail
  generalize (w.alloc (Obj.cells #[Value.string p.name, Value.int IntKind.i64 p.val.kind, Value.int IntKind.i64 p.val.num, Value.string p.val.text, Value.float FloatKind.f64 p.val.real] 33)) = w1 at *
  go_wp2_with fail
  refine HV.mono ?_
  rintro e w2 ⟨rfl, hb2⟩
  have d0 : w2.cell? ⟨w.heap.size, 0, none⟩ = some (.string p.name) := by rw [hb2.cell (by dsimp only; omega)]; exact c0
  have d1 : w2.cell? ⟨w.heap.size, 1, none⟩ = some (.int .i64 p.val.kind) := by rw [hb2.cell (by dsimp only; omega)]; exact c1
  have d2 : w2.cell? ⟨w.heap.size, 2, none⟩ = some (.int .i64 p.val.num) := by rw [hb2.cell (by dsimp only; omega)]; exact c2
  have d3 : w2.cell? ⟨w.heap.size, 3, none⟩ = some (.string p.val.text) := by rw [hb2.cell (by dsimp only; omega)]; exact c3
  have d4 : w2.cell? ⟨w.heap.size, 4, none⟩ = some (.float .f64 p.val.real) := by rw [hb2.cell (by dsimp only; omega)]; exact c4
  clear c0 c1 c2 c3 c4
  have b2 := hb1.trans (hb2.mono (by omega))
  have s2 : w.heap.size < w2.heap.size := by have := hb2.size; omega
  go_wp2_with fail
  refine (HC _).mono ?_
  rintro e w3 ⟨rfl, hb3⟩
  have c0 : w3.cell? ⟨w.heap.size, 0, none⟩ = some (.string p.name) := by rw [hb3.cell (by dsimp only; omega)]; exact d0
  have c1 : w3.cell? ⟨w.heap.size, 1, none⟩ = some (.int .i64 p.val.kind) := by rw [hb3.cell (by dsimp only; omega)]; exact d1
  have c2 : w3.cell? ⟨w.heap.size, 2, none⟩ = some (.int .i64 p.val.num) := by rw [hb3.cell (by dsimp only; omega)]; exact d2
  have c3 : w3.cell? ⟨w.heap.size, 3, none⟩ = some (.string p.val.text) := by rw [hb3.cell (by dsimp only; omega)]; exact d3
  have c4 : w3.cell? ⟨w.heap.size, 4, none⟩ = some (.float .f64 p.val.real) := by rw [hb3.cell (by dsimp only; omega)]; exact d4
  clear d0 d1 d2 d3 d4
  have b3 := b2.trans (hb3.mono b2.size)
  have s3 : w.heap.size < w3.heap.size := by have := hb3.size; omega
  go_wp2_with fail
  refine (HP w3).mono ?_
  rintro e w4 ⟨k, hk, he, hb4⟩
  have hk0 : k = 0 := by have := hk.1; simpa using this
  subst hk0
  rw [show isAt [] p.name 0 = false by simp [isAt]] at he
  simp only [Bool.false_eq_true, if_false] at he
  subst he
  have d0 : w4.cell? ⟨w.heap.size, 0, none⟩ = some (.string p.name) := by rw [hb4.cell (by dsimp only; omega)]; exact c0
  have d1 : w4.cell? ⟨w.heap.size, 1, none⟩ = some (.int .i64 p.val.kind) := by rw [hb4.cell (by dsimp only; omega)]; exact c1
  have d2 : w4.cell? ⟨w.heap.size, 2, none⟩ = some (.int .i64 p.val.num) := by rw [hb4.cell (by dsimp only; omega)]; exact c2
  have d3 : w4.cell? ⟨w.heap.size, 3, none⟩ = some (.string p.val.text) := by rw [hb4.cell (by dsimp only; omega)]; exact c3
  have d4 : w4.cell? ⟨w.heap.size, 4, none⟩ = some (.float .f64 p.val.real) := by rw [hb4.cell (by dsimp only; omega)]; exact c4
  clear c0 c1 c2 c3 c4 HV HC HP
  have b4 := b3.trans (hb4.mono b3.size)
  have s4 : w.heap.size < w4.heap.size := by have := hb4.size; omega
  clear hk hb1 hb2 hb3 hb4 b2 b3 s2 s3 hs1
  go_upto_region 6 with fail
  refine wp_region_held (S := fun W => W.cell? ⟨w.heap.size, 0, none⟩ = some (.string p.name) ∧ W.cell? ⟨w.heap.size, 1, none⟩ = some (.int .i64 p.val.kind) ∧ W.cell? ⟨w.heap.size, 2, none⟩ = some (.int .i64 p.val.num) ∧ W.cell? ⟨w.heap.size, 3, none⟩ = some (.string p.val.text) ∧ W.cell? ⟨w.heap.size, 4, none⟩ = some (.float .f64 p.val.real)) hmix ?_
  show wpAnyH _ _ _ _ _ _ _ _ w4.drew
  have hS : (fun W : World => W.cell? ⟨w.heap.size, 0, none⟩ = some (.string p.name) ∧ W.cell? ⟨w.heap.size, 1, none⟩ = some (.int .i64 p.val.kind) ∧ W.cell? ⟨w.heap.size, 2, none⟩ = some (.int .i64 p.val.num) ∧ W.cell? ⟨w.heap.size, 3, none⟩ = some (.string p.val.text) ∧ W.cell? ⟨w.heap.size, 4, none⟩ = some (.float .f64 p.val.real)) w4.drew := ⟨d0, d1, d2, d3, d4⟩
  have b5 : Below w.heap.size w w4.drew := b4.drew
  have s5 : w.heap.size < w4.drew.heap.size := s4
  clear d0 d1 d2 d3 d4 b4 s4
  generalize w4.drew = w5 at *
  refine wpAnyH_take (i := 0) (v := .slice none 0 0) rfl (by kernel_rfl) (by kernel_rfl) (by kernel_rfl) (fun _ _ _ h => h) (.inl ⟨by rfl, fun W' hW' => ?_⟩) hS ?_
  · go_simp
  simp only [Act.put, List.getElem_toArray, List.getElem_cons_succ, List.getElem_cons_zero, List.setIfInBounds_toArray, List.set_cons_succ, List.set_cons_zero]
  refine wpAnyH_take (i := 1) (v := .int .i64 0) rfl (by kernel_rfl) (by kernel_rfl) (by kernel_rfl) (fun _ _ _ h => h) (.inl ⟨by rfl, fun W' hW' => ?_⟩) hS ?_
  · go_simp
  simp only [Act.put, List.getElem_toArray, List.getElem_cons_succ, List.getElem_cons_zero, List.setIfInBounds_toArray, List.set_cons_succ, List.set_cons_zero]
  refine wpAnyH_take (i := 2) (v := .slice none 0 0) rfl (by kernel_rfl) (by kernel_rfl) (by kernel_rfl) (fun _ _ _ h => h) (.inl ⟨by rfl, fun W' hW' => ?_⟩) hS ?_
  · go_simp
  simp only [Act.put, List.getElem_toArray, List.getElem_cons_succ, List.getElem_cons_zero, List.setIfInBounds_toArray, List.set_cons_succ, List.set_cons_zero]
  refine wpAnyH_take (i := 3) (v := .agg #[Value.string p.name, Value.int IntKind.i64 p.val.kind, Value.int IntKind.i64 p.val.num, Value.string p.val.text, Value.float FloatKind.f64 p.val.real]) rfl (by kernel_rfl) (by kernel_rfl) (by kernel_rfl) (fun _ _ _ h => h) (.inl ⟨by rfl, fun W' hW' => ?_⟩) hS ?_
  · obtain ⟨d0, d1, d2, d3, d4⟩ := hW'
    go_simp
  simp only [Act.put, List.getElem_toArray, List.getElem_cons_succ, List.getElem_cons_zero, List.setIfInBounds_toArray, List.set_cons_succ, List.set_cons_zero]
  refine wpAnyH_take (i := 5) (v := .slice none 0 0) rfl (by kernel_rfl) (by kernel_rfl) (by kernel_rfl) (fun _ _ _ h => h) (.inl ⟨by rfl, fun W' hW' => ?_⟩) hS ?_
  · go_simp
  simp only [Act.put, List.getElem_toArray, List.getElem_cons_succ, List.getElem_cons_zero, List.setIfInBounds_toArray, List.set_cons_succ, List.set_cons_zero]
  refine wpAnyH_take (i := 6) (v := .int .i64 0) rfl (by kernel_rfl) (by kernel_rfl) (by kernel_rfl) (fun _ _ _ h => h) (.inl ⟨by rfl, fun W' hW' => ?_⟩) hS ?_
  · go_simp
  simp only [Act.put, List.getElem_toArray, List.getElem_cons_succ, List.getElem_cons_zero, List.setIfInBounds_toArray, List.set_cons_succ, List.set_cons_zero]
  refine wpAnyH_take (i := 7) (v := .slice none 0 0) rfl (by kernel_rfl) (by kernel_rfl) (by kernel_rfl) (fun _ _ _ h => h) (.inl ⟨by rfl, fun W' hW' => ?_⟩) hS ?_
  · go_simp
  simp only [Act.put, List.getElem_toArray, List.getElem_cons_succ, List.getElem_cons_zero, List.setIfInBounds_toArray, List.set_cons_succ, List.set_cons_zero]
  refine wpAnyH_one (i := 4) (by kernel_rfl) rfl (by rfl) (fun K hK => ?_)
  go_simp
  have hS6 : (fun W : World => W.cell? ⟨w.heap.size, 0, none⟩ = some (.string p.name) ∧ W.cell? ⟨w.heap.size, 1, none⟩ = some (.int .i64 p.val.kind) ∧ W.cell? ⟨w.heap.size, 2, none⟩ = some (.int .i64 p.val.num) ∧ W.cell? ⟨w.heap.size, 3, none⟩ = some (.string p.val.text) ∧ W.cell? ⟨w.heap.size, 4, none⟩ = some (.float .f64 p.val.real)) (w5.alloc (Obj.cells #[Value.string p.name, Value.int IntKind.i64 p.val.kind, Value.int IntKind.i64 p.val.num, Value.string p.val.text, Value.float FloatKind.f64 p.val.real] 33)) := by
    obtain ⟨d0, d1, d2, d3, d4⟩ := hS
    have hbA : Below w5.heap.size w5 (w5.alloc (Obj.cells #[Value.string p.name, Value.int IntKind.i64 p.val.kind, Value.int IntKind.i64 p.val.num, Value.string p.val.text, Value.float FloatKind.f64 p.val.real] 33)) := (Below.refl _ w5).alloc (Nat.le_refl _) _
    refine ⟨?_, ?_, ?_, ?_, ?_⟩ <;> (rw [hbA.cell (by dsimp only; omega)]; assumption)
  refine hK _ _ hS6 ?_
  clear hK K
  refine wpAnyH_one (i := 8) (by kernel_rfl) rfl (by rfl) (fun K hK => ?_)
  go_simp
  have hs6 : (w5.alloc (Obj.cells #[Value.string p.name, Value.int IntKind.i64 p.val.kind, Value.int IntKind.i64 p.val.num, Value.string p.val.text, Value.float FloatKind.f64 p.val.real] 33)).heap.size = w5.heap.size + 1 := by simp
  have hS7 : (fun W : World => W.cell? ⟨w.heap.size, 0, none⟩ = some (.string p.name) ∧ W.cell? ⟨w.heap.size, 1, none⟩ = some (.int .i64 p.val.kind) ∧ W.cell? ⟨w.heap.size, 2, none⟩ = some (.int .i64 p.val.num) ∧ W.cell? ⟨w.heap.size, 3, none⟩ = some (.string p.val.text) ∧ W.cell? ⟨w.heap.size, 4, none⟩ = some (.float .f64 p.val.real)) ((w5.alloc (Obj.cells #[Value.string p.name, Value.int IntKind.i64 p.val.kind, Value.int IntKind.i64 p.val.num, Value.string p.val.text, Value.float FloatKind.f64 p.val.real] 33)).alloc (Obj.cells #[Value.slice none 0 0, Value.slice (some ⟨w5.heap.size, 0, none⟩) 1 1, Value.slice none 0 0] 30)) := by
    obtain ⟨d0, d1, d2, d3, d4⟩ := hS6
    have hbA : Below (w5.alloc (Obj.cells #[Value.string p.name, Value.int IntKind.i64 p.val.kind, Value.int IntKind.i64 p.val.num, Value.string p.val.text, Value.float FloatKind.f64 p.val.real] 33)).heap.size (w5.alloc (Obj.cells #[Value.string p.name, Value.int IntKind.i64 p.val.kind, Value.int IntKind.i64 p.val.num, Value.string p.val.text, Value.float FloatKind.f64 p.val.real] 33)) ((w5.alloc (Obj.cells #[Value.string p.name, Value.int IntKind.i64 p.val.kind, Value.int IntKind.i64 p.val.num, Value.string p.val.text, Value.float FloatKind.f64 p.val.real] 33)).alloc (Obj.cells #[Value.slice none 0 0, Value.slice (some ⟨w5.heap.size, 0, none⟩) 1 1, Value.slice none 0 0] 30)) := (Below.refl _ (w5.alloc (Obj.cells #[Value.string p.name, Value.int IntKind.i64 p.val.kind, Value.int IntKind.i64 p.val.num, Value.string p.val.text, Value.float FloatKind.f64 p.val.real] 33))).alloc (Nat.le_refl _) _
    refine ⟨?_, ?_, ?_, ?_, ?_⟩ <;> (rw [hbA.cell (by dsimp only; omega)]; assumption)
  refine hK _ _ hS7 ?_
  clear hK K
  refine wpAnyH_one (i := 9) (by kernel_rfl) rfl (by rfl) (fun K hK => ?_)
  go_simp
  refine (cat_nil w5 p _ _ _ _).mono ?_
  rintro e w8 ⟨v8, rfl, ho8, hb8⟩
  have hS8 : (fun W : World => W.cell? ⟨w.heap.size, 0, none⟩ = some (.string p.name) ∧ W.cell? ⟨w.heap.size, 1, none⟩ = some (.int .i64 p.val.kind) ∧ W.cell? ⟨w.heap.size, 2, none⟩ = some (.int .i64 p.val.num) ∧ W.cell? ⟨w.heap.size, 3, none⟩ = some (.string p.val.text) ∧ W.cell? ⟨w.heap.size, 4, none⟩ = some (.float .f64 p.val.real)) w8 := by
    obtain ⟨d0, d1, d2, d3, d4⟩ := hS
    refine ⟨?_, ?_, ?_, ?_, ?_⟩ <;> (rw [hb8.cell (by dsimp only; omega)]; assumption)
  show K _ _
  refine hK _ _ hS8 ?_
  clear hK K
  refine wpAnyH_take (i := 10) (v := v8) rfl (by kernel_rfl) (by kernel_rfl) (by kernel_rfl) (fun _ _ _ h => h) (.inl ⟨by rfl, fun W' hW' => ?_⟩) hS8 ?_
  · go_simp
  simp only [Act.put, List.getElem_toArray, List.getElem_cons_succ, List.getElem_cons_zero, List.setIfInBounds_toArray, List.set_cons_succ, List.set_cons_zero]
  refine wpAnyH_take (i := 11) (v := .int .i64 0) rfl (by kernel_rfl) (by kernel_rfl) (by kernel_rfl) (fun _ _ _ h => h) (.inl ⟨by rfl, fun W' hW' => ?_⟩) hS8 ?_
  · go_simp
  simp only [Act.put, List.getElem_toArray, List.getElem_cons_succ, List.getElem_cons_zero, List.setIfInBounds_toArray, List.set_cons_succ, List.set_cons_zero]
  refine wpAnyH_done (by kernel_rfl) ?_ _
  have ho9 := ho8.low (Nat.le_of_lt s5)
  go_wp2
  all_goals go_ret2
  all_goals exact ⟨v8, rfl, ho9, b5.trans (hb8.mono (Nat.le_of_lt s5))⟩

set_option maxRecDepth 4000 in
set_option maxHeartbeats 2000000 in
theorem set7_zero (w : World) (p : Pr) (a : Addr) (c : Nat) (hp : canB p = true) :
    Calls Tryd.prog 13 #[.slice (some a) 0 c, p.v] w fun e w' => ∃ v', e = .returned (.tuple #[v', .int .i64 0]) ∧ OwnP w' w.heap.size v' [p] ∧ Below w.heap.size w w' := by
  have hb1 : Below w.heap.size w (w.alloc (Obj.cells #[Value.string p.name, Value.int IntKind.i64 p.val.kind, Value.int IntKind.i64 p.val.num, Value.string p.val.text, Value.float FloatKind.f64 p.val.real] 33)) := (Below.refl _ w).alloc (Nat.le_refl _) _
  have HV := valid7 (w.alloc (Obj.cells #[Value.string p.name, Value.int IntKind.i64 p.val.kind, Value.int IntKind.i64 p.val.num, Value.string p.val.text, Value.float FloatKind.f64 p.val.real] 33)) (.slice (some a) 0 c) [] (.inl ⟨⟨_, _, rfl⟩, rfl⟩)
  have HC := fun W : World => canbe7 W p
  have HP := fun W : World => place7 W (.slice (some a) 0 c) [] p.name (by simp) (.inl ⟨⟨_, _, rfl⟩, rfl⟩) rfl
  have hs1 : (w.alloc (Obj.cells #[Value.string p.name, Value.int IntKind.i64 p.val.kind, Value.int IntKind.i64 p.val.num, Value.string p.val.text, Value.float FloatKind.f64 p.val.real] 33)).heap.size = w.heap.size + 1 := by simp
  have c0 : (w.alloc (Obj.cells #[Value.string p.name, Value.int IntKind.i64 p.val.kind, Value.int IntKind.i64 p.val.num, Value.string p.val.text, Value.float FloatKind.f64 p.val.real] 33)).cell? ⟨w.heap.size, 0, none⟩ = some (.string p.name) := World.cell?_alloc_new ..
  have c1 : (w.alloc (Obj.cells #[Value.string p.name, Value.int IntKind.i64 p.val.kind, Value.int IntKind.i64 p.val.num, Value.string p.val.text, Value.float FloatKind.f64 p.val.real] 33)).cell? ⟨w.heap.size, 1, none⟩ = some (.int .i64 p.val.kind) := World.cell?_alloc_new ..
  have c2 : (w.alloc (Obj.cells #[Value.string p.name, Value.int IntKind.i64 p.val.kind, Value.int IntKind.i64 p.val.num, Value.string p.val.text, Value.float FloatKind.f64 p.val.real] 33)).cell? ⟨w.heap.size, 2, none⟩ = some (.int .i64 p.val.num) := World.cell?_alloc_new ..
  have c3 : (w.alloc (Obj.cells #[Value.string p.name, Value.int IntKind.i64 p.val.kind, Value.int IntKind.i64 p.val.num, Value.string p.val.text, Value.float FloatKind.f64 p.val.real] 33)).cell? ⟨w.heap.size, 3, none⟩ = some (.string p.val.text) := World.cell?_alloc_new ..
  have c4 : (w.alloc (Obj.cells #[Value.string p.name, Value.int IntKind.i64 p.val.kind, Value.int IntKind.i64 p.val.num, Value.string p.val.text, Value.float FloatKind.f64 p.val.real] 33)).cell? ⟨w.heap.size, 4, none⟩ = some (.float .f64 p.val.real) := World.cell?_alloc_new ..
  unfold Pr.v at *
  rw [show validL [] = true from rfl] at HV
  simp only [hp] at HC
  clear hp
  go_enter Tryd.func13, Tryd.ntmps13
  go_upto_region 1 with fail
  generalize (w.alloc (Obj.cells #[Value.string p.name, Value.int IntKind.i64 p.val.kind, Value.int IntKind.i64 p.val.num, Value.string p.val.text, Value.float FloatKind.f64 p.val.real] 33)) = w1 at *
  go_wp2_with fail
  refine HV.mono ?_
  rintro e w2 ⟨rfl, hb2⟩
  have d0 : w2.cell? ⟨w.heap.size, 0, none⟩ = some (.string p.name) := by rw [hb2.cell (by dsimp only; omega)]; exact c0
  have d1 : w2.cell? ⟨w.heap.size, 1, none⟩ = some (.int .i64 p.val.kind) := by rw [hb2.cell (by dsimp only; omega)]; exact c1
  have d2 : w2.cell? ⟨w.heap.size, 2, none⟩ = some (.int .i64 p.val.num) := by rw [hb2.cell (by dsimp only; omega)]; exact c2
  have d3 : w2.cell? ⟨w.heap.size, 3, none⟩ = some (.string p.val.text) := by rw [hb2.cell (by dsimp only; omega)]; exact c3
  have d4 : w2.cell? ⟨w.heap.size, 4, none⟩ = some (.float .f64 p.val.real) := by rw [hb2.cell (by dsimp only; omega)]; exact c4
  clear c0 c1 c2 c3 c4
  have b2 := hb1.trans (hb2.mono (by omega))
  have s2 : w.heap.size < w2.heap.size := by have := hb2.size; omega
  go_wp2_with fail
  refine (HC _).mono ?_
  rintro e w3 ⟨rfl, hb3⟩
  have c0 : w3.cell? ⟨w.heap.size, 0, none⟩ = some (.string p.name) := by rw [hb3.cell (by dsimp only; omega)]; exact d0
  have c1 : w3.cell? ⟨w.heap.size, 1, none⟩ = some (.int .i64 p.val.kind) := by rw [hb3.cell (by dsimp only; omega)]; exact d1
  have c2 : w3.cell? ⟨w.heap.size, 2, none⟩ = some (.int .i64 p.val.num) := by rw [hb3.cell (by dsimp only; omega)]; exact d2
  have c3 : w3.cell? ⟨w.heap.size, 3, none⟩ = some (.string p.val.text) := by rw [hb3.cell (by dsimp only; omega)]; exact d3
  have c4 : w3.cell? ⟨w.heap.size, 4, none⟩ = some (.float .f64 p.val.real) := by rw [hb3.cell (by dsimp only; omega)]; exact d4
  clear d0 d1 d2 d3 d4
  have b3 := b2.trans (hb3.mono b2.size)
  have s3 : w.heap.size < w3.heap.size := by have := hb3.size; omega
  go_wp2_with fail
  refine (HP w3).mono ?_
  rintro e w4 ⟨k, hk, he, hb4⟩
  have hk0 : k = 0 := by have := hk.1; simpa using this
  subst hk0
  rw [show isAt [] p.name 0 = false by simp [isAt]] at he
  simp only [Bool.false_eq_true, if_false] at he
  subst he
  have d0 : w4.cell? ⟨w.heap.size, 0, none⟩ = some (.string p.name) := by rw [hb4.cell (by dsimp only; omega)]; exact c0
  have d1 : w4.cell? ⟨w.heap.size, 1, none⟩ = some (.int .i64 p.val.kind) := by rw [hb4.cell (by dsimp only; omega)]; exact c1
  have d2 : w4.cell? ⟨w.heap.size, 2, none⟩ = some (.int .i64 p.val.num) := by rw [hb4.cell (by dsimp only; omega)]; exact c2
  have d3 : w4.cell? ⟨w.heap.size, 3, none⟩ = some (.string p.val.text) := by rw [hb4.cell (by dsimp only; omega)]; exact c3
  have d4 : w4.cell? ⟨w.heap.size, 4, none⟩ = some (.float .f64 p.val.real) := by rw [hb4.cell (by dsimp only; omega)]; exact c4
  clear c0 c1 c2 c3 c4 HV HC HP
  have b4 := b3.trans (hb4.mono b3.size)
  have s4 : w.heap.size < w4.heap.size := by have := hb4.size; omega
  clear hk hb1 hb2 hb3 hb4 b2 b3 s2 s3 hs1
  go_upto_region 6 with fail
  refine wp_region_held (S := fun W => W.cell? ⟨w.heap.size, 0, none⟩ = some (.string p.name) ∧ W.cell? ⟨w.heap.size, 1, none⟩ = some (.int .i64 p.val.kind) ∧ W.cell? ⟨w.heap.size, 2, none⟩ = some (.int .i64 p.val.num) ∧ W.cell? ⟨w.heap.size, 3, none⟩ = some (.string p.val.text) ∧ W.cell? ⟨w.heap.size, 4, none⟩ = some (.float .f64 p.val.real)) hmix ?_
  show wpAnyH _ _ _ _ _ _ _ _ w4.drew
  have hS : (fun W : World => W.cell? ⟨w.heap.size, 0, none⟩ = some (.string p.name) ∧ W.cell? ⟨w.heap.size, 1, none⟩ = some (.int .i64 p.val.kind) ∧ W.cell? ⟨w.heap.size, 2, none⟩ = some (.int .i64 p.val.num) ∧ W.cell? ⟨w.heap.size, 3, none⟩ = some (.string p.val.text) ∧ W.cell? ⟨w.heap.size, 4, none⟩ = some (.float .f64 p.val.real)) w4.drew := ⟨d0, d1, d2, d3, d4⟩
  have b5 : Below w.heap.size w w4.drew := b4.drew
  have s5 : w.heap.size < w4.drew.heap.size := s4
  clear d0 d1 d2 d3 d4 b4 s4
  generalize w4.drew = w5 at *
  refine wpAnyH_take (i := 0) (v := .slice (some a) 0 c) rfl (by kernel_rfl) (by kernel_rfl) (by kernel_rfl) (fun _ _ _ h => h) (.inl ⟨by rfl, fun W' hW' => ?_⟩) hS ?_
  · go_simp
  simp only [Act.put, List.getElem_toArray, List.getElem_cons_succ, List.getElem_cons_zero, List.setIfInBounds_toArray, List.set_cons_succ, List.set_cons_zero]
  refine wpAnyH_take (i := 1) (v := .int .i64 0) rfl (by kernel_rfl) (by kernel_rfl) (by kernel_rfl) (fun _ _ _ h => h) (.inl ⟨by rfl, fun W' hW' => ?_⟩) hS ?_
  · go_simp
  simp only [Act.put, List.getElem_toArray, List.getElem_cons_succ, List.getElem_cons_zero, List.setIfInBounds_toArray, List.set_cons_succ, List.set_cons_zero]
  refine wpAnyH_take (i := 2) (v := .slice (some a) 0 c) rfl (by kernel_rfl) (by kernel_rfl) (by kernel_rfl) (fun _ _ _ h => h) (.inl ⟨by rfl, fun W' hW' => ?_⟩) hS ?_
  · go_simp
  simp only [Act.put, List.getElem_toArray, List.getElem_cons_succ, List.getElem_cons_zero, List.setIfInBounds_toArray, List.set_cons_succ, List.set_cons_zero]
  refine wpAnyH_take (i := 3) (v := .agg #[Value.string p.name, Value.int IntKind.i64 p.val.kind, Value.int IntKind.i64 p.val.num, Value.string p.val.text, Value.float FloatKind.f64 p.val.real]) rfl (by kernel_rfl) (by kernel_rfl) (by kernel_rfl) (fun _ _ _ h => h) (.inl ⟨by rfl, fun W' hW' => ?_⟩) hS ?_
  · obtain ⟨d0, d1, d2, d3, d4⟩ := hW'
    go_simp
  simp only [Act.put, List.getElem_toArray, List.getElem_cons_succ, List.getElem_cons_zero, List.setIfInBounds_toArray, List.set_cons_succ, List.set_cons_zero]
  refine wpAnyH_take (i := 5) (v := .slice (some a) 0 c) rfl (by kernel_rfl) (by kernel_rfl) (by kernel_rfl) (fun _ _ _ h => h) (.inl ⟨by rfl, fun W' hW' => ?_⟩) hS ?_
  · go_simp
  simp only [Act.put, List.getElem_toArray, List.getElem_cons_succ, List.getElem_cons_zero, List.setIfInBounds_toArray, List.set_cons_succ, List.set_cons_zero]
  refine wpAnyH_take (i := 6) (v := .int .i64 0) rfl (by kernel_rfl) (by kernel_rfl) (by kernel_rfl) (fun _ _ _ h => h) (.inl ⟨by rfl, fun W' hW' => ?_⟩) hS ?_
  · go_simp
  simp only [Act.put, List.getElem_toArray, List.getElem_cons_succ, List.getElem_cons_zero, List.setIfInBounds_toArray, List.set_cons_succ, List.set_cons_zero]
  refine wpAnyH_take (i := 7) (v := .slice (some a) 0 c) rfl (by kernel_rfl) (by kernel_rfl) (by kernel_rfl) (fun _ _ _ h => h) (.inl ⟨by rfl, fun W' hW' => ?_⟩) hS ?_
  · go_simp
  simp only [Act.put, List.getElem_toArray, List.getElem_cons_succ, List.getElem_cons_zero, List.setIfInBounds_toArray, List.set_cons_succ, List.set_cons_zero]
  refine wpAnyH_one (i := 4) (by kernel_rfl) rfl (by rfl) (fun K hK => ?_)
  go_simp
  have hS6 : (fun W : World => W.cell? ⟨w.heap.size, 0, none⟩ = some (.string p.name) ∧ W.cell? ⟨w.heap.size, 1, none⟩ = some (.int .i64 p.val.kind) ∧ W.cell? ⟨w.heap.size, 2, none⟩ = some (.int .i64 p.val.num) ∧ W.cell? ⟨w.heap.size, 3, none⟩ = some (.string p.val.text) ∧ W.cell? ⟨w.heap.size, 4, none⟩ = some (.float .f64 p.val.real)) (w5.alloc (Obj.cells #[Value.string p.name, Value.int IntKind.i64 p.val.kind, Value.int IntKind.i64 p.val.num, Value.string p.val.text, Value.float FloatKind.f64 p.val.real] 33)) := by
    obtain ⟨d0, d1, d2, d3, d4⟩ := hS
    have hbA : Below w5.heap.size w5 (w5.alloc (Obj.cells #[Value.string p.name, Value.int IntKind.i64 p.val.kind, Value.int IntKind.i64 p.val.num, Value.string p.val.text, Value.float FloatKind.f64 p.val.real] 33)) := (Below.refl _ w5).alloc (Nat.le_refl _) _
    refine ⟨?_, ?_, ?_, ?_, ?_⟩ <;> (rw [hbA.cell (by dsimp only; omega)]; assumption)
  refine hK _ _ hS6 ?_
  clear hK K
  refine wpAnyH_one (i := 8) (by kernel_rfl) rfl (by rfl) (fun K hK => ?_)
  go_simp
  have hs6 : (w5.alloc (Obj.cells #[Value.string p.name, Value.int IntKind.i64 p.val.kind, Value.int IntKind.i64 p.val.num, Value.string p.val.text, Value.float FloatKind.f64 p.val.real] 33)).heap.size = w5.heap.size + 1 := by simp
  have hS7 : (fun W : World => W.cell? ⟨w.heap.size, 0, none⟩ = some (.string p.name) ∧ W.cell? ⟨w.heap.size, 1, none⟩ = some (.int .i64 p.val.kind) ∧ W.cell? ⟨w.heap.size, 2, none⟩ = some (.int .i64 p.val.num) ∧ W.cell? ⟨w.heap.size, 3, none⟩ = some (.string p.val.text) ∧ W.cell? ⟨w.heap.size, 4, none⟩ = some (.float .f64 p.val.real)) ((w5.alloc (Obj.cells #[Value.string p.name, Value.int IntKind.i64 p.val.kind, Value.int IntKind.i64 p.val.num, Value.string p.val.text, Value.float FloatKind.f64 p.val.real] 33)).alloc (Obj.cells #[Value.slice (some a) 0 c, Value.slice (some ⟨w5.heap.size, 0, none⟩) 1 1, Value.slice (some a) 0 c] 30)) := by
    obtain ⟨d0, d1, d2, d3, d4⟩ := hS6
    have hbA : Below (w5.alloc (Obj.cells #[Value.string p.name, Value.int IntKind.i64 p.val.kind, Value.int IntKind.i64 p.val.num, Value.string p.val.text, Value.float FloatKind.f64 p.val.real] 33)).heap.size (w5.alloc (Obj.cells #[Value.string p.name, Value.int IntKind.i64 p.val.kind, Value.int IntKind.i64 p.val.num, Value.string p.val.text, Value.float FloatKind.f64 p.val.real] 33)) ((w5.alloc (Obj.cells #[Value.string p.name, Value.int IntKind.i64 p.val.kind, Value.int IntKind.i64 p.val.num, Value.string p.val.text, Value.float FloatKind.f64 p.val.real] 33)).alloc (Obj.cells #[Value.slice (some a) 0 c, Value.slice (some ⟨w5.heap.size, 0, none⟩) 1 1, Value.slice (some a) 0 c] 30)) := (Below.refl _ (w5.alloc (Obj.cells #[Value.string p.name, Value.int IntKind.i64 p.val.kind, Value.int IntKind.i64 p.val.num, Value.string p.val.text, Value.float FloatKind.f64 p.val.real] 33))).alloc (Nat.le_refl _) _
    refine ⟨?_, ?_, ?_, ?_, ?_⟩ <;> (rw [hbA.cell (by dsimp only; omega)]; assumption)
  refine hK _ _ hS7 ?_
  clear hK K
  refine wpAnyH_one (i := 9) (by kernel_rfl) rfl (by rfl) (fun K hK => ?_)
  go_simp
  refine (cat_nil w5 p _ _ _ _).mono ?_
  rintro e w8 ⟨v8, rfl, ho8, hb8⟩
  have hS8 : (fun W : World => W.cell? ⟨w.heap.size, 0, none⟩ = some (.string p.name) ∧ W.cell? ⟨w.heap.size, 1, none⟩ = some (.int .i64 p.val.kind) ∧ W.cell? ⟨w.heap.size, 2, none⟩ = some (.int .i64 p.val.num) ∧ W.cell? ⟨w.heap.size, 3, none⟩ = some (.string p.val.text) ∧ W.cell? ⟨w.heap.size, 4, none⟩ = some (.float .f64 p.val.real)) w8 := by
    obtain ⟨d0, d1, d2, d3, d4⟩ := hS
    refine ⟨?_, ?_, ?_, ?_, ?_⟩ <;> (rw [hb8.cell (by dsimp only; omega)]; assumption)
  show K _ _
  refine hK _ _ hS8 ?_
  clear hK K
  refine wpAnyH_take (i := 10) (v := v8) rfl (by kernel_rfl) (by kernel_rfl) (by kernel_rfl) (fun _ _ _ h => h) (.inl ⟨by rfl, fun W' hW' => ?_⟩) hS8 ?_
  · go_simp
  simp only [Act.put, List.getElem_toArray, List.getElem_cons_succ, List.getElem_cons_zero, List.setIfInBounds_toArray, List.set_cons_succ, List.set_cons_zero]
  refine wpAnyH_take (i := 11) (v := .int .i64 0) rfl (by kernel_rfl) (by kernel_rfl) (by kernel_rfl) (fun _ _ _ h => h) (.inl ⟨by rfl, fun W' hW' => ?_⟩) hS8 ?_
  · go_simp
  simp only [Act.put, List.getElem_toArray, List.getElem_cons_succ, List.getElem_cons_zero, List.setIfInBounds_toArray, List.set_cons_succ, List.set_cons_zero]
  refine wpAnyH_done (by kernel_rfl) ?_ _
  have ho9 := ho8.low (Nat.le_of_lt s5)
  go_wp2
  all_goals go_ret2
  all_goals exact ⟨v8, rfl, ho9, b5.trans (hb8.mono (Nat.le_of_lt s5))⟩

end Go.Proofs.YtlhfdklfkfodkaaDoor
