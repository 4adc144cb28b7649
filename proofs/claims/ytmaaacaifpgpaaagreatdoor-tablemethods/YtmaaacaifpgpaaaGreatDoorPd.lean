
/- What prop.Good answers of any value. -/
import Derived.Test.YtmaaacaifpgpaaaGreatDoorPc
namespace Go.Proofs.YtmaaacaifpgpaaaGreatDoor
open Go.RowKit Go.Lib Ieee

def goodV (x : Val) : Bool :=
  if x.kind = 1 then sameV x ⟨1, x.num, ⟨#[]⟩, 0⟩
  else if x.kind = 2 then (x.num == 0 || x.num == 1) && sameV x ⟨2, x.num, ⟨#[]⟩, 0⟩
  else if x.kind = 3 then decide ((x.text.size : Int) ≤ 256) && sameV x ⟨3, 0, x.text, 0⟩
  else if x.kind = 4 then sameV x ⟨4, 0, ⟨#[]⟩, canonB x.real⟩
  else false

set_option maxRecDepth 8000 in
set_option maxHeartbeats 400000 in
theorem good7 (w : World) (a : Val) :
    Calls Tryz.prog 65 #[a.v] w fun e w' => e = .returned (.bool (goodV a)) ∧ Below w.heap.size w w' := by
  obtain ⟨k, n, t, r⟩ := a
  unfold goodV
  dsimp only
  have H1 := fun W : World => same7 W ⟨1, n, t, r⟩ ⟨1, n, ⟨#[]⟩, 0⟩
  have H2 := fun W : World => same7 W ⟨2, n, t, r⟩ ⟨2, n, ⟨#[]⟩, 0⟩
  have H3 := fun W : World => same7 W ⟨3, n, t, r⟩ ⟨3, 0, t, 0⟩
  have H4 := fun W : World => same7 W ⟨4, n, t, r⟩ ⟨4, 0, ⟨#[]⟩, canonB r⟩
  have HC := fun W : World => canon_any W r
  have hb1 : Below w.heap.size w (w.alloc (Obj.cells #[Value.int IntKind.i64 k, Value.int IntKind.i64 n, Value.string t, Value.float FloatKind.f64 r] 42)) := (Below.refl _ w).alloc (Nat.le_refl _) _
  have c0 : (w.alloc (Obj.cells #[Value.int IntKind.i64 k, Value.int IntKind.i64 n, Value.string t, Value.float FloatKind.f64 r] 42)).cell? ⟨w.heap.size, 0, none⟩ = some (.int .i64 k) := World.cell?_alloc_new ..
  have c1 : (w.alloc (Obj.cells #[Value.int IntKind.i64 k, Value.int IntKind.i64 n, Value.string t, Value.float FloatKind.f64 r] 42)).cell? ⟨w.heap.size, 1, none⟩ = some (.int .i64 n) := World.cell?_alloc_new ..
  have c2 : (w.alloc (Obj.cells #[Value.int IntKind.i64 k, Value.int IntKind.i64 n, Value.string t, Value.float FloatKind.f64 r] 42)).cell? ⟨w.heap.size, 2, none⟩ = some (.string t) := World.cell?_alloc_new ..
  have c3 : (w.alloc (Obj.cells #[Value.int IntKind.i64 k, Value.int IntKind.i64 n, Value.string t, Value.float FloatKind.f64 r] 42)).cell? ⟨w.heap.size, 3, none⟩ = some (.float .f64 r) := World.cell?_alloc_new ..
  have hs1 : (w.alloc (Obj.cells #[Value.int IntKind.i64 k, Value.int IntKind.i64 n, Value.string t, Value.float FloatKind.f64 r] 42)).heap.size = w.heap.size + 1 := by simp
  unfold Val.v at *
  dsimp only at *
  go_enter Tryz.func65, Tryz.ntmps65
  go_upto_region 1 with fail
  generalize (w.alloc (Obj.cells #[Value.int IntKind.i64 k, Value.int IntKind.i64 n, Value.string t, Value.float FloatKind.f64 r] 42)) = w1 at *
  by_cases h1 : k = 1
  · subst h1
    obtain ⟨g, hg⟩ : ∃ g, g = sameV ⟨1, n, t, r⟩ ⟨1, n, ⟨#[]⟩, 0⟩ := ⟨_, rfl⟩
    simp only [← hg] at H1
    clear H2 H3 H4 HC
    go_wp2_with fail
    refine (H1 _).mono ?_
    rintro e w2 ⟨rfl, hb2⟩
    go_wp2
    go_ret
    exact ⟨ret_b (by first | rfl | (rw [decide_eq_false e0]; rfl) | simp [*]), hb1.trans (hb2.mono (by omega))⟩
  by_cases h2 : k = 2
  · subst h2
    obtain ⟨g, hg⟩ : ∃ g, g = sameV ⟨2, n, t, r⟩ ⟨2, n, ⟨#[]⟩, 0⟩ := ⟨_, rfl⟩
    simp only [← hg] at H2
    clear H1 H3 H4 HC
    cases e0 : (n == 0) with
    | true =>
      go_wp2_with fail
      refine (H2 _).mono ?_
      rintro e w2 ⟨rfl, hb2⟩
      go_wp2
      go_ret
      exact ⟨ret_b (by first | rfl | (rw [decide_eq_false e0]; rfl) | simp [*]), hb1.trans (hb2.mono (by omega))⟩
    | false =>
    cases e1 : (n == 1) with
    | true =>
      go_wp2_with fail
      refine (H2 _).mono ?_
      rintro e w2 ⟨rfl, hb2⟩
      go_wp2
      go_ret
      exact ⟨ret_b (by first | rfl | (rw [decide_eq_false e0]; rfl) | simp [*]), hb1.trans (hb2.mono (by omega))⟩
    | false =>
      go_wp2
      go_ret
      exact ⟨ret_b (by first | rfl | (simp; omega) | (simp; intro h; omega)), hb1⟩
  by_cases h3 : k = 3
  · subst h3
    obtain ⟨g, hg⟩ : ∃ g, g = sameV ⟨3, n, t, r⟩ ⟨3, 0, t, 0⟩ := ⟨_, rfl⟩
    simp only [← hg] at H3
    clear H1 H2 H4 HC
    by_cases e0 : (t.size : Int) ≤ 256
    · go_wp2_with fail
      refine (H3 _).mono ?_
      rintro e w2 ⟨rfl, hb2⟩
      go_wp2
      go_ret
      exact ⟨ret_b (by first | rfl | (rw [decide_eq_false e0]; rfl) | simp [*]), hb1.trans (hb2.mono (by omega))⟩
    · go_wp2
      go_ret
      exact ⟨ret_b (by first | rfl | (simp; omega) | (simp; intro h; omega)), hb1⟩
  by_cases h4 : k = 4
  · subst h4
    obtain ⟨g, hg⟩ : ∃ g, g = sameV ⟨4, n, t, r⟩ ⟨4, 0, ⟨#[]⟩, canonB r⟩ := ⟨_, rfl⟩
    simp only [← hg] at H4
    clear H1 H2 H3
    go_upto_region 9 with fail
    refine wp_region_held (S := fun W => W.cell? ⟨w.heap.size, 0, none⟩ = some (.int .i64 4) ∧ W.cell? ⟨w.heap.size, 1, none⟩ = some (.int .i64 n) ∧ W.cell? ⟨w.heap.size, 2, none⟩ = some (.string t) ∧ W.cell? ⟨w.heap.size, 3, none⟩ = some (.float .f64 r)) hmix ?_
    show wpAnyH _ _ _ _ _ _ _ _ w1.drew
    have hS : (fun W : World => W.cell? ⟨w.heap.size, 0, none⟩ = some (.int .i64 4) ∧ W.cell? ⟨w.heap.size, 1, none⟩ = some (.int .i64 n) ∧ W.cell? ⟨w.heap.size, 2, none⟩ = some (.string t) ∧ W.cell? ⟨w.heap.size, 3, none⟩ = some (.float .f64 r)) w1.drew := ⟨c0, c1, c2, c3⟩
    have hb2 : Below w.heap.size w w1.drew := hb1.drew
    have hs2 : w1.drew.heap.size = w.heap.size + 1 := hs1
    clear c0 c1 c2 c3 hb1 hs1
    generalize w1.drew = w2 at *
    refine wpAnyH_take (i := 0) (v := .agg #[.int .i64 4, .int .i64 n, .string t, .float .f64 r]) rfl (by kernel_rfl) (by kernel_rfl) (by kernel_rfl) (fun _ _ _ h => h) (.inl ⟨by rfl, fun W' hW' => ?_⟩) hS ?_
    · obtain ⟨d0, d1, d2, d3⟩ := hW'
      go_simp
    dsimp only [Act.put]
    refine wpAnyH_take (i := 1) (v := .pointer (some ⟨w.heap.size, 3, none⟩)) rfl (by kernel_rfl) (by kernel_rfl) (by kernel_rfl) (fun _ _ _ h => h) (.inl ⟨by rfl, fun W' hW' => ?_⟩) hS ?_
    · go_simp
    dsimp only [Act.put]
    refine wpAnyH_take (i := 2) (v := .float .f64 r) rfl (by kernel_rfl) (by kernel_rfl) (by kernel_rfl) (fun _ _ _ h => h) (.inl ⟨by rfl, fun W' hW' => ?_⟩) hS ?_
    · obtain ⟨d0, d1, d2, d3⟩ := hW'
      go_simp
    dsimp only [Act.put]
    refine wpAnyH_one (i := 3) (by kernel_rfl) rfl (by rfl) (fun K hK => ?_)
    go_simp
    refine (HC _).mono ?_
    rintro e w' ⟨rfl, rfl⟩
    show K _ _
    refine hK _ _ hS ?_
    clear hK K
    refine wpAnyH_take (i := 4) (v := .agg #[.int .i64 4, .int .i64 0, .string ⟨#[]⟩, .float .f64 (canonB r)]) rfl (by kernel_rfl) (by kernel_rfl) (by kernel_rfl) (fun _ _ _ h => h) (.inl ⟨by rfl, fun W' hW' => ?_⟩) hS ?_
    · go_simp
    dsimp only [Act.put]
    refine wpAnyH_one (i := 5) (by kernel_rfl) rfl (by rfl) (fun K hK => ?_)
    go_simp
    refine (H4 _).mono ?_
    rintro e w3 ⟨rfl, hb3⟩
    obtain ⟨d0, d1, d2, d3⟩ := hS
    have hS3 : (fun W : World => W.cell? ⟨w.heap.size, 0, none⟩ = some (.int .i64 4) ∧ W.cell? ⟨w.heap.size, 1, none⟩ = some (.int .i64 n) ∧ W.cell? ⟨w.heap.size, 2, none⟩ = some (.string t) ∧ W.cell? ⟨w.heap.size, 3, none⟩ = some (.float .f64 r)) w3 := ⟨by rw [hb3.cell (by dsimp only; omega)]; exact d0, by rw [hb3.cell (by dsimp only; omega)]; exact d1, by rw [hb3.cell (by dsimp only; omega)]; exact d2, by rw [hb3.cell (by dsimp only; omega)]; exact d3⟩
    show K _ _
    refine hK _ _ hS3 ?_
    clear hK K
    refine wpAnyH_take (i := 6) (v := .bool g) rfl (by kernel_rfl) (by kernel_rfl) (by kernel_rfl) (fun _ _ _ h => h) (.inl ⟨by rfl, fun W' hW' => ?_⟩) hS3 ?_
    · go_simp
    refine wpAnyH_done (by kernel_rfl) ?_ _
    simp only [Act.put, List.getElem_toArray, List.getElem_cons_succ, List.getElem_cons_zero, List.setIfInBounds_toArray, List.set_cons_succ, List.set_cons_zero]
    go_wp2
    go_ret
    exact ⟨ret_b (by first | rfl | (rw [decide_eq_false e0]; rfl) | simp [*]), hb2.trans (hb3.mono (by omega))⟩
  go_wp2
  go_ret
  exact ⟨ret_b (by first | rfl | (rw [decide_eq_false e0]; rfl) | simp [*]), hb1⟩
end Go.Proofs.YtmaaacaifpgpaaaGreatDoor
