
/- What trivetref07.SameAll answers of any two lists. -/
import Derived.Test.YtmaaacaifpgpaaaGreatDoorPrd
namespace Go.Proofs.YtmaaacaifpgpaaaGreatDoor
open Go.RowKit Go.Lib Ieee
set_option linter.unusedSimpArgs false

theorem pr_eq (x y : Pr) : x = y ↔ x.name.toList = y.name.toList ∧ sameV x.val y.val = true := by
  obtain ⟨a, b⟩ := x
  obtain ⟨c, d⟩ := y
  simp only [Pr.mk.injEq, sameV_eq]
  exact ⟨fun ⟨h1, h2⟩ => ⟨by rw [h1], h2⟩, fun ⟨h1, h2⟩ => ⟨toList_inj h1, h2⟩⟩
def sameL : List Pr → List Pr → Bool
  | [], [] => true
  | x :: l, y :: m => (x.name.toList == y.name.toList && sameV x.val y.val) && sameL l m
  | _, _ => false
theorem sameL_eq : ∀ (l m : List Pr), sameL l m = true ↔ l = m
  | [], [] => by simp [sameL]
  | [], _ :: _ => by simp [sameL]
  | _ :: _, [] => by simp [sameL]
  | x :: l, y :: m => by
    simp only [sameL, Bool.and_eq_true, beq_iff_eq, List.cons.injEq, sameL_eq l m]
    rw [← pr_eq]
theorem sameL_ne {l m : List Pr} (h : l ≠ m) : sameL l m = false := by
  cases e : sameL l m with
  | false => rfl
  | true => exact absurd ((sameL_eq l m).1 e) h
theorem same_end {l m : List Pr} (hl : l.length = m.length) (h : ∀ j (h : j < l.length) (h' : j < m.length), l[j] = m[j]) : l = m := List.ext_getElem hl h
theorem same_not {l m : List Pr} {k : Nat} (h : k < l.length) (h' : k < m.length) (hne : l[k] ≠ m[k]) : l ≠ m := fun e => by subst e; exact hne rfl

set_option maxRecDepth 4000 in
set_option maxHeartbeats 4000000 in
theorem all7_some (w : World) (l m : List Pr) (b o c b' o' c' : Nat) (hm : m.length = l.length) (hP : ∀ i (h : i < l.length), PrAt w b (o + i * 5) l[i]) (hQ : ∀ i (h : i < m.length), PrAt w b' (o' + i * 5) m[i]) (h63 : l.length ≤ 9223372036854775806) :
    Calls Tryz.prog 28 #[.slice (some ⟨b, o, none⟩) l.length c, .slice (some ⟨b', o', none⟩) l.length c'] w fun e w' => e = .returned (.bool (sameL l m)) ∧ Below w.heap.size w w' := by
  have HP : Hid (∀ i (h : i < l.length), PrAt w b (o + i * 5) l[i]) := hP
  have HQ : Hid (∀ i (h : i < m.length), PrAt w b' (o' + i * 5) m[i]) := hQ
  have HE : Hid ((∀ j (h : j < l.length) (h' : j < m.length), l[j] = m[j]) → sameL l m = true) := fun h => (sameL_eq l m).2 (same_end hm.symm h)
  have HN : Hid (∀ k (h : k < l.length) (h' : k < m.length), l[k] ≠ m[k] → sameL l m = false) := fun k h h' hne => sameL_ne (same_not h h' hne)
  have HM : Hid (m.length = l.length) := hm
  clear hP hQ hm
  generalize sameL l m = r at *
  go_enter Tryz.func28, Tryz.ntmps28
  go_wp2_with fail
  go_loopw [13] (fun i wr => ∃ k : Nat, k ≤ l.length ∧ i = .int .i64 k ∧ Below w.heap.size w wr ∧ Hid (∀ j (h : j < l.length) (h' : j < m.length), j < k → l[j] = m[j])) (fun i _ => l.length - (RowKit.intOf i).toNat)
  case atStart => exact ⟨0, by omega, rfl, Below.refl _ _, fun j h h' hj => by omega⟩
  case round =>
    obtain ⟨k, hk, rfl, hbr, hz⟩ := hrel
    by_cases hlt : k < l.length
    · have hlm : k < m.length := by have := HM.out; omega
      obtain ⟨d0, d1, d2, d3, d4⟩ := (HP.out k hlt).on hbr
      obtain ⟨e0, e1, e2, e3, e4⟩ := (HQ.out k hlm).on hbr
      have hN := HN.out k hlt hlm
      have hY : Hid (l[k] = m[k] → ∀ j (h : j < l.length) (h' : j < m.length), j < k + 1 → l[j] = m[j]) := fun e j h h' hj => by
        by_cases ej : j = k
        · subst ej; exact e
        · exact hz.out j h h' (by omega)
      obtain ⟨x, hx⟩ : ∃ x, x = l[k] := ⟨_, rfl⟩
      obtain ⟨y, hy⟩ : ∃ y, y = m[k] := ⟨_, rfl⟩
      rw [← hx] at d0 d1 d2 d3 d4 hN hY
      rw [← hy] at e0 e1 e2 e3 e4 hN hY
      clear hx hy
      have HS := fun W : World => rsame7 W x.val y.val
      cases en : (x.name.toList == y.name.toList) with
      | false =>
        have hr := hN (fun e => by subst e; simp at en)
        clear hN hY HS
        go_upto_region 6 with fail
        refine wp_region_held (S := fun W => W.cell? ⟨b, o + k * 5, none⟩ = some (.string x.name) ∧ W.cell? ⟨b, o + k * 5 + 1, none⟩ = some (.int .i64 x.val.kind) ∧ W.cell? ⟨b, o + k * 5 + 2, none⟩ = some (.int .i64 x.val.num) ∧ W.cell? ⟨b, o + k * 5 + 3, none⟩ = some (.string x.val.text) ∧ W.cell? ⟨b, o + k * 5 + 4, none⟩ = some (.float .f64 x.val.real) ∧ W.cell? ⟨b', o' + k * 5, none⟩ = some (.string y.name) ∧ W.cell? ⟨b', o' + k * 5 + 1, none⟩ = some (.int .i64 y.val.kind) ∧ W.cell? ⟨b', o' + k * 5 + 2, none⟩ = some (.int .i64 y.val.num) ∧ W.cell? ⟨b', o' + k * 5 + 3, none⟩ = some (.string y.val.text) ∧ W.cell? ⟨b', o' + k * 5 + 4, none⟩ = some (.float .f64 y.val.real)) hmix ?_
        show wpAnyH _ _ _ _ _ _ _ _ wr.drew
        have hS : (fun W : World => W.cell? ⟨b, o + k * 5, none⟩ = some (.string x.name) ∧ W.cell? ⟨b, o + k * 5 + 1, none⟩ = some (.int .i64 x.val.kind) ∧ W.cell? ⟨b, o + k * 5 + 2, none⟩ = some (.int .i64 x.val.num) ∧ W.cell? ⟨b, o + k * 5 + 3, none⟩ = some (.string x.val.text) ∧ W.cell? ⟨b, o + k * 5 + 4, none⟩ = some (.float .f64 x.val.real) ∧ W.cell? ⟨b', o' + k * 5, none⟩ = some (.string y.name) ∧ W.cell? ⟨b', o' + k * 5 + 1, none⟩ = some (.int .i64 y.val.kind) ∧ W.cell? ⟨b', o' + k * 5 + 2, none⟩ = some (.int .i64 y.val.num) ∧ W.cell? ⟨b', o' + k * 5 + 3, none⟩ = some (.string y.val.text) ∧ W.cell? ⟨b', o' + k * 5 + 4, none⟩ = some (.float .f64 y.val.real)) wr.drew := ⟨d0, d1, d2, d3, d4, e0, e1, e2, e3, e4⟩
        have b5 : Below w.heap.size w wr.drew := hbr.drew
        clear d0 d1 d2 d3 d4 e0 e1 e2 e3 e4
        generalize wr.drew = w5 at *
        refine wpAnyH_take (i := 0) (v := .slice (some ⟨b, o, none⟩) l.length c) rfl (by kernel_rfl) (by kernel_rfl) (by kernel_rfl) (fun _ _ _ h => h) (.inl ⟨by rfl, fun W' hW' => ?_⟩) hS ?_
        · go_simp
        simp only [Act.put, List.getElem_toArray, List.getElem_cons_succ, List.getElem_cons_zero, List.setIfInBounds_toArray, List.set_cons_succ, List.set_cons_zero]
        refine wpAnyH_take (i := 1) (v := .int .i64 k) rfl (by kernel_rfl) (by kernel_rfl) (by kernel_rfl) (fun _ _ _ h => h) (.inl ⟨by rfl, fun W' hW' => ?_⟩) hS ?_
        · go_simp
        simp only [Act.put, List.getElem_toArray, List.getElem_cons_succ, List.getElem_cons_zero, List.setIfInBounds_toArray, List.set_cons_succ, List.set_cons_zero]
        refine wpAnyH_take (i := 2) (v := .pointer (some ⟨b, o + k * 5, none⟩)) rfl (by kernel_rfl) (by kernel_rfl) (by kernel_rfl) (fun _ _ _ h => h) (.inl ⟨by rfl, fun W' hW' => ?_⟩) hS ?_
        · go_simp
          (try (intro hh; omega))
        simp only [Act.put, List.getElem_toArray, List.getElem_cons_succ, List.getElem_cons_zero, List.setIfInBounds_toArray, List.set_cons_succ, List.set_cons_zero]
        refine wpAnyH_take (i := 3) (v := .pointer (some ⟨b, o + k * 5, none⟩)) rfl (by kernel_rfl) (by kernel_rfl) (by kernel_rfl) (fun _ _ _ h => h) (.inl ⟨by rfl, fun W' hW' => ?_⟩) hS ?_
        · go_simp
        simp only [Act.put, List.getElem_toArray, List.getElem_cons_succ, List.getElem_cons_zero, List.setIfInBounds_toArray, List.set_cons_succ, List.set_cons_zero]
        refine wpAnyH_take (i := 4) (v := .string x.name) rfl (by kernel_rfl) (by kernel_rfl) (by kernel_rfl) (fun _ _ _ h => h) (.inl ⟨by rfl, fun W' hW' => ?_⟩) hS ?_
        · obtain ⟨d0, d1, d2, d3, d4, e0, e1, e2, e3, e4⟩ := hW'
          go_simp
        simp only [Act.put, List.getElem_toArray, List.getElem_cons_succ, List.getElem_cons_zero, List.setIfInBounds_toArray, List.set_cons_succ, List.set_cons_zero]
        refine wpAnyH_take (i := 5) (v := .slice (some ⟨b', o', none⟩) l.length c') rfl (by kernel_rfl) (by kernel_rfl) (by kernel_rfl) (fun _ _ _ h => h) (.inl ⟨by rfl, fun W' hW' => ?_⟩) hS ?_
        · go_simp
        simp only [Act.put, List.getElem_toArray, List.getElem_cons_succ, List.getElem_cons_zero, List.setIfInBounds_toArray, List.set_cons_succ, List.set_cons_zero]
        refine wpAnyH_take (i := 6) (v := .int .i64 k) rfl (by kernel_rfl) (by kernel_rfl) (by kernel_rfl) (fun _ _ _ h => h) (.inl ⟨by rfl, fun W' hW' => ?_⟩) hS ?_
        · go_simp
        simp only [Act.put, List.getElem_toArray, List.getElem_cons_succ, List.getElem_cons_zero, List.setIfInBounds_toArray, List.set_cons_succ, List.set_cons_zero]
        refine wpAnyH_take (i := 7) (v := .pointer (some ⟨b', o' + k * 5, none⟩)) rfl (by kernel_rfl) (by kernel_rfl) (by kernel_rfl) (fun _ _ _ h => h) (.inl ⟨by rfl, fun W' hW' => ?_⟩) hS ?_
        · go_simp
          (try (intro hh; omega))
        simp only [Act.put, List.getElem_toArray, List.getElem_cons_succ, List.getElem_cons_zero, List.setIfInBounds_toArray, List.set_cons_succ, List.set_cons_zero]
        refine wpAnyH_take (i := 8) (v := .pointer (some ⟨b', o' + k * 5, none⟩)) rfl (by kernel_rfl) (by kernel_rfl) (by kernel_rfl) (fun _ _ _ h => h) (.inl ⟨by rfl, fun W' hW' => ?_⟩) hS ?_
        · go_simp
        simp only [Act.put, List.getElem_toArray, List.getElem_cons_succ, List.getElem_cons_zero, List.setIfInBounds_toArray, List.set_cons_succ, List.set_cons_zero]
        refine wpAnyH_take (i := 9) (v := .string y.name) rfl (by kernel_rfl) (by kernel_rfl) (by kernel_rfl) (fun _ _ _ h => h) (.inl ⟨by rfl, fun W' hW' => ?_⟩) hS ?_
        · obtain ⟨d0, d1, d2, d3, d4, e0, e1, e2, e3, e4⟩ := hW'
          go_simp
        simp only [Act.put, List.getElem_toArray, List.getElem_cons_succ, List.getElem_cons_zero, List.setIfInBounds_toArray, List.set_cons_succ, List.set_cons_zero]
        refine wpAnyH_take (i := 10) (v := .bool true) rfl (by kernel_rfl) (by kernel_rfl) (by kernel_rfl) (fun _ _ _ h => h) (.inl ⟨by rfl, fun W' hW' => ?_⟩) hS ?_
        · go_simp
        simp only [Act.put, List.getElem_toArray, List.getElem_cons_succ, List.getElem_cons_zero, List.setIfInBounds_toArray, List.set_cons_succ, List.set_cons_zero]
        refine wpAnyH_take (i := 11) (v := .bool true) rfl (by kernel_rfl) (by kernel_rfl) (by kernel_rfl) (fun _ _ _ h => h) (.inl ⟨by rfl, fun W' hW' => ?_⟩) hS ?_
        · go_simp
        simp only [Act.put, List.getElem_toArray, List.getElem_cons_succ, List.getElem_cons_zero, List.setIfInBounds_toArray, List.set_cons_succ, List.set_cons_zero]
        refine wpAnyH_take (i := 12) (v := undef) rfl (by kernel_rfl) (by kernel_rfl) (by kernel_rfl) (fun _ _ _ h => h) (.inr ⟨by rfl, rfl⟩) hS ?_
        simp only [Act.put, List.getElem_toArray, List.getElem_cons_succ, List.getElem_cons_zero, List.setIfInBounds_toArray, List.set_cons_succ, List.set_cons_zero]
        refine wpAnyH_take (i := 13) (v := undef) rfl (by kernel_rfl) (by kernel_rfl) (by kernel_rfl) (fun _ _ _ h => h) (.inr ⟨by rfl, rfl⟩) hS ?_
        simp only [Act.put, List.getElem_toArray, List.getElem_cons_succ, List.getElem_cons_zero, List.setIfInBounds_toArray, List.set_cons_succ, List.set_cons_zero]
        refine wpAnyH_take (i := 14) (v := undef) rfl (by kernel_rfl) (by kernel_rfl) (by kernel_rfl) (fun _ _ _ h => h) (.inr ⟨by rfl, rfl⟩) hS ?_
        simp only [Act.put, List.getElem_toArray, List.getElem_cons_succ, List.getElem_cons_zero, List.setIfInBounds_toArray, List.set_cons_succ, List.set_cons_zero]
        refine wpAnyH_take (i := 15) (v := undef) rfl (by kernel_rfl) (by kernel_rfl) (by kernel_rfl) (fun _ _ _ h => h) (.inr ⟨by rfl, rfl⟩) hS ?_
        simp only [Act.put, List.getElem_toArray, List.getElem_cons_succ, List.getElem_cons_zero, List.setIfInBounds_toArray, List.set_cons_succ, List.set_cons_zero]
        refine wpAnyH_take (i := 16) (v := undef) rfl (by kernel_rfl) (by kernel_rfl) (by kernel_rfl) (fun _ _ _ h => h) (.inr ⟨by rfl, rfl⟩) hS ?_
        simp only [Act.put, List.getElem_toArray, List.getElem_cons_succ, List.getElem_cons_zero, List.setIfInBounds_toArray, List.set_cons_succ, List.set_cons_zero]
        refine wpAnyH_take (i := 17) (v := undef) rfl (by kernel_rfl) (by kernel_rfl) (by kernel_rfl) (fun _ _ _ h => h) (.inr ⟨by rfl, rfl⟩) hS ?_
        simp only [Act.put, List.getElem_toArray, List.getElem_cons_succ, List.getElem_cons_zero, List.setIfInBounds_toArray, List.set_cons_succ, List.set_cons_zero]
        refine wpAnyH_take (i := 18) (v := undef) rfl (by kernel_rfl) (by kernel_rfl) (by kernel_rfl) (fun _ _ _ h => h) (.inr ⟨by rfl, rfl⟩) hS ?_
        simp only [Act.put, List.getElem_toArray, List.getElem_cons_succ, List.getElem_cons_zero, List.setIfInBounds_toArray, List.set_cons_succ, List.set_cons_zero]
        refine wpAnyH_take (i := 19) (v := undef) rfl (by kernel_rfl) (by kernel_rfl) (by kernel_rfl) (fun _ _ _ h => h) (.inr ⟨by rfl, rfl⟩) hS ?_
        simp only [Act.put, List.getElem_toArray, List.getElem_cons_succ, List.getElem_cons_zero, List.setIfInBounds_toArray, List.set_cons_succ, List.set_cons_zero]
        refine wpAnyH_take (i := 20) (v := undef) rfl (by kernel_rfl) (by kernel_rfl) (by kernel_rfl) (fun _ _ _ h => h) (.inr ⟨by rfl, rfl⟩) hS ?_
        simp only [Act.put, List.getElem_toArray, List.getElem_cons_succ, List.getElem_cons_zero, List.setIfInBounds_toArray, List.set_cons_succ, List.set_cons_zero]
        refine wpAnyH_take (i := 21) (v := undef) rfl (by kernel_rfl) (by kernel_rfl) (by kernel_rfl) (fun _ _ _ h => h) (.inr ⟨by rfl, rfl⟩) hS ?_
        simp only [Act.put, List.getElem_toArray, List.getElem_cons_succ, List.getElem_cons_zero, List.setIfInBounds_toArray, List.set_cons_succ, List.set_cons_zero]
        refine wpAnyH_take (i := 22) (v := undef) rfl (by kernel_rfl) (by kernel_rfl) (by kernel_rfl) (fun _ _ _ h => h) (.inr ⟨by rfl, rfl⟩) hS ?_
        simp only [Act.put, List.getElem_toArray, List.getElem_cons_succ, List.getElem_cons_zero, List.setIfInBounds_toArray, List.set_cons_succ, List.set_cons_zero]
        refine wpAnyH_take (i := 23) (v := undef) rfl (by kernel_rfl) (by kernel_rfl) (by kernel_rfl) (fun _ _ _ h => h) (.inr ⟨by rfl, rfl⟩) hS ?_
        simp only [Act.put, List.getElem_toArray, List.getElem_cons_succ, List.getElem_cons_zero, List.setIfInBounds_toArray, List.set_cons_succ, List.set_cons_zero]
        refine wpAnyH_take (i := 24) (v := .bool true) rfl (by kernel_rfl) (by kernel_rfl) (by kernel_rfl) (fun _ _ _ h => h) (.inl ⟨by rfl, fun W' hW' => ?_⟩) hS ?_
        · go_simp
        simp only [Act.put, List.getElem_toArray, List.getElem_cons_succ, List.getElem_cons_zero, List.setIfInBounds_toArray, List.set_cons_succ, List.set_cons_zero]
        refine wpAnyH_done (by kernel_rfl) ?_ _
        go_wp2
        go_ret
        exact ⟨ret_b (by first | rfl | exact hr.symm), b5⟩
      | true =>
      cases es : sameV x.val y.val with
      | false =>
        have hr := hN (fun e => by subst e; rw [(sameV_eq _ _).2 rfl] at es; cases es)
        simp only [es] at HS
        unfold Val.v at HS
        clear hN hY
        go_upto_region 6 with fail
        refine wp_region_held (S := fun W => W.cell? ⟨b, o + k * 5, none⟩ = some (.string x.name) ∧ W.cell? ⟨b, o + k * 5 + 1, none⟩ = some (.int .i64 x.val.kind) ∧ W.cell? ⟨b, o + k * 5 + 2, none⟩ = some (.int .i64 x.val.num) ∧ W.cell? ⟨b, o + k * 5 + 3, none⟩ = some (.string x.val.text) ∧ W.cell? ⟨b, o + k * 5 + 4, none⟩ = some (.float .f64 x.val.real) ∧ W.cell? ⟨b', o' + k * 5, none⟩ = some (.string y.name) ∧ W.cell? ⟨b', o' + k * 5 + 1, none⟩ = some (.int .i64 y.val.kind) ∧ W.cell? ⟨b', o' + k * 5 + 2, none⟩ = some (.int .i64 y.val.num) ∧ W.cell? ⟨b', o' + k * 5 + 3, none⟩ = some (.string y.val.text) ∧ W.cell? ⟨b', o' + k * 5 + 4, none⟩ = some (.float .f64 y.val.real)) hmix ?_
        show wpAnyH _ _ _ _ _ _ _ _ wr.drew
        have hS : (fun W : World => W.cell? ⟨b, o + k * 5, none⟩ = some (.string x.name) ∧ W.cell? ⟨b, o + k * 5 + 1, none⟩ = some (.int .i64 x.val.kind) ∧ W.cell? ⟨b, o + k * 5 + 2, none⟩ = some (.int .i64 x.val.num) ∧ W.cell? ⟨b, o + k * 5 + 3, none⟩ = some (.string x.val.text) ∧ W.cell? ⟨b, o + k * 5 + 4, none⟩ = some (.float .f64 x.val.real) ∧ W.cell? ⟨b', o' + k * 5, none⟩ = some (.string y.name) ∧ W.cell? ⟨b', o' + k * 5 + 1, none⟩ = some (.int .i64 y.val.kind) ∧ W.cell? ⟨b', o' + k * 5 + 2, none⟩ = some (.int .i64 y.val.num) ∧ W.cell? ⟨b', o' + k * 5 + 3, none⟩ = some (.string y.val.text) ∧ W.cell? ⟨b', o' + k * 5 + 4, none⟩ = some (.float .f64 y.val.real)) wr.drew := ⟨d0, d1, d2, d3, d4, e0, e1, e2, e3, e4⟩
        have b5 : Below w.heap.size w wr.drew := hbr.drew
        clear d0 d1 d2 d3 d4 e0 e1 e2 e3 e4
        generalize wr.drew = w5 at *
        refine wpAnyH_take (i := 0) (v := .slice (some ⟨b, o, none⟩) l.length c) rfl (by kernel_rfl) (by kernel_rfl) (by kernel_rfl) (fun _ _ _ h => h) (.inl ⟨by rfl, fun W' hW' => ?_⟩) hS ?_
        · go_simp
        simp only [Act.put, List.getElem_toArray, List.getElem_cons_succ, List.getElem_cons_zero, List.setIfInBounds_toArray, List.set_cons_succ, List.set_cons_zero]
        refine wpAnyH_take (i := 1) (v := .int .i64 k) rfl (by kernel_rfl) (by kernel_rfl) (by kernel_rfl) (fun _ _ _ h => h) (.inl ⟨by rfl, fun W' hW' => ?_⟩) hS ?_
        · go_simp
        simp only [Act.put, List.getElem_toArray, List.getElem_cons_succ, List.getElem_cons_zero, List.setIfInBounds_toArray, List.set_cons_succ, List.set_cons_zero]
        refine wpAnyH_take (i := 2) (v := .pointer (some ⟨b, o + k * 5, none⟩)) rfl (by kernel_rfl) (by kernel_rfl) (by kernel_rfl) (fun _ _ _ h => h) (.inl ⟨by rfl, fun W' hW' => ?_⟩) hS ?_
        · go_simp
          (try (intro hh; omega))
        simp only [Act.put, List.getElem_toArray, List.getElem_cons_succ, List.getElem_cons_zero, List.setIfInBounds_toArray, List.set_cons_succ, List.set_cons_zero]
        refine wpAnyH_take (i := 3) (v := .pointer (some ⟨b, o + k * 5, none⟩)) rfl (by kernel_rfl) (by kernel_rfl) (by kernel_rfl) (fun _ _ _ h => h) (.inl ⟨by rfl, fun W' hW' => ?_⟩) hS ?_
        · go_simp
        simp only [Act.put, List.getElem_toArray, List.getElem_cons_succ, List.getElem_cons_zero, List.setIfInBounds_toArray, List.set_cons_succ, List.set_cons_zero]
        refine wpAnyH_take (i := 4) (v := .string x.name) rfl (by kernel_rfl) (by kernel_rfl) (by kernel_rfl) (fun _ _ _ h => h) (.inl ⟨by rfl, fun W' hW' => ?_⟩) hS ?_
        · obtain ⟨d0, d1, d2, d3, d4, e0, e1, e2, e3, e4⟩ := hW'
          go_simp
        simp only [Act.put, List.getElem_toArray, List.getElem_cons_succ, List.getElem_cons_zero, List.setIfInBounds_toArray, List.set_cons_succ, List.set_cons_zero]
        refine wpAnyH_take (i := 5) (v := .slice (some ⟨b', o', none⟩) l.length c') rfl (by kernel_rfl) (by kernel_rfl) (by kernel_rfl) (fun _ _ _ h => h) (.inl ⟨by rfl, fun W' hW' => ?_⟩) hS ?_
        · go_simp
        simp only [Act.put, List.getElem_toArray, List.getElem_cons_succ, List.getElem_cons_zero, List.setIfInBounds_toArray, List.set_cons_succ, List.set_cons_zero]
        refine wpAnyH_take (i := 6) (v := .int .i64 k) rfl (by kernel_rfl) (by kernel_rfl) (by kernel_rfl) (fun _ _ _ h => h) (.inl ⟨by rfl, fun W' hW' => ?_⟩) hS ?_
        · go_simp
        simp only [Act.put, List.getElem_toArray, List.getElem_cons_succ, List.getElem_cons_zero, List.setIfInBounds_toArray, List.set_cons_succ, List.set_cons_zero]
        refine wpAnyH_take (i := 7) (v := .pointer (some ⟨b', o' + k * 5, none⟩)) rfl (by kernel_rfl) (by kernel_rfl) (by kernel_rfl) (fun _ _ _ h => h) (.inl ⟨by rfl, fun W' hW' => ?_⟩) hS ?_
        · go_simp
          (try (intro hh; omega))
        simp only [Act.put, List.getElem_toArray, List.getElem_cons_succ, List.getElem_cons_zero, List.setIfInBounds_toArray, List.set_cons_succ, List.set_cons_zero]
        refine wpAnyH_take (i := 8) (v := .pointer (some ⟨b', o' + k * 5, none⟩)) rfl (by kernel_rfl) (by kernel_rfl) (by kernel_rfl) (fun _ _ _ h => h) (.inl ⟨by rfl, fun W' hW' => ?_⟩) hS ?_
        · go_simp
        simp only [Act.put, List.getElem_toArray, List.getElem_cons_succ, List.getElem_cons_zero, List.setIfInBounds_toArray, List.set_cons_succ, List.set_cons_zero]
        refine wpAnyH_take (i := 9) (v := .string y.name) rfl (by kernel_rfl) (by kernel_rfl) (by kernel_rfl) (fun _ _ _ h => h) (.inl ⟨by rfl, fun W' hW' => ?_⟩) hS ?_
        · obtain ⟨d0, d1, d2, d3, d4, e0, e1, e2, e3, e4⟩ := hW'
          go_simp
        simp only [Act.put, List.getElem_toArray, List.getElem_cons_succ, List.getElem_cons_zero, List.setIfInBounds_toArray, List.set_cons_succ, List.set_cons_zero]
        refine wpAnyH_take (i := 10) (v := .bool false) rfl (by kernel_rfl) (by kernel_rfl) (by kernel_rfl) (fun _ _ _ h => h) (.inl ⟨by rfl, fun W' hW' => ?_⟩) hS ?_
        · go_simp
        simp only [Act.put, List.getElem_toArray, List.getElem_cons_succ, List.getElem_cons_zero, List.setIfInBounds_toArray, List.set_cons_succ, List.set_cons_zero]
        refine wpAnyH_take (i := 11) (v := .bool false) rfl (by kernel_rfl) (by kernel_rfl) (by kernel_rfl) (fun _ _ _ h => h) (.inl ⟨by rfl, fun W' hW' => ?_⟩) hS ?_
        · go_simp
        simp only [Act.put, List.getElem_toArray, List.getElem_cons_succ, List.getElem_cons_zero, List.setIfInBounds_toArray, List.set_cons_succ, List.set_cons_zero]
        refine wpAnyH_take (i := 12) (v := .slice (some ⟨b, o, none⟩) l.length c) rfl (by kernel_rfl) (by kernel_rfl) (by kernel_rfl) (fun _ _ _ h => h) (.inl ⟨by rfl, fun W' hW' => ?_⟩) hS ?_
        · go_simp
        simp only [Act.put, List.getElem_toArray, List.getElem_cons_succ, List.getElem_cons_zero, List.setIfInBounds_toArray, List.set_cons_succ, List.set_cons_zero]
        refine wpAnyH_take (i := 13) (v := .int .i64 k) rfl (by kernel_rfl) (by kernel_rfl) (by kernel_rfl) (fun _ _ _ h => h) (.inl ⟨by rfl, fun W' hW' => ?_⟩) hS ?_
        · go_simp
        simp only [Act.put, List.getElem_toArray, List.getElem_cons_succ, List.getElem_cons_zero, List.setIfInBounds_toArray, List.set_cons_succ, List.set_cons_zero]
        refine wpAnyH_take (i := 14) (v := .pointer (some ⟨b, o + k * 5, none⟩)) rfl (by kernel_rfl) (by kernel_rfl) (by kernel_rfl) (fun _ _ _ h => h) (.inl ⟨by rfl, fun W' hW' => ?_⟩) hS ?_
        · go_simp
          (try (intro hh; omega))
        simp only [Act.put, List.getElem_toArray, List.getElem_cons_succ, List.getElem_cons_zero, List.setIfInBounds_toArray, List.set_cons_succ, List.set_cons_zero]
        refine wpAnyH_take (i := 15) (v := .pointer (some ⟨b, o + k * 5 + 1, none⟩)) rfl (by kernel_rfl) (by kernel_rfl) (by kernel_rfl) (fun _ _ _ h => h) (.inl ⟨by rfl, fun W' hW' => ?_⟩) hS ?_
        · go_simp
        simp only [Act.put, List.getElem_toArray, List.getElem_cons_succ, List.getElem_cons_zero, List.setIfInBounds_toArray, List.set_cons_succ, List.set_cons_zero]
        refine wpAnyH_take (i := 16) (v := .agg #[.int .i64 x.val.kind, .int .i64 x.val.num, .string x.val.text, .float .f64 x.val.real]) rfl (by kernel_rfl) (by kernel_rfl) (by kernel_rfl) (fun _ _ _ h => h) (.inl ⟨by rfl, fun W' hW' => ?_⟩) hS ?_
        · obtain ⟨d0, d1, d2, d3, d4, e0, e1, e2, e3, e4⟩ := hW'
          go_simp
        simp only [Act.put, List.getElem_toArray, List.getElem_cons_succ, List.getElem_cons_zero, List.setIfInBounds_toArray, List.set_cons_succ, List.set_cons_zero]
        refine wpAnyH_take (i := 17) (v := .slice (some ⟨b', o', none⟩) l.length c') rfl (by kernel_rfl) (by kernel_rfl) (by kernel_rfl) (fun _ _ _ h => h) (.inl ⟨by rfl, fun W' hW' => ?_⟩) hS ?_
        · go_simp
        simp only [Act.put, List.getElem_toArray, List.getElem_cons_succ, List.getElem_cons_zero, List.setIfInBounds_toArray, List.set_cons_succ, List.set_cons_zero]
        refine wpAnyH_take (i := 18) (v := .int .i64 k) rfl (by kernel_rfl) (by kernel_rfl) (by kernel_rfl) (fun _ _ _ h => h) (.inl ⟨by rfl, fun W' hW' => ?_⟩) hS ?_
        · go_simp
        simp only [Act.put, List.getElem_toArray, List.getElem_cons_succ, List.getElem_cons_zero, List.setIfInBounds_toArray, List.set_cons_succ, List.set_cons_zero]
        refine wpAnyH_take (i := 19) (v := .pointer (some ⟨b', o' + k * 5, none⟩)) rfl (by kernel_rfl) (by kernel_rfl) (by kernel_rfl) (fun _ _ _ h => h) (.inl ⟨by rfl, fun W' hW' => ?_⟩) hS ?_
        · go_simp
          (try (intro hh; omega))
        simp only [Act.put, List.getElem_toArray, List.getElem_cons_succ, List.getElem_cons_zero, List.setIfInBounds_toArray, List.set_cons_succ, List.set_cons_zero]
        refine wpAnyH_take (i := 20) (v := .pointer (some ⟨b', o' + k * 5 + 1, none⟩)) rfl (by kernel_rfl) (by kernel_rfl) (by kernel_rfl) (fun _ _ _ h => h) (.inl ⟨by rfl, fun W' hW' => ?_⟩) hS ?_
        · go_simp
        simp only [Act.put, List.getElem_toArray, List.getElem_cons_succ, List.getElem_cons_zero, List.setIfInBounds_toArray, List.set_cons_succ, List.set_cons_zero]
        refine wpAnyH_take (i := 21) (v := .agg #[.int .i64 y.val.kind, .int .i64 y.val.num, .string y.val.text, .float .f64 y.val.real]) rfl (by kernel_rfl) (by kernel_rfl) (by kernel_rfl) (fun _ _ _ h => h) (.inl ⟨by rfl, fun W' hW' => ?_⟩) hS ?_
        · obtain ⟨d0, d1, d2, d3, d4, e0, e1, e2, e3, e4⟩ := hW'
          go_simp
        simp only [Act.put, List.getElem_toArray, List.getElem_cons_succ, List.getElem_cons_zero, List.setIfInBounds_toArray, List.set_cons_succ, List.set_cons_zero]
        refine wpAnyH_one (i := 22) (by kernel_rfl) rfl (by rfl) (fun K hK => ?_)
        go_simp
        refine (HS _).mono ?_
        rintro e w6 ⟨rfl, hb6⟩
        obtain ⟨d0, d1, d2, d3, d4, e0, e1, e2, e3, e4⟩ := hS
        have hS6 : (fun W : World => W.cell? ⟨b, o + k * 5, none⟩ = some (.string x.name) ∧ W.cell? ⟨b, o + k * 5 + 1, none⟩ = some (.int .i64 x.val.kind) ∧ W.cell? ⟨b, o + k * 5 + 2, none⟩ = some (.int .i64 x.val.num) ∧ W.cell? ⟨b, o + k * 5 + 3, none⟩ = some (.string x.val.text) ∧ W.cell? ⟨b, o + k * 5 + 4, none⟩ = some (.float .f64 x.val.real) ∧ W.cell? ⟨b', o' + k * 5, none⟩ = some (.string y.name) ∧ W.cell? ⟨b', o' + k * 5 + 1, none⟩ = some (.int .i64 y.val.kind) ∧ W.cell? ⟨b', o' + k * 5 + 2, none⟩ = some (.int .i64 y.val.num) ∧ W.cell? ⟨b', o' + k * 5 + 3, none⟩ = some (.string y.val.text) ∧ W.cell? ⟨b', o' + k * 5 + 4, none⟩ = some (.float .f64 y.val.real)) w6 := ⟨box_on d0 hb6, box_on d1 hb6, box_on d2 hb6, box_on d3 hb6, box_on d4 hb6, box_on e0 hb6, box_on e1 hb6, box_on e2 hb6, box_on e3 hb6, box_on e4 hb6⟩
        have b6 := b5.trans (hb6.mono b5.size)
        show K _ _
        refine hK _ _ hS6 ?_
        clear hK K d0 d1 d2 d3 d4 e0 e1 e2 e3 e4
        refine wpAnyH_take (i := 23) (v := .bool true) rfl (by kernel_rfl) (by kernel_rfl) (by kernel_rfl) (fun _ _ _ h => h) (.inl ⟨by rfl, fun W' hW' => ?_⟩) hS6 ?_
        · go_simp
        simp only [Act.put, List.getElem_toArray, List.getElem_cons_succ, List.getElem_cons_zero, List.setIfInBounds_toArray, List.set_cons_succ, List.set_cons_zero]
        refine wpAnyH_take (i := 24) (v := .bool true) rfl (by kernel_rfl) (by kernel_rfl) (by kernel_rfl) (fun _ _ _ h => h) (.inl ⟨by rfl, fun W' hW' => ?_⟩) hS6 ?_
        · go_simp
        simp only [Act.put, List.getElem_toArray, List.getElem_cons_succ, List.getElem_cons_zero, List.setIfInBounds_toArray, List.set_cons_succ, List.set_cons_zero]
        refine wpAnyH_done (by kernel_rfl) ?_ _
        go_wp2
        go_ret
        exact ⟨ret_b (by first | rfl | exact hr.symm), b6⟩
      | true =>
        have hn := hY.out ((pr_eq x y).2 ⟨by simpa using en, es⟩)
        have hn2 : Hid (∀ j (h : j < l.length) (h' : j < m.length), j < k + 1 → l[j] = m[j]) := hn
        simp only [es] at HS
        unfold Val.v at HS
        clear hN hY hn
        go_upto_region 6 with fail
        refine wp_region_held (S := fun W => W.cell? ⟨b, o + k * 5, none⟩ = some (.string x.name) ∧ W.cell? ⟨b, o + k * 5 + 1, none⟩ = some (.int .i64 x.val.kind) ∧ W.cell? ⟨b, o + k * 5 + 2, none⟩ = some (.int .i64 x.val.num) ∧ W.cell? ⟨b, o + k * 5 + 3, none⟩ = some (.string x.val.text) ∧ W.cell? ⟨b, o + k * 5 + 4, none⟩ = some (.float .f64 x.val.real) ∧ W.cell? ⟨b', o' + k * 5, none⟩ = some (.string y.name) ∧ W.cell? ⟨b', o' + k * 5 + 1, none⟩ = some (.int .i64 y.val.kind) ∧ W.cell? ⟨b', o' + k * 5 + 2, none⟩ = some (.int .i64 y.val.num) ∧ W.cell? ⟨b', o' + k * 5 + 3, none⟩ = some (.string y.val.text) ∧ W.cell? ⟨b', o' + k * 5 + 4, none⟩ = some (.float .f64 y.val.real)) hmix ?_
        show wpAnyH _ _ _ _ _ _ _ _ wr.drew
        have hS : (fun W : World => W.cell? ⟨b, o + k * 5, none⟩ = some (.string x.name) ∧ W.cell? ⟨b, o + k * 5 + 1, none⟩ = some (.int .i64 x.val.kind) ∧ W.cell? ⟨b, o + k * 5 + 2, none⟩ = some (.int .i64 x.val.num) ∧ W.cell? ⟨b, o + k * 5 + 3, none⟩ = some (.string x.val.text) ∧ W.cell? ⟨b, o + k * 5 + 4, none⟩ = some (.float .f64 x.val.real) ∧ W.cell? ⟨b', o' + k * 5, none⟩ = some (.string y.name) ∧ W.cell? ⟨b', o' + k * 5 + 1, none⟩ = some (.int .i64 y.val.kind) ∧ W.cell? ⟨b', o' + k * 5 + 2, none⟩ = some (.int .i64 y.val.num) ∧ W.cell? ⟨b', o' + k * 5 + 3, none⟩ = some (.string y.val.text) ∧ W.cell? ⟨b', o' + k * 5 + 4, none⟩ = some (.float .f64 y.val.real)) wr.drew := ⟨d0, d1, d2, d3, d4, e0, e1, e2, e3, e4⟩
        have b5 : Below w.heap.size w wr.drew := hbr.drew
        clear d0 d1 d2 d3 d4 e0 e1 e2 e3 e4
        generalize wr.drew = w5 at *
        refine wpAnyH_take (i := 0) (v := .slice (some ⟨b, o, none⟩) l.length c) rfl (by kernel_rfl) (by kernel_rfl) (by kernel_rfl) (fun _ _ _ h => h) (.inl ⟨by rfl, fun W' hW' => ?_⟩) hS ?_
        · go_simp
        simp only [Act.put, List.getElem_toArray, List.getElem_cons_succ, List.getElem_cons_zero, List.setIfInBounds_toArray, List.set_cons_succ, List.set_cons_zero]
        refine wpAnyH_take (i := 1) (v := .int .i64 k) rfl (by kernel_rfl) (by kernel_rfl) (by kernel_rfl) (fun _ _ _ h => h) (.inl ⟨by rfl, fun W' hW' => ?_⟩) hS ?_
        · go_simp
        simp only [Act.put, List.getElem_toArray, List.getElem_cons_succ, List.getElem_cons_zero, List.setIfInBounds_toArray, List.set_cons_succ, List.set_cons_zero]
        refine wpAnyH_take (i := 2) (v := .pointer (some ⟨b, o + k * 5, none⟩)) rfl (by kernel_rfl) (by kernel_rfl) (by kernel_rfl) (fun _ _ _ h => h) (.inl ⟨by rfl, fun W' hW' => ?_⟩) hS ?_
        · go_simp
          (try (intro hh; omega))
        simp only [Act.put, List.getElem_toArray, List.getElem_cons_succ, List.getElem_cons_zero, List.setIfInBounds_toArray, List.set_cons_succ, List.set_cons_zero]
        refine wpAnyH_take (i := 3) (v := .pointer (some ⟨b, o + k * 5, none⟩)) rfl (by kernel_rfl) (by kernel_rfl) (by kernel_rfl) (fun _ _ _ h => h) (.inl ⟨by rfl, fun W' hW' => ?_⟩) hS ?_
        · go_simp
        simp only [Act.put, List.getElem_toArray, List.getElem_cons_succ, List.getElem_cons_zero, List.setIfInBounds_toArray, List.set_cons_succ, List.set_cons_zero]
        refine wpAnyH_take (i := 4) (v := .string x.name) rfl (by kernel_rfl) (by kernel_rfl) (by kernel_rfl) (fun _ _ _ h => h) (.inl ⟨by rfl, fun W' hW' => ?_⟩) hS ?_
        · obtain ⟨d0, d1, d2, d3, d4, e0, e1, e2, e3, e4⟩ := hW'
          go_simp
        simp only [Act.put, List.getElem_toArray, List.getElem_cons_succ, List.getElem_cons_zero, List.setIfInBounds_toArray, List.set_cons_succ, List.set_cons_zero]
        refine wpAnyH_take (i := 5) (v := .slice (some ⟨b', o', none⟩) l.length c') rfl (by kernel_rfl) (by kernel_rfl) (by kernel_rfl) (fun _ _ _ h => h) (.inl ⟨by rfl, fun W' hW' => ?_⟩) hS ?_
        · go_simp
        simp only [Act.put, List.getElem_toArray, List.getElem_cons_succ, List.getElem_cons_zero, List.setIfInBounds_toArray, List.set_cons_succ, List.set_cons_zero]
        refine wpAnyH_take (i := 6) (v := .int .i64 k) rfl (by kernel_rfl) (by kernel_rfl) (by kernel_rfl) (fun _ _ _ h => h) (.inl ⟨by rfl, fun W' hW' => ?_⟩) hS ?_
        · go_simp
        simp only [Act.put, List.getElem_toArray, List.getElem_cons_succ, List.getElem_cons_zero, List.setIfInBounds_toArray, List.set_cons_succ, List.set_cons_zero]
        refine wpAnyH_take (i := 7) (v := .pointer (some ⟨b', o' + k * 5, none⟩)) rfl (by kernel_rfl) (by kernel_rfl) (by kernel_rfl) (fun _ _ _ h => h) (.inl ⟨by rfl, fun W' hW' => ?_⟩) hS ?_
        · go_simp
          (try (intro hh; omega))
        simp only [Act.put, List.getElem_toArray, List.getElem_cons_succ, List.getElem_cons_zero, List.setIfInBounds_toArray, List.set_cons_succ, List.set_cons_zero]
        refine wpAnyH_take (i := 8) (v := .pointer (some ⟨b', o' + k * 5, none⟩)) rfl (by kernel_rfl) (by kernel_rfl) (by kernel_rfl) (fun _ _ _ h => h) (.inl ⟨by rfl, fun W' hW' => ?_⟩) hS ?_
        · go_simp
        simp only [Act.put, List.getElem_toArray, List.getElem_cons_succ, List.getElem_cons_zero, List.setIfInBounds_toArray, List.set_cons_succ, List.set_cons_zero]
        refine wpAnyH_take (i := 9) (v := .string y.name) rfl (by kernel_rfl) (by kernel_rfl) (by kernel_rfl) (fun _ _ _ h => h) (.inl ⟨by rfl, fun W' hW' => ?_⟩) hS ?_
        · obtain ⟨d0, d1, d2, d3, d4, e0, e1, e2, e3, e4⟩ := hW'
          go_simp
        simp only [Act.put, List.getElem_toArray, List.getElem_cons_succ, List.getElem_cons_zero, List.setIfInBounds_toArray, List.set_cons_succ, List.set_cons_zero]
        refine wpAnyH_take (i := 10) (v := .bool false) rfl (by kernel_rfl) (by kernel_rfl) (by kernel_rfl) (fun _ _ _ h => h) (.inl ⟨by rfl, fun W' hW' => ?_⟩) hS ?_
        · go_simp
        simp only [Act.put, List.getElem_toArray, List.getElem_cons_succ, List.getElem_cons_zero, List.setIfInBounds_toArray, List.set_cons_succ, List.set_cons_zero]
        refine wpAnyH_take (i := 11) (v := .bool false) rfl (by kernel_rfl) (by kernel_rfl) (by kernel_rfl) (fun _ _ _ h => h) (.inl ⟨by rfl, fun W' hW' => ?_⟩) hS ?_
        · go_simp
        simp only [Act.put, List.getElem_toArray, List.getElem_cons_succ, List.getElem_cons_zero, List.setIfInBounds_toArray, List.set_cons_succ, List.set_cons_zero]
        refine wpAnyH_take (i := 12) (v := .slice (some ⟨b, o, none⟩) l.length c) rfl (by kernel_rfl) (by kernel_rfl) (by kernel_rfl) (fun _ _ _ h => h) (.inl ⟨by rfl, fun W' hW' => ?_⟩) hS ?_
        · go_simp
        simp only [Act.put, List.getElem_toArray, List.getElem_cons_succ, List.getElem_cons_zero, List.setIfInBounds_toArray, List.set_cons_succ, List.set_cons_zero]
        refine wpAnyH_take (i := 13) (v := .int .i64 k) rfl (by kernel_rfl) (by kernel_rfl) (by kernel_rfl) (fun _ _ _ h => h) (.inl ⟨by rfl, fun W' hW' => ?_⟩) hS ?_
        · go_simp
        simp only [Act.put, List.getElem_toArray, List.getElem_cons_succ, List.getElem_cons_zero, List.setIfInBounds_toArray, List.set_cons_succ, List.set_cons_zero]
        refine wpAnyH_take (i := 14) (v := .pointer (some ⟨b, o + k * 5, none⟩)) rfl (by kernel_rfl) (by kernel_rfl) (by kernel_rfl) (fun _ _ _ h => h) (.inl ⟨by rfl, fun W' hW' => ?_⟩) hS ?_
        · go_simp
          (try (intro hh; omega))
        simp only [Act.put, List.getElem_toArray, List.getElem_cons_succ, List.getElem_cons_zero, List.setIfInBounds_toArray, List.set_cons_succ, List.set_cons_zero]
        refine wpAnyH_take (i := 15) (v := .pointer (some ⟨b, o + k * 5 + 1, none⟩)) rfl (by kernel_rfl) (by kernel_rfl) (by kernel_rfl) (fun _ _ _ h => h) (.inl ⟨by rfl, fun W' hW' => ?_⟩) hS ?_
        · go_simp
        simp only [Act.put, List.getElem_toArray, List.getElem_cons_succ, List.getElem_cons_zero, List.setIfInBounds_toArray, List.set_cons_succ, List.set_cons_zero]
        refine wpAnyH_take (i := 16) (v := .agg #[.int .i64 x.val.kind, .int .i64 x.val.num, .string x.val.text, .float .f64 x.val.real]) rfl (by kernel_rfl) (by kernel_rfl) (by kernel_rfl) (fun _ _ _ h => h) (.inl ⟨by rfl, fun W' hW' => ?_⟩) hS ?_
        · obtain ⟨d0, d1, d2, d3, d4, e0, e1, e2, e3, e4⟩ := hW'
          go_simp
        simp only [Act.put, List.getElem_toArray, List.getElem_cons_succ, List.getElem_cons_zero, List.setIfInBounds_toArray, List.set_cons_succ, List.set_cons_zero]
        refine wpAnyH_take (i := 17) (v := .slice (some ⟨b', o', none⟩) l.length c') rfl (by kernel_rfl) (by kernel_rfl) (by kernel_rfl) (fun _ _ _ h => h) (.inl ⟨by rfl, fun W' hW' => ?_⟩) hS ?_
        · go_simp
        simp only [Act.put, List.getElem_toArray, List.getElem_cons_succ, List.getElem_cons_zero, List.setIfInBounds_toArray, List.set_cons_succ, List.set_cons_zero]
        refine wpAnyH_take (i := 18) (v := .int .i64 k) rfl (by kernel_rfl) (by kernel_rfl) (by kernel_rfl) (fun _ _ _ h => h) (.inl ⟨by rfl, fun W' hW' => ?_⟩) hS ?_
        · go_simp
        simp only [Act.put, List.getElem_toArray, List.getElem_cons_succ, List.getElem_cons_zero, List.setIfInBounds_toArray, List.set_cons_succ, List.set_cons_zero]
        refine wpAnyH_take (i := 19) (v := .pointer (some ⟨b', o' + k * 5, none⟩)) rfl (by kernel_rfl) (by kernel_rfl) (by kernel_rfl) (fun _ _ _ h => h) (.inl ⟨by rfl, fun W' hW' => ?_⟩) hS ?_
        · go_simp
          (try (intro hh; omega))
        simp only [Act.put, List.getElem_toArray, List.getElem_cons_succ, List.getElem_cons_zero, List.setIfInBounds_toArray, List.set_cons_succ, List.set_cons_zero]
        refine wpAnyH_take (i := 20) (v := .pointer (some ⟨b', o' + k * 5 + 1, none⟩)) rfl (by kernel_rfl) (by kernel_rfl) (by kernel_rfl) (fun _ _ _ h => h) (.inl ⟨by rfl, fun W' hW' => ?_⟩) hS ?_
        · go_simp
        simp only [Act.put, List.getElem_toArray, List.getElem_cons_succ, List.getElem_cons_zero, List.setIfInBounds_toArray, List.set_cons_succ, List.set_cons_zero]
        refine wpAnyH_take (i := 21) (v := .agg #[.int .i64 y.val.kind, .int .i64 y.val.num, .string y.val.text, .float .f64 y.val.real]) rfl (by kernel_rfl) (by kernel_rfl) (by kernel_rfl) (fun _ _ _ h => h) (.inl ⟨by rfl, fun W' hW' => ?_⟩) hS ?_
        · obtain ⟨d0, d1, d2, d3, d4, e0, e1, e2, e3, e4⟩ := hW'
          go_simp
        simp only [Act.put, List.getElem_toArray, List.getElem_cons_succ, List.getElem_cons_zero, List.setIfInBounds_toArray, List.set_cons_succ, List.set_cons_zero]
        refine wpAnyH_one (i := 22) (by kernel_rfl) rfl (by rfl) (fun K hK => ?_)
        go_simp
        refine (HS _).mono ?_
        rintro e w6 ⟨rfl, hb6⟩
        obtain ⟨d0, d1, d2, d3, d4, e0, e1, e2, e3, e4⟩ := hS
        have hS6 : (fun W : World => W.cell? ⟨b, o + k * 5, none⟩ = some (.string x.name) ∧ W.cell? ⟨b, o + k * 5 + 1, none⟩ = some (.int .i64 x.val.kind) ∧ W.cell? ⟨b, o + k * 5 + 2, none⟩ = some (.int .i64 x.val.num) ∧ W.cell? ⟨b, o + k * 5 + 3, none⟩ = some (.string x.val.text) ∧ W.cell? ⟨b, o + k * 5 + 4, none⟩ = some (.float .f64 x.val.real) ∧ W.cell? ⟨b', o' + k * 5, none⟩ = some (.string y.name) ∧ W.cell? ⟨b', o' + k * 5 + 1, none⟩ = some (.int .i64 y.val.kind) ∧ W.cell? ⟨b', o' + k * 5 + 2, none⟩ = some (.int .i64 y.val.num) ∧ W.cell? ⟨b', o' + k * 5 + 3, none⟩ = some (.string y.val.text) ∧ W.cell? ⟨b', o' + k * 5 + 4, none⟩ = some (.float .f64 y.val.real)) w6 := ⟨box_on d0 hb6, box_on d1 hb6, box_on d2 hb6, box_on d3 hb6, box_on d4 hb6, box_on e0 hb6, box_on e1 hb6, box_on e2 hb6, box_on e3 hb6, box_on e4 hb6⟩
        have b6 := b5.trans (hb6.mono b5.size)
        show K _ _
        refine hK _ _ hS6 ?_
        clear hK K d0 d1 d2 d3 d4 e0 e1 e2 e3 e4
        refine wpAnyH_take (i := 23) (v := .bool false) rfl (by kernel_rfl) (by kernel_rfl) (by kernel_rfl) (fun _ _ _ h => h) (.inl ⟨by rfl, fun W' hW' => ?_⟩) hS6 ?_
        · go_simp
        simp only [Act.put, List.getElem_toArray, List.getElem_cons_succ, List.getElem_cons_zero, List.setIfInBounds_toArray, List.set_cons_succ, List.set_cons_zero]
        refine wpAnyH_take (i := 24) (v := .bool false) rfl (by kernel_rfl) (by kernel_rfl) (by kernel_rfl) (fun _ _ _ h => h) (.inl ⟨by rfl, fun W' hW' => ?_⟩) hS6 ?_
        · go_simp
        simp only [Act.put, List.getElem_toArray, List.getElem_cons_succ, List.getElem_cons_zero, List.setIfInBounds_toArray, List.set_cons_succ, List.set_cons_zero]
        refine wpAnyH_done (by kernel_rfl) ?_ _
        go_wp2
        go_roundw
        case rel => exact ⟨k + 1, by omega, by go_num, b6, hn2⟩
        case measure => simp [RowKit.intOf]; omega
    · have hr := HE.out (fun j h h' => hz.out j h h' (by omega))
      go_wp2
      go_ret
      exact ⟨ret_b (by first | rfl | exact hr.symm), hbr⟩

set_option maxRecDepth 4000 in
theorem all7_len (w : World) (l m : List Pr) (a a' : Option Addr) (c c' : Nat) (h : l.length ≠ m.length) : Calls Tryz.prog 28 #[.slice a l.length c, .slice a' m.length c'] w fun e w' => e = .returned (.bool false) ∧ Below w.heap.size w w' := by
  have h1 : (l.length : Int) ≠ (m.length : Int) := by omega
  go_enter Tryz.func28, Tryz.ntmps28
  go_wp2
  go_ret
  exact ⟨rfl, Below.refl _ _⟩
set_option maxRecDepth 4000 in
theorem all7_nil (w : World) (a a' : Option Addr) (c c' : Nat) : Calls Tryz.prog 28 #[.slice a 0 c, .slice a' 0 c'] w fun e w' => e = .returned (.bool true) ∧ Below w.heap.size w w' := by
  go_enter Tryz.func28, Tryz.ntmps28
  go_wp2_with fail
  go_loopw [13] (fun i wr => i = .int .i64 0 ∧ wr = w) (fun _ _ => 0)
  case atStart => exact ⟨rfl, rfl⟩
  case round =>
    obtain ⟨rfl, rfl⟩ := hrel
    go_wp2
    go_ret
    exact ⟨rfl, Below.refl _ _⟩
theorem all7 (w : World) (v u : Value) (l m : List Pr) (h : RdP w v l) (h' : RdP w u m) (h63 : l.length ≤ 9223372036854775806) : Calls Tryz.prog 28 #[v, u] w fun e w' => e = .returned (.bool (sameL l m)) ∧ Below w.heap.size w w' := by
  by_cases hl : l.length = m.length
  · by_cases h0 : l = []
    · subst h0
      have hm : m = [] := List.length_eq_zero_iff.1 hl.symm
      subst hm
      obtain ⟨a, c, rfl⟩ := h.shape
      obtain ⟨a', c', rfl⟩ := h'.shape
      exact all7_nil w a a' c c'
    · obtain ⟨b, o, c, rfl, _, hP⟩ := h.some h0
      obtain ⟨b', o', c', rfl, _, hQ⟩ := h'.some (fun e => h0 (by rw [e] at hl; exact List.length_eq_zero_iff.1 hl))
      rw [← hl]
      exact all7_some w l m b o c b' o' c' hl.symm hP hQ h63
  · obtain ⟨a, c, rfl⟩ := h.shape
    obtain ⟨a', c', rfl⟩ := h'.shape
    rw [sameL_ne (fun e => hl (by rw [e]))]
    exact all7_len w l m a a' c c' hl
end Go.Proofs.YtmaaacaifpgpaaaGreatDoor
