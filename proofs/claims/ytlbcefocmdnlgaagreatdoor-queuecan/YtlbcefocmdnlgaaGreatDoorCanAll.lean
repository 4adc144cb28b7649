/- Whatever a queue, a message and a call, trivetlaw10.QueueCan answers true and leaves its arguments as they were, where the listed tables of the library read as the program's text lays them (tied by the card). -/
import Derived.Test.YtlbcefocmdnlgaaGreatDoorPrd
import Derived.Test.YtlbcefocmdnlgaaGreatDoorIx
import Derived.Test.YtlbcefocmdnlgaaGreatDoorGs
import Derived.Test.YtlbcefocmdnlgaaGreatDoorNw
import Derived.BigRegion
import Derived.Deep.DeepCutAuto
import Derived.Test.YtlbcefocmdnlgaaGreatDoorCp
import Derived.Test.YtlbcefocmdnlgaaGreatDoorDl
import Derived.Test.YtlbcefocmdnlgaaGreatDoorAq
import Derived.Test.YtlbcefocmdnlgaaGreatDoorEo
import Derived.Lib.AppendZerosOnto
import Derived.Lib.AppendZeros
import Derived.Lib.Overlaps
import Derived.Shelf.Spec.SlicesInsert
import Derived.Test.YtlbcefocmdnlgaaGreatDoorPb2
import Derived.Test.YtlbcefocmdnlgaaGreatDoorEx
import Derived.Test.YtlbcefocmdnlgaaGreatDoorMq
import Derived.Test.YtlbcefocmdnlgaaGreatDoorRg
import Derived.Test.YtlbcefocmdnlgaaGreatDoorRows
import Derived.Test.YtlbcefocmdnlgaaGreatDoorWb
import Derived.ProofKit
import Derived.Lib.LaidU8
import Derived.Lib.LaidTab
import Derived.PinnedBridge
import Derived.Lay
import Derived.MakeChecks
import Derived.HandedShaped
import Derived.Laws.Cover2
import Derived.Deep.Slices
import Derived.SizedLaws
import Derived.Test.YtlbcefocmdnlgaaGreatDoorCards
import Derived.Test.YtlbcefocmdnlgaaGreatDoorTie
namespace Go.Proofs.YtlbcefocmdnlgaaGreatDoor
open Go.RowKit Go.Lib Ieee
set_option linter.unusedSimpArgs false

theorem pr_eq (x y : Pr) : x = y ↔ x.name.toList = y.name.toList ∧ sameV x.val y.val = true := by
  obtain ⟨a, b⟩ := x
  obtain ⟨c, d⟩ := y
  simp only [Pr.mk.injEq, sameV_eq]
  exact ⟨fun ⟨h1, h2⟩ => ⟨by rw [h1], h2⟩, fun ⟨h1, h2⟩ => ⟨toList_inj h1, h2⟩⟩
def sameL : List Pr → List Pr → Bool
  | [], [] => true
  | x :: l, y :: m => (x.name.toList == y.name.toList && sameV x.val y.val) && sameL l m
  | _, _ => false
theorem sameL_eq : ∀ (l m : List Pr), sameL l m = true ↔ l = m
  | [], [] => by simp [sameL]
  | [], _ :: _ => by simp [sameL]
  | _ :: _, [] => by simp [sameL]
  | x :: l, y :: m => by
    simp only [sameL, Bool.and_eq_true, beq_iff_eq, List.cons.injEq, sameL_eq l m]
    rw [← pr_eq]
theorem sameL_ne {l m : List Pr} (h : l ≠ m) : sameL l m = false := by
  cases e : sameL l m with
  | false => rfl
  | true => exact absurd ((sameL_eq l m).1 e) h
theorem same_end {l m : List Pr} (hl : l.length = m.length) (h : ∀ j (h : j < l.length) (h' : j < m.length), l[j] = m[j]) : l = m := List.ext_getElem hl h
theorem same_not {l m : List Pr} {k : Nat} (h : k < l.length) (h' : k < m.length) (hne : l[k] ≠ m[k]) : l ≠ m := fun e => by subst e; exact hne rfl

set_option maxRecDepth 4000 in
set_option maxHeartbeats 4000000 in
theorem all7_some (w : World) (l m : List Pr) (b o c b' o' c' : Nat) (hm : m.length = l.length) (hP : ∀ i (h : i < l.length), PrAt w b (o + i * 5) l[i]) (hQ : ∀ i (h : i < m.length), PrAt w b' (o' + i * 5) m[i]) (h63 : l.length ≤ 9223372036854775806) :
    Calls Tryz.prog 48 #[.slice (some ⟨b, o, none⟩) l.length c, .slice (some ⟨b', o', none⟩) l.length c'] w fun e w' => e = .returned (.bool (sameL l m)) ∧ Below w.heap.size w w' := by
  have HP : Hid (∀ i (h : i < l.length), PrAt w b (o + i * 5) l[i]) := hP
  have HQ : Hid (∀ i (h : i < m.length), PrAt w b' (o' + i * 5) m[i]) := hQ
  have HE : Hid ((∀ j (h : j < l.length) (h' : j < m.length), l[j] = m[j]) → sameL l m = true) := fun h => (sameL_eq l m).2 (same_end hm.symm h)
  have HN : Hid (∀ k (h : k < l.length) (h' : k < m.length), l[k] ≠ m[k] → sameL l m = false) := fun k h h' hne => sameL_ne (same_not h h' hne)
  have HM : Hid (m.length = l.length) := hm
  clear hP hQ hm
  generalize sameL l m = r at *
  go_enter Tryz.func48, Tryz.ntmps48
  go_wp2_with fail
  go_loopw [13] (fun i wr => ∃ k : Nat, k ≤ l.length ∧ i = .int .i64 k ∧ Below w.heap.size w wr ∧ Hid (∀ j (h : j < l.length) (h' : j < m.length), j < k → l[j] = m[j])) (fun i _ => l.length - (RowKit.intOf i).toNat)
  case atStart => exact ⟨0, by omega, rfl, Below.refl _ _, fun j h h' hj => by omega⟩
  case round =>
    obtain ⟨k, hk, rfl, hbr, hz⟩ := hrel
    by_cases hlt : k < l.length
    · have hlm : k < m.length := by have := HM.out; omega
      obtain ⟨d0, d1, d2, d3, d4⟩ := (HP.out k hlt).on hbr
      obtain ⟨e0, e1, e2, e3, e4⟩ := (HQ.out k hlm).on hbr
      have hN := HN.out k hlt hlm
      have hY : Hid (l[k] = m[k] → ∀ j (h : j < l.length) (h' : j < m.length), j < k + 1 → l[j] = m[j]) := fun e j h h' hj => by
        by_cases ej : j = k
        · subst ej; exact e
        · exact hz.out j h h' (by omega)
      obtain ⟨x, hx⟩ : ∃ x, x = l[k] := ⟨_, rfl⟩
      obtain ⟨y, hy⟩ : ∃ y, y = m[k] := ⟨_, rfl⟩
      rw [← hx] at d0 d1 d2 d3 d4 hN hY
      rw [← hy] at e0 e1 e2 e3 e4 hN hY
      clear hx hy
      have HS := fun W : World => rsame7 W x.val y.val
      cases en : (x.name.toList == y.name.toList) with
      | false =>
        have hr := hN (fun e => by subst e; simp at en)
        clear hN hY HS
        go_upto_region 6 with fail
        refine wp_region_held (S := fun W => W.cell? ⟨b, o + k * 5, none⟩ = some (.string x.name) ∧ W.cell? ⟨b, o + k * 5 + 1, none⟩ = some (.int .i64 x.val.kind) ∧ W.cell? ⟨b, o + k * 5 + 2, none⟩ = some (.int .i64 x.val.num) ∧ W.cell? ⟨b, o + k * 5 + 3, none⟩ = some (.string x.val.text) ∧ W.cell? ⟨b, o + k * 5 + 4, none⟩ = some (.float .f64 x.val.real) ∧ W.cell? ⟨b', o' + k * 5, none⟩ = some (.string y.name) ∧ W.cell? ⟨b', o' + k * 5 + 1, none⟩ = some (.int .i64 y.val.kind) ∧ W.cell? ⟨b', o' + k * 5 + 2, none⟩ = some (.int .i64 y.val.num) ∧ W.cell? ⟨b', o' + k * 5 + 3, none⟩ = some (.string y.val.text) ∧ W.cell? ⟨b', o' + k * 5 + 4, none⟩ = some (.float .f64 y.val.real)) hmix ?_
        show wpAnyH _ _ _ _ _ _ _ _ wr.drew
        have hS : (fun W : World => W.cell? ⟨b, o + k * 5, none⟩ = some (.string x.name) ∧ W.cell? ⟨b, o + k * 5 + 1, none⟩ = some (.int .i64 x.val.kind) ∧ W.cell? ⟨b, o + k * 5 + 2, none⟩ = some (.int .i64 x.val.num) ∧ W.cell? ⟨b, o + k * 5 + 3, none⟩ = some (.string x.val.text) ∧ W.cell? ⟨b, o + k * 5 + 4, none⟩ = some (.float .f64 x.val.real) ∧ W.cell? ⟨b', o' + k * 5, none⟩ = some (.string y.name) ∧ W.cell? ⟨b', o' + k * 5 + 1, none⟩ = some (.int .i64 y.val.kind) ∧ W.cell? ⟨b', o' + k * 5 + 2, none⟩ = some (.int .i64 y.val.num) ∧ W.cell? ⟨b', o' + k * 5 + 3, none⟩ = some (.string y.val.text) ∧ W.cell? ⟨b', o' + k * 5 + 4, none⟩ = some (.float .f64 y.val.real)) wr.drew := ⟨d0, d1, d2, d3, d4, e0, e1, e2, e3, e4⟩
        have b5 : Below w.heap.size w wr.drew := hbr.drew
        clear d0 d1 d2 d3 d4 e0 e1 e2 e3 e4
        generalize wr.drew = w5 at *
        refine wpAnyH_take (i := 0) (v := .slice (some ⟨b, o, none⟩) l.length c) rfl (by kernel_rfl) (by kernel_rfl) (by kernel_rfl) (fun _ _ _ h => h) (.inl ⟨by rfl, fun W' hW' => ?_⟩) hS ?_
        · go_simp
        simp only [Act.put, List.getElem_toArray, List.getElem_cons_succ, List.getElem_cons_zero, List.setIfInBounds_toArray, List.set_cons_succ, List.set_cons_zero]
        refine wpAnyH_take (i := 1) (v := .int .i64 k) rfl (by kernel_rfl) (by kernel_rfl) (by kernel_rfl) (fun _ _ _ h => h) (.inl ⟨by rfl, fun W' hW' => ?_⟩) hS ?_
        · go_simp
        simp only [Act.put, List.getElem_toArray, List.getElem_cons_succ, List.getElem_cons_zero, List.setIfInBounds_toArray, List.set_cons_succ, List.set_cons_zero]
        refine wpAnyH_take (i := 2) (v := .pointer (some ⟨b, o + k * 5, none⟩)) rfl (by kernel_rfl) (by kernel_rfl) (by kernel_rfl) (fun _ _ _ h => h) (.inl ⟨by rfl, fun W' hW' => ?_⟩) hS ?_
        · go_simp
          (try (intro hh; omega))
        simp only [Act.put, List.getElem_toArray, List.getElem_cons_succ, List.getElem_cons_zero, List.setIfInBounds_toArray, List.set_cons_succ, List.set_cons_zero]
        refine wpAnyH_take (i := 3) (v := .pointer (some ⟨b, o + k * 5, none⟩)) rfl (by kernel_rfl) (by kernel_rfl) (by kernel_rfl) (fun _ _ _ h => h) (.inl ⟨by rfl, fun W' hW' => ?_⟩) hS ?_
        · go_simp
        simp only [Act.put, List.getElem_toArray, List.getElem_cons_succ, List.getElem_cons_zero, List.setIfInBounds_toArray, List.set_cons_succ, List.set_cons_zero]
        refine wpAnyH_take (i := 4) (v := .string x.name) rfl (by kernel_rfl) (by kernel_rfl) (by kernel_rfl) (fun _ _ _ h => h) (.inl ⟨by rfl, fun W' hW' => ?_⟩) hS ?_
        · obtain ⟨d0, d1, d2, d3, d4, e0, e1, e2, e3, e4⟩ := hW'
          go_simp
        simp only [Act.put, List.getElem_toArray, List.getElem_cons_succ, List.getElem_cons_zero, List.setIfInBounds_toArray, List.set_cons_succ, List.set_cons_zero]
        refine wpAnyH_take (i := 5) (v := .slice (some ⟨b', o', none⟩) l.length c') rfl (by kernel_rfl) (by kernel_rfl) (by kernel_rfl) (fun _ _ _ h => h) (.inl ⟨by rfl, fun W' hW' => ?_⟩) hS ?_
        · go_simp
        simp only [Act.put, List.getElem_toArray, List.getElem_cons_succ, List.getElem_cons_zero, List.setIfInBounds_toArray, List.set_cons_succ, List.set_cons_zero]
        refine wpAnyH_take (i := 6) (v := .int .i64 k) rfl (by kernel_rfl) (by kernel_rfl) (by kernel_rfl) (fun _ _ _ h => h) (.inl ⟨by rfl, fun W' hW' => ?_⟩) hS ?_
        · go_simp
        simp only [Act.put, List.getElem_toArray, List.getElem_cons_succ, List.getElem_cons_zero, List.setIfInBounds_toArray, List.set_cons_succ, List.set_cons_zero]
        refine wpAnyH_take (i := 7) (v := .pointer (some ⟨b', o' + k * 5, none⟩)) rfl (by kernel_rfl) (by kernel_rfl) (by kernel_rfl) (fun _ _ _ h => h) (.inl ⟨by rfl, fun W' hW' => ?_⟩) hS ?_
        · go_simp
          (try (intro hh; omega))
        simp only [Act.put, List.getElem_toArray, List.getElem_cons_succ, List.getElem_cons_zero, List.setIfInBounds_toArray, List.set_cons_succ, List.set_cons_zero]
        refine wpAnyH_take (i := 8) (v := .pointer (some ⟨b', o' + k * 5, none⟩)) rfl (by kernel_rfl) (by kernel_rfl) (by kernel_rfl) (fun _ _ _ h => h) (.inl ⟨by rfl, fun W' hW' => ?_⟩) hS ?_
        · go_simp
        simp only [Act.put, List.getElem_toArray, List.getElem_cons_succ, List.getElem_cons_zero, List.setIfInBounds_toArray, List.set_cons_succ, List.set_cons_zero]
        refine wpAnyH_take (i := 9) (v := .string y.name) rfl (by kernel_rfl) (by kernel_rfl) (by kernel_rfl) (fun _ _ _ h => h) (.inl ⟨by rfl, fun W' hW' => ?_⟩) hS ?_
        · obtain ⟨d0, d1, d2, d3, d4, e0, e1, e2, e3, e4⟩ := hW'
          go_simp
        simp only [Act.put, List.getElem_toArray, List.getElem_cons_succ, List.getElem_cons_zero, List.setIfInBounds_toArray, List.set_cons_succ, List.set_cons_zero]
        refine wpAnyH_take (i := 10) (v := .bool true) rfl (by kernel_rfl) (by kernel_rfl) (by kernel_rfl) (fun _ _ _ h => h) (.inl ⟨by rfl, fun W' hW' => ?_⟩) hS ?_
        · go_simp
        simp only [Act.put, List.getElem_toArray, List.getElem_cons_succ, List.getElem_cons_zero, List.setIfInBounds_toArray, List.set_cons_succ, List.set_cons_zero]
        refine wpAnyH_take (i := 11) (v := .bool true) rfl (by kernel_rfl) (by kernel_rfl) (by kernel_rfl) (fun _ _ _ h => h) (.inl ⟨by rfl, fun W' hW' => ?_⟩) hS ?_
        · go_simp
        simp only [Act.put, List.getElem_toArray, List.getElem_cons_succ, List.getElem_cons_zero, List.setIfInBounds_toArray, List.set_cons_succ, List.set_cons_zero]
        refine wpAnyH_take (i := 12) (v := undef) rfl (by kernel_rfl) (by kernel_rfl) (by kernel_rfl) (fun _ _ _ h => h) (.inr ⟨by rfl, rfl⟩) hS ?_
        simp only [Act.put, List.getElem_toArray, List.getElem_cons_succ, List.getElem_cons_zero, List.setIfInBounds_toArray, List.set_cons_succ, List.set_cons_zero]
        refine wpAnyH_take (i := 13) (v := undef) rfl (by kernel_rfl) (by kernel_rfl) (by kernel_rfl) (fun _ _ _ h => h) (.inr ⟨by rfl, rfl⟩) hS ?_
        simp only [Act.put, List.getElem_toArray, List.getElem_cons_succ, List.getElem_cons_zero, List.setIfInBounds_toArray, List.set_cons_succ, List.set_cons_zero]
        refine wpAnyH_take (i := 14) (v := undef) rfl (by kernel_rfl) (by kernel_rfl) (by kernel_rfl) (fun _ _ _ h => h) (.inr ⟨by rfl, rfl⟩) hS ?_
        simp only [Act.put, List.getElem_toArray, List.getElem_cons_succ, List.getElem_cons_zero, List.setIfInBounds_toArray, List.set_cons_succ, List.set_cons_zero]
        refine wpAnyH_take (i := 15) (v := undef) rfl (by kernel_rfl) (by kernel_rfl) (by kernel_rfl) (fun _ _ _ h => h) (.inr ⟨by rfl, rfl⟩) hS ?_
        simp only [Act.put, List.getElem_toArray, List.getElem_cons_succ, List.getElem_cons_zero, List.setIfInBounds_toArray, List.set_cons_succ, List.set_cons_zero]
        refine wpAnyH_take (i := 16) (v := undef) rfl (by kernel_rfl) (by kernel_rfl) (by kernel_rfl) (fun _ _ _ h => h) (.inr ⟨by rfl, rfl⟩) hS ?_
        simp only [Act.put, List.getElem_toArray, List.getElem_cons_succ, List.getElem_cons_zero, List.setIfInBounds_toArray, List.set_cons_succ, List.set_cons_zero]
        refine wpAnyH_take (i := 17) (v := undef) rfl (by kernel_rfl) (by kernel_rfl) (by kernel_rfl) (fun _ _ _ h => h) (.inr ⟨by rfl, rfl⟩) hS ?_
        simp only [Act.put, List.getElem_toArray, List.getElem_cons_succ, List.getElem_cons_zero, List.setIfInBounds_toArray, List.set_cons_succ, List.set_cons_zero]
        refine wpAnyH_take (i := 18) (v := undef) rfl (by kernel_rfl) (by kernel_rfl) (by kernel_rfl) (fun _ _ _ h => h) (.inr ⟨by rfl, rfl⟩) hS ?_
        simp only [Act.put, List.getElem_toArray, List.getElem_cons_succ, List.getElem_cons_zero, List.setIfInBounds_toArray, List.set_cons_succ, List.set_cons_zero]
        refine wpAnyH_take (i := 19) (v := undef) rfl (by kernel_rfl) (by kernel_rfl) (by kernel_rfl) (fun _ _ _ h => h) (.inr ⟨by rfl, rfl⟩) hS ?_
        simp only [Act.put, List.getElem_toArray, List.getElem_cons_succ, List.getElem_cons_zero, List.setIfInBounds_toArray, List.set_cons_succ, List.set_cons_zero]
        refine wpAnyH_take (i := 20) (v := undef) rfl (by kernel_rfl) (by kernel_rfl) (by kernel_rfl) (fun _ _ _ h => h) (.inr ⟨by rfl, rfl⟩) hS ?_
        simp only [Act.put, List.getElem_toArray, List.getElem_cons_succ, List.getElem_cons_zero, List.setIfInBounds_toArray, List.set_cons_succ, List.set_cons_zero]
        refine wpAnyH_take (i := 21) (v := undef) rfl (by kernel_rfl) (by kernel_rfl) (by kernel_rfl) (fun _ _ _ h => h) (.inr ⟨by rfl, rfl⟩) hS ?_
        simp only [Act.put, List.getElem_toArray, List.getElem_cons_succ, List.getElem_cons_zero, List.setIfInBounds_toArray, List.set_cons_succ, List.set_cons_zero]
        refine wpAnyH_take (i := 22) (v := undef) rfl (by kernel_rfl) (by kernel_rfl) (by kernel_rfl) (fun _ _ _ h => h) (.inr ⟨by rfl, rfl⟩) hS ?_
        simp only [Act.put, List.getElem_toArray, List.getElem_cons_succ, List.getElem_cons_zero, List.setIfInBounds_toArray, List.set_cons_succ, List.set_cons_zero]
        refine wpAnyH_take (i := 23) (v := undef) rfl (by kernel_rfl) (by kernel_rfl) (by kernel_rfl) (fun _ _ _ h => h) (.inr ⟨by rfl, rfl⟩) hS ?_
        simp only [Act.put, List.getElem_toArray, List.getElem_cons_succ, List.getElem_cons_zero, List.setIfInBounds_toArray, List.set_cons_succ, List.set_cons_zero]
        refine wpAnyH_take (i := 24) (v := .bool true) rfl (by kernel_rfl) (by kernel_rfl) (by kernel_rfl) (fun _ _ _ h => h) (.inl ⟨by rfl, fun W' hW' => ?_⟩) hS ?_
        · go_simp
        simp only [Act.put, List.getElem_toArray, List.getElem_cons_succ, List.getElem_cons_zero, List.setIfInBounds_toArray, List.set_cons_succ, List.set_cons_zero]
        refine wpAnyH_done (by kernel_rfl) ?_ _
        go_wp2
        go_ret
        exact ⟨ret_b (by first | rfl | exact hr.symm), b5⟩
      | true =>
      cases es : sameV x.val y.val with
      | false =>
        have hr := hN (fun e => by subst e; rw [(sameV_eq _ _).2 rfl] at es; cases es)
        simp only [es] at HS
        unfold Val.v at HS
        clear hN hY
        go_upto_region 6 with fail
        refine wp_region_held (S := fun W => W.cell? ⟨b, o + k * 5, none⟩ = some (.string x.name) ∧ W.cell? ⟨b, o + k * 5 + 1, none⟩ = some (.int .i64 x.val.kind) ∧ W.cell? ⟨b, o + k * 5 + 2, none⟩ = some (.int .i64 x.val.num) ∧ W.cell? ⟨b, o + k * 5 + 3, none⟩ = some (.string x.val.text) ∧ W.cell? ⟨b, o + k * 5 + 4, none⟩ = some (.float .f64 x.val.real) ∧ W.cell? ⟨b', o' + k * 5, none⟩ = some (.string y.name) ∧ W.cell? ⟨b', o' + k * 5 + 1, none⟩ = some (.int .i64 y.val.kind) ∧ W.cell? ⟨b', o' + k * 5 + 2, none⟩ = some (.int .i64 y.val.num) ∧ W.cell? ⟨b', o' + k * 5 + 3, none⟩ = some (.string y.val.text) ∧ W.cell? ⟨b', o' + k * 5 + 4, none⟩ = some (.float .f64 y.val.real)) hmix ?_
        show wpAnyH _ _ _ _ _ _ _ _ wr.drew
        have hS : (fun W : World => W.cell? ⟨b, o + k * 5, none⟩ = some (.string x.name) ∧ W.cell? ⟨b, o + k * 5 + 1, none⟩ = some (.int .i64 x.val.kind) ∧ W.cell? ⟨b, o + k * 5 + 2, none⟩ = some (.int .i64 x.val.num) ∧ W.cell? ⟨b, o + k * 5 + 3, none⟩ = some (.string x.val.text) ∧ W.cell? ⟨b, o + k * 5 + 4, none⟩ = some (.float .f64 x.val.real) ∧ W.cell? ⟨b', o' + k * 5, none⟩ = some (.string y.name) ∧ W.cell? ⟨b', o' + k * 5 + 1, none⟩ = some (.int .i64 y.val.kind) ∧ W.cell? ⟨b', o' + k * 5 + 2, none⟩ = some (.int .i64 y.val.num) ∧ W.cell? ⟨b', o' + k * 5 + 3, none⟩ = some (.string y.val.text) ∧ W.cell? ⟨b', o' + k * 5 + 4, none⟩ = some (.float .f64 y.val.real)) wr.drew := ⟨d0, d1, d2, d3, d4, e0, e1, e2, e3, e4⟩
        have b5 : Below w.heap.size w wr.drew := hbr.drew
        clear d0 d1 d2 d3 d4 e0 e1 e2 e3 e4
        generalize wr.drew = w5 at *
        refine wpAnyH_take (i := 0) (v := .slice (some ⟨b, o, none⟩) l.length c) rfl (by kernel_rfl) (by kernel_rfl) (by kernel_rfl) (fun _ _ _ h => h) (.inl ⟨by rfl, fun W' hW' => ?_⟩) hS ?_
        · go_simp
        simp only [Act.put, List.getElem_toArray, List.getElem_cons_succ, List.getElem_cons_zero, List.setIfInBounds_toArray, List.set_cons_succ, List.set_cons_zero]
        refine wpAnyH_take (i := 1) (v := .int .i64 k) rfl (by kernel_rfl) (by kernel_rfl) (by kernel_rfl) (fun _ _ _ h => h) (.inl ⟨by rfl, fun W' hW' => ?_⟩) hS ?_
        · go_simp
        simp only [Act.put, List.getElem_toArray, List.getElem_cons_succ, List.getElem_cons_zero, List.setIfInBounds_toArray, List.set_cons_succ, List.set_cons_zero]
        refine wpAnyH_take (i := 2) (v := .pointer (some ⟨b, o + k * 5, none⟩)) rfl (by kernel_rfl) (by kernel_rfl) (by kernel_rfl) (fun _ _ _ h => h) (.inl ⟨by rfl, fun W' hW' => ?_⟩) hS ?_
        · go_simp
          (try (intro hh; omega))
        simp only [Act.put, List.getElem_toArray, List.getElem_cons_succ, List.getElem_cons_zero, List.setIfInBounds_toArray, List.set_cons_succ, List.set_cons_zero]
        refine wpAnyH_take (i := 3) (v := .pointer (some ⟨b, o + k * 5, none⟩)) rfl (by kernel_rfl) (by kernel_rfl) (by kernel_rfl) (fun _ _ _ h => h) (.inl ⟨by rfl, fun W' hW' => ?_⟩) hS ?_
        · go_simp
        simp only [Act.put, List.getElem_toArray, List.getElem_cons_succ, List.getElem_cons_zero, List.setIfInBounds_toArray, List.set_cons_succ, List.set_cons_zero]
        refine wpAnyH_take (i := 4) (v := .string x.name) rfl (by kernel_rfl) (by kernel_rfl) (by kernel_rfl) (fun _ _ _ h => h) (.inl ⟨by rfl, fun W' hW' => ?_⟩) hS ?_
        · obtain ⟨d0, d1, d2, d3, d4, e0, e1, e2, e3, e4⟩ := hW'
          go_simp
        simp only [Act.put, List.getElem_toArray, List.getElem_cons_succ, List.getElem_cons_zero, List.setIfInBounds_toArray, List.set_cons_succ, List.set_cons_zero]
        refine wpAnyH_take (i := 5) (v := .slice (some ⟨b', o', none⟩) l.length c') rfl (by kernel_rfl) (by kernel_rfl) (by kernel_rfl) (fun _ _ _ h => h) (.inl ⟨by rfl, fun W' hW' => ?_⟩) hS ?_
        · go_simp
        simp only [Act.put, List.getElem_toArray, List.getElem_cons_succ, List.getElem_cons_zero, List.setIfInBounds_toArray, List.set_cons_succ, List.set_cons_zero]
        refine wpAnyH_take (i := 6) (v := .int .i64 k) rfl (by kernel_rfl) (by kernel_rfl) (by kernel_rfl) (fun _ _ _ h => h) (.inl ⟨by rfl, fun W' hW' => ?_⟩) hS ?_
        · go_simp
        simp only [Act.put, List.getElem_toArray, List.getElem_cons_succ, List.getElem_cons_zero, List.setIfInBounds_toArray, List.set_cons_succ, List.set_cons_zero]
        refine wpAnyH_take (i := 7) (v := .pointer (some ⟨b', o' + k * 5, none⟩)) rfl (by kernel_rfl) (by kernel_rfl) (by kernel_rfl) (fun _ _ _ h => h) (.inl ⟨by rfl, fun W' hW' => ?_⟩) hS ?_
        · go_simp
          (try (intro hh; omega))
        simp only [Act.put, List.getElem_toArray, List.getElem_cons_succ, List.getElem_cons_zero, List.setIfInBounds_toArray, List.set_cons_succ, List.set_cons_zero]
        refine wpAnyH_take (i := 8) (v := .pointer (some ⟨b', o' + k * 5, none⟩)) rfl (by kernel_rfl) (by kernel_rfl) (by kernel_rfl) (fun _ _ _ h => h) (.inl ⟨by rfl, fun W' hW' => ?_⟩) hS ?_
        · go_simp
        simp only [Act.put, List.getElem_toArray, List.getElem_cons_succ, List.getElem_cons_zero, List.setIfInBounds_toArray, List.set_cons_succ, List.set_cons_zero]
        refine wpAnyH_take (i := 9) (v := .string y.name) rfl (by kernel_rfl) (by kernel_rfl) (by kernel_rfl) (fun _ _ _ h => h) (.inl ⟨by rfl, fun W' hW' => ?_⟩) hS ?_
        · obtain ⟨d0, d1, d2, d3, d4, e0, e1, e2, e3, e4⟩ := hW'
          go_simp
        simp only [Act.put, List.getElem_toArray, List.getElem_cons_succ, List.getElem_cons_zero, List.setIfInBounds_toArray, List.set_cons_succ, List.set_cons_zero]
        refine wpAnyH_take (i := 10) (v := .bool false) rfl (by kernel_rfl) (by kernel_rfl) (by kernel_rfl) (fun _ _ _ h => h) (.inl ⟨by rfl, fun W' hW' => ?_⟩) hS ?_
        · go_simp
        simp only [Act.put, List.getElem_toArray, List.getElem_cons_succ, List.getElem_cons_zero, List.setIfInBounds_toArray, List.set_cons_succ, List.set_cons_zero]
        refine wpAnyH_take (i := 11) (v := .bool false) rfl (by kernel_rfl) (by kernel_rfl) (by kernel_rfl) (fun _ _ _ h => h) (.inl ⟨by rfl, fun W' hW' => ?_⟩) hS ?_
        · go_simp
        simp only [Act.put, List.getElem_toArray, List.getElem_cons_succ, List.getElem_cons_zero, List.setIfInBounds_toArray, List.set_cons_succ, List.set_cons_zero]
        refine wpAnyH_take (i := 12) (v := .slice (some ⟨b, o, none⟩) l.length c) rfl (by kernel_rfl) (by kernel_rfl) (by kernel_rfl) (fun _ _ _ h => h) (.inl ⟨by rfl, fun W' hW' => ?_⟩) hS ?_
        · go_simp
        simp only [Act.put, List.getElem_toArray, List.getElem_cons_succ, List.getElem_cons_zero, List.setIfInBounds_toArray, List.set_cons_succ, List.set_cons_zero]
        refine wpAnyH_take (i := 13) (v := .int .i64 k) rfl (by kernel_rfl) (by kernel_rfl) (by kernel_rfl) (fun _ _ _ h => h) (.inl ⟨by rfl, fun W' hW' => ?_⟩) hS ?_
        · go_simp
        simp only [Act.put, List.getElem_toArray, List.getElem_cons_succ, List.getElem_cons_zero, List.setIfInBounds_toArray, List.set_cons_succ, List.set_cons_zero]
        refine wpAnyH_take (i := 14) (v := .pointer (some ⟨b, o + k * 5, none⟩)) rfl (by kernel_rfl) (by kernel_rfl) (by kernel_rfl) (fun _ _ _ h => h) (.inl ⟨by rfl, fun W' hW' => ?_⟩) hS ?_
        · go_simp
          (try (intro hh; omega))
        simp only [Act.put, List.getElem_toArray, List.getElem_cons_succ, List.getElem_cons_zero, List.setIfInBounds_toArray, List.set_cons_succ, List.set_cons_zero]
        refine wpAnyH_take (i := 15) (v := .pointer (some ⟨b, o + k * 5 + 1, none⟩)) rfl (by kernel_rfl) (by kernel_rfl) (by kernel_rfl) (fun _ _ _ h => h) (.inl ⟨by rfl, fun W' hW' => ?_⟩) hS ?_
        · go_simp
        simp only [Act.put, List.getElem_toArray, List.getElem_cons_succ, List.getElem_cons_zero, List.setIfInBounds_toArray, List.set_cons_succ, List.set_cons_zero]
        refine wpAnyH_take (i := 16) (v := .agg #[.int .i64 x.val.kind, .int .i64 x.val.num, .string x.val.text, .float .f64 x.val.real]) rfl (by kernel_rfl) (by kernel_rfl) (by kernel_rfl) (fun _ _ _ h => h) (.inl ⟨by rfl, fun W' hW' => ?_⟩) hS ?_
        · obtain ⟨d0, d1, d2, d3, d4, e0, e1, e2, e3, e4⟩ := hW'
          go_simp
        simp only [Act.put, List.getElem_toArray, List.getElem_cons_succ, List.getElem_cons_zero, List.setIfInBounds_toArray, List.set_cons_succ, List.set_cons_zero]
        refine wpAnyH_take (i := 17) (v := .slice (some ⟨b', o', none⟩) l.length c') rfl (by kernel_rfl) (by kernel_rfl) (by kernel_rfl) (fun _ _ _ h => h) (.inl ⟨by rfl, fun W' hW' => ?_⟩) hS ?_
        · go_simp
        simp only [Act.put, List.getElem_toArray, List.getElem_cons_succ, List.getElem_cons_zero, List.setIfInBounds_toArray, List.set_cons_succ, List.set_cons_zero]
        refine wpAnyH_take (i := 18) (v := .int .i64 k) rfl (by kernel_rfl) (by kernel_rfl) (by kernel_rfl) (fun _ _ _ h => h) (.inl ⟨by rfl, fun W' hW' => ?_⟩) hS ?_
        · go_simp
        simp only [Act.put, List.getElem_toArray, List.getElem_cons_succ, List.getElem_cons_zero, List.setIfInBounds_toArray, List.set_cons_succ, List.set_cons_zero]
        refine wpAnyH_take (i := 19) (v := .pointer (some ⟨b', o' + k * 5, none⟩)) rfl (by kernel_rfl) (by kernel_rfl) (by kernel_rfl) (fun _ _ _ h => h) (.inl ⟨by rfl, fun W' hW' => ?_⟩) hS ?_
        · go_simp
          (try (intro hh; omega))
        simp only [Act.put, List.getElem_toArray, List.getElem_cons_succ, List.getElem_cons_zero, List.setIfInBounds_toArray, List.set_cons_succ, List.set_cons_zero]
        refine wpAnyH_take (i := 20) (v := .pointer (some ⟨b', o' + k * 5 + 1, none⟩)) rfl (by kernel_rfl) (by kernel_rfl) (by kernel_rfl) (fun _ _ _ h => h) (.inl ⟨by rfl, fun W' hW' => ?_⟩) hS ?_
        · go_simp
        simp only [Act.put, List.getElem_toArray, List.getElem_cons_succ, List.getElem_cons_zero, List.setIfInBounds_toArray, List.set_cons_succ, List.set_cons_zero]
        refine wpAnyH_take (i := 21) (v := .agg #[.int .i64 y.val.kind, .int .i64 y.val.num, .string y.val.text, .float .f64 y.val.real]) rfl (by kernel_rfl) (by kernel_rfl) (by kernel_rfl) (fun _ _ _ h => h) (.inl ⟨by rfl, fun W' hW' => ?_⟩) hS ?_
        · obtain ⟨d0, d1, d2, d3, d4, e0, e1, e2, e3, e4⟩ := hW'
          go_simp
        simp only [Act.put, List.getElem_toArray, List.getElem_cons_succ, List.getElem_cons_zero, List.setIfInBounds_toArray, List.set_cons_succ, List.set_cons_zero]
        refine wpAnyH_one (i := 22) (by kernel_rfl) rfl (by rfl) (fun K hK => ?_)
        go_simp
        refine (HS _).mono ?_
        rintro e w6 ⟨rfl, hb6⟩
        obtain ⟨d0, d1, d2, d3, d4, e0, e1, e2, e3, e4⟩ := hS
        have hS6 : (fun W : World => W.cell? ⟨b, o + k * 5, none⟩ = some (.string x.name) ∧ W.cell? ⟨b, o + k * 5 + 1, none⟩ = some (.int .i64 x.val.kind) ∧ W.cell? ⟨b, o + k * 5 + 2, none⟩ = some (.int .i64 x.val.num) ∧ W.cell? ⟨b, o + k * 5 + 3, none⟩ = some (.string x.val.text) ∧ W.cell? ⟨b, o + k * 5 + 4, none⟩ = some (.float .f64 x.val.real) ∧ W.cell? ⟨b', o' + k * 5, none⟩ = some (.string y.name) ∧ W.cell? ⟨b', o' + k * 5 + 1, none⟩ = some (.int .i64 y.val.kind) ∧ W.cell? ⟨b', o' + k * 5 + 2, none⟩ = some (.int .i64 y.val.num) ∧ W.cell? ⟨b', o' + k * 5 + 3, none⟩ = some (.string y.val.text) ∧ W.cell? ⟨b', o' + k * 5 + 4, none⟩ = some (.float .f64 y.val.real)) w6 := ⟨box_on d0 hb6, box_on d1 hb6, box_on d2 hb6, box_on d3 hb6, box_on d4 hb6, box_on e0 hb6, box_on e1 hb6, box_on e2 hb6, box_on e3 hb6, box_on e4 hb6⟩
        have b6 := b5.trans (hb6.mono b5.size)
        show K _ _
        refine hK _ _ hS6 ?_
        clear hK K d0 d1 d2 d3 d4 e0 e1 e2 e3 e4
        refine wpAnyH_take (i := 23) (v := .bool true) rfl (by kernel_rfl) (by kernel_rfl) (by kernel_rfl) (fun _ _ _ h => h) (.inl ⟨by rfl, fun W' hW' => ?_⟩) hS6 ?_
        · go_simp
        simp only [Act.put, List.getElem_toArray, List.getElem_cons_succ, List.getElem_cons_zero, List.setIfInBounds_toArray, List.set_cons_succ, List.set_cons_zero]
        refine wpAnyH_take (i := 24) (v := .bool true) rfl (by kernel_rfl) (by kernel_rfl) (by kernel_rfl) (fun _ _ _ h => h) (.inl ⟨by rfl, fun W' hW' => ?_⟩) hS6 ?_
        · go_simp
        simp only [Act.put, List.getElem_toArray, List.getElem_cons_succ, List.getElem_cons_zero, List.setIfInBounds_toArray, List.set_cons_succ, List.set_cons_zero]
        refine wpAnyH_done (by kernel_rfl) ?_ _
        go_wp2
        go_ret
        exact ⟨ret_b (by first | rfl | exact hr.symm), b6⟩
      | true =>
        have hn := hY.out ((pr_eq x y).2 ⟨by simpa using en, es⟩)
        have hn2 : Hid (∀ j (h : j < l.length) (h' : j < m.length), j < k + 1 → l[j] = m[j]) := hn
        simp only [es] at HS
        unfold Val.v at HS
        clear hN hY hn
        go_upto_region 6 with fail
        refine wp_region_held (S := fun W => W.cell? ⟨b, o + k * 5, none⟩ = some (.string x.name) ∧ W.cell? ⟨b, o + k * 5 + 1, none⟩ = some (.int .i64 x.val.kind) ∧ W.cell? ⟨b, o + k * 5 + 2, none⟩ = some (.int .i64 x.val.num) ∧ W.cell? ⟨b, o + k * 5 + 3, none⟩ = some (.string x.val.text) ∧ W.cell? ⟨b, o + k * 5 + 4, none⟩ = some (.float .f64 x.val.real) ∧ W.cell? ⟨b', o' + k * 5, none⟩ = some (.string y.name) ∧ W.cell? ⟨b', o' + k * 5 + 1, none⟩ = some (.int .i64 y.val.kind) ∧ W.cell? ⟨b', o' + k * 5 + 2, none⟩ = some (.int .i64 y.val.num) ∧ W.cell? ⟨b', o' + k * 5 + 3, none⟩ = some (.string y.val.text) ∧ W.cell? ⟨b', o' + k * 5 + 4, none⟩ = some (.float .f64 y.val.real)) hmix ?_
        show wpAnyH _ _ _ _ _ _ _ _ wr.drew
        have hS : (fun W : World => W.cell? ⟨b, o + k * 5, none⟩ = some (.string x.name) ∧ W.cell? ⟨b, o + k * 5 + 1, none⟩ = some (.int .i64 x.val.kind) ∧ W.cell? ⟨b, o + k * 5 + 2, none⟩ = some (.int .i64 x.val.num) ∧ W.cell? ⟨b, o + k * 5 + 3, none⟩ = some (.string x.val.text) ∧ W.cell? ⟨b, o + k * 5 + 4, none⟩ = some (.float .f64 x.val.real) ∧ W.cell? ⟨b', o' + k * 5, none⟩ = some (.string y.name) ∧ W.cell? ⟨b', o' + k * 5 + 1, none⟩ = some (.int .i64 y.val.kind) ∧ W.cell? ⟨b', o' + k * 5 + 2, none⟩ = some (.int .i64 y.val.num) ∧ W.cell? ⟨b', o' + k * 5 + 3, none⟩ = some (.string y.val.text) ∧ W.cell? ⟨b', o' + k * 5 + 4, none⟩ = some (.float .f64 y.val.real)) wr.drew := ⟨d0, d1, d2, d3, d4, e0, e1, e2, e3, e4⟩
        have b5 : Below w.heap.size w wr.drew := hbr.drew
        clear d0 d1 d2 d3 d4 e0 e1 e2 e3 e4
        generalize wr.drew = w5 at *
        refine wpAnyH_take (i := 0) (v := .slice (some ⟨b, o, none⟩) l.length c) rfl (by kernel_rfl) (by kernel_rfl) (by kernel_rfl) (fun _ _ _ h => h) (.inl ⟨by rfl, fun W' hW' => ?_⟩) hS ?_
        · go_simp
        simp only [Act.put, List.getElem_toArray, List.getElem_cons_succ, List.getElem_cons_zero, List.setIfInBounds_toArray, List.set_cons_succ, List.set_cons_zero]
        refine wpAnyH_take (i := 1) (v := .int .i64 k) rfl (by kernel_rfl) (by kernel_rfl) (by kernel_rfl) (fun _ _ _ h => h) (.inl ⟨by rfl, fun W' hW' => ?_⟩) hS ?_
        · go_simp
        simp only [Act.put, List.getElem_toArray, List.getElem_cons_succ, List.getElem_cons_zero, List.setIfInBounds_toArray, List.set_cons_succ, List.set_cons_zero]
        refine wpAnyH_take (i := 2) (v := .pointer (some ⟨b, o + k * 5, none⟩)) rfl (by kernel_rfl) (by kernel_rfl) (by kernel_rfl) (fun _ _ _ h => h) (.inl ⟨by rfl, fun W' hW' => ?_⟩) hS ?_
        · go_simp
          (try (intro hh; omega))
        simp only [Act.put, List.getElem_toArray, List.getElem_cons_succ, List.getElem_cons_zero, List.setIfInBounds_toArray, List.set_cons_succ, List.set_cons_zero]
        refine wpAnyH_take (i := 3) (v := .pointer (some ⟨b, o + k * 5, none⟩)) rfl (by kernel_rfl) (by kernel_rfl) (by kernel_rfl) (fun _ _ _ h => h) (.inl ⟨by rfl, fun W' hW' => ?_⟩) hS ?_
        · go_simp
        simp only [Act.put, List.getElem_toArray, List.getElem_cons_succ, List.getElem_cons_zero, List.setIfInBounds_toArray, List.set_cons_succ, List.set_cons_zero]
        refine wpAnyH_take (i := 4) (v := .string x.name) rfl (by kernel_rfl) (by kernel_rfl) (by kernel_rfl) (fun _ _ _ h => h) (.inl ⟨by rfl, fun W' hW' => ?_⟩) hS ?_
        · obtain ⟨d0, d1, d2, d3, d4, e0, e1, e2, e3, e4⟩ := hW'
          go_simp
        simp only [Act.put, List.getElem_toArray, List.getElem_cons_succ, List.getElem_cons_zero, List.setIfInBounds_toArray, List.set_cons_succ, List.set_cons_zero]
        refine wpAnyH_take (i := 5) (v := .slice (some ⟨b', o', none⟩) l.length c') rfl (by kernel_rfl) (by kernel_rfl) (by kernel_rfl) (fun _ _ _ h => h) (.inl ⟨by rfl, fun W' hW' => ?_⟩) hS ?_
        · go_simp
        simp only [Act.put, List.getElem_toArray, List.getElem_cons_succ, List.getElem_cons_zero, List.setIfInBounds_toArray, List.set_cons_succ, List.set_cons_zero]
        refine wpAnyH_take (i := 6) (v := .int .i64 k) rfl (by kernel_rfl) (by kernel_rfl) (by kernel_rfl) (fun _ _ _ h => h) (.inl ⟨by rfl, fun W' hW' => ?_⟩) hS ?_
        · go_simp
        simp only [Act.put, List.getElem_toArray, List.getElem_cons_succ, List.getElem_cons_zero, List.setIfInBounds_toArray, List.set_cons_succ, List.set_cons_zero]
        refine wpAnyH_take (i := 7) (v := .pointer (some ⟨b', o' + k * 5, none⟩)) rfl (by kernel_rfl) (by kernel_rfl) (by kernel_rfl) (fun _ _ _ h => h) (.inl ⟨by rfl, fun W' hW' => ?_⟩) hS ?_
        · go_simp
          (try (intro hh; omega))
        simp only [Act.put, List.getElem_toArray, List.getElem_cons_succ, List.getElem_cons_zero, List.setIfInBounds_toArray, List.set_cons_succ, List.set_cons_zero]
        refine wpAnyH_take (i := 8) (v := .pointer (some ⟨b', o' + k * 5, none⟩)) rfl (by kernel_rfl) (by kernel_rfl) (by kernel_rfl) (fun _ _ _ h => h) (.inl ⟨by rfl, fun W' hW' => ?_⟩) hS ?_
        · go_simp
        simp only [Act.put, List.getElem_toArray, List.getElem_cons_succ, List.getElem_cons_zero, List.setIfInBounds_toArray, List.set_cons_succ, List.set_cons_zero]
        refine wpAnyH_take (i := 9) (v := .string y.name) rfl (by kernel_rfl) (by kernel_rfl) (by kernel_rfl) (fun _ _ _ h => h) (.inl ⟨by rfl, fun W' hW' => ?_⟩) hS ?_
        · obtain ⟨d0, d1, d2, d3, d4, e0, e1, e2, e3, e4⟩ := hW'
          go_simp
        simp only [Act.put, List.getElem_toArray, List.getElem_cons_succ, List.getElem_cons_zero, List.setIfInBounds_toArray, List.set_cons_succ, List.set_cons_zero]
        refine wpAnyH_take (i := 10) (v := .bool false) rfl (by kernel_rfl) (by kernel_rfl) (by kernel_rfl) (fun _ _ _ h => h) (.inl ⟨by rfl, fun W' hW' => ?_⟩) hS ?_
        · go_simp
        simp only [Act.put, List.getElem_toArray, List.getElem_cons_succ, List.getElem_cons_zero, List.setIfInBounds_toArray, List.set_cons_succ, List.set_cons_zero]
        refine wpAnyH_take (i := 11) (v := .bool false) rfl (by kernel_rfl) (by kernel_rfl) (by kernel_rfl) (fun _ _ _ h => h) (.inl ⟨by rfl, fun W' hW' => ?_⟩) hS ?_
        · go_simp
        simp only [Act.put, List.getElem_toArray, List.getElem_cons_succ, List.getElem_cons_zero, List.setIfInBounds_toArray, List.set_cons_succ, List.set_cons_zero]
        refine wpAnyH_take (i := 12) (v := .slice (some ⟨b, o, none⟩) l.length c) rfl (by kernel_rfl) (by kernel_rfl) (by kernel_rfl) (fun _ _ _ h => h) (.inl ⟨by rfl, fun W' hW' => ?_⟩) hS ?_
        · go_simp
        simp only [Act.put, List.getElem_toArray, List.getElem_cons_succ, List.getElem_cons_zero, List.setIfInBounds_toArray, List.set_cons_succ, List.set_cons_zero]
        refine wpAnyH_take (i := 13) (v := .int .i64 k) rfl (by kernel_rfl) (by kernel_rfl) (by kernel_rfl) (fun _ _ _ h => h) (.inl ⟨by rfl, fun W' hW' => ?_⟩) hS ?_
        · go_simp
        simp only [Act.put, List.getElem_toArray, List.getElem_cons_succ, List.getElem_cons_zero, List.setIfInBounds_toArray, List.set_cons_succ, List.set_cons_zero]
        refine wpAnyH_take (i := 14) (v := .pointer (some ⟨b, o + k * 5, none⟩)) rfl (by kernel_rfl) (by kernel_rfl) (by kernel_rfl) (fun _ _ _ h => h) (.inl ⟨by rfl, fun W' hW' => ?_⟩) hS ?_
        · go_simp
          (try (intro hh; omega))
        simp only [Act.put, List.getElem_toArray, List.getElem_cons_succ, List.getElem_cons_zero, List.setIfInBounds_toArray, List.set_cons_succ, List.set_cons_zero]
        refine wpAnyH_take (i := 15) (v := .pointer (some ⟨b, o + k * 5 + 1, none⟩)) rfl (by kernel_rfl) (by kernel_rfl) (by kernel_rfl) (fun _ _ _ h => h) (.inl ⟨by rfl, fun W' hW' => ?_⟩) hS ?_
        · go_simp
        simp only [Act.put, List.getElem_toArray, List.getElem_cons_succ, List.getElem_cons_zero, List.setIfInBounds_toArray, List.set_cons_succ, List.set_cons_zero]
        refine wpAnyH_take (i := 16) (v := .agg #[.int .i64 x.val.kind, .int .i64 x.val.num, .string x.val.text, .float .f64 x.val.real]) rfl (by kernel_rfl) (by kernel_rfl) (by kernel_rfl) (fun _ _ _ h => h) (.inl ⟨by rfl, fun W' hW' => ?_⟩) hS ?_
        · obtain ⟨d0, d1, d2, d3, d4, e0, e1, e2, e3, e4⟩ := hW'
          go_simp
        simp only [Act.put, List.getElem_toArray, List.getElem_cons_succ, List.getElem_cons_zero, List.setIfInBounds_toArray, List.set_cons_succ, List.set_cons_zero]
        refine wpAnyH_take (i := 17) (v := .slice (some ⟨b', o', none⟩) l.length c') rfl (by kernel_rfl) (by kernel_rfl) (by kernel_rfl) (fun _ _ _ h => h) (.inl ⟨by rfl, fun W' hW' => ?_⟩) hS ?_
        · go_simp
        simp only [Act.put, List.getElem_toArray, List.getElem_cons_succ, List.getElem_cons_zero, List.setIfInBounds_toArray, List.set_cons_succ, List.set_cons_zero]
        refine wpAnyH_take (i := 18) (v := .int .i64 k) rfl (by kernel_rfl) (by kernel_rfl) (by kernel_rfl) (fun _ _ _ h => h) (.inl ⟨by rfl, fun W' hW' => ?_⟩) hS ?_
        · go_simp
        simp only [Act.put, List.getElem_toArray, List.getElem_cons_succ, List.getElem_cons_zero, List.setIfInBounds_toArray, List.set_cons_succ, List.set_cons_zero]
        refine wpAnyH_take (i := 19) (v := .pointer (some ⟨b', o' + k * 5, none⟩)) rfl (by kernel_rfl) (by kernel_rfl) (by kernel_rfl) (fun _ _ _ h => h) (.inl ⟨by rfl, fun W' hW' => ?_⟩) hS ?_
        · go_simp
          (try (intro hh; omega))
        simp only [Act.put, List.getElem_toArray, List.getElem_cons_succ, List.getElem_cons_zero, List.setIfInBounds_toArray, List.set_cons_succ, List.set_cons_zero]
        refine wpAnyH_take (i := 20) (v := .pointer (some ⟨b', o' + k * 5 + 1, none⟩)) rfl (by kernel_rfl) (by kernel_rfl) (by kernel_rfl) (fun _ _ _ h => h) (.inl ⟨by rfl, fun W' hW' => ?_⟩) hS ?_
        · go_simp
        simp only [Act.put, List.getElem_toArray, List.getElem_cons_succ, List.getElem_cons_zero, List.setIfInBounds_toArray, List.set_cons_succ, List.set_cons_zero]
        refine wpAnyH_take (i := 21) (v := .agg #[.int .i64 y.val.kind, .int .i64 y.val.num, .string y.val.text, .float .f64 y.val.real]) rfl (by kernel_rfl) (by kernel_rfl) (by kernel_rfl) (fun _ _ _ h => h) (.inl ⟨by rfl, fun W' hW' => ?_⟩) hS ?_
        · obtain ⟨d0, d1, d2, d3, d4, e0, e1, e2, e3, e4⟩ := hW'
          go_simp
        simp only [Act.put, List.getElem_toArray, List.getElem_cons_succ, List.getElem_cons_zero, List.setIfInBounds_toArray, List.set_cons_succ, List.set_cons_zero]
        refine wpAnyH_one (i := 22) (by kernel_rfl) rfl (by rfl) (fun K hK => ?_)
        go_simp
        refine (HS _).mono ?_
        rintro e w6 ⟨rfl, hb6⟩
        obtain ⟨d0, d1, d2, d3, d4, e0, e1, e2, e3, e4⟩ := hS
        have hS6 : (fun W : World => W.cell? ⟨b, o + k * 5, none⟩ = some (.string x.name) ∧ W.cell? ⟨b, o + k * 5 + 1, none⟩ = some (.int .i64 x.val.kind) ∧ W.cell? ⟨b, o + k * 5 + 2, none⟩ = some (.int .i64 x.val.num) ∧ W.cell? ⟨b, o + k * 5 + 3, none⟩ = some (.string x.val.text) ∧ W.cell? ⟨b, o + k * 5 + 4, none⟩ = some (.float .f64 x.val.real) ∧ W.cell? ⟨b', o' + k * 5, none⟩ = some (.string y.name) ∧ W.cell? ⟨b', o' + k * 5 + 1, none⟩ = some (.int .i64 y.val.kind) ∧ W.cell? ⟨b', o' + k * 5 + 2, none⟩ = some (.int .i64 y.val.num) ∧ W.cell? ⟨b', o' + k * 5 + 3, none⟩ = some (.string y.val.text) ∧ W.cell? ⟨b', o' + k * 5 + 4, none⟩ = some (.float .f64 y.val.real)) w6 := ⟨box_on d0 hb6, box_on d1 hb6, box_on d2 hb6, box_on d3 hb6, box_on d4 hb6, box_on e0 hb6, box_on e1 hb6, box_on e2 hb6, box_on e3 hb6, box_on e4 hb6⟩
        have b6 := b5.trans (hb6.mono b5.size)
        show K _ _
        refine hK _ _ hS6 ?_
        clear hK K d0 d1 d2 d3 d4 e0 e1 e2 e3 e4
        refine wpAnyH_take (i := 23) (v := .bool false) rfl (by kernel_rfl) (by kernel_rfl) (by kernel_rfl) (fun _ _ _ h => h) (.inl ⟨by rfl, fun W' hW' => ?_⟩) hS6 ?_
        · go_simp
        simp only [Act.put, List.getElem_toArray, List.getElem_cons_succ, List.getElem_cons_zero, List.setIfInBounds_toArray, List.set_cons_succ, List.set_cons_zero]
        refine wpAnyH_take (i := 24) (v := .bool false) rfl (by kernel_rfl) (by kernel_rfl) (by kernel_rfl) (fun _ _ _ h => h) (.inl ⟨by rfl, fun W' hW' => ?_⟩) hS6 ?_
        · go_simp
        simp only [Act.put, List.getElem_toArray, List.getElem_cons_succ, List.getElem_cons_zero, List.setIfInBounds_toArray, List.set_cons_succ, List.set_cons_zero]
        refine wpAnyH_done (by kernel_rfl) ?_ _
        go_wp2
        go_roundw
        case rel => exact ⟨k + 1, by omega, by go_num, b6, hn2⟩
        case measure => simp [RowKit.intOf]; omega
    · have hr := HE.out (fun j h h' => hz.out j h h' (by omega))
      go_wp2
      go_ret
      exact ⟨ret_b (by first | rfl | exact hr.symm), hbr⟩

set_option maxRecDepth 4000 in
theorem all7_len (w : World) (l m : List Pr) (a a' : Option Addr) (c c' : Nat) (h : l.length ≠ m.length) : Calls Tryz.prog 48 #[.slice a l.length c, .slice a' m.length c'] w fun e w' => e = .returned (.bool false) ∧ Below w.heap.size w w' := by
  have h1 : (l.length : Int) ≠ (m.length : Int) := by omega
  go_enter Tryz.func48, Tryz.ntmps48
  go_wp2
  go_ret
  exact ⟨rfl, Below.refl _ _⟩
set_option maxRecDepth 4000 in
theorem all7_nil (w : World) (a a' : Option Addr) (c c' : Nat) : Calls Tryz.prog 48 #[.slice a 0 c, .slice a' 0 c'] w fun e w' => e = .returned (.bool true) ∧ Below w.heap.size w w' := by
  go_enter Tryz.func48, Tryz.ntmps48
  go_wp2_with fail
  go_loopw [13] (fun i wr => i = .int .i64 0 ∧ wr = w) (fun _ _ => 0)
  case atStart => exact ⟨rfl, rfl⟩
  case round =>
    obtain ⟨rfl, rfl⟩ := hrel
    go_wp2
    go_ret
    exact ⟨rfl, Below.refl _ _⟩
theorem all7 (w : World) (v u : Value) (l m : List Pr) (h : RdP w v l) (h' : RdP w u m) (h63 : l.length ≤ 9223372036854775806) : Calls Tryz.prog 48 #[v, u] w fun e w' => e = .returned (.bool (sameL l m)) ∧ Below w.heap.size w w' := by
  by_cases hl : l.length = m.length
  · by_cases h0 : l = []
    · subst h0
      have hm : m = [] := List.length_eq_zero_iff.1 hl.symm
      subst hm
      obtain ⟨a, c, rfl⟩ := h.shape
      obtain ⟨a', c', rfl⟩ := h'.shape
      exact all7_nil w a a' c c'
    · obtain ⟨b, o, c, rfl, _, hP⟩ := h.some h0
      obtain ⟨b', o', c', rfl, _, hQ⟩ := h'.some (fun e => h0 (by rw [e] at hl; exact List.length_eq_zero_iff.1 hl))
      rw [← hl]
      exact all7_some w l m b o c b' o' c' hl.symm hP hQ h63
  · obtain ⟨a, c, rfl⟩ := h.shape
    obtain ⟨a', c', rfl⟩ := h'.shape
    rw [sameL_ne (fun e => hl (by rw [e]))]
    exact all7_len w l m a a' c c' hl
end Go.Proofs.YtlbcefocmdnlgaaGreatDoor

namespace Go.Proofs.YtlbcefocmdnlgaaGreatDoor
open Go.RowKit Go.Lib
set_option maxRecDepth 100000
set_option linter.unusedSimpArgs false

theorem sameL_self (l : List Pr) : sameL l l = true := (sameL_eq l l).2 rfl
theorem sameMsg_same (w : World) (m : Msg) (pv pv' : Value) (h : RdP w pv m.props) (h' : RdP w pv' m.props) (h63 : m.props.length ≤ 9223372036854775806) :
    Calls Tryz.prog 24 #[.agg (msgV m pv).toArray, .agg (msgV m pv').toArray] w fun e w' => e = .returned (.bool true) ∧ Below w.heap.size w w' := by
  have hA := fun (W : World) (b : Below w.heap.size w W) => all7 W pv pv' m.props m.props (h.on b) (h'.on b) h63
  simp only [sameL_self] at hA
  unfold msgV
  have k1 := (Blk.new w #[tx m.topic, tx m.body, pv, .bool m.dur, .int .i64 m.til] 28).alloc (.cells #[tx m.topic, tx m.body, pv', .bool m.dur, .int .i64 m.til] 28)
  have k2 := Blk.new (w.alloc (.cells #[tx m.topic, tx m.body, pv, .bool m.dur, .int .i64 m.til] 28)) #[tx m.topic, tx m.body, pv', .bool m.dur, .int .i64 m.til] 28
  rw [World.size_alloc] at k2
  have b2 := ((Below.refl w.heap.size w).alloc (Nat.le_refl _) (.cells #[tx m.topic, tx m.body, pv, .bool m.dur, .int .i64 m.til] 28)).alloc (by simp) (.cells #[tx m.topic, tx m.body, pv', .bool m.dur, .int .i64 m.til] 28)
  go_enter Tryz.func24, Tryz.ntmps24
  go_upto_region 1 with fail
  generalize (w.alloc (.cells #[tx m.topic, tx m.body, pv, .bool m.dur, .int .i64 m.til] 28)).alloc (.cells #[tx m.topic, tx m.body, pv', .bool m.dur, .int .i64 m.til] 28) = w2 at *
  obtain ⟨c0, c1, c2, c3, c4⟩ := k1.c5
  obtain ⟨d0, d1, d2, d3, d4⟩ := k2.c5
  clear k1 k2 h h'
  go_wp2_with fail
  refine (hA _ b2).mono ?_
  rintro e w3 ⟨rfl, b3⟩
  go_wp2
  go_ret
  exact ⟨rfl, nxt b2 b3⟩
theorem sameItem_same (w : World) (x : Itm) (pv pv' : Value) (h : RdP w pv x.msg.props) (h' : RdP w pv' x.msg.props) (h63 : x.msg.props.length ≤ 9223372036854775806) :
    Calls Tryz.prog 21 #[.agg (itmV x pv).toArray, .agg (itmV x pv').toArray] w fun e w' => e = .returned (.bool true) ∧ Below w.heap.size w w' := by
  have hA := fun (W : World) (b : Below w.heap.size w W) => sameMsg_same W x.msg pv pv' (h.on b) (h'.on b) h63
  unfold itmV
  unfold msgV at hA
  have k1 := (Blk.new w #[.int .i64 x.seq, .bool x.again, tx x.msg.topic, tx x.msg.body, pv, .bool x.msg.dur, .int .i64 x.msg.til] 43).alloc (.cells #[.int .i64 x.seq, .bool x.again, tx x.msg.topic, tx x.msg.body, pv', .bool x.msg.dur, .int .i64 x.msg.til] 43)
  have k2 := Blk.new (w.alloc (.cells #[.int .i64 x.seq, .bool x.again, tx x.msg.topic, tx x.msg.body, pv, .bool x.msg.dur, .int .i64 x.msg.til] 43)) #[.int .i64 x.seq, .bool x.again, tx x.msg.topic, tx x.msg.body, pv', .bool x.msg.dur, .int .i64 x.msg.til] 43
  rw [World.size_alloc] at k2
  have b2 := ((Below.refl w.heap.size w).alloc (Nat.le_refl _) (.cells #[.int .i64 x.seq, .bool x.again, tx x.msg.topic, tx x.msg.body, pv, .bool x.msg.dur, .int .i64 x.msg.til] 43)).alloc (by simp) (.cells #[.int .i64 x.seq, .bool x.again, tx x.msg.topic, tx x.msg.body, pv', .bool x.msg.dur, .int .i64 x.msg.til] 43)
  go_enter Tryz.func21, Tryz.ntmps21
  go_upto_region 1 with fail
  generalize (w.alloc (.cells #[.int .i64 x.seq, .bool x.again, tx x.msg.topic, tx x.msg.body, pv, .bool x.msg.dur, .int .i64 x.msg.til] 43)).alloc (.cells #[.int .i64 x.seq, .bool x.again, tx x.msg.topic, tx x.msg.body, pv', .bool x.msg.dur, .int .i64 x.msg.til] 43) = w2 at *
  obtain ⟨c0, c1, c2, c3, c4, c5, c6⟩ := k1.c7
  obtain ⟨d0, d1, d2, d3, d4, d5, d6⟩ := k2.c7
  clear k1 k2 h h'
  go_wp2_with fail
  refine (hA _ b2).mono ?_
  rintro e w3 ⟨rfl, b3⟩
  go_wp2
  go_ret
  exact ⟨rfl, nxt b2 b3⟩
end Go.Proofs.YtlbcefocmdnlgaaGreatDoor

namespace Go.Proofs.YtlbcefocmdnlgaaGreatDoor
open Go.RowKit Go.Lib
set_option maxRecDepth 100000
set_option linter.unusedSimpArgs false

/-- An item's cells, where nothing that was there is changed. -/
def ItC (w : World) (b o : Nat) (x : Itm) (pv : Value) : Prop := ∀ W, Below w.heap.size w W → W.cell? ⟨b, o, none⟩ = some (.int .i64 x.seq) ∧ W.cell? ⟨b, o + 1, none⟩ = some (.bool x.again) ∧ W.cell? ⟨b, o + 2, none⟩ = some (tx x.msg.topic) ∧ W.cell? ⟨b, o + 3, none⟩ = some (tx x.msg.body) ∧ W.cell? ⟨b, o + 4, none⟩ = some pv ∧ W.cell? ⟨b, o + 5, none⟩ = some (.bool x.msg.dur) ∧ W.cell? ⟨b, o + 6, none⟩ = some (.int .i64 x.msg.til)
theorem itc_at {w : World} {a : Option Addr} {n c : Nat} {zs : Zs Itm} (h : RdZ 7 (ItR (RdP w)) w (.slice a n c) zs) {i : Nat} (hi : i < zs.length) :
    ∃ b o pv, a = some ⟨b, o, none⟩ ∧ RdP w pv (zs[i]).2.msg.props ∧ ItC w b (o + i * 7) (zs[i]).2 pv := by
  obtain ⟨b, o, pv, e, _, hp, c0, c1, c2, c3, c4, c5, c6⟩ := itm_at h (Below.refl _ w) hi
  have k : ∀ {ad : Addr} {u : Value}, w.cell? ad = some u → ∀ W, Below w.heap.size w W → W.cell? ad = some u := fun hc W hb => (hb.cell (World.block_lt_of_cell? w _ hc)).trans hc
  exact ⟨b, o, pv, e, hp, fun W hb => ⟨k c0 W hb, k c1 W hb, k c2 W hb, k c3 W hb, k c4 W hb, k c5 W hb, k c6 W hb⟩⟩
/-- A held one's cells, where nothing that was there is changed. -/
def HeC (w : World) (b o : Nat) (x : Hld) (pv : Value) : Prop := ∀ W, Below w.heap.size w W → W.cell? ⟨b, o, none⟩ = some (.int .i64 x.tag) ∧ W.cell? ⟨b, o + 1, none⟩ = some (.int .i64 x.conn) ∧ W.cell? ⟨b, o + 2, none⟩ = some (.int .i64 x.sub) ∧ W.cell? ⟨b, o + 3, none⟩ = some (.int .i64 x.itm.seq) ∧ W.cell? ⟨b, o + 4, none⟩ = some (.bool x.itm.again) ∧ W.cell? ⟨b, o + 5, none⟩ = some (tx x.itm.msg.topic) ∧ W.cell? ⟨b, o + 6, none⟩ = some (tx x.itm.msg.body) ∧ W.cell? ⟨b, o + 7, none⟩ = some (pv) ∧ W.cell? ⟨b, o + 8, none⟩ = some (.bool x.itm.msg.dur) ∧ W.cell? ⟨b, o + 9, none⟩ = some (.int .i64 x.itm.msg.til)
theorem hec_at {w : World} {a : Option Addr} {n c : Nat} {zs : Zs Hld} (h : RdZ 10 (HeR (RdP w)) w (.slice a n c) zs) {i : Nat} (hi : i < zs.length) :
    ∃ b o pv, a = some ⟨b, o, none⟩ ∧ RdP w pv (zs[i]).2.itm.msg.props ∧ HeC w b (o + i * 10) (zs[i]).2 pv := by
  obtain ⟨b, o, pv, e, _, hp, c0, c1, c2, c3, c4, c5, c6, c7, c8, c9⟩ := hld_at h (Below.refl _ w) hi
  have k : ∀ {ad : Addr} {u : Value}, w.cell? ad = some u → ∀ W, Below w.heap.size w W → W.cell? ad = some u := fun hc W hb => (hb.cell (World.block_lt_of_cell? w _ hc)).trans hc
  exact ⟨b, o, pv, e, hp, fun W hb => ⟨k c0 W hb, k c1 W hb, k c2 W hb, k c3 W hb, k c4 W hb, k c5 W hb, k c6 W hb, k c7 W hb, k c8 W hb, k c9 W hb⟩⟩
structure SaS (w W : World) (qs rs : Array Value) : Prop where
  a : Blk W w.heap.size qs 25
  b : Blk W (w.heap.size + 1) rs 25
  l : Below w.heap.size w W
theorem SaS.on {w W W' : World} {qs rs : Array Value} (h : SaS w W qs rs) (hb : Below W.heap.size W W') : SaS w W' qs rs := ⟨h.a.on hb, h.b.on hb, nxt h.l hb⟩
theorem SaS.start (w : World) (qs rs : Array Value) : SaS w ((w.alloc (.cells qs 25)).alloc (.cells rs 25)) qs rs := by
  refine ⟨(Blk.new _ _ _).alloc _, ?_, ((Below.refl _ w).alloc (Nat.le_refl _) _).alloc (by simp) _⟩
  have := Blk.new (w.alloc (.cells qs 25)) rs 25
  rwa [World.size_alloc] at this

set_option maxHeartbeats 4000000 in
theorem same_same (w : World) (v u : Value) (q : Que) (h : RdQ w v q) (h' : RdQ w u q) (hq : Small q) :
    Calls Tryz.prog 12 #[v, u] w fun e w' => e = .returned (.bool true) ∧ Below w.heap.size w w' := by
  obtain ⟨i1, h1, rfl, ⟨zi, ei, hi⟩, ⟨zh, eh, hh⟩⟩ := h
  obtain ⟨i2, h2, rfl, ⟨yi, fi, gi⟩, ⟨yh, fh, gh⟩⟩ := h'
  obtain ⟨ai, ci, rfl⟩ := hi.len
  obtain ⟨ah, ch, rfl⟩ := hh.len
  obtain ⟨bi, di, rfl⟩ := gi.len
  obtain ⟨bh, dh, rfl⟩ := gh.len
  obtain ⟨ni, hni⟩ : ∃ n, q.items.length = n := ⟨_, rfl⟩
  obtain ⟨nh, hnh⟩ : ∃ n, q.held.length = n := ⟨_, rfl⟩
  have l1 : zi.length = ni := by rw [← hni, ← ei, List.length_map]
  have l2 : yi.length = ni := by rw [← hni, ← fi, List.length_map]
  have l3 : zh.length = nh := by rw [← hnh, ← eh, List.length_map]
  have l4 : yh.length = nh := by rw [← hnh, ← fh, List.length_map]
  rw [l1] at hi ⊢
  rw [l2] at gi ⊢
  rw [l3] at hh ⊢
  rw [l4] at gh ⊢
  have HI : Hid (RdZ 7 (ItR (RdP w)) w (.slice ai ni ci) zi ∧ RdZ 7 (ItR (RdP w)) w (.slice bi ni di) yi ∧ zi.map (·.2) = q.items ∧ yi.map (·.2) = q.items ∧ zi.length = ni ∧ yi.length = ni) := ⟨hi, gi, ei, fi, l1, l2⟩
  have HH : Hid (RdZ 10 (HeR (RdP w)) w (.slice ah nh ch) zh ∧ RdZ 10 (HeR (RdP w)) w (.slice bh nh dh) yh ∧ zh.map (·.2) = q.held ∧ yh.map (·.2) = q.held ∧ zh.length = nh ∧ yh.length = nh) := ⟨hh, gh, eh, fh, l3, l4⟩
  have hl1 : ni ≤ 1000 := by have := hq.items; omega
  have hl2 : nh ≤ 1000 := by have := hq.held; omega
  clear hi gi ei fi l1 l2 hh gh eh fh l3 l4 hni hnh
  have S0 : Hid (SaS w ((w.alloc (.cells #[tx q.name, .bool q.dur, .int .i64 q.depth, .int .i64 q.seq, .int .i64 q.tag, .slice ai ni ci, .slice ah nh ch] 25)).alloc (.cells #[tx q.name, .bool q.dur, .int .i64 q.depth, .int .i64 q.seq, .int .i64 q.tag, .slice bi ni di, .slice bh nh dh] 25)) #[tx q.name, .bool q.dur, .int .i64 q.depth, .int .i64 q.seq, .int .i64 q.tag, .slice ai ni ci, .slice ah nh ch] #[tx q.name, .bool q.dur, .int .i64 q.depth, .int .i64 q.seq, .int .i64 q.tag, .slice bi ni di, .slice bh nh dh]) := SaS.start ..
  unfold queV at *
  go_enter Tryz.func12, Tryz.ntmps12
  go_upto_region 1 with fail
  generalize (w.alloc (.cells #[tx q.name, .bool q.dur, .int .i64 q.depth, .int .i64 q.seq, .int .i64 q.tag, .slice ai ni ci, .slice ah nh ch] 25)).alloc (.cells #[tx q.name, .bool q.dur, .int .i64 q.depth, .int .i64 q.seq, .int .i64 q.tag, .slice bi ni di, .slice bh nh dh] 25) = w1 at *
  obtain ⟨c0, c1, c2, c3, c4, c5, c6⟩ := S0.out.a.c7
  obtain ⟨d0, d1, d2, d3, d4, d5, d6⟩ := S0.out.b.c7
  go_wp2_with fail
  clear c0 c1 c2 c3 c4 c5 c6 d0 d1 d2 d3 d4 d5 d6
  go_loopg [5, 63] ni (fun gg _ s63 wr => ∃ kk : Nat, kk ≤ ni ∧ ni - kk ≤ gg ∧ s63 = .int .i64 kk ∧ Hid (SaS w wr #[tx q.name, .bool q.dur, .int .i64 q.depth, .int .i64 q.seq, .int .i64 q.tag, .slice ai ni ci, .slice ah nh ch] #[tx q.name, .bool q.dur, .int .i64 q.depth, .int .i64 q.seq, .int .i64 q.tag, .slice bi ni di, .slice bh nh dh]))
  case atStart => exact ⟨0, Nat.zero_le _, by omega, rfl, S0⟩
  case round =>
    obtain ⟨kk, hkk, hg, rfl, HS⟩ := hrel
    clear S0
    obtain ⟨wr, hwr⟩ : ∃ W, W = wr := ⟨_, rfl⟩
    subst hwr
    by_cases hlt : kk < ni
    · have hltz : (kk : Int) < (ni : Int) := by omega
      obtain ⟨hi, gi, ei, fi, l1, l2⟩ := HI.out
      obtain ⟨b1, o1, p1, rfl, hp1, C1⟩ := itc_at hi (i := kk) (by omega)
      obtain ⟨b2, o2, p2, rfl, hp2, C2⟩ := itc_at gi (i := kk) (by omega)
      have hql : kk < q.items.length := by rw [← ei, List.length_map]; omega
      have x1 : (zi[kk]'(by omega)).2 = q.items[kk] := by simp only [← ei, List.getElem_map]
      have x2 : (yi[kk]'(by omega)).2 = q.items[kk] := by simp only [← fi, List.getElem_map]
      rw [x1] at hp1 C1
      rw [x2] at hp2 C2
      have hpl : (q.items[kk]).msg.props.length ≤ 2513169434916 := hq.ip _ (List.getElem_mem _)
      generalize q.items[kk] = x at *
      have HC : Hid (ItC w b1 (o1 + kk * 7) x p1 ∧ ItC w b2 (o2 + kk * 7) x p2) := ⟨C1, C2⟩
      obtain ⟨pa1, pc1, rfl⟩ := hp1.shape
      obtain ⟨pa2, pc2, rfl⟩ := hp2.shape
      have HA := fun (W : World) (b : Below w.heap.size w W) => sameItem_same W x _ _ (hp1.on b) (hp2.on b) (by omega)
      unfold itmV at HA
      clear hi gi ei fi l1 l2 hql x1 x2 hp1 hp2 C1 C2 hpl
      go_upto_region 6 with fail
      refine wp_region_held (S := fun W => SaS w W #[tx q.name, .bool q.dur, .int .i64 q.depth, .int .i64 q.seq, .int .i64 q.tag, .slice (some ⟨b1, o1, none⟩) ni ci, .slice ah nh ch] #[tx q.name, .bool q.dur, .int .i64 q.depth, .int .i64 q.seq, .int .i64 q.tag, .slice (some ⟨b2, o2, none⟩) ni di, .slice bh nh dh]) hmix ?_
      show wpAnyH _ _ _ _ _ _ _ _ (World.drew _)
      have hS : SaS w wr.drew #[tx q.name, .bool q.dur, .int .i64 q.depth, .int .i64 q.seq, .int .i64 q.tag, .slice (some ⟨b1, o1, none⟩) ni ci, .slice ah nh ch] #[tx q.name, .bool q.dur, .int .i64 q.depth, .int .i64 q.seq, .int .i64 q.tag, .slice (some ⟨b2, o2, none⟩) ni di, .slice bh nh dh] := ⟨⟨HS.out.a.h⟩, ⟨HS.out.b.h⟩, HS.out.l.drew⟩
      clear HS
      generalize wr.drew = w4 at *
      refine wpAnyH_take (i := 0) (v := .pointer (some ⟨w.heap.size, 5, none⟩)) rfl (by kernel_rfl) (by kernel_rfl) (by kernel_rfl) (fun _ _ _ h => h) (.inl ⟨by rfl, fun W' hW' => ?_⟩) hS ?_
      · obtain ⟨d0, d1, d2, d3, d4, d5, d6⟩ := hW'.a.c7
        go_simp
      simp only [Act.put, List.getElem_toArray, List.getElem_cons_zero, List.setIfInBounds_toArray, List.set_cons_succ, List.set_cons_zero]
      refine wpAnyH_take (i := 1) (v := .slice (some ⟨b1, o1, none⟩) ni ci) rfl (by kernel_rfl) (by kernel_rfl) (by kernel_rfl) (fun _ _ _ h => h) (.inl ⟨by rfl, fun W' hW' => ?_⟩) hS ?_
      · obtain ⟨d0, d1, d2, d3, d4, d5, d6⟩ := hW'.a.c7
        go_simp
      simp only [Act.put, List.getElem_toArray, List.getElem_cons_succ, List.getElem_cons_zero, List.setIfInBounds_toArray, List.set_cons_succ, List.set_cons_zero]
      refine wpAnyH_take (i := 2) (v := .int .i64 kk) rfl (by kernel_rfl) (by kernel_rfl) (by kernel_rfl) (fun _ _ _ h => h) (.inl ⟨by rfl, fun W' hW' => ?_⟩) hS ?_
      · obtain ⟨d0, d1, d2, d3, d4, d5, d6⟩ := hW'.a.c7
        go_simp
      simp only [Act.put, List.getElem_toArray, List.getElem_cons_succ, List.getElem_cons_zero, List.setIfInBounds_toArray, List.set_cons_succ, List.set_cons_zero]
      refine wpAnyH_take (i := 3) (v := .pointer (some ⟨b1, o1 + kk * 7, none⟩)) rfl (by kernel_rfl) (by kernel_rfl) (by kernel_rfl) (fun _ _ _ h => h) (.inl ⟨by rfl, fun W' hW' => ?_⟩) hS ?_
      · obtain ⟨d0, d1, d2, d3, d4, d5, d6⟩ := hW'.a.c7
        go_simp
      simp only [Act.put, List.getElem_toArray, List.getElem_cons_succ, List.getElem_cons_zero, List.setIfInBounds_toArray, List.set_cons_succ, List.set_cons_zero]
      refine wpAnyH_take (i := 4) (v := .agg #[.int .i64 x.seq, .bool x.again, tx x.msg.topic, tx x.msg.body, .slice pa1 x.msg.props.length pc1, .bool x.msg.dur, .int .i64 x.msg.til]) rfl (by kernel_rfl) (by kernel_rfl) (by kernel_rfl) (fun _ _ _ h => h) (.inl ⟨by rfl, fun W' hW' => ?_⟩) hS ?_
      · obtain ⟨d0, d1, d2, d3, d4, d5, d6⟩ := HC.out.1 W' hW'.l
        go_simp
      simp only [Act.put, List.getElem_toArray, List.getElem_cons_succ, List.getElem_cons_zero, List.setIfInBounds_toArray, List.set_cons_succ, List.set_cons_zero]
      refine wpAnyH_take (i := 5) (v := .pointer (some ⟨w.heap.size + 1, 5, none⟩)) rfl (by kernel_rfl) (by kernel_rfl) (by kernel_rfl) (fun _ _ _ h => h) (.inl ⟨by rfl, fun W' hW' => ?_⟩) hS ?_
      · obtain ⟨d0, d1, d2, d3, d4, d5, d6⟩ := hW'.b.c7
        go_simp
      simp only [Act.put, List.getElem_toArray, List.getElem_cons_succ, List.getElem_cons_zero, List.setIfInBounds_toArray, List.set_cons_succ, List.set_cons_zero]
      refine wpAnyH_take (i := 6) (v := .slice (some ⟨b2, o2, none⟩) ni di) rfl (by kernel_rfl) (by kernel_rfl) (by kernel_rfl) (fun _ _ _ h => h) (.inl ⟨by rfl, fun W' hW' => ?_⟩) hS ?_
      · obtain ⟨d0, d1, d2, d3, d4, d5, d6⟩ := hW'.b.c7
        go_simp
      simp only [Act.put, List.getElem_toArray, List.getElem_cons_succ, List.getElem_cons_zero, List.setIfInBounds_toArray, List.set_cons_succ, List.set_cons_zero]
      refine wpAnyH_take (i := 7) (v := .int .i64 kk) rfl (by kernel_rfl) (by kernel_rfl) (by kernel_rfl) (fun _ _ _ h => h) (.inl ⟨by rfl, fun W' hW' => ?_⟩) hS ?_
      · obtain ⟨d0, d1, d2, d3, d4, d5, d6⟩ := hW'.b.c7
        go_simp
      simp only [Act.put, List.getElem_toArray, List.getElem_cons_succ, List.getElem_cons_zero, List.setIfInBounds_toArray, List.set_cons_succ, List.set_cons_zero]
      refine wpAnyH_take (i := 8) (v := .pointer (some ⟨b2, o2 + kk * 7, none⟩)) rfl (by kernel_rfl) (by kernel_rfl) (by kernel_rfl) (fun _ _ _ h => h) (.inl ⟨by rfl, fun W' hW' => ?_⟩) hS ?_
      · obtain ⟨d0, d1, d2, d3, d4, d5, d6⟩ := hW'.b.c7
        go_simp
      simp only [Act.put, List.getElem_toArray, List.getElem_cons_succ, List.getElem_cons_zero, List.setIfInBounds_toArray, List.set_cons_succ, List.set_cons_zero]
      refine wpAnyH_take (i := 9) (v := .agg #[.int .i64 x.seq, .bool x.again, tx x.msg.topic, tx x.msg.body, .slice pa2 x.msg.props.length pc2, .bool x.msg.dur, .int .i64 x.msg.til]) rfl (by kernel_rfl) (by kernel_rfl) (by kernel_rfl) (fun _ _ _ h => h) (.inl ⟨by rfl, fun W' hW' => ?_⟩) hS ?_
      · obtain ⟨d0, d1, d2, d3, d4, d5, d6⟩ := HC.out.2 W' hW'.l
        go_simp
      simp only [Act.put, List.getElem_toArray, List.getElem_cons_succ, List.getElem_cons_zero, List.setIfInBounds_toArray, List.set_cons_succ, List.set_cons_zero]
      refine wpAnyH_one (i := 10) (by kernel_rfl) rfl (by rfl) (fun K hK => ?_)
      go_simp
      refine (HA _ hS.l).mono ?_
      rintro e w5 ⟨rfl, b5⟩
      replace hS := hS.on b5
      show K _ _
      refine hK _ _ hS ?_
      clear hK K b5
      refine wpAnyH_take (i := 11) (v := .bool false) rfl (by kernel_rfl) (by kernel_rfl) (by kernel_rfl) (fun _ _ _ h => h) (.inl ⟨by rfl, fun W' hW' => ?_⟩) hS ?_
      · go_simp
      simp only [Act.put, List.getElem_toArray, List.getElem_cons_succ, List.getElem_cons_zero, List.setIfInBounds_toArray, List.set_cons_succ, List.set_cons_zero]
      refine wpAnyH_done (by kernel_rfl) ?_ _
      have S5 : Hid (SaS w w5 #[tx q.name, .bool q.dur, .int .i64 q.depth, .int .i64 q.seq, .int .i64 q.tag, .slice (some ⟨b1, o1, none⟩) ni ci, .slice ah nh ch] #[tx q.name, .bool q.dur, .int .i64 q.depth, .int .i64 q.seq, .int .i64 q.tag, .slice (some ⟨b2, o2, none⟩) ni di, .slice bh nh dh]) := hS
      clear hS HC HA
      go_wp2_with fail
      go_roundg (ni - (kk + 1))
      case measure => omega
      case rel => exact ⟨kk + 1, by omega, by omega, by go_num, S5⟩
    · have hltz : ¬ (kk : Int) < (ni : Int) := by omega
      obtain ⟨c0, c1, c2, c3, c4, c5, c6⟩ := HS.out.a.c7
      go_wp2_with fail
      clear c0 c1 c2 c3 c4 c5 c6 HI
      go_loopg [6, 7, 8, 82] nh (fun gg _ _ _ s82 wy => ∃ k2 : Nat, k2 ≤ nh ∧ nh - k2 ≤ gg ∧ s82 = .int .i64 k2 ∧ Hid (SaS w wy #[tx q.name, .bool q.dur, .int .i64 q.depth, .int .i64 q.seq, .int .i64 q.tag, .slice ai ni ci, .slice ah nh ch] #[tx q.name, .bool q.dur, .int .i64 q.depth, .int .i64 q.seq, .int .i64 q.tag, .slice bi ni di, .slice bh nh dh]))
      case atStart => exact ⟨0, Nat.zero_le _, by omega, rfl, HS⟩
      case round =>
        obtain ⟨k2, hk2, hg2, rfl, HT⟩ := hrel
        clear HS
        obtain ⟨wt, hwt⟩ : ∃ W, W = wr := ⟨_, rfl⟩
        subst hwt
        by_cases hl2 : k2 < nh
        · have hl2z : (k2 : Int) < (nh : Int) := by omega
          obtain ⟨hh, gh, eh, fh, l3, l4⟩ := HH.out
          obtain ⟨b1, o1, p1, rfl, hp1, C1⟩ := hec_at hh (i := k2) (by omega)
          obtain ⟨b2, o2, p2, rfl, hp2, C2⟩ := hec_at gh (i := k2) (by omega)
          have hql : k2 < q.held.length := by rw [← eh, List.length_map]; omega
          have x1 : (zh[k2]'(by omega)).2 = q.held[k2] := by simp only [← eh, List.getElem_map]
          have x2 : (yh[k2]'(by omega)).2 = q.held[k2] := by simp only [← fh, List.getElem_map]
          rw [x1] at hp1 C1
          rw [x2] at hp2 C2
          have hpl : (q.held[k2]).itm.msg.props.length ≤ 2513169434916 := hq.hp _ (List.getElem_mem _)
          generalize q.held[k2] = x at *
          obtain ⟨pa1, pc1, rfl⟩ := hp1.shape
          obtain ⟨pa2, pc2, rfl⟩ := hp2.shape
          have HA : Hid (∀ W, Below w.heap.size w W → Calls Tryz.prog 21 #[.agg (itmV x.itm (.slice pa1 x.itm.msg.props.length pc1)).toArray, .agg (itmV x.itm (.slice pa2 x.itm.msg.props.length pc2)).toArray] W fun e w' => e = .returned (.bool true) ∧ Below W.heap.size W w') := fun W b => sameItem_same W x.itm _ _ (hp1.on b) (hp2.on b) (by omega)
          clear hh gh eh fh l3 l4 hql x1 x2 hp1 hp2 hpl
          obtain ⟨c0, c1, c2, c3, c4, c5, c6⟩ := HT.out.a.c7
          obtain ⟨d0, d1, d2, d3, d4, d5, d6⟩ := HT.out.b.c7
          obtain ⟨e0, e1, e2, e3, e4, e5, e6, e7, e8, e9⟩ := C1 wt HT.out.l
          obtain ⟨f0, f1, f2, f3, f4, f5, f6, f7, f8, f9⟩ := C2 wt HT.out.l
          clear C1 C2
          have L1 : w.heap.size < wt.heap.size := HT.out.a.lt
          have L2 : w.heap.size + 1 < wt.heap.size := HT.out.b.lt
          have L3 : b1 < wt.heap.size := World.block_lt_of_cell? wt _ e0
          have L4 : b2 < wt.heap.size := World.block_lt_of_cell? wt _ f0
          have L1' : w.heap.size ≠ wt.heap.size := by omega
          have L2' : w.heap.size + 1 ≠ wt.heap.size := by omega
          have L3' : b1 ≠ wt.heap.size := by omega
          have L4' : b2 ≠ wt.heap.size := by omega
          have L5' : w.heap.size + 1 ≠ wt.heap.size + 1 := by omega
          have L6' : b1 ≠ wt.heap.size + 1 := by omega
          have L7' : b2 ≠ wt.heap.size + 1 := by omega
          generalize x.itm.msg.props.length = np at *
          go_upto_region 12 with fail
          go_cut [7, 8] (fun s7 s8 wq => ∃ gA gB : Nat, s7 = .pointer (some ⟨gA, 0, none⟩) ∧ s8 = .pointer (some ⟨gB, 0, none⟩) ∧ Hid (Blk wq gA #[.int .i64 x.tag, .int .i64 x.conn, .int .i64 x.sub, .int .i64 x.itm.seq, .bool x.itm.again, .string ⟨x.itm.msg.topic.toArray⟩, .string ⟨x.itm.msg.body.toArray⟩, .slice pa1 np pc1, .bool x.itm.msg.dur, .int .i64 x.itm.msg.til] 61 ∧ Blk wq gB #[.int .i64 x.tag, .int .i64 x.conn, .int .i64 x.sub, .int .i64 x.itm.seq, .bool x.itm.again, .string ⟨x.itm.msg.topic.toArray⟩, .string ⟨x.itm.msg.body.toArray⟩, .slice pa2 np pc2, .bool x.itm.msg.dur, .int .i64 x.itm.msg.til] 61 ∧ SaS w wq #[tx q.name, .bool q.dur, .int .i64 q.depth, .int .i64 q.seq, .int .i64 q.tag, .slice ai ni ci, .slice (some ⟨b1, o1, none⟩) nh ch] #[tx q.name, .bool q.dur, .int .i64 q.depth, .int .i64 q.seq, .int .i64 q.tag, .slice bi ni di, .slice (some ⟨b2, o2, none⟩) nh dh]))
          case first =>
            go_region
            all_goals clear c0 c1 c2 c3 c4 c5 c6 d0 d1 d2 d3 d4 d5 d6 e0 e1 e2 e3 e4 e5 e6 e7 e8 e9 f0 f1 f2 f3 f4 f5 f6 f7 f8 f9 L1 L2 L3 L4 L1' L2' L3' L4' L5' L6' L7'
            · have kA : Blk ((wt.alloc (.cells #[.int .i64 x.tag, .int .i64 x.conn, .int .i64 x.sub, .int .i64 x.itm.seq, .bool x.itm.again, .string ⟨x.itm.msg.topic.toArray⟩, .string ⟨x.itm.msg.body.toArray⟩, .slice pa1 np pc1, .bool x.itm.msg.dur, .int .i64 x.itm.msg.til] 61)).alloc (.cells #[.int .i64 x.tag, .int .i64 x.conn, .int .i64 x.sub, .int .i64 x.itm.seq, .bool x.itm.again, .string ⟨x.itm.msg.topic.toArray⟩, .string ⟨x.itm.msg.body.toArray⟩, .slice pa2 np pc2, .bool x.itm.msg.dur, .int .i64 x.itm.msg.til] 61)).drew wt.heap.size #[.int .i64 x.tag, .int .i64 x.conn, .int .i64 x.sub, .int .i64 x.itm.seq, .bool x.itm.again, .string ⟨x.itm.msg.topic.toArray⟩, .string ⟨x.itm.msg.body.toArray⟩, .slice pa1 np pc1, .bool x.itm.msg.dur, .int .i64 x.itm.msg.til] 61 := ⟨((Blk.new wt _ _).alloc _).h⟩
              have kB : Blk ((wt.alloc (.cells #[.int .i64 x.tag, .int .i64 x.conn, .int .i64 x.sub, .int .i64 x.itm.seq, .bool x.itm.again, .string ⟨x.itm.msg.topic.toArray⟩, .string ⟨x.itm.msg.body.toArray⟩, .slice pa1 np pc1, .bool x.itm.msg.dur, .int .i64 x.itm.msg.til] 61)).alloc (.cells #[.int .i64 x.tag, .int .i64 x.conn, .int .i64 x.sub, .int .i64 x.itm.seq, .bool x.itm.again, .string ⟨x.itm.msg.topic.toArray⟩, .string ⟨x.itm.msg.body.toArray⟩, .slice pa2 np pc2, .bool x.itm.msg.dur, .int .i64 x.itm.msg.til] 61)).drew (wt.heap.size + 1) #[.int .i64 x.tag, .int .i64 x.conn, .int .i64 x.sub, .int .i64 x.itm.seq, .bool x.itm.again, .string ⟨x.itm.msg.topic.toArray⟩, .string ⟨x.itm.msg.body.toArray⟩, .slice pa2 np pc2, .bool x.itm.msg.dur, .int .i64 x.itm.msg.til] 61 := by
                have := Blk.new (wt.alloc (.cells #[.int .i64 x.tag, .int .i64 x.conn, .int .i64 x.sub, .int .i64 x.itm.seq, .bool x.itm.again, .string ⟨x.itm.msg.topic.toArray⟩, .string ⟨x.itm.msg.body.toArray⟩, .slice pa1 np pc1, .bool x.itm.msg.dur, .int .i64 x.itm.msg.til] 61)) #[.int .i64 x.tag, .int .i64 x.conn, .int .i64 x.sub, .int .i64 x.itm.seq, .bool x.itm.again, .string ⟨x.itm.msg.topic.toArray⟩, .string ⟨x.itm.msg.body.toArray⟩, .slice pa2 np pc2, .bool x.itm.msg.dur, .int .i64 x.itm.msg.til] 61
                rw [World.size_alloc] at this
                exact ⟨this.h⟩
              have bb : Below wt.heap.size wt ((wt.alloc (.cells #[.int .i64 x.tag, .int .i64 x.conn, .int .i64 x.sub, .int .i64 x.itm.seq, .bool x.itm.again, .string ⟨x.itm.msg.topic.toArray⟩, .string ⟨x.itm.msg.body.toArray⟩, .slice pa1 np pc1, .bool x.itm.msg.dur, .int .i64 x.itm.msg.til] 61)).alloc (.cells #[.int .i64 x.tag, .int .i64 x.conn, .int .i64 x.sub, .int .i64 x.itm.seq, .bool x.itm.again, .string ⟨x.itm.msg.topic.toArray⟩, .string ⟨x.itm.msg.body.toArray⟩, .slice pa2 np pc2, .bool x.itm.msg.dur, .int .i64 x.itm.msg.til] 61)).drew := (((Below.refl _ wt).alloc (Nat.le_refl _) _).alloc (by simp) _).drew
              go_wp2_with fail
              go_meet
              exact ⟨_, _, rfl, rfl, kA, kB, HT.out.on bb⟩
            · have kA : Blk ((wt.alloc (.cells #[.int .i64 x.tag, .int .i64 x.conn, .int .i64 x.sub, .int .i64 x.itm.seq, .bool x.itm.again, .string ⟨x.itm.msg.topic.toArray⟩, .string ⟨x.itm.msg.body.toArray⟩, .slice pa2 np pc2, .bool x.itm.msg.dur, .int .i64 x.itm.msg.til] 61)).alloc (.cells #[.int .i64 x.tag, .int .i64 x.conn, .int .i64 x.sub, .int .i64 x.itm.seq, .bool x.itm.again, .string ⟨x.itm.msg.topic.toArray⟩, .string ⟨x.itm.msg.body.toArray⟩, .slice pa1 np pc1, .bool x.itm.msg.dur, .int .i64 x.itm.msg.til] 61)).drew wt.heap.size #[.int .i64 x.tag, .int .i64 x.conn, .int .i64 x.sub, .int .i64 x.itm.seq, .bool x.itm.again, .string ⟨x.itm.msg.topic.toArray⟩, .string ⟨x.itm.msg.body.toArray⟩, .slice pa2 np pc2, .bool x.itm.msg.dur, .int .i64 x.itm.msg.til] 61 := ⟨((Blk.new wt _ _).alloc _).h⟩
              have kB : Blk ((wt.alloc (.cells #[.int .i64 x.tag, .int .i64 x.conn, .int .i64 x.sub, .int .i64 x.itm.seq, .bool x.itm.again, .string ⟨x.itm.msg.topic.toArray⟩, .string ⟨x.itm.msg.body.toArray⟩, .slice pa2 np pc2, .bool x.itm.msg.dur, .int .i64 x.itm.msg.til] 61)).alloc (.cells #[.int .i64 x.tag, .int .i64 x.conn, .int .i64 x.sub, .int .i64 x.itm.seq, .bool x.itm.again, .string ⟨x.itm.msg.topic.toArray⟩, .string ⟨x.itm.msg.body.toArray⟩, .slice pa1 np pc1, .bool x.itm.msg.dur, .int .i64 x.itm.msg.til] 61)).drew (wt.heap.size + 1) #[.int .i64 x.tag, .int .i64 x.conn, .int .i64 x.sub, .int .i64 x.itm.seq, .bool x.itm.again, .string ⟨x.itm.msg.topic.toArray⟩, .string ⟨x.itm.msg.body.toArray⟩, .slice pa1 np pc1, .bool x.itm.msg.dur, .int .i64 x.itm.msg.til] 61 := by
                have := Blk.new (wt.alloc (.cells #[.int .i64 x.tag, .int .i64 x.conn, .int .i64 x.sub, .int .i64 x.itm.seq, .bool x.itm.again, .string ⟨x.itm.msg.topic.toArray⟩, .string ⟨x.itm.msg.body.toArray⟩, .slice pa2 np pc2, .bool x.itm.msg.dur, .int .i64 x.itm.msg.til] 61)) #[.int .i64 x.tag, .int .i64 x.conn, .int .i64 x.sub, .int .i64 x.itm.seq, .bool x.itm.again, .string ⟨x.itm.msg.topic.toArray⟩, .string ⟨x.itm.msg.body.toArray⟩, .slice pa1 np pc1, .bool x.itm.msg.dur, .int .i64 x.itm.msg.til] 61
                rw [World.size_alloc] at this
                exact ⟨this.h⟩
              have bb : Below wt.heap.size wt ((wt.alloc (.cells #[.int .i64 x.tag, .int .i64 x.conn, .int .i64 x.sub, .int .i64 x.itm.seq, .bool x.itm.again, .string ⟨x.itm.msg.topic.toArray⟩, .string ⟨x.itm.msg.body.toArray⟩, .slice pa2 np pc2, .bool x.itm.msg.dur, .int .i64 x.itm.msg.til] 61)).alloc (.cells #[.int .i64 x.tag, .int .i64 x.conn, .int .i64 x.sub, .int .i64 x.itm.seq, .bool x.itm.again, .string ⟨x.itm.msg.topic.toArray⟩, .string ⟨x.itm.msg.body.toArray⟩, .slice pa1 np pc1, .bool x.itm.msg.dur, .int .i64 x.itm.msg.til] 61)).drew := (((Below.refl _ wt).alloc (Nat.le_refl _) _).alloc (by simp) _).drew
              go_wp2_with fail
              go_meet
              exact ⟨_, _, rfl, rfl, kB, kA, HT.out.on bb⟩
          case rest =>
            obtain ⟨gA, gB, rfl, rfl, HU⟩ := hcut
            clear c0 c1 c2 c3 c4 c5 c6 d0 d1 d2 d3 d4 d5 d6 e0 e1 e2 e3 e4 e5 e6 e7 e8 e9 f0 f1 f2 f3 f4 f5 f6 f7 f8 f9 L1 L2 L3 L4 L1' L2' L3' L4' L5' L6' L7' HT
            have HB := HA.out wc HU.out.2.2.l
            unfold itmV at HB
            obtain ⟨c0, c1, c2, c3, c4, c5, c6, c7, c8, c9⟩ := HU.out.1.c10
            obtain ⟨d0, d1, d2, d3, d4, d5, d6, d7, d8, d9⟩ := HU.out.2.1.c10
            have S5 : Hid (SaS w wc #[tx q.name, .bool q.dur, .int .i64 q.depth, .int .i64 q.seq, .int .i64 q.tag, .slice ai ni ci, .slice (some ⟨b1, o1, none⟩) nh ch] #[tx q.name, .bool q.dur, .int .i64 q.depth, .int .i64 q.seq, .int .i64 q.tag, .slice bi ni di, .slice (some ⟨b2, o2, none⟩) nh dh]) := HU.out.2.2
            clear HU HA
            go_wp2_with fail
            refine HB.mono ?_
            rintro e w6 ⟨rfl, b6⟩
            have S6 : Hid (SaS w w6 #[tx q.name, .bool q.dur, .int .i64 q.depth, .int .i64 q.seq, .int .i64 q.tag, .slice ai ni ci, .slice (some ⟨b1, o1, none⟩) nh ch] #[tx q.name, .bool q.dur, .int .i64 q.depth, .int .i64 q.seq, .int .i64 q.tag, .slice bi ni di, .slice (some ⟨b2, o2, none⟩) nh dh]) := S5.out.on b6
            clear S5 b6 HB c0 c1 c2 c3 c4 c5 c6 c7 c8 c9 d0 d1 d2 d3 d4 d5 d6 d7 d8 d9
            go_wp2_with fail
            go_roundg (nh - (k2 + 1))
            case measure => omega
            case rel => exact ⟨k2 + 1, by omega, by omega, by go_num, S6⟩
        · have hl2z : ¬ (k2 : Int) < (nh : Int) := by omega
          go_wp2
          go_ret
          exact ⟨rfl, HT.out.l⟩
end Go.Proofs.YtlbcefocmdnlgaaGreatDoor
namespace Go.Proofs.YtlbcefocmdnlgaaGreatDoor
open Go.RowKit Go.Lib
set_option maxRecDepth 100000
set_option linter.unusedSimpArgs false

/-- A truth is answered. -/
def IsB (n : Nat) (e : Ending) : Prop := ∃ b : Bool, e = .returned (.bool b) ∧ (b = false → n ≤ 200)

set_option maxHeartbeats 4000000 in
theorem long_any (w : World) (v : Value) (q : Que) (h : RdQ w v q) (hbig : lenQ q ≤ 9223372036854775806) : Calls Tryz.prog 7 #[v] w fun e w' => IsB (lenQ q) e ∧ Below w.heap.size w w' := by
  obtain ⟨iv, hv, rfl, ⟨zi, ei, hi⟩, ⟨zh, eh, hh⟩⟩ := h
  obtain ⟨ai, ci, rfl⟩ := hi.len
  obtain ⟨ah, ch, rfl⟩ := hh.len
  obtain ⟨ni, hni⟩ : ∃ n, zi.length = n := ⟨_, rfl⟩
  obtain ⟨nh, hnh⟩ : ∃ n, zh.length = n := ⟨_, rfl⟩
  rw [hni] at hi ⊢
  rw [hnh] at hh ⊢
  have hsum : ni + nh ≤ 9223372036854775806 := by
    unfold lenQ at hbig
    rw [← ei, ← eh, List.length_map, List.length_map, hni, hnh] at hbig
    exact hbig
  have HI : Hid (RdZ 7 (ItR (RdP w)) w (.slice ai ni ci) zi) := hi
  have HH : Hid (RdZ 10 (HeR (RdP w)) w (.slice ah nh ch) zh) := hh
  have NI : Hid (zi.length = ni) := hni
  have NH : Hid (zh.length = nh) := hnh
  have HLQ : Hid (lenQ q = ni + nh) := by
    show lenQ q = ni + nh
    unfold lenQ
    rw [← ei, ← eh, List.length_map, List.length_map, hni, hnh]
  clear hi hh ei eh hni hnh hbig
  have k0 := Blk.new w #[tx q.name, .bool q.dur, .int .i64 q.depth, .int .i64 q.seq, .int .i64 q.tag, .slice ai ni ci, .slice ah nh ch] 25
  have b0 := (Below.refl w.heap.size w).alloc (Nat.le_refl _) (.cells #[tx q.name, .bool q.dur, .int .i64 q.depth, .int .i64 q.seq, .int .i64 q.tag, .slice ai ni ci, .slice ah nh ch] 25)
  unfold queV at *
  by_cases h200 : ((ni : Int) + (nh : Int)) > 200
  · obtain ⟨c0, c1, c2, c3, c4, c5, c6⟩ := k0.c7
    go_enter Tryz.func7, Tryz.ntmps7
    go_wp2
    go_ret
    exact ⟨⟨true, rfl, fun e => by cases e⟩, b0⟩
  · go_enter Tryz.func7, Tryz.ntmps7
    go_upto_region 1 with fail
    generalize w.alloc (.cells #[tx q.name, .bool q.dur, .int .i64 q.depth, .int .i64 q.seq, .int .i64 q.tag, .slice ai ni ci, .slice ah nh ch] 25) = w1 at *
    obtain ⟨c0, c1, c2, c3, c4, c5, c6⟩ := k0.c7
    have KB : Hid (Blk w1 w.heap.size #[tx q.name, .bool q.dur, .int .i64 q.depth, .int .i64 q.seq, .int .i64 q.tag, .slice ai ni ci, .slice ah nh ch] 25 ∧ Below w.heap.size w w1) := ⟨k0, b0⟩
    clear k0 b0
    go_wp2_with fail
    clear c0 c1 c2 c3 c4 c5 c6
    go_loopg [3, 5, 20] ni (fun gg s3 _ s20 wr => ∃ kk : Nat, kk ≤ ni ∧ ni - kk ≤ gg ∧ (∃ z : Int, s3 = .int .i64 z) ∧ s20 = .int .i64 kk ∧ Hid (Blk wr w.heap.size #[tx q.name, .bool q.dur, .int .i64 q.depth, .int .i64 q.seq, .int .i64 q.tag, .slice ai ni ci, .slice ah nh ch] 25 ∧ Below w.heap.size w wr))
    case atStart => exact ⟨0, Nat.zero_le _, by omega, ⟨_, rfl⟩, rfl, KB⟩
    case round =>
      obtain ⟨kk, hkk, hg, ⟨z, rfl⟩, rfl, HS⟩ := hrel
      clear KB
      by_cases hlt : kk < ni
      · have hltz : (kk : Int) < (ni : Int) := by omega
        obtain ⟨b, o, pv, rfl, hz1, hp, c0, c1, c2, c3, c4, c5, c6⟩ := itm_at HI.out HS.out.2 (i := kk) (by rw [NI.out]; exact hlt)
        generalize (zi[kk]'(by rw [NI.out]; exact hlt)).2 = x at *
        clear hz1
        obtain ⟨wr, hwr⟩ : ∃ W, W = wr := ⟨_, rfl⟩
        subst hwr
        obtain ⟨pa, pc, rfl⟩ := hp.shape
        clear hp
        generalize x.msg.props.length = np at *
        go_wp2_with (refine wpl_fresh rfl (.tmp 5) (.tmp 23) rfl _ _ rfl rfl (by kernel_rfl) rfl (by simp [Value.oneCell']) ?_)
        intro w1 k1 b1 s1
        have HS1 : Hid (Blk w1 w.heap.size #[tx q.name, .bool q.dur, .int .i64 q.depth, .int .i64 q.seq, .int .i64 q.tag, .slice (some ⟨b, o, none⟩) ni ci, .slice ah nh ch] 25 ∧ Below w.heap.size w w1) := ⟨HS.out.1.on b1, nxt HS.out.2 b1⟩
        obtain ⟨d0, d1, d2, d3, d4, d5, d6⟩ := k1.c7
        clear HS c0 c1 c2 c3 c4 c5 c6 b1
        go_wp2_with fail
        go_roundg (ni - (kk + 1))
        case measure => omega
        case rel => exact ⟨kk + 1, by omega, by omega, ⟨_, rfl⟩, by go_num, HS1⟩
      · have hltz : ¬ (kk : Int) < (ni : Int) := by omega
        obtain ⟨wr, hwr⟩ : ∃ W, W = wr := ⟨_, rfl⟩
        subst hwr
        obtain ⟨c0, c1, c2, c3, c4, c5, c6⟩ := HS.out.1.c7
        clear HI
        go_wp2_with fail
        clear c0 c1 c2 c3 c4 c5 c6
        go_loopg [3, 7, 39] nh (fun gg s3 _ s39 wy => ∃ k2 : Nat, k2 ≤ nh ∧ nh - k2 ≤ gg ∧ (∃ z : Int, s3 = .int .i64 z) ∧ s39 = .int .i64 k2 ∧ Hid (Below w.heap.size w wy))
        case atStart => exact ⟨0, Nat.zero_le _, by omega, ⟨_, rfl⟩, rfl, HS.out.2⟩
        case round =>
          obtain ⟨k2, hk2, hg2, ⟨z2, rfl⟩, rfl, HT⟩ := hrel
          clear HS
          by_cases hl2 : k2 < nh
          · have hl2z : (k2 : Int) < (nh : Int) := by omega
            obtain ⟨b, o, pv, rfl, hz1, hp, c0, c1, c2, c3, c4, c5, c6, c7, c8, c9⟩ := hld_at HH.out HT.out (i := k2) (by rw [NH.out]; exact hl2)
            generalize (zh[k2]'(by rw [NH.out]; exact hl2)).2 = x at *
            clear hz1
            obtain ⟨wt, hwt⟩ : ∃ W, W = wr := ⟨_, rfl⟩
            subst hwt
            obtain ⟨pa, pc, rfl⟩ := hp.shape
            clear hp
            generalize x.itm.msg.props.length = np at *
            go_wp2_with (refine wpl_fresh rfl (.tmp 7) (.tmp 42) rfl _ _ rfl rfl (by kernel_rfl) rfl (by simp [Value.oneCell']) ?_)
            intro w1 k1 b1 s1
            have HS1 : Hid (Below w.heap.size w w1) := nxt HT.out b1
            obtain ⟨d0, d1, d2, d3, d4, d5, d6, d7, d8, d9⟩ := k1.c10
            clear HT c0 c1 c2 c3 c4 c5 c6 c7 c8 c9 b1
            go_wp2_with fail
            go_roundg (nh - (k2 + 1))
            case measure => omega
            case rel => exact ⟨k2 + 1, by omega, by omega, ⟨_, rfl⟩, by go_num, HS1⟩
          · have hl2z : ¬ (k2 : Int) < (nh : Int) := by omega
            obtain ⟨wt, hwt⟩ : ∃ W, W = wr := ⟨_, rfl⟩
            subst hwt
            go_wp2
            go_ret
            exact ⟨⟨_, rfl, fun _ => by rw [HLQ.out]; omega⟩, HT.out⟩
end Go.Proofs.YtlbcefocmdnlgaaGreatDoor

namespace Go.Proofs.YtlbcefocmdnlgaaGreatDoor
open Go.RowKit Go.Lib
set_option maxRecDepth 100000

/-- copy into a row whose elements have several cells. -/
theorem run_copy_rowk (w : World) (dT sT ty elem : TypeId) (k : Nat) (g o dLen dCap : Nat) (a : Addr) (sLen sCap n : Nat) (cur : Array Value) (t : TypeId) (cs : List Value)
    (hu : Tryz.prog.underlying dT = some (.slice elem)) (hs : (Tryz.prog.info? elem).map (·.size) = some k)
    (hg : Blk w g cur t) (hn : Nat.min sLen dLen = n) (hl : cs.length = n * k)
    (hsrc : ∀ j v, cs[j]? = some v → w.cell? (a.add j) = some v) (hfit : o + cs.length ≤ cur.size) (h1 : ∀ v ∈ cs, v.oneCell' = true) :
    (Builtin.copy_ #[dT, sT] ty #[.slice (some ⟨g, o, none⟩) dLen dCap, .slice (some a) sLen sCap]).run Tryz.prog w =
      .ok (goInt n) (w.setRow g (cur.toList.take o ++ cs ++ cur.toList.drop (o + cs.length)).toArray) := by
  have hst := run_storeCells_at Tryz.prog g o t cs 0 cur w hg.h (by simpa using hfit) h1
  cases hq : Tryz.prog.info? elem with
  | none => simp [hq] at hs
  | some i =>
    have hi : i.size = k := by simpa [hq] using hs
    have hf := run_firstCells_some (P := Tryz.prog) w i.size n a sLen sCap cs (by rw [hi]; exact hl) hsrc
    simp only [Nat.add_zero] at hst
    simp [Builtin.copy_, run_underlying hu, Builtin.lenOf, sizeOf, typeInfo, hq, hn, hf, hst]

theorem Blk.shape {w : World} {g : Nat} {cs : Array Value} {t : TypeId} (h : Blk w g cs t) : w.shape? g = some (t, cs.size) := by
  unfold World.shape?
  rw [h.h]

/-- At the end: an append. -/
theorem insert_end (w : World) (B : Nat) (v : Value) (zs : Zs Itm) (R : List Value → Itm → Prop) (h : OwnZ 43 7 R w B v zs) (hn : zs.length ≤ 1000) (hB : B ≤ w.heap.size) (bv : Nat) (z : List Value × Itm) (hz : (z.1.length = 7 ∧ ∀ u ∈ z.1, u.oneCell' = true) ∧ R z.1 z.2) (kv : Blk w bv z.1.toArray 43) :
    Calls Tryz.prog 76 #[v, .int .i64 zs.length, .slice (some ⟨bv, 0, none⟩) 1 1] w fun e w' => ∃ v', e = .returned v' ∧ OwnZ 43 7 R w' B v' (zs ++ [z]) ∧ w.grownBy w' v.ownBlock := by
  obtain ⟨a, c, hv⟩ := h.rd.len
  have hc : zs.length ≤ c := by
    obtain ⟨_, ⟨e, h0⟩ | ⟨g, cap, cur, e, _, _, h2, _⟩⟩ := h.1
    · omega
    · rw [hv] at e
      injection e with _ _ e3
      omega
  have HR : Hid (OwnZ 43 7 R w B v zs) := h
  have HS : Hid (∀ j u, z.1[j]? = some u → w.cell? ⟨bv, j, none⟩ = some u) := fun j u hu => by rw [kv.cell j]; simpa using hu
  have HV : Hid (v = .slice a zs.length c) := hv
  obtain ⟨n, hnn⟩ : ∃ n, zs.length = n := ⟨_, rfl⟩
  rw [hv]
  rw [hnn] at hn hc ⊢
  have HN : Hid (zs.length = n) := hnn
  clear h hv hnn kv
  go_enter Tryz.func76, Tryz.ntmps76
  go_wp2_with (at_builtin; refine wpl_appI rfl (.tmp 23) (.tmp 24) rfl B (.slice a n c) zs R w rfl (by have := HR.out; rw [HV.out, HN.out] at this; exact this) bv 1 z rfl hz HS.out (by rw [HN.out]; omega) hB ?_)
  all_goals
    intro v' w' h1 h2
    go_wp2_with fail
    go_ret
    refine ⟨_, rfl, h1, ?_⟩
    cases a <;> exact h2

set_option maxHeartbeats 4000000 in
/-- There is room: in place. -/
theorem insert_room (w : World) (B : Nat) (zs : Zs Itm) (R : List Value → Itm → Prop) (g cap n i j : Nat) (cur : Array Value) (hBg : B ≤ g) (kg : Blk w g cur 43) (hm : cap ≤ maxLen) (hs : cur.size = cap * 7) (ht : cur.toList.take (zs.length * 7) = cellsZ zs) (hR : ∀ z ∈ zs, (z.1.length = 7 ∧ ∀ u ∈ z.1, u.oneCell' = true) ∧ R z.1 z.2)
    (hnn : zs.length = n) (hi : i < n) (hj : j = n + 1) (hroom : j ≤ cap) (hn : n ≤ 1000) (bv : Nat) (z : List Value × Itm) (hz : (z.1.length = 7 ∧ ∀ u ∈ z.1, u.oneCell' = true) ∧ R z.1 z.2) (kv : Blk w bv z.1.toArray 43) (hne : bv ≠ g) :
    Calls Tryz.prog 76 #[.slice (some ⟨g, 0, none⟩) n cap, .int .i64 i, .slice (some ⟨bv, 0, none⟩) 1 1] w fun e w' => ∃ v', e = .returned v' ∧ OwnZ 43 7 R w' B v' (zs.take i ++ z :: zs.drop i) ∧ w.grownBy w' (some g) := by
  have hk : ∀ y ∈ zs, y.1.length = 7 := fun y hy => (hR y hy).1.1
  have hkd : ∀ y ∈ zs.drop i, y.1.length = 7 := fun y hy => hk y (List.mem_of_mem_drop hy)
  have hdl : (cellsZ (zs.drop i)).length = (n - i) * 7 := by rw [cellsZ_len hkd, List.length_drop, hnn]
  have h1d : ∀ u ∈ cellsZ (zs.drop i), u.oneCell' = true := fun u hu => by
    obtain ⟨y, hy, hu⟩ := List.mem_flatMap.1 hu
    exact (hR y (List.mem_of_mem_drop hy)).1.2 u hu
  have hsd : ∀ t u, (cellsZ (zs.drop i))[t]? = some u → w.cell? ⟨g, i * 7 + t, none⟩ = some u := fun t u hu => by
    rw [kg.cell, ← hu, ← cellsZ_drop hk, List.getElem?_drop, ← ht]
    have ht2 : i * 7 + t < zs.length * 7 := by
      have := (List.getElem?_eq_some_iff.1 hu).1
      rw [hdl] at this
      omega
    rw [List.getElem?_take_of_lt ht2]
    simp
  have kd : Blk w.drew g cur 43 := ⟨kg.h⟩
  have kvd : Blk w.drew bv z.1.toArray 43 := ⟨kv.h⟩
  have hsz7 : (Tryz.prog.info? 43).map (·.size) = some 7 := by kernel_rfl
  have hcp1 := run_copy_rowk w.drew 22 22 3 43 7 g ((i + 1) * 7) (j - (i + 1)) (cap - (i + 1)) ⟨g, i * 7, none⟩ (j - i) (cap - i) (n - i) cur 43 (cellsZ (zs.drop i)) Tryz.underlying22 hsz7 kd (by simp only [Nat.min_def]; split <;> omega) hdl (fun t u hu => by rw [Addr.add_lit]; exact hsd t u hu) (by rw [hdl, hs]; omega) h1d
  have k1 := kd.row (cur.toList.take ((i + 1) * 7) ++ cellsZ (zs.drop i) ++ cur.toList.drop ((i + 1) * 7 + (cellsZ (zs.drop i)).length)).toArray
  have kv1 := kvd.rowO (g' := g) hne (cur.toList.take ((i + 1) * 7) ++ cellsZ (zs.drop i) ++ cur.toList.drop ((i + 1) * 7 + (cellsZ (zs.drop i)).length)).toArray
  have hsz1 : (cur.toList.take ((i + 1) * 7) ++ cellsZ (zs.drop i) ++ cur.toList.drop ((i + 1) * 7 + (cellsZ (zs.drop i)).length)).toArray.size = cap * 7 := by
    simp
    omega
  obtain ⟨W1, hW1⟩ : ∃ W1, w.drew.setRow g (cur.toList.take ((i + 1) * 7) ++ cellsZ (zs.drop i) ++ cur.toList.drop ((i + 1) * 7 + (cellsZ (zs.drop i)).length)).toArray = W1 := ⟨_, rfl⟩
  have g1 : w.grownBy W1 (some g) := by
    rw [← hW1]
    exact ⟨rfl, rfl, rfl, (grown_setRow w.drew g _).size, fun k hk hne => (grown_setRow w.drew g _).block k hk hne⟩
  rw [hW1] at k1 kv1 hcp1
  obtain ⟨C1, hC1⟩ : ∃ C1, (cur.toList.take ((i + 1) * 7) ++ cellsZ (zs.drop i) ++ cur.toList.drop ((i + 1) * 7 + (cellsZ (zs.drop i)).length)).toArray = C1 := ⟨_, rfl⟩
  rw [hC1] at k1 hsz1
  have hcp2 := run_copy_rowk W1 22 22 3 43 7 g (i * 7) (j - i) (cap - i) ⟨bv, 0, none⟩ 1 1 1 C1 43 z.1 Tryz.underlying22 hsz7 k1 (by simp only [Nat.min_def]; split <;> omega) (by rw [hz.1.1]) (fun t u hu => by rw [Addr.add_lit, Nat.zero_add, kv1.cell]; simpa using hu) (by rw [hz.1.1, hsz1]; omega) hz.1.2
  have k2 := k1.row (C1.toList.take (i * 7) ++ z.1 ++ C1.toList.drop (i * 7 + z.1.length)).toArray
  obtain ⟨W2, hW2⟩ : ∃ W2, W1.setRow g (C1.toList.take (i * 7) ++ z.1 ++ C1.toList.drop (i * 7 + z.1.length)).toArray = W2 := ⟨_, rfl⟩
  have g2 : W1.grownBy W2 (some g) := by rw [← hW2]; exact grown_setRow W1 g _
  rw [hW2] at k2 hcp2
  have hfin : OwnZ 43 7 R W2 B (.slice (some ⟨g, 0, none⟩) j cap) (zs.take i ++ z :: zs.drop i) := by
    have hlen : (zs.take i ++ z :: zs.drop i).length = j := by simp; omega
    have hks : ∀ y ∈ zs.take i ++ z :: zs.drop i, (y.1.length = 7 ∧ ∀ u ∈ y.1, u.oneCell' = true) ∧ R y.1 y.2 := fun y hy => by
      rcases List.mem_append.1 hy with hy | hy
      · exact hR y (List.mem_of_mem_take hy)
      · rcases List.mem_cons.1 hy with rfl | hy
        · exact hz
        · exact hR y (List.mem_of_mem_drop hy)
    refine ⟨⟨by rw [cellsZ_len (fun y hy => (hks y hy).1.1), hlen], .inr ⟨g, cap, _, by rw [hlen], hBg, k2.h, by omega, hm, ?_, ?_⟩⟩, hks⟩
    · have := hz.1.1
      simp
      omega
    · rw [hlen]
      have hz7 := hz.1.1
      have hci : (cur.toList.take (i * 7)).length = i * 7 := by rw [List.length_take, Array.length_toList, hs]; omega
      have e1 : C1.toList.take (i * 7) = cur.toList.take (i * 7) := by
        rw [← hC1, List.toList_toArray, List.append_assoc, List.take_append_of_le_length (by rw [List.length_take, Array.length_toList, hs]; omega), List.take_take]
        congr 1
        omega
      have e2 : (C1.toList.drop (i * 7 + z.1.length)).take ((n - i) * 7) = cellsZ (zs.drop i) := by
        have hl1 : (cur.toList.take ((i + 1) * 7)).length = i * 7 + z.1.length := by rw [List.length_take, Array.length_toList, hs, hz7]; omega
        rw [← hC1, List.toList_toArray, List.append_assoc, ← hl1, List.drop_left' rfl, ← hdl, List.take_left' rfl]
      have hl3 : j * 7 = (C1.toList.take (i * 7) ++ z.1).length + (n - i) * 7 := by rw [List.length_append, e1, hci, hz7]; omega
      rw [List.toList_toArray, hl3, List.take_append, List.take_of_length_le (by omega), show (C1.toList.take (i * 7) ++ z.1).length + (n - i) * 7 - (C1.toList.take (i * 7) ++ z.1).length = (n - i) * 7 by omega, e2, e1, cellsZ_app]
      have e3 : cur.toList.take (i * 7) = cellsZ (zs.take i) := by
        rw [← cellsZ_take hk, ← ht, List.take_take]
        congr 1
        omega
      rw [e3, List.append_assoc]
      rfl
  have hgg := gb_trans g1 g2
  have hov : ∀ lb cb, (callFunc 88 #[.slice (some ⟨bv, 0, none⟩) 1 1, .slice (some ⟨g, (i + 1) * 7, none⟩) lb cb]).run Tryz.prog w = .ok (.value (.bool false)) w := fun lb cb => by
    rw [run_callFunc_extern Tryz.func88 (by kernel_rfl) (by kernel_rfl) (by kernel_rfl) (e := Extern.SlicesOverlaps.overlaps #[22, 22] #[4]) (by kernel_rfl),
      Lib.run_overlaps_apart w 22 4 43 Tryz.underlying22 7 (fun w => by kernel_rfl) ⟨bv, 0, none⟩ ⟨g, (i + 1) * 7, none⟩ 1 1 lb cb hne 43 43 _ _ kv.shape kg.shape (by omega) (kv.frozen 0) (kv.frozen _)]
    rfl
  have HJ : Hid (j = n + 1) := hj
  have e1 : ((n : Int) + 1) = (j : Int) := by omega
  have e2 : (n : Nat) + 1 = j := hj.symm
  have hz2 : ¬ ((i : Int) = (n : Int)) := by omega
  have hz3 : ¬ ((cap : Int) < (j : Int)) := by omega
  have hi1 : i ≤ n := by omega
  have hi2 : i + 1 ≤ j := by omega
  have hi3 : ¬ (cap = i + 1) := by omega
  have hi4 : ¬ (cap = i) := by omega
  have hi5 : i ≤ j := by omega
  have hw1 : IntKind.i64.wrap ((i : Int) + 1) = (i : Int) + 1 := by rw [IntKind.wrap_i64]; omega
  have htn : ((i : Int) + 1).toNat = i + 1 := by omega
  have hb1 : (0 : Int) ≤ (i : Int) + 1 := by omega
  have hb5 : (i : Int) + 1 ≤ (j : Int) := by omega
  have hb6 : (i : Int) ≤ (j : Int) := by omega
  have HC1 : Hid ((Builtin.copy_ #[22, 22] 3 #[.slice (some ⟨g, (i + 1) * 7, none⟩) (j - (i + 1)) (cap - (i + 1)), .slice (some ⟨g, i * 7, none⟩) (j - i) (cap - i)]).run Tryz.prog w.drew = .ok (goInt ((n - i : Nat) : Int)) W1) := hcp1
  have HC2 : Hid ((Builtin.copy_ #[22, 22] 3 #[.slice (some ⟨g, i * 7, none⟩) (j - i) (cap - i), .slice (some ⟨bv, 0, none⟩) 1 1]).run Tryz.prog W1 = .ok (goInt 1) W2) := hcp2
  have mixed := hmix
  clear hcp1 hcp2 hk hkd hdl h1d hsd kd kvd k1 kv1 hsz1 hW1 hW2 hC1 k2 g1 g2 hsz7 hR ht kg kv hz hj
  go_enter Tryz.func76, Tryz.ntmps76
  go_wp2_with (simp only [hov])
  go_region_law_o (refine step_copy_runI rfl (.tmp 73) (.tmp 76) 22 22 rfl _ _ (by simp [Act.eval, Act.put]) (by simp [Act.eval, Act.put]) HC1.out ?_)
  go_wp2_with (refine wpList_copy_runI _ rfl (.tmp 80) (.tmp 81) 22 22 rfl _ _ rfl rfl HC2.out ?_)
  go_ret
  exact ⟨_, rfl, hfin, hgg⟩

set_option maxHeartbeats 4000000 in
/-- There is no room: a new row. -/
theorem insert_grow (w : World) (B : Nat) (hB : B ≤ w.heap.size) (zs : Zs Itm) (R : List Value → Itm → Prop) (g cap n i j : Nat) (cur : Array Value) (kg : Blk w g cur 43) (ht : cur.toList.take (zs.length * 7) = cellsZ zs) (hR : ∀ z ∈ zs, (z.1.length = 7 ∧ ∀ u ∈ z.1, u.oneCell' = true) ∧ R z.1 z.2)
    (hnn : zs.length = n) (hi : i < n) (hj : j = n + 1) (hroom : cap < j) (hcap : n ≤ cap) (hn : n ≤ 1000) (bv : Nat) (z : List Value × Itm) (hz : (z.1.length = 7 ∧ ∀ u ∈ z.1, u.oneCell' = true) ∧ R z.1 z.2) (kv : Blk w bv z.1.toArray 43) (row : Option Nat) :
    Calls Tryz.prog 76 #[.slice (some ⟨g, 0, none⟩) n cap, .int .i64 i, .slice (some ⟨bv, 0, none⟩) 1 1] w fun e w' => ∃ v', e = .returned v' ∧ OwnZ 43 7 R w' B v' (zs.take i ++ z :: zs.drop i) ∧ w.grownBy w' row := by
  have hk : ∀ y ∈ zs, y.1.length = 7 := fun y hy => (hR y hy).1.1
  have hkd : ∀ y ∈ zs.drop i, y.1.length = 7 := fun y hy => hk y (List.mem_of_mem_drop hy)
  have hkt : ∀ y ∈ zs.take i, y.1.length = 7 := fun y hy => hk y (List.mem_of_mem_take hy)
  have hdl : (cellsZ (zs.drop i)).length = (n - i) * 7 := by rw [cellsZ_len hkd, List.length_drop, hnn]
  have htl : (cellsZ (zs.take i)).length = i * 7 := by rw [cellsZ_len hkt, List.length_take, hnn, Nat.min_eq_left (by omega)]
  have h1d : ∀ u ∈ cellsZ (zs.drop i), u.oneCell' = true := fun u hu => by
    obtain ⟨y, hy, hu⟩ := List.mem_flatMap.1 hu
    exact (hR y (List.mem_of_mem_drop hy)).1.2 u hu
  have hsd : ∀ t u, (cellsZ (zs.drop i))[t]? = some u → w.cell? ⟨g, i * 7 + t, none⟩ = some u := fun t u hu => by
    rw [kg.cell, ← hu, ← cellsZ_drop hk, List.getElem?_drop, ← ht]
    have ht2 : i * 7 + t < zs.length * 7 := by
      have := (List.getElem?_eq_some_iff.1 hu).1
      rw [hdl] at this
      omega
    rw [List.getElem?_take_of_lt ht2]
    simp
  have hst : ∀ t u, (cellsZ (zs.take i))[t]? = some u → w.cell? ⟨g, t, none⟩ = some u := fun t u hu => by
    have ht1 : t < i * 7 := by
      have := (List.getElem?_eq_some_iff.1 hu).1
      rwa [htl] at this
    rw [kg.cell, ← hu, ← cellsZ_take hk, List.getElem?_take_of_lt ht1, ← ht, List.getElem?_take_of_lt (by omega)]
    simp
  obtain ⟨i0, hi0, hz0, hz1, hz2⟩ := info_parts info43
  have hsz7 : (Tryz.prog.info? 43).map (·.size) = some 7 := by kernel_rfl
  have hold : (Builtin.firstCells i0.size i (.slice (some ⟨g, 0, none⟩) i cap)).run Tryz.prog w.drew = .ok (cellsZ (zs.take i)).toArray w.drew := by
    rw [hz1]
    exact run_firstCells_some w.drew 7 i ⟨g, 0, none⟩ i cap (cellsZ (zs.take i)) htl (fun t u hu => by
      rw [Addr.add_lit, Nat.zero_add]
      exact hst t u hu)
  have hkk : i + (j - i) = j := by omega
  have hrz := Lib.run_append_grow_zeros (P := Tryz.prog) w 22 3 22 43 i0 _ .i64 .i64 Tryz.underlying22 under3 hi0 hz0 (some ⟨g, 0, none⟩) i cap (cellsZ (zs.take i)) hold (j - i) (by omega) (by rw [hz1]; omega) (by omega) (by omega) (by rw [hz2]; omega) (by rw [hz2, hkk]; exact growslice_fits hroom (by omega))
  rw [hkk] at hrz
  obtain ⟨G, hG⟩ : ∃ G, grownCap w j cap 43 = G := ⟨_, rfl⟩
  have hGn : j ≤ G := by rw [← hG]; exact grownCap_ge w _ _ _
  have hGm : G ≤ maxLen := by rw [← hG]; exact grownCap_le_maxLen w j cap 43 (by unfold maxLen; omega)
  rw [hG] at hrz
  have hzc : (Value.agg #[.int .i64 0, .bool false, .string ⟨#[]⟩, .string ⟨#[]⟩, .slice none 0 0, .bool false, .int .i64 0]).cells.size = 7 := rfl
  obtain ⟨ROW, hROW⟩ : ∃ ROW : Array Value, (cellsZ (zs.take i)).toArray ++ Builtin.zeroCells (Value.agg #[.int .i64 0, .bool false, .string ⟨#[]⟩, .string ⟨#[]⟩, .slice none 0 0, .bool false, .int .i64 0]).cells (j - i) ++ Builtin.zeroCells (Value.agg #[.int .i64 0, .bool false, .string ⟨#[]⟩, .string ⟨#[]⟩, .slice none 0 0, .bool false, .int .i64 0]).cells (G - j) = ROW := ⟨_, rfl⟩
  rw [hROW] at hrz
  have hRs : ROW.size = G * 7 := by
    rw [← hROW]
    simp only [Array.size_append, Builtin.zeroCells, Array.size_map, Array.size_range, hzc, List.size_toArray, htl]
    omega
  have hRt : ROW.toList.take (i * 7) = cellsZ (zs.take i) := by
    rw [← hROW, Array.toList_append, Array.toList_append, List.toList_toArray, List.append_assoc, ← htl, List.take_left' rfl]
  have kN : Blk (w.drew.alloc (.cells ROW 43)) w.heap.size ROW 43 := Blk.new w.drew ROW 43
  have bN : Below w.heap.size w (w.drew.alloc (.cells ROW 43)) := (Below.refl w.heap.size w).drew.alloc (Nat.le_refl _) _
  have hvlt := kv.lt
  have hglt := kg.lt
  have kvN := kv.on bN
  have kgN := kg.on bN
  have hsd2 : ∀ t u, (cellsZ (zs.drop i))[t]? = some u → (w.drew.alloc (.cells ROW 43)).cell? ⟨g, i * 7 + t, none⟩ = some u := fun t u hu => by rw [kgN.cell, ← kg.cell]; exact hsd t u hu
  obtain ⟨W1, hW1⟩ : ∃ W1, w.drew.alloc (.cells ROW 43) = W1 := ⟨_, rfl⟩
  rw [hW1] at hrz kN bN kvN kgN hsd2
  have hcpA := run_copy_rowk W1 22 22 3 43 7 w.heap.size (i * 7) (j - i) (G - i) ⟨bv, 0, none⟩ 1 1 1 ROW 43 z.1 Tryz.underlying22 hsz7 kN (by simp only [Nat.min_def]; split <;> omega) (by rw [hz.1.1]) (fun t u hu => by rw [Addr.add_lit, Nat.zero_add, kvN.cell]; simpa using hu) (by rw [hz.1.1, hRs]; omega) hz.1.2
  have kA := kN.row (ROW.toList.take (i * 7) ++ z.1 ++ ROW.toList.drop (i * 7 + z.1.length)).toArray
  have kgA := kgN.rowO (g' := w.heap.size) (by omega) (ROW.toList.take (i * 7) ++ z.1 ++ ROW.toList.drop (i * 7 + z.1.length)).toArray
  have bA := below_setRow bN (Nat.le_refl _) (ROW.toList.take (i * 7) ++ z.1 ++ ROW.toList.drop (i * 7 + z.1.length)).toArray
  have hsA : (ROW.toList.take (i * 7) ++ z.1 ++ ROW.toList.drop (i * 7 + z.1.length)).toArray.size = G * 7 := by
    have := hz.1.1
    simp
    omega
  obtain ⟨W2, hW2⟩ : ∃ W2, W1.setRow w.heap.size (ROW.toList.take (i * 7) ++ z.1 ++ ROW.toList.drop (i * 7 + z.1.length)).toArray = W2 := ⟨_, rfl⟩
  rw [hW2] at hcpA kA kgA bA
  obtain ⟨C1, hC1⟩ : ∃ C1, (ROW.toList.take (i * 7) ++ z.1 ++ ROW.toList.drop (i * 7 + z.1.length)).toArray = C1 := ⟨_, rfl⟩
  rw [hC1] at kA hsA
  have kA' : Blk W2.drew w.heap.size C1 43 := ⟨kA.h⟩
  have kgA' : Blk W2.drew g cur 43 := ⟨kgA.h⟩
  have hcpB := run_copy_rowk W2.drew 22 22 3 43 7 w.heap.size ((i + 1) * 7) (j - (i + 1)) (G - (i + 1)) ⟨g, i * 7, none⟩ (n - i) (cap - i) (n - i) C1 43 (cellsZ (zs.drop i)) Tryz.underlying22 hsz7 kA' (by simp only [Nat.min_def]; split <;> omega) hdl (fun t u hu => by rw [Addr.add_lit, kgA'.cell, ← kg.cell]; exact hsd t u hu) (by rw [hdl, hsA]; omega) h1d
  have kB := kA'.row (C1.toList.take ((i + 1) * 7) ++ cellsZ (zs.drop i) ++ C1.toList.drop ((i + 1) * 7 + (cellsZ (zs.drop i)).length)).toArray
  have bB := below_setRow bA.drew (Nat.le_refl _) (C1.toList.take ((i + 1) * 7) ++ cellsZ (zs.drop i) ++ C1.toList.drop ((i + 1) * 7 + (cellsZ (zs.drop i)).length)).toArray
  obtain ⟨W3, hW3⟩ : ∃ W3, W2.drew.setRow w.heap.size (C1.toList.take ((i + 1) * 7) ++ cellsZ (zs.drop i) ++ C1.toList.drop ((i + 1) * 7 + (cellsZ (zs.drop i)).length)).toArray = W3 := ⟨_, rfl⟩
  rw [hW3] at hcpB kB bB
  have hfin : OwnZ 43 7 R W3 B (.slice (some ⟨w.heap.size, 0, none⟩) j G) (zs.take i ++ z :: zs.drop i) := by
    have hlen : (zs.take i ++ z :: zs.drop i).length = j := by simp; omega
    have hks : ∀ y ∈ zs.take i ++ z :: zs.drop i, (y.1.length = 7 ∧ ∀ u ∈ y.1, u.oneCell' = true) ∧ R y.1 y.2 := fun y hy => by
      rcases List.mem_append.1 hy with hy | hy
      · exact hR y (List.mem_of_mem_take hy)
      · rcases List.mem_cons.1 hy with rfl | hy
        · exact hz
        · exact hR y (List.mem_of_mem_drop hy)
    refine ⟨⟨by rw [cellsZ_len (fun y hy => (hks y hy).1.1), hlen], .inr ⟨w.heap.size, G, _, by rw [hlen], hB, kB.h, by rw [hlen]; exact hGn, hGm, ?_, ?_⟩⟩, hks⟩
    · simp
      omega
    · rw [hlen]
      have hz7 := hz.1.1
      have e1 : C1.toList.take ((i + 1) * 7) = cellsZ (zs.take i) ++ z.1 := by
        have hl : (i + 1) * 7 = (cellsZ (zs.take i) ++ z.1).length := by rw [List.length_append, htl, hz7]; omega
        rw [← hC1, List.toList_toArray, hRt, hl, List.take_left' rfl]
      have hl3 : j * 7 = (cellsZ (zs.take i) ++ z.1 ++ cellsZ (zs.drop i)).length := by rw [List.length_append, List.length_append, htl, hz7, hdl]; omega
      rw [List.toList_toArray, e1, hl3, List.take_left' rfl, cellsZ_app, List.append_assoc]
      rfl
  have hgg : w.grownBy W3 row := gb_below bB row
  have e1 : ((n : Int) + 1) = (j : Int) := by omega
  have e3 : ((j : Int) - (i : Int)) = ((j - i : Nat) : Int) := by omega
  have hz2' : ¬ ((i : Int) = (n : Int)) := by omega
  have hz3 : ((cap : Int) < (j : Int)) := by omega
  have hi1 : i ≤ n := by omega
  have hi2 : i + 1 ≤ j := by omega
  have hi3 : ¬ (G = i + 1) := by omega
  have hi4 : ¬ (G = i) := by omega
  have hi5 : i ≤ j := by omega
  have hi6 : ¬ (cap = i) := by omega
  have hi7 : i ≤ cap := by omega
  have hw1 : IntKind.i64.wrap ((i : Int) + 1) = (i : Int) + 1 := by rw [IntKind.wrap_i64]; omega
  have htn : ((i : Int) + 1).toNat = i + 1 := by omega
  have hb1 : (0 : Int) ≤ (i : Int) + 1 := by omega
  have hb5 : (i : Int) + 1 ≤ (j : Int) := by omega
  have hb6 : (i : Int) ≤ (j : Int) := by omega
  have HC1 : Hid ((Builtin.append_ #[22, 3] 22 #[.slice (some ⟨g, 0, none⟩) i cap, .int .i64 ((j - i : Nat) : Int)]).run Tryz.prog w = .ok (.slice (some ⟨w.heap.size, 0, none⟩) j G) W1) := hrz
  have HC2 : Hid ((Builtin.copy_ #[22, 22] 3 #[.slice (some ⟨w.heap.size, i * 7, none⟩) (j - i) (G - i), .slice (some ⟨bv, 0, none⟩) 1 1]).run Tryz.prog W1 = .ok (goInt 1) W2) := hcpA
  have HC3 : Hid ((Builtin.copy_ #[22, 22] 3 #[.slice (some ⟨w.heap.size, (i + 1) * 7, none⟩) (j - (i + 1)) (G - (i + 1)), .slice (some ⟨g, i * 7, none⟩) (n - i) (cap - i)]).run Tryz.prog W2.drew = .ok (goInt ((n - i : Nat) : Int)) W3) := hcpB
  have mixed := hmix
  clear hrz hcpA hcpB hk hkd hkt hdl htl h1d hsd hst hold hkk hROW hRs hRt kN bN kvN kgN hsd2 kA kgA bA hsA hC1 kA' kgA' kB bB hW1 hW2 hW3 hsz7 hR ht kg kv hz hj hG hzc hvlt hglt
  go_enter Tryz.func76, Tryz.ntmps76
  go_wp2_with (first | (refine Lib.wpList_append_run _ rfl (.tmp 34) (.tmp 39) 22 3 rfl _ _ rfl rfl _ _ HC1.out ?_) | (refine wpList_copy_runI _ rfl (.tmp 43) (.tmp 44) 22 22 rfl _ _ rfl rfl HC2.out ?_))
  go_region_law_o (refine step_copy_runI rfl (.tmp 50) (.tmp 53) 22 22 rfl _ _ (by simp [Act.eval, Act.put]) (by simp [Act.eval, Act.put]) HC3.out ?_)
  go_wp2
  go_ret
  exact ⟨_, rfl, hfin, hgg⟩

theorem insert_any (w : World) (B : Nat) (hB : B ≤ w.heap.size) (v : Value) (zs : Zs Itm) (R : List Value → Itm → Prop) (h : OwnZ 43 7 R w B v zs) (i : Nat) (hi : i ≤ zs.length) (hn : zs.length ≤ 1000) (bv : Nat) (z : List Value × Itm) (hz : (z.1.length = 7 ∧ ∀ u ∈ z.1, u.oneCell' = true) ∧ R z.1 z.2) (kv : Blk w bv z.1.toArray 43) (hne : v.ownBlock ≠ some bv) :
    Calls Tryz.prog 76 #[v, .int .i64 i, .slice (some ⟨bv, 0, none⟩) 1 1] w fun e w' => ∃ v', e = .returned v' ∧ OwnZ 43 7 R w' B v' (zs.take i ++ z :: zs.drop i) ∧ w.grownBy w' v.ownBlock := by
  by_cases he : i = zs.length
  · subst he
    refine (insert_end w B v zs R h hn hB bv z hz kv).mono ?_
    rintro e w' ⟨v', rfl, h1, h2⟩
    refine ⟨v', rfl, ?_, h2⟩
    rw [List.take_length, List.drop_length]
    exact h1
  · obtain ⟨g, cap, cur, rfl, hBg, kg, hc, hm, hs, ht⟩ := ownI_some h (by omega)
    have hne' : bv ≠ g := fun e => hne (by rw [e]; rfl)
    by_cases hr : zs.length + 1 ≤ cap
    · exact insert_room w B zs R g cap zs.length i (zs.length + 1) cur hBg kg hm hs ht h.2 rfl (by omega) rfl hr hn bv z hz kv hne'
    · exact insert_grow w B hB zs R g cap zs.length i (zs.length + 1) cur kg ht h.2 rfl (by omega) rfl (by omega) hc hn bv z hz kv (some g)
end Go.Proofs.YtlbcefocmdnlgaaGreatDoor

namespace Go.Proofs.YtlbcefocmdnlgaaGreatDoor
open Go.RowKit Go.Lib
set_option maxRecDepth 100000

theorem tw_take {α : Type} (p : α → Bool) : ∀ l : List α, l.take (l.takeWhile p).length = l.takeWhile p ∧ l.drop (l.takeWhile p).length = l.dropWhile p
  | [] => ⟨rfl, rfl⟩
  | x :: l => by
    cases e : p x with
    | true =>
      rw [List.takeWhile_cons_of_pos e, List.dropWhile_cons_of_pos e]
      simp [(tw_take p l).1, (tw_take p l).2]
    | false =>
      rw [List.takeWhile_cons_of_neg (by simp [e]), List.dropWhile_cons_of_neg (by simp [e])]
      simp
theorem putB_split (l : List Itm) (x : Itm) : putB l x = l.take (posB l x.seq) ++ { x with again := true } :: l.drop (posB l x.seq) := by
  unfold putB posB
  rw [(tw_take _ l).1, (tw_take _ l).2]

set_option maxHeartbeats 2000000 in
theorem putBack_any (w : World) (B : Nat) (hB : B ≤ w.heap.size) (v : Value) (zs : Zs Itm) (h : OwnZ 43 7 (ItR (OwnP w B)) w B v zs) (hr : Rises (zs.map (·.2))) (hn : zs.length ≤ 1000) (x : Itm) (pv : Value) (hp : OwnP w B pv x.msg.props) :
    Calls Tryz.prog 54 #[v, .agg (itmV x pv).toArray] w fun e w' => ∃ v', e = .returned v' ∧ OwnI w' B v' (putB (zs.map (·.2)) x) ∧ w.grownBy w' v.ownBlock := by
  obtain ⟨a, c, hv⟩ := h.rd.len
  obtain ⟨pa, pc, rfl⟩ := hp.shape
  obtain ⟨pn, hpn⟩ : ∃ pn, x.msg.props.length = pn := ⟨_, rfl⟩
  have HX : Hid (x.msg.props.length = pn) := hpn
  rw [hpn] at hp ⊢
  clear hpn
  obtain ⟨n, hnn⟩ : ∃ n, zs.length = n := ⟨_, rfl⟩
  rw [hnn] at hv hn
  have HN : Hid (zs.length = n) := hnn
  subst hv
  have b1 := (Below.refl w.heap.size w).alloc (Nat.le_refl _) (.cells #[.int .i64 x.seq, .bool true, tx x.msg.topic, tx x.msg.body, .slice pa pn pc, .bool x.msg.dur, .int .i64 x.msg.til] 43)
  have k1 := Blk.new w #[.int .i64 x.seq, .bool true, tx x.msg.topic, tx x.msg.body, .slice pa pn pc, .bool x.msg.dur, .int .i64 x.msg.til] 43
  have h1 : OwnZ 43 7 (ItR (OwnP (w.alloc (.cells #[.int .i64 x.seq, .bool true, tx x.msg.topic, tx x.msg.body, .slice pa pn pc, .bool x.msg.dur, .int .i64 x.msg.til] 43)) B)) (w.alloc (.cells #[.int .i64 x.seq, .bool true, tx x.msg.topic, tx x.msg.body, .slice pa pn pc, .bool x.msg.dur, .int .i64 x.msg.til] 43)) B (.slice a n c) zs := (h.keep (.of_below b1)).imp fun _ _ h => h.keep (.of_below b1)
  have hp1 := hp.keep (.of_below b1)
  have hbl : (Value.slice a n c).ownBlock ≠ some w.heap.size := fun e => by
    have := (World.ownsRow.lt h.1 _ e).2
    omega
  unfold itmV
  go_enter Tryz.func54, Tryz.ntmps54
  go_upto_region 2 with fail
  generalize w.alloc (.cells #[.int .i64 x.seq, .bool true, tx x.msg.topic, tx x.msg.body, .slice pa pn pc, .bool x.msg.dur, .int .i64 x.msg.til] 43) = w1 at *
  have hsr := search_any w1 a n c zs (h1.rd.imp fun _ _ h => h.rd) hnn (by omega) hr x.seq
  obtain ⟨wz, hwz⟩ : ∃ z, w.heap.size = z := ⟨_, rfl⟩
  have HWZ : Hid (w.heap.size = wz) := hwz
  rw [hwz] at k1 hbl ⊢
  have hpos := posB_le (zs.map (·.2)) x.seq
  rw [List.length_map, hnn] at hpos
  have EP := putB_split (zs.map (·.2)) x
  generalize posB (zs.map (·.2)) x.seq = ps at *
  have EP2 : Hid (putB (zs.map (·.2)) x = (zs.map (·.2)).take ps ++ { x with again := true } :: (zs.map (·.2)).drop ps) := EP
  obtain ⟨c0, c1, c2, c3, c4, c5, c6⟩ := k1.c7
  clear h hnn hwz EP hr
  go_wp2_with fail
  refine hsr.mono ?_
  rintro e w2 ⟨⟨bb, rfl⟩, b2⟩
  have k2 := k1.on b2
  have h2 : OwnZ 43 7 (ItR (OwnP w2 B)) w2 B (.slice a n c) zs := (h1.keep (.of_below b2)).imp fun _ _ h => h.keep (.of_below b2)
  have hp2 := hp1.keep (.of_below b2)
  have b02 : w.grownBy w2 (Value.slice a n c).ownBlock := gb_trans (gb_below b1 _) (gb_below b2 _)
  have b3 := (Below.refl w2.heap.size w2).alloc (Nat.le_refl _) (.cells #[.int .i64 x.seq, .bool true, tx x.msg.topic, tx x.msg.body, .slice pa pn pc, .bool x.msg.dur, .int .i64 x.msg.til] 43)
  have kv := Blk.new w2 #[.int .i64 x.seq, .bool true, tx x.msg.topic, tx x.msg.body, .slice pa pn pc, .bool x.msg.dur, .int .i64 x.msg.til] 43
  have h3 : OwnZ 43 7 (ItR (OwnP (w2.alloc (.cells #[.int .i64 x.seq, .bool true, tx x.msg.topic, tx x.msg.body, .slice pa pn pc, .bool x.msg.dur, .int .i64 x.msg.til] 43)) B)) (w2.alloc (.cells #[.int .i64 x.seq, .bool true, tx x.msg.topic, tx x.msg.body, .slice pa pn pc, .bool x.msg.dur, .int .i64 x.msg.til] 43)) B (.slice a n c) zs := (h2.keep (.of_below b3)).imp fun _ _ h => h.keep (.of_below b3)
  have hp3 := hp2.keep (.of_below b3)
  have hsz : B ≤ (w2.alloc (.cells #[.int .i64 x.seq, .bool true, tx x.msg.topic, tx x.msg.body, .slice pa pn pc, .bool x.msg.dur, .int .i64 x.msg.til] 43)).heap.size := Nat.le_trans hB (Nat.le_trans b02.size b3.size)
  have hin := insert_any _ B hsz _ zs _ h3 ps (by rw [HN.out]; exact hpos) (by rw [HN.out]; exact hn) w2.heap.size (itmV { x with again := true } (.slice pa pn pc), { x with again := true }) ⟨itmV_one _ rfl, .slice pa pn pc, rfl, hp3⟩ kv (fun e => by have := (World.ownsRow.lt h2.1 _ e).2; omega)
  have b03 := gb_trans b02 (gb_below b3 _)
  have ho3 : OwnZ 43 7 (ItR (OwnP (w2.alloc (.cells #[.int .i64 x.seq, .bool true, tx x.msg.topic, tx x.msg.body, .slice pa pn pc, .bool x.msg.dur, .int .i64 x.msg.til] 43)) B)) (w2.alloc (.cells #[.int .i64 x.seq, .bool true, tx x.msg.topic, tx x.msg.body, .slice pa pn pc, .bool x.msg.dur, .int .i64 x.msg.til] 43)) B (.slice a n c) zs := h3
  clear hsr h1 hp1 b1 k1 c0 c1 c2 c3 c4 c5 c6 h2 hp2 b2 b02 hp3 hsz kv b3
  go_wp2_with (refine wpl_load43 rfl (.tmp 3) rfl _ _ rfl k2 rfl ?_)
  refine hin.mono ?_
  rintro e w4 ⟨v4, rfl, o4, g4⟩
  have t54 : Kt 54 _ w4 := Kt.of_grown ho3.1 g4 (by decide)
  go_wp2
  go_ret
  refine ⟨_, rfl, ⟨_, ?_, o4.imp fun _ _ h => h.keep t54⟩, gb_trans b03 g4⟩
  rw [EP2.out, List.map_append, List.map_cons, List.map_take, List.map_drop]
end Go.Proofs.YtlbcefocmdnlgaaGreatDoor

namespace Go.Proofs.YtlbcefocmdnlgaaGreatDoor
open Go.RowKit Go.Lib
set_option maxRecDepth 100000
set_option linter.unusedSimpArgs false

theorem OwnZ.cellsAt {α : Type} {e k : Nat} {R : List Value → α → Prop} {w : World} {B g cap n : Nat} {zs : Zs α} (h : OwnZ e k R w B (.slice (some ⟨g, 0, none⟩) n cap) zs) {i : Nat} (hi : i < zs.length) :
    ∀ j u, (zs[i].1)[j]? = some u → w.cell? ⟨g, i * k + j, none⟩ = some u := fun j u hu => by
  have := h.rd.cells hi j u hu
  rwa [Nat.zero_add] at this
theorem e52 : ∀ args w, (callFunc 52 args).run Tryz.prog w = .ok (.enter 52 args) w := fun args w => by go_simp
theorem clos52 (W : World) (g1 g2 : Nat) (conn tag : Int) (k1 : Blk W g1 #[.int .i64 conn] 3) (k2 : Blk W g2 #[.int .i64 tag] 3) (x : Hld) (pv : Value) :
    Calls Tryz.prog 52 #[.agg (hldV x pv).toArray, .pointer (some ⟨g1, 0, none⟩), .pointer (some ⟨g2, 0, none⟩)] W fun e W' => e = .returned (.bool (isH conn tag x)) ∧ Below W.heap.size W W' := by
  unfold hldV isH
  have b1 := (Below.refl W.heap.size W).alloc (Nat.le_refl _) (.cells #[.int .i64 x.tag, .int .i64 x.conn, .int .i64 x.sub, .int .i64 x.itm.seq, .bool x.itm.again, tx x.itm.msg.topic, tx x.itm.msg.body, pv, .bool x.itm.msg.dur, .int .i64 x.itm.msg.til] 61)
  have kx := Blk.new W #[.int .i64 x.tag, .int .i64 x.conn, .int .i64 x.sub, .int .i64 x.itm.seq, .bool x.itm.again, tx x.itm.msg.topic, tx x.itm.msg.body, pv, .bool x.itm.msg.dur, .int .i64 x.itm.msg.til] 61
  have d1 := (k1.on b1).cell 0
  have d2 := (k2.on b1).cell 0
  simp only [List.getElem?_toArray, List.getElem?_cons_zero] at d1 d2
  go_enter Tryz.func52, Tryz.ntmps52
  go_upto_region 1 with fail
  generalize W.alloc (.cells #[.int .i64 x.tag, .int .i64 x.conn, .int .i64 x.sub, .int .i64 x.itm.seq, .bool x.itm.again, tx x.itm.msg.topic, tx x.itm.msg.body, pv, .bool x.itm.msg.dur, .int .i64 x.itm.msg.til] 61) = W1 at *
  obtain ⟨c0, c1, c2, c3, c4, c5, c6, c7, c8, c9⟩ := kx.c10
  by_cases h1 : x.conn = conn <;> by_cases h2 : x.tag = tag
  all_goals
    go_wp2
    go_ret
    exact ⟨ret_b (by simp [h1, h2]), b1⟩

structure SeS (w W : World) (qs : Array Value) (a b : Int) : Prop where
  q : Blk W w.heap.size qs 25
  a : Blk W (w.heap.size + 1) #[.int .i64 a] 3
  t : Blk W (w.heap.size + 2) #[.int .i64 b] 3
  r : Blk W (w.heap.size + 3) #[.string ⟨#[]⟩, .bool false, .int .i64 0, .int .i64 0, .int .i64 0, .slice none 0 0, .slice none 0 0] 25
  b : Below w.heap.size w W
theorem SeS.on {w W W' : World} {qs : Array Value} {a b : Int} (h : SeS w W qs a b) (hb : Below W.heap.size W W') : SeS w W' qs a b := ⟨h.q.on hb, h.a.on hb, h.t.on hb, h.r.on hb, nxt h.b hb⟩
theorem SeS.start (w : World) (qs : Array Value) (a b : Int) : SeS w ((((w.alloc (.cells qs 25)).alloc (.cells #[.int .i64 a] 3)).alloc (.cells #[.int .i64 b] 3)).alloc (.cells #[.string ⟨#[]⟩, .bool false, .int .i64 0, .int .i64 0, .int .i64 0, .slice none 0 0, .slice none 0 0] 25)) qs a b := by
  refine ⟨(((Blk.new _ _ _).alloc _).alloc _).alloc _, ?_, ?_, ?_, ((((Below.refl _ w).alloc (Nat.le_refl _) _).alloc (by simp) _).alloc (by simp; omega) _).alloc (by simp; omega) _⟩
  · have := ((Blk.new (w.alloc (.cells qs 25)) #[.int .i64 a] 3).alloc (.cells #[.int .i64 b] 3)).alloc (.cells #[.string ⟨#[]⟩, .bool false, .int .i64 0, .int .i64 0, .int .i64 0, .slice none 0 0, .slice none 0 0] 25)
    rwa [World.size_alloc] at this
  · have := (Blk.new ((w.alloc (.cells qs 25)).alloc (.cells #[.int .i64 a] 3)) #[.int .i64 b] 3).alloc (.cells #[.string ⟨#[]⟩, .bool false, .int .i64 0, .int .i64 0, .int .i64 0, .slice none 0 0, .slice none 0 0] 25)
    rwa [World.size_alloc, World.size_alloc] at this
  · have := Blk.new (((w.alloc (.cells qs 25)).alloc (.cells #[.int .i64 a] 3)).alloc (.cells #[.int .i64 b] 3)) #[.string ⟨#[]⟩, .bool false, .int .i64 0, .int .i64 0, .int .i64 0, .slice none 0 0, .slice none 0 0] 25
    rwa [World.size_alloc, World.size_alloc, World.size_alloc] at this

set_option maxHeartbeats 4000000 in
theorem settle_any (w : World) (hva : To.Vars w) (v : Value) (q : Que) (h : RdQ w v q) (conn tag : Int) (again : Bool) (hbig : lenQ q ≤ 1000000) :
    Calls Tryz.prog 28 #[v, .int .i64 conn, .int .i64 tag, .bool again] w fun e w' => ∃ v', e = .returned (.tuple #[v', .int .i64 (settleC q conn tag)]) ∧ OwnQ w' w.heap.size v' (if settleC q conn tag = 0 then settleQ q conn tag again else zeroQ) ∧ Below w.heap.size w w' := by
  have hR := h
  obtain ⟨iv, hv, rfl, hi, hh⟩ := h
  have OI : ∃ a c, iv = .slice a q.items.length c := hi.len
  have OH : ∃ a c, hv = .slice a q.held.length c := hh.len
  have HH : Hid (RdH w hv q.held) := hh
  clear hi hh
  have HG : ∀ W, Below w.heap.size w W → Calls Tryz.prog 13 #[queV q iv hv] W fun e w' => e = .returned (.bool (goodQ q)) ∧ Below W.heap.size W w' := fun W b => good_any W (hva.below b) _ q (hR.on b) hbig
  have S0 := SeS.start w #[tx q.name, .bool q.dur, .int .i64 q.depth, .int .i64 q.seq, .int .i64 q.tag, iv, hv] conn tag
  unfold queV at *
  go_enter Tryz.func28, Tryz.ntmps28
  go_upto_region 1 with fail
  generalize (((w.alloc (.cells #[tx q.name, .bool q.dur, .int .i64 q.depth, .int .i64 q.seq, .int .i64 q.tag, iv, hv] 25)).alloc (.cells #[.int .i64 conn] 3)).alloc (.cells #[.int .i64 tag] 3)).alloc (.cells #[.string ⟨#[]⟩, .bool false, .int .i64 0, .int .i64 0, .int .i64 0, .slice none 0 0, .slice none 0 0] 25) = w1 at *
  go_wp2_with (refine wpl_load25 rfl (.tmp 4) rfl _ _ rfl S0.q rfl ?_)
  refine (HG _ S0.b).mono ?_
  rintro e w2 ⟨rfl, b2⟩
  have S2 := S0.on b2
  clear S0 b2
  cases hg : goodQ q with
  | false =>
    have e0 : settleC q conn tag = 1 := by simp [settleC, hg]
    go_wp2_with (refine wpl_put rfl (.tmp 8) (.tmp 15) rfl _ _ rfl rfl S2.r (by kernel_rfl) rfl (by simp [Value.oneCell']) ?_)
    intro W' k' g' s'
    go_wp2_with fail
    refine ret25t rfl k' rfl rfl rfl ⟨_, rfl, own_zero _ _, S2.b.grown g' S2.b.size (fun k hk => by injection hk with hk; omega)⟩
  | true =>
    obtain ⟨hsm, hl64, _, _, hq1, hq2⟩ := goodQ_small hg
    obtain ⟨zh, ezh, hzh⟩ := HH.out.on S2.b
    have hx := indexH_own w2 none hv zh (RdP w2) (fun _ _ h => h.shape) hzh (by have := hsm.held; rw [← ezh, List.length_map] at this; omega) 52 #[.pointer (some ⟨w.heap.size + 1, 0, none⟩), .pointer (some ⟨w.heap.size + 2, 0, none⟩)] e52 (isH conn tag) (fun x pv W hgw => clos52 W _ _ conn tag (S2.a.grown hgw (by simp)) (S2.t.grown hgw (by simp)) x pv)
    have ef : zh.findIdx (fun z : List Value × Hld => isH conn tag z.2) = q.held.findIdx (isH conn tag) := by
      rw [← ezh, List.findIdx_map]
      rfl
    have el : zh.length = q.held.length := by rw [← ezh, List.length_map]
    rw [ef, el] at hx
    clear hzh ezh ef el
    obtain ⟨c0, c1, c2, c3, c4, c5, c6⟩ := S2.q.c7
    by_cases hK : q.held.findIdx (isH conn tag) < q.held.length
    · rw [if_pos hK] at hx
      have e0 : settleC q conn tag = 0 := by simp [settleC, hg, hK]
      obtain ⟨K, hKK⟩ : ∃ K, q.held.findIdx (isH conn tag) = K := ⟨_, rfl⟩
      have HKE : Hid (q.held.findIdx (isH conn tag) = K) := hKK
      rw [hKK] at hx hK
      clear hKK
      go_wp2_with fail
      refine hx.mono ?_
      rintro e w3 ⟨rfl, b3⟩
      have S3 := S2.on b3
      have hcp := copy_any w3 _ q (hR.on S3.b) hsm
      unfold queV at hcp
      have hKz : ¬ ((K : Int) < 0) := by omega
      clear hx S2 b3 c0 c1 c2 c3 c4 c5 c6
      go_wp2_with (refine wpl_load25 rfl (.tmp 4) rfl _ _ rfl S3.q rfl ?_)
      refine hcp.mono ?_
      rintro e w5 ⟨v5, rfl, ⟨iv5, hv5, rfl, oi5, oh5⟩, b5⟩
      obtain ⟨ai5, ci5, rfl⟩ := oi5.rd.len
      obtain ⟨zs, ezs, hzs'⟩ := oh5
      have hzl : zs.length = q.held.length := by rw [← ezs, List.length_map]
      have hz0 : K < zs.length := by omega
      have hz1000 : zs.length ≤ 1000 := by have := hsm.held; omega
      clear hzl
      obtain ⟨g, cap, cur, hgv, hg4, hgb, _⟩ := ownH_some hzs' (by omega)
      subst hgv
      have hzs : OwnZ 61 10 (HeR (OwnP w5 w.heap.size)) w5 w.heap.size (.slice (some ⟨g, 0, none⟩) zs.length cap) zs := (hzs'.low S3.b.size).imp fun _ _ h => h.low S3.b.size
      have oi6 := oi5.low S3.b.size
      have S5 := S3.on b5
      have HX : Hid ((q.held.getD K zeroH) = (zs[K]).2) := by
        show q.held.getD K zeroH = _
        rw [← ezs, getD_at (by rw [List.length_map]; exact hz0), List.getElem_map]
      obtain ⟨hk0, pv0, hv0, hp0⟩ := hzs.2 (zs[K]) (List.getElem_mem hz0)
      have HZ : Hid (zs.map (·.2) = q.held) := ezs
      clear hcp S3 b5 hzs' hgb hg4 oi5 ezs
      generalize hxx : (zs[K]).2 = x at *
      obtain ⟨pa0, pc0, rfl⟩ := hp0.shape
      generalize q.items.length = ni at *
      unfold queV
      go_wp2_with (refine wpl_put rfl (.tmp 4) (.tmp 24) rfl _ _ rfl rfl S5.q (by kernel_rfl) rfl (by simp [Value.oneCell']) ?_)
      intro w6 k6 g6 s6
      have r6 := S5.r.grown g6 (fun e => by injection e with e; omega)
      have b6 := S5.b.grown g6 S5.b.size (fun k hk => by injection hk with hk; omega)
      have t54 : Kt 54 w5 w6 := kt_grown S5.q g6 (by decide)
      have hzs6 : OwnZ 61 10 (HeR (OwnP w6 w.heap.size)) w6 w.heap.size (.slice (some ⟨g, 0, none⟩) zs.length cap) zs := (hzs.keep (kt_grown S5.q g6 (by decide))).imp fun _ _ h => h.keep t54
      have oi7 := oi6.keep (kt_grown S5.q g6 (by decide)) t54
      have hp6 := hp0.keep t54
      clear S5 hzs oi6 hp0 g6 s6 t54
      have hcell := hzs6.cellsAt hz0
      rw [hv0] at hcell
      have a3 := hcell 3 _ rfl
      have a4 := hcell 4 _ rfl
      have a5 := hcell 5 _ rfl
      have a6 := hcell 6 _ rfl
      have a7 := hcell 7 _ rfl
      have a8 := hcell 8 _ rfl
      have a9 := hcell 9 _ rfl
      clear hcell
      obtain ⟨c0, c1, c2, c3, c4, c5, c6⟩ := k6.c7
      obtain ⟨nz, hnz⟩ : ∃ nz, zs.length = nz := ⟨_, rfl⟩
      have NZ : Hid (zs.length = nz) := hnz
      rw [hnz] at hzs6 c6 k6 hz0 hz1000 ⊢
      have hz0z : (K : Int) < (nz : Int) := by omega
      generalize x.itm.msg.props.length = pn at *
      clear hnz
      go_wp2_with (refine wpl_fresh rfl (.tmp 11) (.tmp 30) rfl _ _ rfl rfl (by kernel_rfl) rfl (by simp [Value.oneCell']) ?_)
      intro w7 k7 b7 s7
      have kq7 := k6.on b7
      have r7 := r6.on b7
      have b07 := nxt b6 b7
      have hzs7 : OwnZ 61 10 (HeR (OwnP w7 w.heap.size)) w7 w.heap.size (.slice (some ⟨g, 0, none⟩) nz cap) zs := (hzs6.keep (.of_below b7)).imp fun _ _ h => h.keep (.of_below b7)
      have oi8 := oi7.keep (.of_below b7) (.of_below b7)
      have hp7 := hp6.keep (.of_below b7)
      have hdl := deleteH_any w7 w.heap.size _ zs _ hzs7 K (K + 1) rfl (by rw [NZ.out]; exact hz0) (by rw [NZ.out]; omega)
      obtain ⟨bi, hbi'⟩ : ∃ b, w6.heap.size = b := ⟨_, rfl⟩
      have hine : bi ≠ w.heap.size := by have h1 := k6.lt; omega
      rw [hbi'] at k7 ⊢
      clear a3 a4 a5 a6 a7 a8 a9 c0 c1 c2 c3 c4 c5 c6 k6 r6 b6 hzs6 oi7 hp6 b7 s7 hbi'
      obtain ⟨c0, c1, c2, c3, c4, c5, c6⟩ := kq7.c7
      go_wp2_with fail
      refine hdl.mono ?_
      rintro e w8 ⟨v8, rfl, o8, g8, hob⟩
      have t25 : Kt 25 w7 w8 := Kt.of_grown hzs7.1 g8 (by decide)
      have t43 : Kt 43 w7 w8 := Kt.of_grown hzs7.1 g8 (by decide)
      have t54 : Kt 54 w7 w8 := Kt.of_grown hzs7.1 g8 (by decide)
      have kq8 := kq7.kt t25
      have r8 := r7.kt t25
      have k8 := k7.kt t43
      have oi9 := oi8.keep t43 t54
      have hp8 := hp7.keep t54
      have b8 := b07.grown g8 b07.size (fun k hk => (World.ownsRow.lt hzs7.1 k hk).1)
      have oh8 : OwnH w8 w.heap.size v8 (q.held.eraseIdx K) := ⟨_, by rw [List.map_append, List.map_take, List.map_drop, HZ.out, List.eraseIdx_eq_take_drop_succ], o8.imp fun _ _ h => h.keep t54⟩
      obtain ⟨a8, c8, rfl⟩ := oh8.rd.len
      obtain ⟨n8, hn8⟩ : ∃ n, (q.held.eraseIdx K).length = n := ⟨_, rfl⟩
      rw [hn8] at oh8 ⊢
      clear hdl hzs7 o8 g8 t25 t43 t54 kq7 r7 k7 b07 oi8 hp7 c0 c1 c2 c3 c4 c5 c6 hn8 NZ HZ hxx hv0 hk0 hob
      go_wp2_with (refine wpl_set rfl (.tmp 37) (.tmp 36) rfl _ 6 _ rfl rfl kq8 (by kernel_rfl) rfl rfl (by simp) ?_)
      intro w9 k9 g9 s9
      have kq9 : Blk w9 w.heap.size #[tx q.name, .bool q.dur, .int .i64 q.depth, .int .i64 q.seq, .int .i64 q.tag, .slice ai5 ni ci5, .slice a8 n8 c8] 25 := k9
      have r9 := r8.grown g9 (fun e => by injection e with e; omega)
      have kx9 := k8.grown g9 (fun e => hine (by injection e))
      have b9 := b8.grown g9 b8.size (fun k hk => by injection hk with hk; omega)
      have t54 : Kt 54 w8 w9 := kt_grown kq8 g9 (by decide)
      have oi10 := oi9.keep (kt_grown kq8 g9 (by decide)) t54
      have oh9 := oh8.keep (kt_grown kq8 g9 (by decide)) t54
      have hp9 := hp8.keep t54
      clear kq8 r8 k8 b8 oi9 oh8 hp8 g9 s9 t54 k9
      cases again with
      | false =>
        go_wp2_with (first | (refine wpl_load25 rfl (.tmp 4) rfl _ _ rfl kq9 rfl ?_) | (refine wpl_put rfl (.tmp 8) (.tmp 44) rfl _ _ rfl rfl r9 (by kernel_rfl) rfl (by simp [Value.oneCell']) ?_))
        intro w10 k10 g10 s10
        go_wp2_with fail
        refine ret25t rfl k10 rfl rfl rfl ⟨_, rfl, ?_, b9.grown g10 b9.size (fun k hk => by injection hk with hk; omega)⟩
        unfold settleQ
        rw [HKE.out]
        exact ⟨_, _, rfl, oi10.keep (kt_grown r9 g10 (by decide)) (kt_grown r9 g10 (by decide)), oh9.keep (kt_grown r9 g10 (by decide)) (kt_grown r9 g10 (by decide))⟩
      | true =>
        obtain ⟨zi, ezi, hzi⟩ := oi10
        have hri : Rises (zi.map (·.2)) := by rw [ezi]; exact ((goodQ_iff q).1 hg).ri
        have hzin : zi.length ≤ 1000 := by have := hsm.items; rw [← ezi, List.length_map] at this; exact this
        have hpb := putBack_any w9 w.heap.size b9.size _ zi hzi hri hzin x.itm _ hp9
        rw [ezi] at hpb
        unfold itmV at hpb
        obtain ⟨c0, c1, c2, c3, c4, c5, c6⟩ := kq9.c7
        have HZI : Hid (OwnZ 43 7 (ItR (OwnP w9 w.heap.size)) w9 w.heap.size (.slice ai5 ni ci5) zi) := hzi
        clear hzi hri
        go_wp2_with (refine wpl_load43 rfl (.tmp 11) rfl _ _ rfl kx9 rfl ?_)
        refine hpb.mono ?_
        rintro e w10 ⟨v10, rfl, oi11, g10⟩
        have t25 : Kt 25 w9 w10 := Kt.of_grown HZI.out.1 g10 (by decide)
        have t61 : Kt 61 w9 w10 := Kt.of_grown HZI.out.1 g10 (by decide)
        have t54 : Kt 54 w9 w10 := Kt.of_grown HZI.out.1 g10 (by decide)
        have kq10 := kq9.kt t25
        have r10 := r9.kt t25
        have oh10 := oh9.keep t61 t54
        have b10 := b9.grown g10 b9.size (fun k hk => (World.ownsRow.lt HZI.out.1 k hk).1)
        obtain ⟨a10, c10, rfl⟩ := oi11.rd.len
        generalize (putB q.items x.itm).length = n10 at *
        clear hpb g10 t25 t61 t54 kq9 r9 oh9 b9 kx9 hp9 c0 c1 c2 c3 c4 c5 c6 HZI
        go_wp2_with (refine wpl_set rfl (.tmp 43) (.tmp 42) rfl _ 5 _ rfl rfl kq10 (by kernel_rfl) rfl rfl (by simp) ?_)
        intro w11 k11 g11 s11
        have kq11 : Blk w11 w.heap.size #[tx q.name, .bool q.dur, .int .i64 q.depth, .int .i64 q.seq, .int .i64 q.tag, .slice a10 n10 c10, .slice a8 n8 c8] 25 := k11
        have r11 := r10.grown g11 (fun e => by injection e with e; omega)
        have b11 := b10.grown g11 b10.size (fun k hk => by injection hk with hk; omega)
        have t54 : Kt 54 w10 w11 := kt_grown kq10 g11 (by decide)
        have oi12 := oi11.keep (kt_grown kq10 g11 (by decide)) t54
        have oh11 := oh10.keep (kt_grown kq10 g11 (by decide)) t54
        clear kq10 r10 b10 oi11 oh10 g11 s11 t54 k11
        go_wp2_with (first | (refine wpl_load25 rfl (.tmp 4) rfl _ _ rfl kq11 rfl ?_) | (refine wpl_put rfl (.tmp 8) (.tmp 44) rfl _ _ rfl rfl r11 (by kernel_rfl) rfl (by simp [Value.oneCell']) ?_))
        intro w12 k12 g12 s12
        go_wp2_with fail
        refine ret25t rfl k12 rfl rfl rfl ⟨_, rfl, ?_, b11.grown g12 b11.size (fun k hk => by injection hk with hk; omega)⟩
        unfold settleQ
        rw [HKE.out, HX.out, if_pos rfl]
        exact ⟨_, _, rfl, oi12.keep (kt_grown r11 g12 (by decide)) (kt_grown r11 g12 (by decide)), oh11.keep (kt_grown r11 g12 (by decide)) (kt_grown r11 g12 (by decide))⟩
    · rw [if_neg hK] at hx
      have e0 : settleC q conn tag = 33 := by simp [settleC, hg, hK]
      go_wp2_with fail
      refine hx.mono ?_
      rintro e w3 ⟨rfl, b3⟩
      have S3 := S2.on b3
      clear hx S2 b3 c0 c1 c2 c3 c4 c5 c6
      go_wp2_with (refine wpl_put rfl (.tmp 8) (.tmp 22) rfl _ _ rfl rfl S3.r (by kernel_rfl) rfl (by simp [Value.oneCell']) ?_)
      intro W' k' g' s'
      go_wp2_with fail
      refine ret25t rfl k' rfl rfl rfl ⟨_, rfl, own_zero _ _, S3.b.grown g' S3.b.size (fun k hk => by injection hk with hk; omega)⟩
end Go.Proofs.YtlbcefocmdnlgaaGreatDoor

namespace Go.Proofs.YtlbcefocmdnlgaaGreatDoor
open Go.RowKit Go.Lib
set_option maxRecDepth 100000
set_option linter.unusedSimpArgs false

/-- The three blocks of Take, beside what was there. -/
structure TkS (w W : World) (qs : Array Value) : Prop where
  q : Blk W w.heap.size qs 25
  r : Blk W (w.heap.size + 1) #[.string ⟨#[]⟩, .bool false, .int .i64 0, .int .i64 0, .int .i64 0, .slice none 0 0, .slice none 0 0] 25
  i : Blk W (w.heap.size + 2) #[.int .i64 0, .bool false, .string ⟨#[]⟩, .string ⟨#[]⟩, .slice none 0 0, .bool false, .int .i64 0] 43
  b : Below w.heap.size w W
theorem TkS.on {w W W' : World} {qs : Array Value} (h : TkS w W qs) (hb : Below W.heap.size W W') : TkS w W' qs := ⟨h.q.on hb, h.r.on hb, h.i.on hb, nxt h.b hb⟩

theorem OwnZ.at {α : Type} {e k : Nat} {R : List Value → α → Prop} {w : World} {B g cap n : Nat} {zs : Zs α} (h : OwnZ e k R w B (.slice (some ⟨g, 0, none⟩) n cap) zs) {i : Nat} (hi : i < zs.length) :
    ∀ j u, (zs[i].1)[j]? = some u → w.cell? ⟨g, i * k + j, none⟩ = some u := fun j u hu => by
  have := h.rd.cells hi j u hu
  rwa [Nat.zero_add] at this

structure TkX (w W : World) (bi : Nat) (qs xs : Array Value) : Prop where
  q : Blk W w.heap.size qs 25
  r : Blk W (w.heap.size + 1) #[.string ⟨#[]⟩, .bool false, .int .i64 0, .int .i64 0, .int .i64 0, .slice none 0 0, .slice none 0 0] 25
  i : Blk W (w.heap.size + 2) #[.int .i64 0, .bool false, .string ⟨#[]⟩, .string ⟨#[]⟩, .slice none 0 0, .bool false, .int .i64 0] 43
  x : Blk W bi xs 43
  b : Below w.heap.size w W
theorem TkX.on {w W W' : World} {bi : Nat} {qs xs : Array Value} (h : TkX w W bi qs xs) (hb : Below W.heap.size W W') : TkX w W' bi qs xs := ⟨h.q.on hb, h.r.on hb, h.i.on hb, h.x.on hb, nxt h.b hb⟩
theorem OwnI.but {w w' : World} {B g : Nat} {v : Value} {l : List Itm} (h : OwnI w B v l) (hg : w.grownBy w' (some g)) (hne : v.ownBlock ≠ some g) (h54 : Kt 54 w w') : OwnI w' B v l := by
  obtain ⟨zs, h1, h2⟩ := h
  refine ⟨zs, h1, ⟨h2.1.kept hg (.inr hne), fun z hz => ⟨(h2.2 z hz).1, (h2.2 z hz).2.keep h54⟩⟩⟩

set_option maxHeartbeats 4000000 in
theorem take_any (w : World) (hva : To.Vars w) (v : Value) (q : Que) (h : RdQ w v q) (conn sub : Int) (hold : Bool) (hbig : lenQ q ≤ 1000000) :
    Calls Tryz.prog 27 #[v, .int .i64 conn, .int .i64 sub, .bool hold] w fun e w' => ∃ v' pv', e = .returned (.tuple #[v', .int .i64 (if takeC q conn sub = 0 then (if hold then q.tag + 1 else 0) else 0), .agg (itmV (if takeC q conn sub = 0 then q.items.headD zeroI else zeroI) pv').toArray, .int .i64 (takeC q conn sub)]) ∧
      OwnQ w' w.heap.size v' (if takeC q conn sub = 0 then takeQ q conn sub hold else zeroQ) ∧ OwnP w' w.heap.size pv' (if takeC q conn sub = 0 then q.items.headD zeroI else zeroI).msg.props ∧ Below w.heap.size w w' := by
  have hR := h
  obtain ⟨iv, hv, rfl, hi, hh⟩ := h
  have OI : ∃ a c, iv = .slice a q.items.length c := hi.len
  have OH : ∃ a c, hv = .slice a q.held.length c := hh.len
  clear hi hh
  have HG : ∀ W, Below w.heap.size w W → Calls Tryz.prog 13 #[queV q iv hv] W fun e w' => e = .returned (.bool (goodQ q)) ∧ Below W.heap.size W w' := fun W b => good_any W (hva.below b) _ q (hR.on b) hbig
  have HC := fun W => con_any W conn
  have HN := fun W => num_any W sub
  have S0 : TkS w (((w.alloc (.cells #[tx q.name, .bool q.dur, .int .i64 q.depth, .int .i64 q.seq, .int .i64 q.tag, iv, hv] 25)).alloc (.cells #[.string ⟨#[]⟩, .bool false, .int .i64 0, .int .i64 0, .int .i64 0, .slice none 0 0, .slice none 0 0] 25)).alloc (.cells #[.int .i64 0, .bool false, .string ⟨#[]⟩, .string ⟨#[]⟩, .slice none 0 0, .bool false, .int .i64 0] 43)) #[tx q.name, .bool q.dur, .int .i64 q.depth, .int .i64 q.seq, .int .i64 q.tag, iv, hv] := by
    refine ⟨((Blk.new _ _ _).alloc _).alloc _, ?_, ?_, (((Below.refl _ w).alloc (Nat.le_refl _) _).alloc (by simp) _).alloc (by simp; omega) _⟩
    · have := (Blk.new (w.alloc (.cells #[tx q.name, .bool q.dur, .int .i64 q.depth, .int .i64 q.seq, .int .i64 q.tag, iv, hv] 25)) #[.string ⟨#[]⟩, .bool false, .int .i64 0, .int .i64 0, .int .i64 0, .slice none 0 0, .slice none 0 0] 25).alloc (.cells #[.int .i64 0, .bool false, .string ⟨#[]⟩, .string ⟨#[]⟩, .slice none 0 0, .bool false, .int .i64 0] 43)
      rwa [World.size_alloc] at this
    · have := Blk.new ((w.alloc (.cells #[tx q.name, .bool q.dur, .int .i64 q.depth, .int .i64 q.seq, .int .i64 q.tag, iv, hv] 25)).alloc (.cells #[.string ⟨#[]⟩, .bool false, .int .i64 0, .int .i64 0, .int .i64 0, .slice none 0 0, .slice none 0 0] 25)) #[.int .i64 0, .bool false, .string ⟨#[]⟩, .string ⟨#[]⟩, .slice none 0 0, .bool false, .int .i64 0] 43
      rwa [World.size_alloc, World.size_alloc] at this
  unfold queV at *
  go_enter Tryz.func27, Tryz.ntmps27
  go_upto_region 1 with fail
  generalize ((w.alloc (.cells #[tx q.name, .bool q.dur, .int .i64 q.depth, .int .i64 q.seq, .int .i64 q.tag, iv, hv] 25)).alloc (.cells #[.string ⟨#[]⟩, .bool false, .int .i64 0, .int .i64 0, .int .i64 0, .slice none 0 0, .slice none 0 0] 25)).alloc (.cells #[.int .i64 0, .bool false, .string ⟨#[]⟩, .string ⟨#[]⟩, .slice none 0 0, .bool false, .int .i64 0] 43) = w1 at *
  go_wp2_with (refine wpl_load25 rfl (.tmp 4) rfl _ _ rfl S0.q rfl ?_)
  refine (HG _ S0.b).mono ?_
  rintro e w2 ⟨rfl, b2⟩
  have S2 := S0.on b2
  clear S0 b2
  cases hg : goodQ q with
  | false =>
    have e0 : takeC q conn sub = 1 := by simp [takeC, hg]
    go_wp2_with (refine wpl_put rfl (.tmp 8) (.tmp 31) rfl _ _ rfl rfl S2.r (by kernel_rfl) rfl (by simp [Value.oneCell']) ?_)
    intro W' k' g' s'
    have i' := S2.i.grown g' (fun e => by injection e with e; omega)
    have b' := S2.b.grown g' S2.b.size (fun k hk => by injection hk with hk; omega)
    clear g'
    go_wp2_with (refine wpl_put rfl (.tmp 10) (.tmp 32) rfl _ _ rfl rfl i' (by kernel_rfl) rfl (by simp [Value.oneCell']) ?_)
    intro W2 k2 g2 s2
    go_wp2_with fail
    refine ret4 rfl (k'.grown g2 (fun e => by injection e with e; omega)) rfl k2 rfl rfl rfl rfl rfl ⟨_, .slice none 0 0, rfl, own_zero _ _, World.ownsRow_nil .., b'.grown g2 b'.size (fun k hk => by injection hk with hk; omega)⟩
  | true =>
    obtain ⟨hsm, hl64, _, _, hq1, hq2⟩ := goodQ_small hg
    obtain ⟨c0, c1, c2, c3, c4, c5, c6⟩ := S2.q.c7
    go_wp2_with fail
    refine (HC _).mono ?_
    rintro e w3 ⟨rfl, rfl⟩
    cases hc : conB conn with
    | false =>
      have e0 : takeC q conn sub = 1 := by simp [takeC, hg, hc]
      go_wp2_with (refine wpl_put rfl (.tmp 8) (.tmp 31) rfl _ _ rfl rfl S2.r (by kernel_rfl) rfl (by simp [Value.oneCell']) ?_)
      intro W' k' g' s'
      have i' := S2.i.grown g' (fun e => by injection e with e; omega)
      have b' := S2.b.grown g' S2.b.size (fun k hk => by injection hk with hk; omega)
      clear g'
      go_wp2_with (refine wpl_put rfl (.tmp 10) (.tmp 32) rfl _ _ rfl rfl i' (by kernel_rfl) rfl (by simp [Value.oneCell']) ?_)
      intro W2 k2 g2 s2
      go_wp2_with fail
      refine ret4 rfl (k'.grown g2 (fun e => by injection e with e; omega)) rfl k2 rfl rfl rfl rfl rfl ⟨_, .slice none 0 0, rfl, own_zero _ _, World.ownsRow_nil .., b'.grown g2 b'.size (fun k hk => by injection hk with hk; omega)⟩
    | true =>
      go_wp2_with fail
      refine (HN _).mono ?_
      rintro e w4 ⟨rfl, rfl⟩
      cases hn : numB sub with
      | false =>
        have e0 : takeC q conn sub = 1 := by simp [takeC, hg, hc, hn]
        go_wp2_with (refine wpl_put rfl (.tmp 8) (.tmp 31) rfl _ _ rfl rfl S2.r (by kernel_rfl) rfl (by simp [Value.oneCell']) ?_)
        intro W' k' g' s'
        have i' := S2.i.grown g' (fun e => by injection e with e; omega)
        have b' := S2.b.grown g' S2.b.size (fun k hk => by injection hk with hk; omega)
        clear g'
        go_wp2_with (refine wpl_put rfl (.tmp 10) (.tmp 32) rfl _ _ rfl rfl i' (by kernel_rfl) rfl (by simp [Value.oneCell']) ?_)
        intro W2 k2 g2 s2
        go_wp2_with fail
        refine ret4 rfl (k'.grown g2 (fun e => by injection e with e; omega)) rfl k2 rfl rfl rfl rfl rfl ⟨_, .slice none 0 0, rfl, own_zero _ _, World.ownsRow_nil .., b'.grown g2 b'.size (fun k hk => by injection hk with hk; omega)⟩
      | true =>
        by_cases ht : q.tag = 1099511627776
        · rw [ht] at c4
          have e0 : takeC q conn sub = 1 := by simp [takeC, hg, hc, hn, ht]
          go_wp2_with (refine wpl_put rfl (.tmp 8) (.tmp 31) rfl _ _ rfl rfl S2.r (by kernel_rfl) rfl (by simp [Value.oneCell']) ?_)
          intro W' k' g' s'
          have i' := S2.i.grown g' (fun e => by injection e with e; omega)
          have b' := S2.b.grown g' S2.b.size (fun k hk => by injection hk with hk; omega)
          clear g'
          go_wp2_with (refine wpl_put rfl (.tmp 10) (.tmp 32) rfl _ _ rfl rfl i' (by kernel_rfl) rfl (by simp [Value.oneCell']) ?_)
          intro W2 k2 g2 s2
          go_wp2_with fail
          refine ret4 rfl (k'.grown g2 (fun e => by injection e with e; omega)) rfl k2 rfl rfl rfl rfl rfl ⟨_, .slice none 0 0, rfl, own_zero _ _, World.ownsRow_nil .., b'.grown g2 b'.size (fun k hk => by injection hk with hk; omega)⟩
        · obtain ⟨ai, ci, rfl⟩ := OI
          by_cases hz : q.items.length = 0
          · have hzz : ((q.items.length : Int) == 0) = true := by simp [hz]
            have e0 : takeC q conn sub = 33 := by simp [takeC, hg, hc, hn, ht, hz]
            go_wp2_with (refine wpl_put rfl (.tmp 8) (.tmp 37) rfl _ _ rfl rfl S2.r (by kernel_rfl) rfl (by simp [Value.oneCell']) ?_)
            intro W' k' g' s'
            have i' := S2.i.grown g' (fun e => by injection e with e; omega)
            have b' := S2.b.grown g' S2.b.size (fun k hk => by injection hk with hk; omega)
            clear g'
            go_wp2_with (refine wpl_put rfl (.tmp 10) (.tmp 38) rfl _ _ rfl rfl i' (by kernel_rfl) rfl (by simp [Value.oneCell']) ?_)
            intro W2 k2 g2 s2
            go_wp2_with fail
            refine ret4 rfl (k'.grown g2 (fun e => by injection e with e; omega)) rfl k2 rfl rfl rfl rfl rfl ⟨_, .slice none 0 0, rfl, own_zero _ _, World.ownsRow_nil .., b'.grown g2 b'.size (fun k hk => by injection hk with hk; omega)⟩
          · have hzz : ((q.items.length : Int) == 0) = false := by simp [hz]
            have hcp := copy_any w4 _ q (hR.on S2.b) hsm
            unfold queV at hcp
            have HE : takeC q conn sub = 0 := by simp [takeC, hg, hc, hn, ht, hz]
            go_wp2_with (refine wpl_load25 rfl (.tmp 4) rfl _ _ rfl S2.q rfl ?_)
            refine hcp.mono ?_
            rintro e w5 ⟨v5, rfl, ⟨iv5, hv5, rfl, oi5, oh5⟩, b5⟩
            obtain ⟨ah5, ch5, rfl⟩ := oh5.rd.len
            obtain ⟨zs, ezs, hzs'⟩ := oi5
            have hzl : zs.length = q.items.length := by rw [← ezs, List.length_map]
            have hz0 : 0 < zs.length := by omega
            have hz1000 : zs.length ≤ 1000 := by have := hsm.items; omega
            clear hzl
            obtain ⟨g, cap, cur, hgv, hg4, hgb, _⟩ := ownI_some hzs' hz0
            subst hgv
            have hzs : OwnZ 43 7 (ItR (OwnP w5 w.heap.size)) w5 w.heap.size (.slice (some ⟨g, 0, none⟩) zs.length cap) zs := (hzs'.low S2.b.size).imp fun _ _ h => h.low S2.b.size
            have hgn : g ≠ w.heap.size + 2 := by have := S2.i.lt; omega
            have hg5 := hgb.lt
            have S5 := S2.on b5
            have oh6 := oh5.low S2.b.size
            have HX : Hid (q.items.headD zeroI = (zs[0]).2) := by
              show q.items.headD zeroI = _
              rw [← ezs]
              cases zs with
              | nil => simp at hz0
              | cons z zs => rfl
            obtain ⟨hk0, pv0, hv0, hp0⟩ := hzs.2 (zs[0]) (List.getElem_mem hz0)
            have HZ : Hid (zs.map (·.2) = q.items) := ezs
            clear hcp S2 b5 hzs' hgb hg4 oh5 ezs c0 c1 c2 c3 c4 c5 c6
            generalize hxx : (zs[0]).2 = x at *
            obtain ⟨pa0, pc0, rfl⟩ := hp0.shape
            generalize q.held.length = nh at *
            unfold queV
            go_wp2_with (refine wpl_put rfl (.tmp 4) (.tmp 40) rfl _ _ rfl rfl S5.q (by kernel_rfl) rfl (by simp [Value.oneCell']) ?_)
            intro w6 k6 g6 s6
            have r6 := S5.r.grown g6 (fun e => by injection e with e; omega)
            have i6 := S5.i.grown g6 (fun e => by injection e with e; omega)
            have b6 := S5.b.grown g6 S5.b.size (fun k hk => by injection hk with hk; omega)
            have hg6 : g < w6.heap.size := by rw [s6]; exact hg5
            have t54 : Kt 54 w5 w6 := kt_grown S5.q g6 (by decide)
            have hzs6 : OwnZ 43 7 (ItR (OwnP w6 w.heap.size)) w6 w.heap.size (.slice (some ⟨g, 0, none⟩) zs.length cap) zs := (hzs.keep (kt_grown S5.q g6 (by decide))).imp fun _ _ h => h.keep t54
            have oh7 := oh6.keep (kt_grown S5.q g6 (by decide)) t54
            have hp6 := hp0.keep t54
            clear S5 hzs oh6 hp0 g6 s6 t54
            have hcell := hzs6.at hz0
            rw [hv0] at hcell
            simp only [Nat.zero_mul, Nat.zero_add] at hcell
            have a0 := hcell 0 _ rfl
            have a1 := hcell 1 _ rfl
            have a2 := hcell 2 _ rfl
            have a3 := hcell 3 _ rfl
            have a4 := hcell 4 _ rfl
            have a5 := hcell 5 _ rfl
            have a6 := hcell 6 _ rfl
            clear hcell
            obtain ⟨c0, c1, c2, c3, c4, c5, c6⟩ := k6.c7
            obtain ⟨nz, hnz⟩ : ∃ nz, zs.length = nz := ⟨_, rfl⟩
            have NZ : Hid (zs.length = nz) := hnz
            rw [hnz] at hzs6 c5 k6 hz0 hz1000 ⊢
            have hz0z : (0 : Int) < (nz : Int) := by omega
            generalize x.msg.props.length = pn at *
            clear hnz
            go_wp2_with (refine wpl_fresh rfl (.tmp 12) (.tmp 44) rfl _ _ rfl rfl (by kernel_rfl) rfl (by simp [Value.oneCell']) ?_)
            intro w7 k7 b7 s7
            have kq7 := k6.on b7
            have r7 := r6.on b7
            have i7 := i6.on b7
            have b07 := nxt b6 b7
            have hzs7 : OwnZ 43 7 (ItR (OwnP w7 w.heap.size)) w7 w.heap.size (.slice (some ⟨g, 0, none⟩) nz cap) zs := (hzs6.keep (.of_below b7)).imp fun _ _ h => h.keep (.of_below b7)
            have oh8 := oh7.keep (.of_below b7) (.of_below b7)
            have hp7 := hp6.keep (.of_below b7)
            have hdl := deleteI_any w7 w.heap.size _ zs _ hzs7 0 1 rfl (by rw [NZ.out]; exact hz0) (by rw [NZ.out]; omega)
            have hbi : w.heap.size ≤ w6.heap.size := b6.size
            obtain ⟨bi, hbi'⟩ : ∃ b, w6.heap.size = b := ⟨_, rfl⟩
            have hine : bi ≠ w.heap.size ∧ bi ≠ w.heap.size + 1 ∧ bi ≠ w.heap.size + 2 := by
              have h1 := k6.lt
              have h2 := r6.lt
              have h3 := i6.lt
              omega
            have hgi : g ≠ bi := by omega
            rw [hbi'] at k7 ⊢
            clear a0 a1 a2 a3 a4 a5 a6 c0 c1 c2 c3 c4 c5 c6 k6 r6 i6 b6 hzs6 oh7 hp6 b7 s7 hbi hbi'
            obtain ⟨c0, c1, c2, c3, c4, c5, c6⟩ := kq7.c7
            go_wp2_with fail
            refine hdl.mono ?_
            rintro e w8 ⟨v8, rfl, o8, g8, hob⟩
            have t25 : Kt 25 w7 w8 := Kt.of_grown hzs7.1 g8 (by decide)
            have t61 : Kt 61 w7 w8 := Kt.of_grown hzs7.1 g8 (by decide)
            have t54 : Kt 54 w7 w8 := Kt.of_grown hzs7.1 g8 (by decide)
            have kq8 := kq7.kt t25
            have r8 := r7.kt t25
            have oh9 := oh8.keep t61 t54
            have hp8 := hp7.keep t54
            have i8 := i7.grown g8 (fun e => hgn (by simp [Value.ownBlock] at e; omega))
            have k8 := k7.grown g8 (fun e => hgi (by simp [Value.ownBlock] at e; omega))
            have b8 := b07.grown g8 b07.size (fun k hk => (World.ownsRow.lt hzs7.1 k hk).1)
            have oi8 : OwnI w8 w.heap.size v8 (q.items.drop 1) := ⟨_, by rw [List.map_append, List.map_take, List.map_drop, HZ.out]; rfl, o8.imp fun _ _ h => h.keep t54⟩
            obtain ⟨a8, c8, rfl⟩ := oi8.rd.len
            obtain ⟨n8, hn8⟩ : ∃ n, (q.items.drop 1).length = n := ⟨_, rfl⟩
            rw [hn8] at oi8 ⊢
            have HX2 : Hid (q.items.headD zeroI = x) := HX
            have HX3 : Hid (q.items.head?.getD zeroI = x) := by have := HX; rw [List.headD_eq_head?_getD] at this; exact this
            have HRB : Hid ((Value.slice a8 n8 c8).ownBlock ≠ some (w.heap.size + 2)) := by
              have h1 := hob
              rw [hn8] at h1
              show (Value.slice a8 n8 c8).ownBlock ≠ _
              rw [h1]
              intro e
              exact hgn (by simpa [Value.ownBlock] using e)
            clear hob
            clear hdl hzs7 o8 g8 t25 t61 t54 kq7 r7 i7 k7 b07 oh8 hp7 c0 c1 c2 c3 c4 c5 c6 hn8 HX hgn hgi hg6 hg5 NZ HZ hxx hv0 hk0
            go_wp2_with (refine wpl_set rfl (.tmp 48) (.tmp 47) rfl _ 5 _ rfl rfl kq8 (by kernel_rfl) rfl rfl (by simp) ?_)
            intro w9 k9 g9 s9
            have kq9 : Blk w9 w.heap.size #[tx q.name, .bool q.dur, .int .i64 q.depth, .int .i64 q.seq, .int .i64 q.tag, .slice a8 n8 c8, .slice ah5 nh ch5] 25 := k9
            have r9 := r8.grown g9 (fun e => by injection e with e; omega)
            have i9 := i8.grown g9 (fun e => by injection e with e; omega)
            have kx9 := k8.grown g9 (fun e => hine.1 (by injection e))
            have b9 := b8.grown g9 b8.size (fun k hk => by injection hk with hk; omega)
            have t54 : Kt 54 w8 w9 := kt_grown kq8 g9 (by decide)
            have oi9 := oi8.keep (kt_grown kq8 g9 (by decide)) t54
            have oh10 := oh9.keep (kt_grown kq8 g9 (by decide)) t54
            have hp9 := hp8.keep t54
            clear kq8 r8 i8 k8 b8 oi8 oh9 hp8 g9 s9 t54 k9
            cases hold with
            | false =>
              go_upto_region 9 with fail
              have hS : Blk w9.drew w.heap.size #[tx q.name, .bool q.dur, .int .i64 q.depth, .int .i64 q.seq, .int .i64 q.tag, .slice a8 n8 c8, .slice ah5 nh ch5] 25 ∧ Blk w9.drew bi #[.int .i64 x.seq, .bool x.again, tx x.msg.topic, tx x.msg.body, .slice pa0 pn pc0, .bool x.msg.dur, .int .i64 x.msg.til] 43 := ⟨⟨kq9.h⟩, ⟨kx9.h⟩⟩
              have rF : Blk w9.drew (w.heap.size + 1) #[.string ⟨#[]⟩, .bool false, .int .i64 0, .int .i64 0, .int .i64 0, .slice none 0 0, .slice none 0 0] 25 := ⟨r9.h⟩
              have iF : Blk w9.drew (w.heap.size + 2) #[.int .i64 0, .bool false, .string ⟨#[]⟩, .string ⟨#[]⟩, .slice none 0 0, .bool false, .int .i64 0] 43 := ⟨i9.h⟩
              have bF := b9.drew
              have oiF : OwnI w9.drew w.heap.size (.slice a8 n8 c8) (q.items.drop 1) := oi9
              have ohF : OwnH w9.drew w.heap.size (.slice ah5 nh ch5) q.held := oh10
              have hpF : OwnP w9.drew w.heap.size (.slice pa0 pn pc0) x.msg.props := hp9
              clear kq9 r9 i9 kx9 b9 oi9 oh10 hp9
              refine wp_region_held (S := fun W => Blk W w.heap.size #[tx q.name, .bool q.dur, .int .i64 q.depth, .int .i64 q.seq, .int .i64 q.tag, .slice a8 n8 c8, .slice ah5 nh ch5] 25 ∧ Blk W bi #[.int .i64 x.seq, .bool x.again, tx x.msg.topic, tx x.msg.body, .slice pa0 pn pc0, .bool x.msg.dur, .int .i64 x.msg.til] 43) hmix ?_
              show wpAnyH _ _ _ _ _ _ _ _ (World.drew _)
              generalize w9.drew = wF at *
              replace hS : Blk wF w.heap.size #[tx q.name, .bool q.dur, .int .i64 q.depth, .int .i64 q.seq, .int .i64 q.tag, .slice a8 n8 c8, .slice ah5 nh ch5] 25 ∧ Blk wF bi #[.int .i64 x.seq, .bool x.again, tx x.msg.topic, tx x.msg.body, .slice pa0 pn pc0, .bool x.msg.dur, .int .i64 x.msg.til] 43 := hS
              refine wpAnyH_take (i := 0) (v := .agg #[tx q.name, .bool q.dur, .int .i64 q.depth, .int .i64 q.seq, .int .i64 q.tag, .slice a8 n8 c8, .slice ah5 nh ch5]) rfl (by kernel_rfl) (by kernel_rfl) (by kernel_rfl) (fun _ _ _ h => h) (.inl ⟨by rfl, fun W' hW' => ?_⟩) hS ?_
              · obtain ⟨d0, d1, d2, d3, d4, d5, d6⟩ := hW'.1.c7
                go_simp
              simp only [Act.put, List.getElem_toArray, List.getElem_cons_zero, List.setIfInBounds_toArray, List.set_cons_succ, List.set_cons_zero]
              refine wpAnyH_take (i := 1) (v := .agg #[.int .i64 x.seq, .bool x.again, tx x.msg.topic, tx x.msg.body, .slice pa0 pn pc0, .bool x.msg.dur, .int .i64 x.msg.til]) rfl (by kernel_rfl) (by kernel_rfl) (by kernel_rfl) (fun _ _ _ h => h) (.inl ⟨by rfl, fun W' hW' => ?_⟩) hS ?_
              · obtain ⟨d0, d1, d2, d3, d4, d5, d6⟩ := hW'.2.c7
                go_simp
              simp only [Act.put, List.getElem_toArray, List.getElem_cons_succ, List.getElem_cons_zero, List.setIfInBounds_toArray, List.set_cons_succ, List.set_cons_zero]
              refine wpAnyH_one (i := 2) (by kernel_rfl) rfl (by rfl) (fun K hK => ?_)
              refine wp_store_row 25 (.tmp 8) (.tmp 51) rfl (w.heap.size + 1) _ rfl rfl 25 _ rF.h (by kernel_rfl) rfl (by simp [Value.oneCell']) ?_
              have hS2 : Blk (wF.setRow (w.heap.size + 1) #[tx q.name, .bool q.dur, .int .i64 q.depth, .int .i64 q.seq, .int .i64 q.tag, .slice a8 n8 c8, .slice ah5 nh ch5]) w.heap.size #[tx q.name, .bool q.dur, .int .i64 q.depth, .int .i64 q.seq, .int .i64 q.tag, .slice a8 n8 c8, .slice ah5 nh ch5] 25 ∧ Blk (wF.setRow (w.heap.size + 1) #[tx q.name, .bool q.dur, .int .i64 q.depth, .int .i64 q.seq, .int .i64 q.tag, .slice a8 n8 c8, .slice ah5 nh ch5]) bi #[.int .i64 x.seq, .bool x.again, tx x.msg.topic, tx x.msg.body, .slice pa0 pn pc0, .bool x.msg.dur, .int .i64 x.msg.til] 43 := ⟨hS.1.rowO (by omega) _, hS.2.rowO hine.2.1 _⟩
              have rG := rF.row #[tx q.name, .bool q.dur, .int .i64 q.depth, .int .i64 q.seq, .int .i64 q.tag, .slice a8 n8 c8, .slice ah5 nh ch5]
              have iG := iF.rowO (g' := w.heap.size + 1) (by omega) #[tx q.name, .bool q.dur, .int .i64 q.depth, .int .i64 q.seq, .int .i64 q.tag, .slice a8 n8 c8, .slice ah5 nh ch5]
              have bG := below_setRow bF (by omega : w.heap.size ≤ w.heap.size + 1) #[tx q.name, .bool q.dur, .int .i64 q.depth, .int .i64 q.seq, .int .i64 q.tag, .slice a8 n8 c8, .slice ah5 nh ch5]
              have oiG := oiF.keep (kt_setRow rF (by decide) #[tx q.name, .bool q.dur, .int .i64 q.depth, .int .i64 q.seq, .int .i64 q.tag, .slice a8 n8 c8, .slice ah5 nh ch5]) (kt_setRow rF (by decide) #[tx q.name, .bool q.dur, .int .i64 q.depth, .int .i64 q.seq, .int .i64 q.tag, .slice a8 n8 c8, .slice ah5 nh ch5])
              have ohG := ohF.keep (kt_setRow rF (by decide) #[tx q.name, .bool q.dur, .int .i64 q.depth, .int .i64 q.seq, .int .i64 q.tag, .slice a8 n8 c8, .slice ah5 nh ch5]) (kt_setRow rF (by decide) #[tx q.name, .bool q.dur, .int .i64 q.depth, .int .i64 q.seq, .int .i64 q.tag, .slice a8 n8 c8, .slice ah5 nh ch5])
              have hpG := hpF.keep (kt_setRow rF (by decide) #[tx q.name, .bool q.dur, .int .i64 q.depth, .int .i64 q.seq, .int .i64 q.tag, .slice a8 n8 c8, .slice ah5 nh ch5])
              refine hK _ _ hS2 ?_
              clear hK K hS rF iF bF oiF ohF hpF
              generalize wF.setRow (w.heap.size + 1) #[tx q.name, .bool q.dur, .int .i64 q.depth, .int .i64 q.seq, .int .i64 q.tag, .slice a8 n8 c8, .slice ah5 nh ch5] = wG at *
              refine wpAnyH_take (i := 3) (v := .int .i64 0) rfl (by kernel_rfl) (by kernel_rfl) (by kernel_rfl) (fun _ _ _ h => h) (.inl ⟨by rfl, fun W' hW' => ?_⟩) hS2 ?_
              · obtain ⟨d0, d1, d2, d3, d4, d5, d6⟩ := hW'.1.c7
                go_simp
              simp only [Act.put, List.getElem_toArray, List.getElem_cons_succ, List.getElem_cons_zero, List.setIfInBounds_toArray, List.set_cons_succ, List.set_cons_zero]
              refine wpAnyH_one (i := 4) (by kernel_rfl) rfl (by rfl) (fun K hK => ?_)
              refine wp_store_row 43 (.tmp 10) (.tmp 52) rfl (w.heap.size + 2) _ rfl rfl 43 _ iG.h (by kernel_rfl) rfl (by simp [Value.oneCell']) ?_
              have hS3 : Blk (wG.setRow (w.heap.size + 2) #[.int .i64 x.seq, .bool x.again, tx x.msg.topic, tx x.msg.body, .slice pa0 pn pc0, .bool x.msg.dur, .int .i64 x.msg.til]) w.heap.size #[tx q.name, .bool q.dur, .int .i64 q.depth, .int .i64 q.seq, .int .i64 q.tag, .slice a8 n8 c8, .slice ah5 nh ch5] 25 ∧ Blk (wG.setRow (w.heap.size + 2) #[.int .i64 x.seq, .bool x.again, tx x.msg.topic, tx x.msg.body, .slice pa0 pn pc0, .bool x.msg.dur, .int .i64 x.msg.til]) bi #[.int .i64 x.seq, .bool x.again, tx x.msg.topic, tx x.msg.body, .slice pa0 pn pc0, .bool x.msg.dur, .int .i64 x.msg.til] 43 := ⟨hS2.1.rowO (by omega) _, hS2.2.rowO hine.2.2 _⟩
              have iH := iG.row #[.int .i64 x.seq, .bool x.again, tx x.msg.topic, tx x.msg.body, .slice pa0 pn pc0, .bool x.msg.dur, .int .i64 x.msg.til]
              have rH := rG.rowO (g' := w.heap.size + 2) (by omega) #[.int .i64 x.seq, .bool x.again, tx x.msg.topic, tx x.msg.body, .slice pa0 pn pc0, .bool x.msg.dur, .int .i64 x.msg.til]
              have bH := below_setRow bG (by omega : w.heap.size ≤ w.heap.size + 2) #[.int .i64 x.seq, .bool x.again, tx x.msg.topic, tx x.msg.body, .slice pa0 pn pc0, .bool x.msg.dur, .int .i64 x.msg.til]
              have ohH := ohG.keep (kt_setRow iG (by decide) #[.int .i64 x.seq, .bool x.again, tx x.msg.topic, tx x.msg.body, .slice pa0 pn pc0, .bool x.msg.dur, .int .i64 x.msg.til]) (kt_setRow iG (by decide) #[.int .i64 x.seq, .bool x.again, tx x.msg.topic, tx x.msg.body, .slice pa0 pn pc0, .bool x.msg.dur, .int .i64 x.msg.til])
              have hpH := hpG.keep (kt_setRow iG (by decide) #[.int .i64 x.seq, .bool x.again, tx x.msg.topic, tx x.msg.body, .slice pa0 pn pc0, .bool x.msg.dur, .int .i64 x.msg.til])
              have oiH : OwnI (wG.setRow (w.heap.size + 2) #[.int .i64 x.seq, .bool x.again, tx x.msg.topic, tx x.msg.body, .slice pa0 pn pc0, .bool x.msg.dur, .int .i64 x.msg.til]) w.heap.size (.slice a8 n8 c8) (q.items.drop 1) := oiG.but (grown_setRow wG (w.heap.size + 2) #[.int .i64 x.seq, .bool x.again, tx x.msg.topic, tx x.msg.body, .slice pa0 pn pc0, .bool x.msg.dur, .int .i64 x.msg.til]) HRB.out (kt_setRow iG (by decide) _)
              refine hK _ _ hS3 ?_
              clear hK K hS2 iG rG bG oiG ohG hpG
              generalize wG.setRow (w.heap.size + 2) #[.int .i64 x.seq, .bool x.again, tx x.msg.topic, tx x.msg.body, .slice pa0 pn pc0, .bool x.msg.dur, .int .i64 x.msg.til] = wH at *
              refine wpAnyH_take (i := 5) (v := .int .i64 0) rfl (by kernel_rfl) (by kernel_rfl) (by kernel_rfl) (fun _ _ _ h => h) (.inl ⟨by rfl, fun W' hW' => ?_⟩) hS3 ?_
              · obtain ⟨d0, d1, d2, d3, d4, d5, d6⟩ := hW'.1.c7
                go_simp
              simp only [Act.put, List.getElem_toArray, List.getElem_cons_succ, List.getElem_cons_zero, List.setIfInBounds_toArray, List.set_cons_succ, List.set_cons_zero]
              refine wpAnyH_done (by kernel_rfl) ?_ _
              go_wp2_with fail
              refine ret4 rfl rH rfl iH rfl rfl rfl rfl rfl ⟨.agg #[tx q.name, .bool q.dur, .int .i64 q.depth, .int .i64 q.seq, .int .i64 q.tag, .slice a8 n8 c8, .slice ah5 nh ch5], .slice pa0 pn pc0, ?_, ?_, ?_, bH⟩
              · rw [HX3.out]
                rfl
              · exact ⟨_, _, rfl, oiH, ohH⟩
              · rw [HX3.out]
                exact hpH
            | true =>
              have htw : IntKind.i64.wrap (q.tag + 1) = q.tag + 1 := by rw [IntKind.wrap_i64]; omega
              obtain ⟨c0, c1, c2, c3, c4, c5, c6⟩ := kq9.c7
              go_wp2_with (refine wpl_set rfl (.tmp 56) (.tmp 55) rfl _ 4 _ rfl rfl kq9 (by kernel_rfl) rfl rfl (by simp) ?_)
              intro w10 k10 g10 s10
              have kq10 : Blk w10 w.heap.size #[tx q.name, .bool q.dur, .int .i64 q.depth, .int .i64 q.seq, .int .i64 (q.tag + 1), .slice a8 n8 c8, .slice ah5 nh ch5] 25 := k10
              have r10 := r9.grown g10 (fun e => by injection e with e; omega)
              have i10 := i9.grown g10 (fun e => by injection e with e; omega)
              have kx10 := kx9.grown g10 (fun e => hine.1 (by injection e))
              have b10 := b9.grown g10 b9.size (fun k hk => by injection hk with hk; omega)
              have t54 : Kt 54 w9 w10 := kt_grown kq9 g10 (by decide)
              have oi10 := oi9.keep (kt_grown kq9 g10 (by decide)) t54
              have oh11 := oh10.keep (kt_grown kq9 g10 (by decide)) t54
              have hp10 := hp9.keep t54
              clear kq9 r9 i9 kx9 b9 oi9 oh10 hp9 g10 s10 t54 k10 c0 c1 c2 c3 c4 c5 c6
              go_upto_region 11 with fail
              have hS : TkX w w10.drew bi #[tx q.name, .bool q.dur, .int .i64 q.depth, .int .i64 q.seq, .int .i64 (q.tag + 1), .slice a8 n8 c8, .slice ah5 nh ch5] (itmV x (.slice pa0 pn pc0)).toArray := ⟨⟨kq10.h⟩, ⟨r10.h⟩, ⟨i10.h⟩, ⟨kx10.h⟩, b10.drew⟩
              have oi11 : OwnI w10.drew w.heap.size (.slice a8 n8 c8) (q.items.drop 1) := oi10
              have oh12 : OwnH w10.drew w.heap.size (.slice ah5 nh ch5) q.held := oh11
              have hp11 : OwnP w10.drew w.heap.size (.slice pa0 pn pc0) x.msg.props := hp10
              clear kq10 r10 i10 kx10 b10 oi10 oh11 hp10
              refine wp_region_to (S := fun W => TkX w W bi #[tx q.name, .bool q.dur, .int .i64 q.depth, .int .i64 q.seq, .int .i64 (q.tag + 1), .slice a8 n8 c8, .slice ah5 nh ch5] (itmV x (.slice pa0 pn pc0)).toArray) (z := 12) hmix ?_
              show wpTo _ _ _ _ _ _ _ _ _ (World.drew _)
              generalize w10.drew = w11 at *
              refine wpTo.take (i := 0) (z := 12) (v := .pointer (some ⟨w.heap.size, 6, none⟩)) rfl (by kernel_rfl) (by kernel_rfl) (by kernel_rfl) (by kernel_rfl) (fun _ _ _ h => h) (.inl ⟨by rfl, fun W' hW' => ?_⟩) hS ?_
              · obtain ⟨d0, d1, d2, d3, d4, d5, d6⟩ := hW'.q.c7
                go_simp
              simp only [Act.put, List.getElem_toArray, List.getElem_cons_zero, List.setIfInBounds_toArray, List.set_cons_succ, List.set_cons_zero]
              refine wpTo.take (i := 1) (z := 12) (v := .slice ah5 nh ch5) rfl (by kernel_rfl) (by kernel_rfl) (by kernel_rfl) (by kernel_rfl) (fun _ _ _ h => h) (.inl ⟨by rfl, fun W' hW' => ?_⟩) hS ?_
              · obtain ⟨d0, d1, d2, d3, d4, d5, d6⟩ := hW'.q.c7
                go_simp
              simp only [Act.put, List.getElem_toArray, List.getElem_cons_succ, List.getElem_cons_zero, List.setIfInBounds_toArray, List.set_cons_succ, List.set_cons_zero]
              refine wpTo.take (i := 2) (z := 12) (v := .pointer (some ⟨w.heap.size, 4, none⟩)) rfl (by kernel_rfl) (by kernel_rfl) (by kernel_rfl) (by kernel_rfl) (fun _ _ _ h => h) (.inl ⟨by rfl, fun W' hW' => ?_⟩) hS ?_
              · obtain ⟨d0, d1, d2, d3, d4, d5, d6⟩ := hW'.q.c7
                go_simp
              simp only [Act.put, List.getElem_toArray, List.getElem_cons_succ, List.getElem_cons_zero, List.setIfInBounds_toArray, List.set_cons_succ, List.set_cons_zero]
              refine wpTo.take (i := 3) (z := 12) (v := .int .i64 (q.tag + 1)) rfl (by kernel_rfl) (by kernel_rfl) (by kernel_rfl) (by kernel_rfl) (fun _ _ _ h => h) (.inl ⟨by rfl, fun W' hW' => ?_⟩) hS ?_
              · obtain ⟨d0, d1, d2, d3, d4, d5, d6⟩ := hW'.q.c7
                go_simp
              simp only [Act.put, List.getElem_toArray, List.getElem_cons_succ, List.getElem_cons_zero, List.setIfInBounds_toArray, List.set_cons_succ, List.set_cons_zero]
              refine wpTo.take (i := 4) (z := 12) (v := .int .i64 conn) rfl (by kernel_rfl) (by kernel_rfl) (by kernel_rfl) (by kernel_rfl) (fun _ _ _ h => h) (.inl ⟨by rfl, fun W' hW' => ?_⟩) hS ?_
              · obtain ⟨d0, d1, d2, d3, d4, d5, d6⟩ := hW'.q.c7
                go_simp
              simp only [Act.put, List.getElem_toArray, List.getElem_cons_succ, List.getElem_cons_zero, List.setIfInBounds_toArray, List.set_cons_succ, List.set_cons_zero]
              refine wpTo.take (i := 5) (z := 12) (v := .int .i64 sub) rfl (by kernel_rfl) (by kernel_rfl) (by kernel_rfl) (by kernel_rfl) (fun _ _ _ h => h) (.inl ⟨by rfl, fun W' hW' => ?_⟩) hS ?_
              · obtain ⟨d0, d1, d2, d3, d4, d5, d6⟩ := hW'.q.c7
                go_simp
              simp only [Act.put, List.getElem_toArray, List.getElem_cons_succ, List.getElem_cons_zero, List.setIfInBounds_toArray, List.set_cons_succ, List.set_cons_zero]
              refine wpTo.take (i := 6) (z := 12) (v := .agg #[.int .i64 x.seq, .bool x.again, tx x.msg.topic, tx x.msg.body, .slice pa0 pn pc0, .bool x.msg.dur, .int .i64 x.msg.til]) rfl (by kernel_rfl) (by kernel_rfl) (by kernel_rfl) (by kernel_rfl) (fun _ _ _ h => h) (.inl ⟨by rfl, fun W' hW' => ?_⟩) hS ?_
              · obtain ⟨d0, d1, d2, d3, d4, d5, d6⟩ := hW'.x.c7
                go_simp
              simp only [Act.put, List.getElem_toArray, List.getElem_cons_succ, List.getElem_cons_zero, List.setIfInBounds_toArray, List.set_cons_succ, List.set_cons_zero]
              refine wpTo.one (i := 7) (by kernel_rfl) rfl (by rfl) (fun K hK => ?_)
              go_simp
              refine (copyItem_any w11 x (.slice pa0 pn pc0) hp11.rd (by rw [← HX2.out]; exact hsm.ip _ (by have hne : q.items ≠ [] := fun e => hz (by rw [e]; rfl); cases hq : q.items with | nil => exact absurd hq hne | cons y l => simp))).mono ?_
              rintro e w12 ⟨pv2, rfl, op2, b12⟩
              have hS2 := hS.on b12
              have oi12 := oi11.keep (Kt.of_below b12) (Kt.of_below b12)
              have oh13 := oh12.keep (Kt.of_below b12) (Kt.of_below b12)
              have hp12 := hp11.keep (Kt.of_below b12)
              have op3 : OwnP w12 w.heap.size pv2 x.msg.props := op2.low hS.b.size
              show K _ _
              refine hK _ _ (fun _ => hS2) ?_
              clear hK K hS oi11 oh12 hp11 op2 b12
              obtain ⟨pa2, pc2, hpv2⟩ := op3.shape
              generalize x.msg.props.length = pn2 at hpv2
              subst hpv2
              unfold itmV
              refine wpTo.take (i := 8) (z := 12) (v := .agg #[.int .i64 (q.tag + 1), .int .i64 conn, .int .i64 sub, .int .i64 x.seq, .bool x.again, tx x.msg.topic, tx x.msg.body, .slice pa2 pn2 pc2, .bool x.msg.dur, .int .i64 x.msg.til]) rfl (by kernel_rfl) (by kernel_rfl) (by kernel_rfl) (by kernel_rfl) (fun _ _ _ h => h) (.inl ⟨by rfl, fun W' hW' => ?_⟩) hS2 ?_
              · obtain ⟨d0, d1, d2, d3, d4, d5, d6⟩ := hW'.q.c7
                go_simp
              simp only [Act.put, List.getElem_toArray, List.getElem_cons_succ, List.getElem_cons_zero, List.setIfInBounds_toArray, List.set_cons_succ, List.set_cons_zero]
              refine wpTo.one (i := 9) (by kernel_rfl) rfl (by rfl) (fun K hK => ?_)
              go_simp
              have b13 := (Below.refl w12.heap.size w12).alloc (Nat.le_refl _) (.cells #[.int .i64 (q.tag + 1), .int .i64 conn, .int .i64 sub, .int .i64 x.seq, .bool x.again, tx x.msg.topic, tx x.msg.body, .slice pa2 pn2 pc2, .bool x.msg.dur, .int .i64 x.msg.til] 61)
              have kN := Blk.new w12 #[.int .i64 (q.tag + 1), .int .i64 conn, .int .i64 sub, .int .i64 x.seq, .bool x.again, tx x.msg.topic, tx x.msg.body, .slice pa2 pn2 pc2, .bool x.msg.dur, .int .i64 x.msg.til] 61
              have hS3 := hS2.on b13
              have oi13 := oi12.keep (Kt.of_below b13) (Kt.of_below b13)
              have oh14 := oh13.keep (Kt.of_below b13) (Kt.of_below b13)
              have hp13 := hp12.keep (Kt.of_below b13)
              have op4 := op3.keep (Kt.of_below b13)
              show K _ _
              refine hK _ _ (fun _ => hS3) ?_
              obtain ⟨nb, hnb⟩ : ∃ nb, w12.heap.size = nb := ⟨_, rfl⟩
              rw [hnb] at kN ⊢
              generalize w12.alloc (.cells #[.int .i64 (q.tag + 1), .int .i64 conn, .int .i64 sub, .int .i64 x.seq, .bool x.again, tx x.msg.topic, tx x.msg.body, .slice pa2 pn2 pc2, .bool x.msg.dur, .int .i64 x.msg.til] 61) = w13 at *
              clear hK K hS2 oi12 oh13 hp12 op3 b13 hnb
              obtain ⟨zh, ezh, hzh⟩ := oh14
              refine wpTo.one (i := 10) (by kernel_rfl) rfl (by rfl) (fun K hK => ?_)
              refine appH_one hzh hS3.b (.tmp 58) (.tmp 66) rfl rfl nb rfl ⟨q.tag + 1, conn, sub, x⟩ (.slice pa2 pn2 pc2) kN op4 (by have := hsm.held; rw [← ezh, List.length_map] at this; omega) ?_
              intro v14 w14 o14 g14
              have t25 : Kt 25 w13 w14 := Kt.of_grown hzh.1 g14 (by decide)
              have t43 : Kt 43 w13 w14 := Kt.of_grown hzh.1 g14 (by decide)
              have t54 : Kt 54 w13 w14 := Kt.of_grown hzh.1 g14 (by decide)
              have hS4 : TkX w w14 bi #[tx q.name, .bool q.dur, .int .i64 q.depth, .int .i64 q.seq, .int .i64 (q.tag + 1), .slice a8 n8 c8, .slice ah5 nh ch5] #[.int .i64 x.seq, .bool x.again, tx x.msg.topic, tx x.msg.body, .slice pa0 pn pc0, .bool x.msg.dur, .int .i64 x.msg.til] := ⟨hS3.q.kt t25, hS3.r.kt t25, hS3.i.kt t43, hS3.x.kt t43, hS3.b.grown g14 hS3.b.size (fun k hk => (World.ownsRow.lt hzh.1 k hk).1)⟩
              have oi14 := oi13.keep t43 t54
              have hp14 := hp13.keep t54
              have oh15 : OwnH w14 w.heap.size v14 (q.held ++ [⟨q.tag + 1, conn, sub, x⟩]) := ⟨_, by rw [List.map_append, ezh]; rfl, o14⟩
              refine hK _ _ (fun _ => hS4) ?_
              clear hK K hS3 oi13 hp13 op4 kN hzh ezh g14 o14 t25 t43 t54
              obtain ⟨a14, c14, rfl⟩ := oh15.rd.len
              generalize hL14 : (q.held ++ [(⟨q.tag + 1, conn, sub, x⟩ : Hld)]).length = n14 at *
              clear hL14
              simp only [Act.put, List.getElem_toArray, List.getElem_cons_succ, List.getElem_cons_zero, List.setIfInBounds_toArray, List.set_cons_succ, List.set_cons_zero]
              refine wpTo.take (i := 11) (z := 12) (v := .pointer (some ⟨w.heap.size, 6, none⟩)) rfl (by kernel_rfl) (by kernel_rfl) (by kernel_rfl) (by kernel_rfl) (fun _ _ _ h => h) (.inl ⟨by rfl, fun W' hW' => ?_⟩) hS4 ?_
              · obtain ⟨d0, d1, d2, d3, d4, d5, d6⟩ := hW'.q.c7
                go_simp
              simp only [Act.put, List.getElem_toArray, List.getElem_cons_succ, List.getElem_cons_zero, List.setIfInBounds_toArray, List.set_cons_succ, List.set_cons_zero]
              refine wpTo.one (i := 12) (by kernel_rfl) rfl (by rfl) (fun K hK => ?_)
              have f6 := hS4.q.frozen 6
              obtain ⟨d0, d1, d2, d3, d4, d5, d6⟩ := hS4.q.c7
              go_simp
              show K _ _
              refine hK _ _ (fun h => absurd rfl h) ?_
              clear hK K d0 d1 d2 d3 d4 d5 d6
              have k15 : Blk (w14.setCell ⟨w.heap.size, 6, none⟩ (.slice a14 n14 c14)) w.heap.size #[tx q.name, .bool q.dur, .int .i64 q.depth, .int .i64 q.seq, .int .i64 (q.tag + 1), .slice a8 n8 c8, .slice a14 n14 c14] 25 := hS4.q.set 6 (.slice a14 n14 c14)
              have r15 := hS4.r.setO (g' := w.heap.size) (j := 6) (by omega) (.slice a14 n14 c14)
              have i15 := hS4.i.setO (g' := w.heap.size) (j := 6) (by omega) (.slice a14 n14 c14)
              have kx15 := hS4.x.setO (g' := w.heap.size) (j := 6) hine.1 (.slice a14 n14 c14)
              have b15 := hS4.b.setCell (p := ⟨w.heap.size, 6, none⟩) (Nat.le_refl _) (.slice a14 n14 c14)
              have oi15 := oi14.keep (kt_setCell (j := 6) hS4.q (by decide) (.slice a14 n14 c14)) (kt_setCell (j := 6) hS4.q (by decide) (.slice a14 n14 c14))
              have oh16 := oh15.keep (kt_setCell (j := 6) hS4.q (by decide) (.slice a14 n14 c14)) (kt_setCell (j := 6) hS4.q (by decide) (.slice a14 n14 c14))
              have hp15 := hp14.keep (kt_setCell (j := 6) hS4.q (by decide) (.slice a14 n14 c14))
              generalize w14.setCell ⟨w.heap.size, 6, none⟩ (.slice a14 n14 c14) = w15 at *
              clear hS4 oi14 oh15 hp14 f6
              refine wpTo.done (by kernel_rfl) ?_ _
              go_upto_region 12 with fail
              have hS : Blk w15.drew w.heap.size #[tx q.name, .bool q.dur, .int .i64 q.depth, .int .i64 q.seq, .int .i64 (q.tag + 1), .slice a8 n8 c8, .slice a14 n14 c14] 25 ∧ Blk w15.drew bi #[.int .i64 x.seq, .bool x.again, tx x.msg.topic, tx x.msg.body, .slice pa0 pn pc0, .bool x.msg.dur, .int .i64 x.msg.til] 43 := ⟨⟨k15.h⟩, ⟨kx15.h⟩⟩
              have rF : Blk w15.drew (w.heap.size + 1) #[.string ⟨#[]⟩, .bool false, .int .i64 0, .int .i64 0, .int .i64 0, .slice none 0 0, .slice none 0 0] 25 := ⟨r15.h⟩
              have iF : Blk w15.drew (w.heap.size + 2) #[.int .i64 0, .bool false, .string ⟨#[]⟩, .string ⟨#[]⟩, .slice none 0 0, .bool false, .int .i64 0] 43 := ⟨i15.h⟩
              have bF := b15.drew
              have oiF : OwnI w15.drew w.heap.size (.slice a8 n8 c8) (q.items.drop 1) := oi15
              have ohF : OwnH w15.drew w.heap.size (.slice a14 n14 c14) (q.held ++ [⟨q.tag + 1, conn, sub, x⟩]) := oh16
              have hpF : OwnP w15.drew w.heap.size (.slice pa0 pn pc0) x.msg.props := hp15
              clear k15 r15 i15 kx15 b15 oi15 oh16 hp15
              refine wp_region_held (S := fun W => Blk W w.heap.size #[tx q.name, .bool q.dur, .int .i64 q.depth, .int .i64 q.seq, .int .i64 (q.tag + 1), .slice a8 n8 c8, .slice a14 n14 c14] 25 ∧ Blk W bi #[.int .i64 x.seq, .bool x.again, tx x.msg.topic, tx x.msg.body, .slice pa0 pn pc0, .bool x.msg.dur, .int .i64 x.msg.til] 43) hmix ?_
              show wpAnyH _ _ _ _ _ _ _ _ (World.drew _)
              generalize w15.drew = wF at *
              replace hS : Blk wF w.heap.size #[tx q.name, .bool q.dur, .int .i64 q.depth, .int .i64 q.seq, .int .i64 (q.tag + 1), .slice a8 n8 c8, .slice a14 n14 c14] 25 ∧ Blk wF bi #[.int .i64 x.seq, .bool x.again, tx x.msg.topic, tx x.msg.body, .slice pa0 pn pc0, .bool x.msg.dur, .int .i64 x.msg.til] 43 := hS
              refine wpAnyH_take (i := 0) (v := .agg #[tx q.name, .bool q.dur, .int .i64 q.depth, .int .i64 q.seq, .int .i64 (q.tag + 1), .slice a8 n8 c8, .slice a14 n14 c14]) rfl (by kernel_rfl) (by kernel_rfl) (by kernel_rfl) (fun _ _ _ h => h) (.inl ⟨by rfl, fun W' hW' => ?_⟩) hS ?_
              · obtain ⟨d0, d1, d2, d3, d4, d5, d6⟩ := hW'.1.c7
                go_simp
              simp only [Act.put, List.getElem_toArray, List.getElem_cons_zero, List.setIfInBounds_toArray, List.set_cons_succ, List.set_cons_zero]
              refine wpAnyH_take (i := 1) (v := .pointer (some ⟨w.heap.size, 4, none⟩)) rfl (by kernel_rfl) (by kernel_rfl) (by kernel_rfl) (fun _ _ _ h => h) (.inl ⟨by rfl, fun W' hW' => ?_⟩) hS ?_
              · obtain ⟨d0, d1, d2, d3, d4, d5, d6⟩ := hW'.1.c7
                go_simp
              simp only [Act.put, List.getElem_toArray, List.getElem_cons_succ, List.getElem_cons_zero, List.setIfInBounds_toArray, List.set_cons_succ, List.set_cons_zero]
              refine wpAnyH_take (i := 2) (v := .int .i64 (q.tag + 1)) rfl (by kernel_rfl) (by kernel_rfl) (by kernel_rfl) (fun _ _ _ h => h) (.inl ⟨by rfl, fun W' hW' => ?_⟩) hS ?_
              · obtain ⟨d0, d1, d2, d3, d4, d5, d6⟩ := hW'.1.c7
                go_simp
              simp only [Act.put, List.getElem_toArray, List.getElem_cons_succ, List.getElem_cons_zero, List.setIfInBounds_toArray, List.set_cons_succ, List.set_cons_zero]
              refine wpAnyH_take (i := 3) (v := .agg #[.int .i64 x.seq, .bool x.again, tx x.msg.topic, tx x.msg.body, .slice pa0 pn pc0, .bool x.msg.dur, .int .i64 x.msg.til]) rfl (by kernel_rfl) (by kernel_rfl) (by kernel_rfl) (fun _ _ _ h => h) (.inl ⟨by rfl, fun W' hW' => ?_⟩) hS ?_
              · obtain ⟨d0, d1, d2, d3, d4, d5, d6⟩ := hW'.2.c7
                go_simp
              simp only [Act.put, List.getElem_toArray, List.getElem_cons_succ, List.getElem_cons_zero, List.setIfInBounds_toArray, List.set_cons_succ, List.set_cons_zero]
              refine wpAnyH_one (i := 4) (by kernel_rfl) rfl (by rfl) (fun K hK => ?_)
              refine wp_store_row 25 (.tmp 8) (.tmp 69) rfl (w.heap.size + 1) _ rfl rfl 25 _ rF.h (by kernel_rfl) rfl (by simp [Value.oneCell']) ?_
              have hS2 : Blk (wF.setRow (w.heap.size + 1) #[tx q.name, .bool q.dur, .int .i64 q.depth, .int .i64 q.seq, .int .i64 (q.tag + 1), .slice a8 n8 c8, .slice a14 n14 c14]) w.heap.size #[tx q.name, .bool q.dur, .int .i64 q.depth, .int .i64 q.seq, .int .i64 (q.tag + 1), .slice a8 n8 c8, .slice a14 n14 c14] 25 ∧ Blk (wF.setRow (w.heap.size + 1) #[tx q.name, .bool q.dur, .int .i64 q.depth, .int .i64 q.seq, .int .i64 (q.tag + 1), .slice a8 n8 c8, .slice a14 n14 c14]) bi #[.int .i64 x.seq, .bool x.again, tx x.msg.topic, tx x.msg.body, .slice pa0 pn pc0, .bool x.msg.dur, .int .i64 x.msg.til] 43 := ⟨hS.1.rowO (by omega) _, hS.2.rowO hine.2.1 _⟩
              have rG := rF.row #[tx q.name, .bool q.dur, .int .i64 q.depth, .int .i64 q.seq, .int .i64 (q.tag + 1), .slice a8 n8 c8, .slice a14 n14 c14]
              have iG := iF.rowO (g' := w.heap.size + 1) (by omega) #[tx q.name, .bool q.dur, .int .i64 q.depth, .int .i64 q.seq, .int .i64 (q.tag + 1), .slice a8 n8 c8, .slice a14 n14 c14]
              have bG := below_setRow bF (by omega : w.heap.size ≤ w.heap.size + 1) #[tx q.name, .bool q.dur, .int .i64 q.depth, .int .i64 q.seq, .int .i64 (q.tag + 1), .slice a8 n8 c8, .slice a14 n14 c14]
              have oiG := oiF.keep (kt_setRow rF (by decide) #[tx q.name, .bool q.dur, .int .i64 q.depth, .int .i64 q.seq, .int .i64 (q.tag + 1), .slice a8 n8 c8, .slice a14 n14 c14]) (kt_setRow rF (by decide) #[tx q.name, .bool q.dur, .int .i64 q.depth, .int .i64 q.seq, .int .i64 (q.tag + 1), .slice a8 n8 c8, .slice a14 n14 c14])
              have ohG := ohF.keep (kt_setRow rF (by decide) #[tx q.name, .bool q.dur, .int .i64 q.depth, .int .i64 q.seq, .int .i64 (q.tag + 1), .slice a8 n8 c8, .slice a14 n14 c14]) (kt_setRow rF (by decide) #[tx q.name, .bool q.dur, .int .i64 q.depth, .int .i64 q.seq, .int .i64 (q.tag + 1), .slice a8 n8 c8, .slice a14 n14 c14])
              have hpG := hpF.keep (kt_setRow rF (by decide) #[tx q.name, .bool q.dur, .int .i64 q.depth, .int .i64 q.seq, .int .i64 (q.tag + 1), .slice a8 n8 c8, .slice a14 n14 c14])
              refine hK _ _ hS2 ?_
              clear hK K hS rF iF bF oiF ohF hpF
              generalize wF.setRow (w.heap.size + 1) #[tx q.name, .bool q.dur, .int .i64 q.depth, .int .i64 q.seq, .int .i64 (q.tag + 1), .slice a8 n8 c8, .slice a14 n14 c14] = wG at *
              refine wpAnyH_take (i := 5) (v := .int .i64 (q.tag + 1)) rfl (by kernel_rfl) (by kernel_rfl) (by kernel_rfl) (fun _ _ _ h => h) (.inl ⟨by rfl, fun W' hW' => ?_⟩) hS2 ?_
              · obtain ⟨d0, d1, d2, d3, d4, d5, d6⟩ := hW'.1.c7
                go_simp
              simp only [Act.put, List.getElem_toArray, List.getElem_cons_succ, List.getElem_cons_zero, List.setIfInBounds_toArray, List.set_cons_succ, List.set_cons_zero]
              refine wpAnyH_one (i := 6) (by kernel_rfl) rfl (by rfl) (fun K hK => ?_)
              refine wp_store_row 43 (.tmp 10) (.tmp 72) rfl (w.heap.size + 2) _ rfl rfl 43 _ iG.h (by kernel_rfl) rfl (by simp [Value.oneCell']) ?_
              have hS3 : Blk (wG.setRow (w.heap.size + 2) #[.int .i64 x.seq, .bool x.again, tx x.msg.topic, tx x.msg.body, .slice pa0 pn pc0, .bool x.msg.dur, .int .i64 x.msg.til]) w.heap.size #[tx q.name, .bool q.dur, .int .i64 q.depth, .int .i64 q.seq, .int .i64 (q.tag + 1), .slice a8 n8 c8, .slice a14 n14 c14] 25 ∧ Blk (wG.setRow (w.heap.size + 2) #[.int .i64 x.seq, .bool x.again, tx x.msg.topic, tx x.msg.body, .slice pa0 pn pc0, .bool x.msg.dur, .int .i64 x.msg.til]) bi #[.int .i64 x.seq, .bool x.again, tx x.msg.topic, tx x.msg.body, .slice pa0 pn pc0, .bool x.msg.dur, .int .i64 x.msg.til] 43 := ⟨hS2.1.rowO (by omega) _, hS2.2.rowO hine.2.2 _⟩
              have iH := iG.row #[.int .i64 x.seq, .bool x.again, tx x.msg.topic, tx x.msg.body, .slice pa0 pn pc0, .bool x.msg.dur, .int .i64 x.msg.til]
              have rH := rG.rowO (g' := w.heap.size + 2) (by omega) #[.int .i64 x.seq, .bool x.again, tx x.msg.topic, tx x.msg.body, .slice pa0 pn pc0, .bool x.msg.dur, .int .i64 x.msg.til]
              have bH := below_setRow bG (by omega : w.heap.size ≤ w.heap.size + 2) #[.int .i64 x.seq, .bool x.again, tx x.msg.topic, tx x.msg.body, .slice pa0 pn pc0, .bool x.msg.dur, .int .i64 x.msg.til]
              have ohH := ohG.keep (kt_setRow iG (by decide) #[.int .i64 x.seq, .bool x.again, tx x.msg.topic, tx x.msg.body, .slice pa0 pn pc0, .bool x.msg.dur, .int .i64 x.msg.til]) (kt_setRow iG (by decide) #[.int .i64 x.seq, .bool x.again, tx x.msg.topic, tx x.msg.body, .slice pa0 pn pc0, .bool x.msg.dur, .int .i64 x.msg.til])
              have hpH := hpG.keep (kt_setRow iG (by decide) #[.int .i64 x.seq, .bool x.again, tx x.msg.topic, tx x.msg.body, .slice pa0 pn pc0, .bool x.msg.dur, .int .i64 x.msg.til])
              have oiH : OwnI (wG.setRow (w.heap.size + 2) #[.int .i64 x.seq, .bool x.again, tx x.msg.topic, tx x.msg.body, .slice pa0 pn pc0, .bool x.msg.dur, .int .i64 x.msg.til]) w.heap.size (.slice a8 n8 c8) (q.items.drop 1) := oiG.but (grown_setRow wG (w.heap.size + 2) #[.int .i64 x.seq, .bool x.again, tx x.msg.topic, tx x.msg.body, .slice pa0 pn pc0, .bool x.msg.dur, .int .i64 x.msg.til]) HRB.out (kt_setRow iG (by decide) _)
              refine hK _ _ hS3 ?_
              clear hK K hS2 iG rG bG oiG ohG hpG
              generalize wG.setRow (w.heap.size + 2) #[.int .i64 x.seq, .bool x.again, tx x.msg.topic, tx x.msg.body, .slice pa0 pn pc0, .bool x.msg.dur, .int .i64 x.msg.til] = wH at *
              refine wpAnyH_take (i := 7) (v := .int .i64 0) rfl (by kernel_rfl) (by kernel_rfl) (by kernel_rfl) (fun _ _ _ h => h) (.inl ⟨by rfl, fun W' hW' => ?_⟩) hS3 ?_
              · obtain ⟨d0, d1, d2, d3, d4, d5, d6⟩ := hW'.1.c7
                go_simp
              simp only [Act.put, List.getElem_toArray, List.getElem_cons_succ, List.getElem_cons_zero, List.setIfInBounds_toArray, List.set_cons_succ, List.set_cons_zero]
              refine wpAnyH_done (by kernel_rfl) ?_ _
              go_wp2_with fail
              refine ret4 rfl rH rfl iH rfl rfl rfl rfl rfl ⟨.agg #[tx q.name, .bool q.dur, .int .i64 q.depth, .int .i64 q.seq, .int .i64 (q.tag + 1), .slice a8 n8 c8, .slice a14 n14 c14], .slice pa0 pn pc0, ?_, ?_, ?_, bH⟩
              · rw [HX3.out]
                rfl
              · have eT : takeQ q conn sub true = { q with tag := q.tag + 1, items := q.items.drop 1, held := q.held ++ [⟨q.tag + 1, conn, sub, x⟩] } := by
                  unfold takeQ
                  rw [if_pos rfl, HX2.out]
                rw [eT]
                exact ⟨_, _, rfl, oiH, ohH⟩
              · rw [HX3.out]
                exact hpH
end Go.Proofs.YtlbcefocmdnlgaaGreatDoor

namespace Go.Proofs.YtlbcefocmdnlgaaGreatDoor
open Go.RowKit Go.Lib
set_option maxRecDepth 100000
set_option linter.unusedSimpArgs false

def mx (c : UInt8) : Msg := ⟨[c], [], [], false, 0⟩
def kq : Nat → Que
  | 0 => newQ [113] true 5
  | k + 1 => pushQ (kq k) (mx (UInt8.ofNat (120 + k)))
theorem new_ok : newC [113] 5 = 0 := by decide
theorem push0 : pushC (kq 0) (mx 120) = 0 := by decide
theorem push1 : pushC (kq 1) (mx 121) = 0 := by decide
theorem push2 : pushC (kq 2) (mx 122) = 0 := by decide
theorem take0 : takeC (kq 3) 1 0 = 0 := by decide
def kt1 : Que := takeQ (kq 3) 1 0 true
theorem take1 : takeC kt1 1 0 = 0 := by decide
def kt2 : Que := takeQ kt1 1 0 true
theorem settle2 : settleC kt2 1 1 = 0 := by decide
def kt3 : Que := settleQ kt2 1 1 true
theorem kt3_len : kt3.items.length = 2 := by decide

theorem small_kq : ∀ k, k ≤ 3 → lenQ (kq k) ≤ 1000000 := fun k hk => by
  have : ∀ k, lenQ (kq k) = k := fun k => by
    induction k with
    | zero => rfl
    | succ k ih => simp only [lenQ, kq, pushQ, List.length_append, List.length_singleton] at ih ⊢; omega
  rw [this]
  omega
structure Chain (q3 q4 q5 q6 : Que) (x3 x4 y : Itm) (l : List Itm) : Prop where
  c3 : takeC q3 1 0 = 0
  t3 : takeQ q3 1 0 true = q4
  g3 : q3.tag + 1 = 1
  x3 : q3.items.headD zeroI = x3
  c4 : takeC q4 1 0 = 0
  t4 : takeQ q4 1 0 true = q5
  g4 : q4.tag + 1 = 2
  x4 : q4.items.headD zeroI = x4
  c5 : settleC q5 1 1 = 0
  t5 : settleQ q5 1 1 true = q6
  n6 : q6.items.length = 2
  i6 : q6.items = y :: l
  a6 : y.again = true
  o6 : y.msg.topic = [120]
  l3 : lenQ q3 ≤ 1000000
  l4 : lenQ q4 ≤ 1000000
  l5 : lenQ q5 ≤ 1000000
theorem chain : ∃ q3 q4 q5 q6 x3 x4 y l, kq 3 = q3 ∧ Chain q3 q4 q5 q6 x3 x4 y l :=
  ⟨kq 3, kt1, kt2, kt3, _, _, _, _, rfl, take0, rfl, rfl, rfl, take1, rfl, rfl, rfl, settle2, rfl, kt3_len, rfl, rfl, rfl, small_kq 3 (by omega), by decide, by decide⟩
theorem take_at {W : World} (hva : To.Vars W) {q q' : Que} {x : Itm} {iv hv : Value} {tg : Int} (hi : RdI W iv q.items) (hh : RdH W hv q.held) {conn sub : Int} (hc : takeC q conn sub = 0) (hq : takeQ q conn sub true = q') (ht : q.tag + 1 = tg) (hx : q.items.headD zeroI = x) (hl : lenQ q ≤ 1000000) :
    Calls Tryz.prog 27 #[.agg #[tx q.name, .bool q.dur, .int .i64 q.depth, .int .i64 q.seq, .int .i64 q.tag, iv, hv], .int .i64 conn, .int .i64 sub, .bool true] W fun e w' => ∃ v' pv', e = .returned (.tuple #[v', .int .i64 tg, .agg (itmV x pv').toArray, .int .i64 0]) ∧ OwnQ w' W.heap.size v' q' ∧ OwnP w' W.heap.size pv' x.msg.props ∧ Below W.heap.size W w' := by
  have h := take_any W hva _ q ⟨iv, hv, rfl, hi, hh⟩ conn sub true hl
  rw [hc, if_pos rfl, if_pos rfl, if_pos rfl, if_pos rfl, hq, ht, hx] at h
  exact h
theorem settle_at {W : World} (hva : To.Vars W) {q q' : Que} {iv hv : Value} (hi : RdI W iv q.items) (hh : RdH W hv q.held) {conn tag : Int} (hc : settleC q conn tag = 0) (hq : settleQ q conn tag true = q') (hl : lenQ q ≤ 1000000) :
    Calls Tryz.prog 28 #[.agg #[tx q.name, .bool q.dur, .int .i64 q.depth, .int .i64 q.seq, .int .i64 q.tag, iv, hv], .int .i64 conn, .int .i64 tag, .bool true] W fun e w' => ∃ v', e = .returned (.tuple #[v', .int .i64 0]) ∧ OwnQ w' W.heap.size v' q' ∧ Below W.heap.size W w' := by
  have h := settle_any W hva _ q ⟨iv, hv, rfl, hi, hh⟩ conn tag true hl
  rw [hc, if_pos rfl, hq] at h
  exact h
/-- The queue lies in the block g. -/
structure WkS (w W : World) (g : Nat) (q : Que) : Prop where
  q : ∃ iv hv, RdI W iv q.items ∧ RdH W hv q.held ∧ Blk W g #[tx q.name, .bool q.dur, .int .i64 q.depth, .int .i64 q.seq, .int .i64 q.tag, iv, hv] 25
  l : w.heap.size ≤ g
  b : Below w.heap.size w W

theorem WkS.on {w W W' : World} {g : Nat} {q : Que} (h : WkS w W g q) (hb : Below W.heap.size W W') : WkS w W' g q := by
  obtain ⟨⟨iv, hv, h1, h2, h3⟩, h4, h5⟩ := h
  exact ⟨⟨iv, hv, h1.on hb, h2.on hb, h3.on hb⟩, h4, nxt h5 hb⟩

theorem Kt.then_new {t : TypeId} {a b c : World} (h : Kt t a b) (hs : a.heap.size ≤ b.heap.size) (hg : b.grownBy c (some a.heap.size)) : Kt t a c := fun k cur hk => by
  have hlt := (Array.getElem?_eq_some_iff.1 hk).1
  exact (hg.block k (by omega) (fun e => by injection e with e; omega)).trans (h k cur hk)
theorem head_at {W : World} {a : Option Addr} {n c : Nat} {y : Itm} {l : List Itm} (h : RdI W (.slice a n c) (y :: l)) :
    ∃ b o, a = some ⟨b, o, none⟩ ∧ W.cell? ⟨b, o, none⟩ = some (.int .i64 y.seq) ∧ W.cell? ⟨b, o + 1, none⟩ = some (.bool y.again) ∧ W.cell? ⟨b, o + 2, none⟩ = some (tx y.msg.topic) := by
  obtain ⟨zs, e, hz⟩ := h
  cases zs with
  | nil => simp at e
  | cons z zs =>
    simp only [List.map_cons, List.cons.injEq] at e
    obtain ⟨b, o, pv, rfl, _, _, c0, c1, c2, _⟩ := itm_at hz (Below.refl _ W) (i := 0) (by simp)
    simp only [List.getElem_cons_zero, Nat.zero_mul, Nat.add_zero, e.1] at c0 c1 c2
    exact ⟨b, o, rfl, c0, c1, c2⟩
theorem rdp_nil (w : World) : RdP w (.slice none 0 0) [] := OwnP.rd (B := 0) (World.ownsRow_nil ..)

set_option maxHeartbeats 4000000 in
theorem wakes_any (w : World) (hva : To.Vars w) : Calls Tryz.prog 6 #[] w fun e w' => e = .returned (.bool true) ∧ Below w.heap.size w w' := by
  have HN : Calls Tryz.prog 8 #[tx [113], .bool true, .int .i64 5] w fun e w' => ∃ v', e = .returned (.tuple #[v', .int .i64 0]) ∧ OwnQ w' w.heap.size v' (kq 0) ∧ Below w.heap.size w w' := by
    have h := new_any w [113] true 5
    rw [new_ok, if_pos rfl] at h
    exact h
  go_enter Tryz.func6, Tryz.ntmps6
  go_upto_region 2 with (refine HN.mono ?_; rintro e w1 ⟨v1, rfl, ⟨iv1, hv1, rfl, oi1, oh1⟩, b1⟩; obtain ⟨ai1, ci1, rfl⟩ := oi1.rd.len; obtain ⟨ah1, ch1, rfl⟩ := oh1.rd.len; unfold queV)
  have S1 : WkS w (w1.alloc (.cells #[tx (kq 0).name, .bool (kq 0).dur, .int .i64 (kq 0).depth, .int .i64 (kq 0).seq, .int .i64 (kq 0).tag, .slice ai1 (kq 0).items.length ci1, .slice ah1 (kq 0).held.length ch1] 25)) w1.heap.size (kq 0) :=
    have hb := (Below.refl _ w1).alloc (Nat.le_refl _) (.cells #[tx (kq 0).name, .bool (kq 0).dur, .int .i64 (kq 0).depth, .int .i64 (kq 0).seq, .int .i64 (kq 0).tag, .slice ai1 (kq 0).items.length ci1, .slice ah1 (kq 0).held.length ch1] 25)
    ⟨⟨_, _, oi1.rd.on hb, oh1.rd.on hb, Blk.new ..⟩, b1.size, nxt b1 hb⟩
  clear oi1 oh1 b1 HN
  generalize w1.heap.size = g at *
  generalize w1.alloc (.cells #[tx (kq 0).name, .bool (kq 0).dur, .int .i64 (kq 0).depth, .int .i64 (kq 0).seq, .int .i64 (kq 0).tag, .slice ai1 (kq 0).items.length ci1, .slice ah1 (kq 0).held.length ch1] 25) = w2 at *
  go_wp2_with fail
  have S3 : Hid (WkS w (w2.alloc (.cells #[.string ⟨#[120]⟩, .string ⟨#[121]⟩, .string ⟨#[122]⟩] 9)) g (kq 0)) := S1.on ((Below.refl _ w2).alloc (Nat.le_refl _) _)
  have K3 : Hid (Blk (w2.alloc (.cells #[.string ⟨#[120]⟩, .string ⟨#[121]⟩, .string ⟨#[122]⟩] 9)) w2.heap.size #[.string ⟨#[120]⟩, .string ⟨#[121]⟩, .string ⟨#[122]⟩] 9) := Blk.new ..
  clear S1
  generalize w2.heap.size = gs at *
  generalize w2.alloc (.cells #[.string ⟨#[120]⟩, .string ⟨#[121]⟩, .string ⟨#[122]⟩] 9) = w3 at *
  go_loopg [2, 4, 18] 3 (fun gg s2 _ s18 wr => ∃ kk : Nat, kk ≤ 3 ∧ 3 - kk ≤ gg ∧ s2 = .int .i64 0 ∧ s18 = .int .i64 kk ∧ Hid (WkS w wr g (kq kk)) ∧ Hid (Blk wr gs #[.string ⟨#[120]⟩, .string ⟨#[121]⟩, .string ⟨#[122]⟩] 9))
  case atStart => exact ⟨0, Nat.zero_le _, by omega, rfl, rfl, S3, K3⟩
  case round =>
    obtain ⟨kk, hkk, hg, rfl, rfl, HS, HK⟩ := hrel
    clear S3 K3
    obtain ⟨wr, hwr⟩ : ∃ W, W = wr := ⟨_, rfl⟩
    subst hwr
    by_cases hlt : kk < 3
    · have hltz : (kk : Int) < 3 := by omega
      have cs : wr.cell? ⟨gs, kk, none⟩ = some (tx [UInt8.ofNat (120 + kk)]) := by
        rcases (by omega : kk = 0 ∨ kk = 1 ∨ kk = 2) with rfl | rfl | rfl
        · exact HK.out.cell 0
        · exact HK.out.cell 1
        · exact HK.out.cell 2
      have hpc : pushC (kq kk) (mx (UInt8.ofNat (120 + kk))) = 0 := by
        rcases (by omega : kk = 0 ∨ kk = 1 ∨ kk = 2) with rfl | rfl | rfl
        · exact push0
        · exact push1
        · exact push2
      obtain ⟨⟨iv, hv, h1, h2, h3⟩, h4, h5⟩ := HS.out
      have HP : Calls Tryz.prog 26 #[.agg #[tx (kq kk).name, .bool (kq kk).dur, .int .i64 (kq kk).depth, .int .i64 (kq kk).seq, .int .i64 (kq kk).tag, iv, hv], .agg #[tx [UInt8.ofNat (120 + kk)], .string ⟨#[]⟩, .slice none 0 0, .bool false, .int .i64 0]] wr fun e w' => ∃ v', e = .returned (.tuple #[v', .int .i64 0]) ∧ OwnQ w' wr.heap.size v' (kq (kk + 1)) ∧ Below wr.heap.size wr w' := by
        have h := push_any wr (hva.below h5) _ (kq kk) ⟨iv, hv, rfl, h1, h2⟩ (mx (UInt8.ofNat (120 + kk))) (.slice none 0 0) (rdp_nil _) (small_kq kk hkk)
        rw [hpc, if_pos rfl] at h
        exact h
      have K0 : Hid (Blk wr g #[tx (kq kk).name, .bool (kq kk).dur, .int .i64 (kq kk).depth, .int .i64 (kq kk).seq, .int .i64 (kq kk).tag, iv, hv] 25) := h3
      have B0 : Hid (Below w.heap.size w wr) := h5
      clear HS h1 h2 h3 h5 hpc
      obtain ⟨c, hc⟩ : ∃ c, UInt8.ofNat (120 + kk) = c := ⟨_, rfl⟩
      obtain ⟨q, hq⟩ : ∃ q, kq kk = q := ⟨_, rfl⟩
      obtain ⟨q', hq'⟩ : ∃ q, kq (kk + 1) = q := ⟨_, rfl⟩
      rw [hc] at cs HP
      rw [hq] at HP K0
      rw [hq'] at HP
      have HQ' : Hid (kq (kk + 1) = q') := hq'
      clear hc hq hq'
      go_wp2_with (refine wpl_load25 rfl (.tmp 1) rfl _ _ rfl K0.out rfl ?_)
      refine HP.mono ?_
      rintro e w4 ⟨v4, rfl, ⟨iv4, hv4, rfl, oi4, oh4⟩, b4⟩
      obtain ⟨ai4, ci4, rfl⟩ := oi4.rd.len
      obtain ⟨ah4, ch4, rfl⟩ := oh4.rd.len
      have K4 := K0.out.on b4
      have HK4 := HK.out.on b4
      have B4 := nxt B0.out b4
      have HL4 : Hid (gs ≠ g) := fun e => by
        subst e
        have h1 := K4.h
        rw [HK4.h] at h1
        injection h1 with e2
        injection e2 with _ e3 _
        exact absurd e3 (by decide)
      clear HP K0 B0 b4 cs HK
      unfold queV
      go_wp2_with (refine wpl_put rfl (.tmp 1) (.tmp 27) rfl _ _ rfl rfl K4 (by kernel_rfl) rfl (by simp [Value.oneCell']) ?_)
      intro w5 k5 g5 s5
      have HS5 : Hid (WkS w w5 g q') := ⟨⟨_, _, (oi4.keep (kt_grown K4 g5 (by decide)) (kt_grown K4 g5 (by decide))).rd, (oh4.keep (kt_grown K4 g5 (by decide)) (kt_grown K4 g5 (by decide))).rd, k5⟩, h4, B4.grown g5 B4.size (fun k hk => by injection hk with hk; omega)⟩
      have HK5 : Hid (Blk w5 gs #[.string ⟨#[120]⟩, .string ⟨#[121]⟩, .string ⟨#[122]⟩] 9) := HK4.grown g5 (fun e => by injection e with e; exact HL4.out e)
      clear K4 HK4 B4 HL4 oi4 oh4 k5 g5 s5
      go_wp2_with fail
      go_roundg (3 - (kk + 1))
      case measure => omega
      case rel => exact ⟨kk + 1, by omega, by omega, rfl, by go_num, by rw [HQ'.out]; exact HS5, HK5⟩
    · have hk3 : kk = 3 := by omega
      subst hk3
      clear hkk hg HK hlt
      obtain ⟨q3, q4, q5, q6, x3, x4, y, l, eq3, HC⟩ := chain
      rw [eq3] at HS
      clear eq3
      have HD : Hid (Chain q3 q4 q5 q6 x3 x4 y l) := HC
      obtain ⟨⟨iv, hv, h1, h2, h3⟩, h4, h5⟩ := HS.out
      have HP := take_at (hva.below h5) h1 h2 HC.c3 HC.t3 HC.g3 HC.x3 HC.l3
      have K0 : Hid (Blk wr g #[tx q3.name, .bool q3.dur, .int .i64 q3.depth, .int .i64 q3.seq, .int .i64 q3.tag, iv, hv] 25) := h3
      have B0 : Hid (Below w.heap.size w wr) := h5
      clear HS h1 h2 h3 h5 HC
      go_wp2_with (refine wpl_load25 rfl (.tmp 1) rfl _ _ rfl K0.out rfl ?_)
      refine HP.mono ?_
      rintro e w4 ⟨v4, pv4, rfl, ⟨iv4, hv4, rfl, oi4, oh4⟩, hp4, b4⟩
      obtain ⟨ai4, ci4, rfl⟩ := oi4.rd.len
      obtain ⟨ah4, ch4, rfl⟩ := oh4.rd.len
      obtain ⟨pa4, pc4, rfl⟩ := hp4.shape
      have K4 := K0.out.on b4
      have B4 := nxt B0.out b4
      clear HP K0 B0 b4 hp4
      unfold queV itmV
      have K4a := K4.alloc (.cells #[.int .i64 0, .bool false, .string ⟨#[]⟩, .string ⟨#[]⟩, .slice none 0 0, .bool false, .int .i64 0] 43)
      have B4a := B4.alloc B4.size (.cells #[.int .i64 0, .bool false, .string ⟨#[]⟩, .string ⟨#[]⟩, .slice none 0 0, .bool false, .int .i64 0] 43)
      go_wp2_with (refine wpl_put rfl (.tmp 1) (.tmp 35) rfl _ _ rfl rfl K4a (by kernel_rfl) rfl (by simp [Value.oneCell']) ?_)
      intro w5 k5 g5 s5
      have i5 := (Blk.new w4 #[.int .i64 0, .bool false, .string ⟨#[]⟩, .string ⟨#[]⟩, .slice none 0 0, .bool false, .int .i64 0] 43).grown g5 (fun e => by injection e with e; have := K4.lt; omega)
      have B5 := B4a.grown g5 B4a.size (fun k hk => by injection hk with hk; omega)
      have t35 : Kt 43 w4 w5 := (Kt.of_below ((Below.refl _ w4).alloc (Nat.le_refl _) _)).trans (kt_grown K4a g5 (by decide))
      have t45 : Kt 61 w4 w5 := (Kt.of_below ((Below.refl _ w4).alloc (Nat.le_refl _) _)).trans (kt_grown K4a g5 (by decide))
      have t88 : Kt 54 w4 w5 := (Kt.of_below ((Below.refl _ w4).alloc (Nat.le_refl _) _)).trans (kt_grown K4a g5 (by decide))
      have hs5 : w4.heap.size ≤ w5.heap.size := Nat.le_of_lt i5.lt
      have hg4 : g < w4.heap.size := K4.lt
      clear K4 K4a B4 B4a g5 s5
      go_wp2_with (refine wpl_put rfl (.tmp 6) (.tmp 37) rfl _ _ rfl rfl i5 (by kernel_rfl) rfl (by simp [Value.oneCell']) ?_)
      intro w6 k6 g6 s6
      have K6 : Hid (Blk w6 g #[tx q4.name, .bool q4.dur, .int .i64 q4.depth, .int .i64 q4.seq, .int .i64 q4.tag, .slice ai4 q4.items.length ci4, .slice ah4 q4.held.length ch4] 25) := k5.grown g6 (fun e => by injection e with e; omega)
      have B6 : Hid (Below w.heap.size w w6) := B5.grown g6 B5.size (fun k hk => by injection hk with hk; have := h4; omega)
      have oi6 := (oi4.keep (t35.then_new hs5 g6) (t88.then_new hs5 g6)).rd
      have oh6 := (oh4.keep (t45.then_new hs5 g6) (t88.then_new hs5 g6)).rd
      clear oi4 oh4 t35 t45 t88 hs5 hg4 i5 k5 k6 g6 s6 B5
      have HP := take_at (hva.below B6.out) oi6 oh6 HD.out.c4 HD.out.t4 HD.out.g4 HD.out.x4 HD.out.l4
      clear oi6 oh6
      go_wp2_with (refine wpl_load25 rfl (.tmp 1) rfl _ _ rfl K6.out rfl ?_)
      refine HP.mono ?_
      obtain ⟨wr, hwr⟩ : ∃ W, W = w6 := ⟨_, rfl⟩
      subst hwr
      rintro e w7 ⟨v4, pv4, rfl, ⟨iv4, hv4, rfl, oi4, oh4⟩, hp4, b4⟩
      obtain ⟨ai4, ci4, rfl⟩ := oi4.rd.len
      obtain ⟨ah4, ch4, rfl⟩ := oh4.rd.len
      obtain ⟨pa4, pc4, rfl⟩ := hp4.shape
      have K4 := K6.out.on b4
      have B4 := nxt B6.out b4
      clear HP K6 B6 b4 hp4
      unfold queV itmV
      obtain ⟨w4, hw4⟩ : ∃ W, W = w7 := ⟨_, rfl⟩
      subst hw4
      have K4a := K4.alloc (.cells #[.int .i64 0, .bool false, .string ⟨#[]⟩, .string ⟨#[]⟩, .slice none 0 0, .bool false, .int .i64 0] 43)
      have B4a := B4.alloc B4.size (.cells #[.int .i64 0, .bool false, .string ⟨#[]⟩, .string ⟨#[]⟩, .slice none 0 0, .bool false, .int .i64 0] 43)
      go_wp2_with (refine wpl_put rfl (.tmp 1) (.tmp 42) rfl _ _ rfl rfl K4a (by kernel_rfl) rfl (by simp [Value.oneCell']) ?_)
      intro w5 k5 g5 s5
      have i5 := (Blk.new w4 #[.int .i64 0, .bool false, .string ⟨#[]⟩, .string ⟨#[]⟩, .slice none 0 0, .bool false, .int .i64 0] 43).grown g5 (fun e => by injection e with e; have := K4.lt; omega)
      have B5 := B4a.grown g5 B4a.size (fun k hk => by injection hk with hk; omega)
      have t35 : Kt 43 w4 w5 := (Kt.of_below ((Below.refl _ w4).alloc (Nat.le_refl _) _)).trans (kt_grown K4a g5 (by decide))
      have t45 : Kt 61 w4 w5 := (Kt.of_below ((Below.refl _ w4).alloc (Nat.le_refl _) _)).trans (kt_grown K4a g5 (by decide))
      have t88 : Kt 54 w4 w5 := (Kt.of_below ((Below.refl _ w4).alloc (Nat.le_refl _) _)).trans (kt_grown K4a g5 (by decide))
      have hs5 : w4.heap.size ≤ w5.heap.size := Nat.le_of_lt i5.lt
      have hg4 : g < w4.heap.size := K4.lt
      clear K4 K4a B4 B4a g5 s5
      go_wp2_with (refine wpl_put rfl (.tmp 8) (.tmp 44) rfl _ _ rfl rfl i5 (by kernel_rfl) rfl (by simp [Value.oneCell']) ?_)
      intro w6 k6 g6 s6
      have K6 : Hid (Blk w6 g #[tx q5.name, .bool q5.dur, .int .i64 q5.depth, .int .i64 q5.seq, .int .i64 q5.tag, .slice ai4 q5.items.length ci4, .slice ah4 q5.held.length ch4] 25) := k5.grown g6 (fun e => by injection e with e; omega)
      have B6 : Hid (Below w.heap.size w w6) := B5.grown g6 B5.size (fun k hk => by injection hk with hk; have := h4; omega)
      have oi6 := (oi4.keep (t35.then_new hs5 g6) (t88.then_new hs5 g6)).rd
      have oh6 := (oh4.keep (t45.then_new hs5 g6) (t88.then_new hs5 g6)).rd
      clear oi4 oh4 t35 t45 t88 hs5 hg4 i5 k5 k6 g6 s6 B5
      have HP := settle_at (hva.below B6.out) oi6 oh6 HD.out.c5 HD.out.t5 HD.out.l5
      clear oi6 oh6
      go_wp2_with (refine wpl_load25 rfl (.tmp 1) rfl _ _ rfl K6.out rfl ?_)
      refine HP.mono ?_
      rintro e w7 ⟨v4, rfl, ⟨iv4, hv4, rfl, oi4, oh4⟩, b4⟩
      obtain ⟨ah4, ch4, rfl⟩ := oh4.rd.len
      obtain ⟨ai4, ci4, rfl⟩ := oi4.rd.len
      have K4 := K6.out.on b4
      have B4 := nxt B6.out b4
      clear HP K6 B6 b4 oh4
      unfold queV
      go_wp2_with (refine wpl_put rfl (.tmp 1) (.tmp 63) rfl _ _ rfl rfl K4 (by kernel_rfl) rfl (by simp [Value.oneCell']) ?_)
      intro w8 k8 g8 s8
      have B8 := B4.grown g8 B4.size (fun k hk => by injection hk with hk; have := h4; omega)
      have oi8 := (oi4.keep (kt_grown K4 g8 (by decide)) (kt_grown K4 g8 (by decide))).rd
      rw [HD.out.n6, HD.out.i6] at oi8
      rw [HD.out.n6] at k8
      obtain ⟨ai4, hai⟩ : ∃ a, a = ai4 := ⟨_, rfl⟩
      subst hai
      clear oi4 K4 B4 g8 s8
      obtain ⟨d0, d1, d2, d3, d4, d5, d6⟩ := k8.c7
      obtain ⟨bb, oo, rfl, e0, e1, e2⟩ := head_at oi8
      rw [HD.out.a6] at e1
      rw [HD.out.o6] at e2
      clear oi8 HD
      go_wp2
      go_ret
      exact ⟨ret_b (by simp), B8⟩
end Go.Proofs.YtlbcefocmdnlgaaGreatDoor

namespace Go.Proofs.YtlbcefocmdnlgaaGreatDoor
open Go.RowKit Go.Lib
structure Opn where
  kind : Int
  conn : Int
  n : Int
  flag : Bool
  m : Msg
def opV (o : Opn) (pv : Value) : List Value := [.int .i64 o.kind, .int .i64 o.conn, .int .i64 o.n, .bool o.flag, tx o.m.topic, tx o.m.body, pv, .bool o.m.dur, .int .i64 o.m.til]
end Go.Proofs.YtlbcefocmdnlgaaGreatDoor

namespace Go.Proofs.YtlbcefocmdnlgaaGreatDoor
open Go.RowKit Go.Lib
set_option maxRecDepth 100000
set_option linter.unusedSimpArgs false

structure Qc3 (w W : World) (o : Opn) (ov : Value) (Q M : Array Value) : Prop where
  q : Blk W w.heap.size Q 25
  m : Blk W (w.heap.size + 1) M 28
  o : Blk W (w.heap.size + 2) #[.int .i64 o.kind, .int .i64 o.conn, .int .i64 o.n, .bool o.flag, tx o.m.topic, tx o.m.body, ov, .bool o.m.dur, .int .i64 o.m.til] 30
  l : Below w.heap.size w W
theorem Qc3.on {w W W' : World} {o : Opn} {ov : Value} {Q M : Array Value} (h : Qc3 w W o ov Q M) (hb : Below W.heap.size W W') : Qc3 w W' o ov Q M := ⟨h.q.on hb, h.m.on hb, h.o.on hb, nxt h.l hb⟩
theorem Qc3.start (w : World) (o : Opn) (ov : Value) (Q M : Array Value) : Qc3 w (((w.alloc (.cells Q 25)).alloc (.cells M 28)).alloc (.cells #[.int .i64 o.kind, .int .i64 o.conn, .int .i64 o.n, .bool o.flag, tx o.m.topic, tx o.m.body, ov, .bool o.m.dur, .int .i64 o.m.til] 30)) o ov Q M := by
  refine ⟨((Blk.new _ _ _).alloc _).alloc _, ?_, ?_, (((Below.refl _ w).alloc (Nat.le_refl _) _).alloc (by simp) _).alloc (by simp; omega) _⟩
  · have := (Blk.new (w.alloc (.cells Q 25)) M 28).alloc (.cells #[.int .i64 o.kind, .int .i64 o.conn, .int .i64 o.n, .bool o.flag, tx o.m.topic, tx o.m.body, ov, .bool o.m.dur, .int .i64 o.m.til] 30)
    rwa [World.size_alloc] at this
  · have := Blk.new ((w.alloc (.cells Q 25)).alloc (.cells M 28)) #[.int .i64 o.kind, .int .i64 o.conn, .int .i64 o.n, .bool o.flag, tx o.m.topic, tx o.m.body, ov, .bool o.m.dur, .int .i64 o.m.til] 30
    rwa [World.size_alloc, World.size_alloc] at this
structure QcS (w w8 W : World) (o : Opn) (ov : Value) (Q M A B : Array Value) (ga gb : Nat) : Prop where
  q : Blk W w.heap.size Q 25
  m : Blk W (w.heap.size + 1) M 28
  o : Blk W (w.heap.size + 2) #[.int .i64 o.kind, .int .i64 o.conn, .int .i64 o.n, .bool o.flag, tx o.m.topic, tx o.m.body, ov, .bool o.m.dur, .int .i64 o.m.til] 30
  a : Blk W ga A 25
  b : Blk W gb B 25
  l : Below w8.heap.size w8 W
theorem QcS.on {w w8 W W' : World} {o : Opn} {ov : Value} {Q M A B : Array Value} {ga gb : Nat} (h : QcS w w8 W o ov Q M A B ga gb) (hb : Below W.heap.size W W') : QcS w w8 W' o ov Q M A B ga gb := ⟨h.q.on hb, h.m.on hb, h.o.on hb, h.a.on hb, h.b.on hb, nxt h.l hb⟩
theorem ocells {W : World} {g : Nat} {o : Opn} {ov : Value} (h : Blk W g #[.int .i64 o.kind, .int .i64 o.conn, .int .i64 o.n, .bool o.flag, tx o.m.topic, tx o.m.body, ov, .bool o.m.dur, .int .i64 o.m.til] 30) : W.cell? ⟨g, 1, none⟩ = some (.int .i64 o.conn) ∧ W.cell? ⟨g, 2, none⟩ = some (.int .i64 o.n) := ⟨h.cell 1, h.cell 2⟩
theorem small_new (name : List UInt8) (dur : Bool) (depth : Int) : Small (if newC name depth = 0 then newQ name dur depth else zeroQ) := by
  split
  · exact ⟨by simp [newQ], by simp [newQ], by simp [newQ], by simp [newQ]⟩
  · exact ⟨by simp [zeroQ], by simp [zeroQ], by simp [zeroQ], by simp [zeroQ]⟩

set_option maxHeartbeats 8000000 in
theorem can_law (w : World) (hva : To.Vars w) (v : Value) (q : Que) (h : RdQ w v q) (hf : FitQ q) (hpi : ∀ y ∈ q.items, y.msg.props.length ≤ 2513169434916) (hph : ∀ y ∈ q.held, y.itm.msg.props.length ≤ 2513169434916) (hbig : lenQ q ≤ 9223372036854775806)
    (m : Msg) (pv : Value) (hm : RdP w pv m.props) (hmf : FitM m) (o : Opn) (ov : Value) :
    Calls Tryz.prog 3 #[v, .agg (msgV m pv).toArray, .agg (opV o ov).toArray] w fun e w' => e = .returned (.bool true) ∧ Below w.heap.size w w' := by
  have hR := h
  obtain ⟨iv, hv, rfl, hi, hh⟩ := h
  obtain ⟨ai, ci, rfl⟩ := hi.len
  obtain ⟨ah, ch, rfl⟩ := hh.len
  obtain ⟨ni, hni⟩ : ∃ n, q.items.length = n := ⟨_, rfl⟩
  obtain ⟨nh, hnh⟩ : ∃ n, q.held.length = n := ⟨_, rfl⟩
  rw [hni, hnh] at hR ⊢
  have NQ : Hid (q.items.length = ni ∧ q.held.length = nh ∧ lenQ q = ni + nh) := ⟨hni, hnh, by unfold lenQ; rw [hni, hnh]⟩
  have RQ : Hid (RdQ w (queV q (.slice ai ni ci) (.slice ah nh ch)) q) := hR
  obtain ⟨pa, pc, rfl⟩ := hm.shape
  obtain ⟨np, hnp⟩ : ∃ n, m.props.length = n := ⟨_, rfl⟩
  rw [hnp] at hm ⊢
  have HPM : Hid (RdP w (.slice pa np pc) m.props) := hm
  have HMF : Hid (FitM m) := hmf
  have HF : Hid (FitQ q ∧ (∀ y ∈ q.items, y.msg.props.length ≤ 2513169434916) ∧ ∀ y ∈ q.held, y.itm.msg.props.length ≤ 2513169434916) := ⟨hf, hpi, hph⟩
  have hmix : Tryz.prog.follows .mixedOrders = true := by kernel_rfl
  clear hi hh hni hnh hnp hm hmf hf hpi hph hR
  have S1 : Hid (Qc3 w (((w.alloc (.cells #[tx q.name, .bool q.dur, .int .i64 q.depth, .int .i64 q.seq, .int .i64 q.tag, .slice ai ni ci, .slice ah nh ch] 25)).alloc (.cells #[tx m.topic, tx m.body, .slice pa np pc, .bool m.dur, .int .i64 m.til] 28)).alloc (.cells #[.int .i64 o.kind, .int .i64 o.conn, .int .i64 o.n, .bool o.flag, tx o.m.topic, tx o.m.body, ov, .bool o.m.dur, .int .i64 o.m.til] 30)) o ov #[tx q.name, .bool q.dur, .int .i64 q.depth, .int .i64 q.seq, .int .i64 q.tag, .slice ai ni ci, .slice ah nh ch] #[tx m.topic, tx m.body, .slice pa np pc, .bool m.dur, .int .i64 m.til]) := Qc3.start ..
  unfold queV msgV opV at *
  go_enter Tryz.func3, Tryz.ntmps3
  go_upto_region 1 with fail
  generalize ((w.alloc (.cells #[tx q.name, .bool q.dur, .int .i64 q.depth, .int .i64 q.seq, .int .i64 q.tag, .slice ai ni ci, .slice ah nh ch] 25)).alloc (.cells #[tx m.topic, tx m.body, .slice pa np pc, .bool m.dur, .int .i64 m.til] 28)).alloc (.cells #[.int .i64 o.kind, .int .i64 o.conn, .int .i64 o.n, .bool o.flag, tx o.m.topic, tx o.m.body, ov, .bool o.m.dur, .int .i64 o.m.til] 30) = w1 at *
  go_wp2_with fail
  refine (wakes_any w1 (hva.below S1.out.l)).mono ?_
  rintro e w2 ⟨rfl, b2⟩
  have S2 : Hid (Qc3 w w2 o ov #[tx q.name, .bool q.dur, .int .i64 q.depth, .int .i64 q.seq, .int .i64 q.tag, .slice ai ni ci, .slice ah nh ch] #[tx m.topic, tx m.body, .slice pa np pc, .bool m.dur, .int .i64 m.til]) := S1.out.on b2
  have HL := long_any w2 _ q (RQ.out.on S2.out.l) hbig
  clear S1 b2
  go_wp2_with (refine wpl_load25 rfl (.tmp 3) rfl _ _ rfl S2.out.q rfl ?_)
  refine HL.mono ?_
  rintro e w3 ⟨⟨bl, rfl, hbl⟩, b3⟩
  have S3 : Hid (Qc3 w w3 o ov #[tx q.name, .bool q.dur, .int .i64 q.depth, .int .i64 q.seq, .int .i64 q.tag, .slice ai ni ci, .slice ah nh ch] #[tx m.topic, tx m.body, .slice pa np pc, .bool m.dur, .int .i64 m.til]) := S2.out.on b3
  clear HL S2 b3
  cases bl with
  | true =>
    clear hbl
    go_wp2
    go_ret
    exact ⟨rfl, S3.out.l⟩
  | false =>
    have hl200 := hbl rfl
    clear hbl
    have m2 : w3.cell? ⟨w.heap.size + 1, 2, none⟩ = some (.slice pa np pc) := S3.out.m.cell 2
    by_cases h1000 : (np : Int) > 1000
    · go_wp2
      go_ret
      exact ⟨rfl, S3.out.l⟩
    · have hsum : ni + nh ≤ 200 := by rw [← NQ.out.2.2]; exact hl200
      obtain ⟨q0, q1, q2, _⟩ := S3.out.q.c7
      have HN1 := new_any w3 q.name q.dur q.depth
      have HN2 := fun W => rnew_any W q.name q.dur q.depth HF.out.1.name
      have SX : Hid (Small (if newC q.name q.depth = 0 then newQ q.name q.dur q.depth else zeroQ)) := small_new _ _ _
      generalize (if newC q.name q.depth = 0 then newQ q.name q.dur q.depth else zeroQ) = x at *
      generalize newC q.name q.depth = nc at *
      go_wp2_with fail
      refine HN1.mono ?_
      rintro e w4 ⟨v4, rfl, ⟨iv4, hv4, rfl, oi4, oh4⟩, b4⟩
      obtain ⟨a1, c1, rfl⟩ := oi4.rd.len
      obtain ⟨a2, c2, rfl⟩ := oh4.rd.len
      obtain ⟨n1, hn1⟩ : ∃ n, x.items.length = n := ⟨_, rfl⟩
      obtain ⟨n2, hn2⟩ : ∃ n, x.held.length = n := ⟨_, rfl⟩
      rw [hn1] at oi4 ⊢
      rw [hn2] at oh4 ⊢
      have NX : Hid (x.items.length = n1 ∧ x.held.length = n2) := ⟨hn1, hn2⟩
      have O4 : Hid (RdI w4 (.slice a1 n1 c1) x.items ∧ RdH w4 (.slice a2 n2 c2) x.held) := ⟨oi4.rd, oh4.rd⟩
      have S4 : Hid (Qc3 w w4 o ov #[tx q.name, .bool q.dur, .int .i64 q.depth, .int .i64 q.seq, .int .i64 q.tag, .slice ai ni ci, .slice ah nh ch] #[tx m.topic, tx m.body, .slice pa np pc, .bool m.dur, .int .i64 m.til]) := S3.out.on b4
      clear oi4 oh4 hn1 hn2 HN1 b4 S3 m2 q0 q1 q2
      unfold queV
      go_wp2_with (refine wpl_fresh rfl (.tmp 7) (.tmp 29) rfl _ _ rfl rfl (by kernel_rfl) rfl (by simp [Value.oneCell']) ?_)
      intro w5 k5 b5 s5
      have S5 : Hid (Qc3 w w5 o ov #[tx q.name, .bool q.dur, .int .i64 q.depth, .int .i64 q.seq, .int .i64 q.tag, .slice ai ni ci, .slice ah nh ch] #[tx m.topic, tx m.body, .slice pa np pc, .bool m.dur, .int .i64 m.til]) := S4.out.on b5
      have A5 : Hid (Blk w5 w4.heap.size #[tx x.name, .bool x.dur, .int .i64 x.depth, .int .i64 x.seq, .int .i64 x.tag, .slice a1 n1 c1, .slice a2 n2 c2] 25) := k5
      have O5 : Hid (RdI w5 (.slice a1 n1 c1) x.items ∧ RdH w5 (.slice a2 n2 c2) x.held) := ⟨O4.out.1.on b5, O4.out.2.on b5⟩
      clear k5 b5 s5 S4 O4
      generalize w4.heap.size = ga at *
      obtain ⟨q0, q1, q2, _⟩ := S5.out.q.c7
      go_wp2_with fail
      refine (HN2 _).mono ?_
      rintro e w6 ⟨v6, rfl, ⟨iv6, hv6, rfl, oi6, oh6⟩, b6⟩
      obtain ⟨a3, c3, rfl⟩ := oi6.rd.len
      obtain ⟨a4, c4, rfl⟩ := oh6.rd.len
      rw [NX.out.1] at oi6 ⊢
      rw [NX.out.2] at oh6 ⊢
      have O6 : Hid (RdI w6 (.slice a1 n1 c1) x.items ∧ RdH w6 (.slice a2 n2 c2) x.held) := ⟨O5.out.1.on b6, O5.out.2.on b6⟩
      have P6 : Hid (RdI w6 (.slice a3 n1 c3) x.items ∧ RdH w6 (.slice a4 n2 c4) x.held) := ⟨oi6.rd, oh6.rd⟩
      have S6 : Hid (Qc3 w w6 o ov #[tx q.name, .bool q.dur, .int .i64 q.depth, .int .i64 q.seq, .int .i64 q.tag, .slice ai ni ci, .slice ah nh ch] #[tx m.topic, tx m.body, .slice pa np pc, .bool m.dur, .int .i64 m.til]) := S5.out.on b6
      have A6 : Hid (Blk w6 ga #[tx x.name, .bool x.dur, .int .i64 x.depth, .int .i64 x.seq, .int .i64 x.tag, .slice a1 n1 c1, .slice a2 n2 c2] 25) := A5.out.on b6
      clear oi6 oh6 HN2 b6 S5 A5 O5 q0 q1 q2
      unfold queV
      go_wp2_with (refine wpl_fresh rfl (.tmp 9) (.tmp 39) rfl _ _ rfl rfl (by kernel_rfl) rfl (by simp [Value.oneCell']) ?_)
      intro w8 k8 b8 s8
      have S8 : Hid (Qc3 w w8 o ov #[tx q.name, .bool q.dur, .int .i64 q.depth, .int .i64 q.seq, .int .i64 q.tag, .slice ai ni ci, .slice ah nh ch] #[tx m.topic, tx m.body, .slice pa np pc, .bool m.dur, .int .i64 m.til]) := S6.out.on b8
      have O8 : Hid (RdI w8 (.slice a1 n1 c1) x.items ∧ RdH w8 (.slice a2 n2 c2) x.held) := ⟨O6.out.1.on b8, O6.out.2.on b8⟩
      have P8 : Hid (RdI w8 (.slice a3 n1 c3) x.items ∧ RdH w8 (.slice a4 n2 c4) x.held) := ⟨P6.out.1.on b8, P6.out.2.on b8⟩
      have A8 := A6.out.on b8
      have B8 : Hid (Below w.heap.size w w8) := S8.out.l
      have SM : Hid (Small q) := ⟨by rw [NQ.out.1]; omega, by rw [NQ.out.2.1]; omega, HF.out.2.1, HF.out.2.2⟩
      have T8 : QcS w w8 w8 o ov #[tx q.name, .bool q.dur, .int .i64 q.depth, .int .i64 q.seq, .int .i64 q.tag, .slice ai ni ci, .slice ah nh ch] #[tx m.topic, tx m.body, .slice pa np pc, .bool m.dur, .int .i64 m.til] #[tx x.name, .bool x.dur, .int .i64 x.depth, .int .i64 x.seq, .int .i64 x.tag, .slice a1 n1 c1, .slice a2 n2 c2] #[tx x.name, .bool x.dur, .int .i64 x.depth, .int .i64 x.seq, .int .i64 x.tag, .slice a3 n1 c3, .slice a4 n2 c4] ga w6.heap.size := ⟨S8.out.q, S8.out.m, S8.out.o, A8, k8, Below.refl _ w8⟩
      clear k8 b8 s8 S6 O6 P6 A6 A8 S8
      generalize w6.heap.size = gb at *
      have H10 := fun (W : World) (b : Below w8.heap.size w8 W) => message_any W (hva.below (nxt B8.out b)) m _ (HPM.out.on (nxt B8.out b))
      have H11 := fun (W : World) (b : Below w8.heap.size w8 W) => rmessage_any W m _ (HPM.out.on (nxt B8.out b)) HMF.out.1 HMF.out.2
      have H12 := fun (W : World) (b : Below w8.heap.size w8 W) => same_same W _ _ x ⟨_, _, rfl, O8.out.1.on b, O8.out.2.on b⟩ ⟨_, _, rfl, P8.out.1.on b, P8.out.2.on b⟩ SX.out
      have H13 := fun (W : World) (b : Below w8.heap.size w8 W) => good_any W (hva.below (nxt B8.out b)) _ q (RQ.out.on (nxt B8.out b)) (by rw [NQ.out.2.2]; omega)
      have H14 := fun (W : World) (b : Below w8.heap.size w8 W) => rgoodq_any W _ q (RQ.out.on (nxt B8.out b)) HF.out.1 (by rw [NQ.out.2.2]; omega)
      have H15 := fun (W : World) (b : Below w8.heap.size w8 W) => len_any W _ q (RQ.out.on (nxt B8.out b)) (by rw [NQ.out.2.2]; omega)
      have H16 := fun (W : World) (b : Below w8.heap.size w8 W) => holds_any W _ q (RQ.out.on (nxt B8.out b)) o.conn o.n (by rw [NQ.out.2.2]; omega)
      have H17 := fun (W : World) (b : Below w8.heap.size w8 W) => rholds_any W _ q (RQ.out.on (nxt B8.out b)) o.conn o.n (by rw [NQ.out.2.2]; omega)
      have H18 := fun (W : World) (b : Below w8.heap.size w8 W) => copy_any W _ q (RQ.out.on (nxt B8.out b)) SM.out
      have el : ((lenQ q : Nat) : Int) = (ni : Int) + (nh : Int) := by rw [NQ.out.2.2]; simp
      rw [el] at H15
      clear el
      generalize msgB m = bm at *
      generalize goodQ q = bq at *
      generalize holdsQ q o.conn o.n = hn at *
      try unfold queV at H12
      try unfold queV at H13
      try unfold queV at H14
      try unfold queV at H15
      try unfold queV at H16
      try unfold queV at H17
      try unfold queV at H18
      try unfold msgV at H10
      try unfold msgV at H11
      clear O8 P8 hl200
      go_upto_region 7 with fail
      refine wp_region_held (S := fun W => QcS w w8 W o ov #[tx q.name, .bool q.dur, .int .i64 q.depth, .int .i64 q.seq, .int .i64 q.tag, .slice ai ni ci, .slice ah nh ch] #[tx m.topic, tx m.body, .slice pa np pc, .bool m.dur, .int .i64 m.til] #[tx x.name, .bool x.dur, .int .i64 x.depth, .int .i64 x.seq, .int .i64 x.tag, .slice a1 n1 c1, .slice a2 n2 c2] #[tx x.name, .bool x.dur, .int .i64 x.depth, .int .i64 x.seq, .int .i64 x.tag, .slice a3 n1 c3, .slice a4 n2 c4] ga gb) hmix ?_
      show wpAnyH _ _ _ _ _ _ _ _ (World.drew _)
      have hS : QcS w w8 w8.drew o ov #[tx q.name, .bool q.dur, .int .i64 q.depth, .int .i64 q.seq, .int .i64 q.tag, .slice ai ni ci, .slice ah nh ch] #[tx m.topic, tx m.body, .slice pa np pc, .bool m.dur, .int .i64 m.til] #[tx x.name, .bool x.dur, .int .i64 x.depth, .int .i64 x.seq, .int .i64 x.tag, .slice a1 n1 c1, .slice a2 n2 c2] #[tx x.name, .bool x.dur, .int .i64 x.depth, .int .i64 x.seq, .int .i64 x.tag, .slice a3 n1 c3, .slice a4 n2 c4] ga gb := ⟨⟨T8.q.h⟩, ⟨T8.m.h⟩, ⟨T8.o.h⟩, ⟨T8.a.h⟩, ⟨T8.b.h⟩, T8.l.drew⟩
      clear T8
      generalize w8.drew = w9 at *
      refine wpAnyH_take (i := 0) (v := .agg #[tx m.topic, tx m.body, .slice pa np pc, .bool m.dur, .int .i64 m.til]) rfl (by kernel_rfl) (by kernel_rfl) (by kernel_rfl) (fun _ _ _ h => h) (.inl ⟨by rfl, fun W' hW' => ?_⟩) hS ?_
      · obtain ⟨d0, d1, d2, d3, d4⟩ := hW'.m.c5; go_simp
      simp only [Act.put, List.getElem_toArray, List.getElem_cons_zero, List.setIfInBounds_toArray, List.set_cons_succ, List.set_cons_zero]
      refine wpAnyH_take (i := 2) (v := .agg #[tx m.topic, tx m.body, .slice pa np pc, .bool m.dur, .int .i64 m.til]) rfl (by kernel_rfl) (by kernel_rfl) (by kernel_rfl) (fun _ _ _ h => h) (.inl ⟨by rfl, fun W' hW' => ?_⟩) hS ?_
      · obtain ⟨d0, d1, d2, d3, d4⟩ := hW'.m.c5; go_simp
      simp only [Act.put, List.getElem_toArray, List.getElem_cons_succ, List.getElem_cons_zero, List.setIfInBounds_toArray, List.set_cons_succ, List.set_cons_zero]
      refine wpAnyH_one (i := 1) (by kernel_rfl) rfl (by rfl) (fun K hK => ?_)
      go_simp
      refine (H10 _ hS.l).mono ?_
      rintro e w5 ⟨rfl, b5⟩
      replace hS := hS.on b5
      show K _ _
      refine hK _ _ hS ?_
      clear hK K b5
      refine wpAnyH_one (i := 3) (by kernel_rfl) rfl (by rfl) (fun K hK => ?_)
      go_simp
      refine (H11 _ hS.l).mono ?_
      rintro e w5 ⟨rfl, b5⟩
      replace hS := hS.on b5
      show K _ _
      refine hK _ _ hS ?_
      clear hK K b5
      refine wpAnyH_take (i := 4) (v := .bool true) rfl (by kernel_rfl) (by kernel_rfl) (by kernel_rfl) (fun _ _ _ h => h) (.inl ⟨by rfl, fun W' hW' => ?_⟩) hS ?_
      · go_simp
      simp only [Act.put, List.getElem_toArray, List.getElem_cons_succ, List.getElem_cons_zero, List.setIfInBounds_toArray, List.set_cons_succ, List.set_cons_zero]
      refine wpAnyH_take (i := 5) (v := .bool true) rfl (by kernel_rfl) (by kernel_rfl) (by kernel_rfl) (fun _ _ _ h => h) (.inl ⟨by rfl, fun W' hW' => ?_⟩) hS ?_
      · go_simp
      simp only [Act.put, List.getElem_toArray, List.getElem_cons_succ, List.getElem_cons_zero, List.setIfInBounds_toArray, List.set_cons_succ, List.set_cons_zero]
      refine wpAnyH_take (i := 6) (v := .agg #[tx x.name, .bool x.dur, .int .i64 x.depth, .int .i64 x.seq, .int .i64 x.tag, .slice a1 n1 c1, .slice a2 n2 c2]) rfl (by kernel_rfl) (by kernel_rfl) (by kernel_rfl) (fun _ _ _ h => h) (.inl ⟨by rfl, fun W' hW' => ?_⟩) hS ?_
      · obtain ⟨d0, d1, d2, d3, d4, d5, d6⟩ := hW'.a.c7; go_simp
      simp only [Act.put, List.getElem_toArray, List.getElem_cons_succ, List.getElem_cons_zero, List.setIfInBounds_toArray, List.set_cons_succ, List.set_cons_zero]
      refine wpAnyH_take (i := 7) (v := .agg #[tx x.name, .bool x.dur, .int .i64 x.depth, .int .i64 x.seq, .int .i64 x.tag, .slice a3 n1 c3, .slice a4 n2 c4]) rfl (by kernel_rfl) (by kernel_rfl) (by kernel_rfl) (fun _ _ _ h => h) (.inl ⟨by rfl, fun W' hW' => ?_⟩) hS ?_
      · obtain ⟨d0, d1, d2, d3, d4, d5, d6⟩ := hW'.b.c7; go_simp
      simp only [Act.put, List.getElem_toArray, List.getElem_cons_succ, List.getElem_cons_zero, List.setIfInBounds_toArray, List.set_cons_succ, List.set_cons_zero]
      refine wpAnyH_one (i := 8) (by kernel_rfl) rfl (by rfl) (fun K hK => ?_)
      go_simp
      refine (H12 _ hS.l).mono ?_
      rintro e w5 ⟨rfl, b5⟩
      replace hS := hS.on b5
      show K _ _
      refine hK _ _ hS ?_
      clear hK K b5
      refine wpAnyH_take (i := 9) (v := .bool true) rfl (by kernel_rfl) (by kernel_rfl) (by kernel_rfl) (fun _ _ _ h => h) (.inl ⟨by rfl, fun W' hW' => ?_⟩) hS ?_
      · go_simp
      simp only [Act.put, List.getElem_toArray, List.getElem_cons_succ, List.getElem_cons_zero, List.setIfInBounds_toArray, List.set_cons_succ, List.set_cons_zero]
      refine wpAnyH_take (i := 10) (v := .bool true) rfl (by kernel_rfl) (by kernel_rfl) (by kernel_rfl) (fun _ _ _ h => h) (.inl ⟨by rfl, fun W' hW' => ?_⟩) hS ?_
      · go_simp
      simp only [Act.put, List.getElem_toArray, List.getElem_cons_succ, List.getElem_cons_zero, List.setIfInBounds_toArray, List.set_cons_succ, List.set_cons_zero]
      refine wpAnyH_take (i := 11) (v := .int .i64 nc) rfl (by kernel_rfl) (by kernel_rfl) (by kernel_rfl) (fun _ _ _ h => h) (.inl ⟨by rfl, fun W' hW' => ?_⟩) hS ?_
      · go_simp
      simp only [Act.put, List.getElem_toArray, List.getElem_cons_succ, List.getElem_cons_zero, List.setIfInBounds_toArray, List.set_cons_succ, List.set_cons_zero]
      refine wpAnyH_take (i := 12) (v := .int .i64 nc) rfl (by kernel_rfl) (by kernel_rfl) (by kernel_rfl) (fun _ _ _ h => h) (.inl ⟨by rfl, fun W' hW' => ?_⟩) hS ?_
      · go_simp
      simp only [Act.put, List.getElem_toArray, List.getElem_cons_succ, List.getElem_cons_zero, List.setIfInBounds_toArray, List.set_cons_succ, List.set_cons_zero]
      refine wpAnyH_take (i := 13) (v := .bool true) rfl (by kernel_rfl) (by kernel_rfl) (by kernel_rfl) (fun _ _ _ h => h) (.inl ⟨by rfl, fun W' hW' => ?_⟩) hS ?_
      · go_simp
      simp only [Act.put, List.getElem_toArray, List.getElem_cons_succ, List.getElem_cons_zero, List.setIfInBounds_toArray, List.set_cons_succ, List.set_cons_zero]
      refine wpAnyH_take (i := 14) (v := .bool true) rfl (by kernel_rfl) (by kernel_rfl) (by kernel_rfl) (fun _ _ _ h => h) (.inl ⟨by rfl, fun W' hW' => ?_⟩) hS ?_
      · go_simp
      simp only [Act.put, List.getElem_toArray, List.getElem_cons_succ, List.getElem_cons_zero, List.setIfInBounds_toArray, List.set_cons_succ, List.set_cons_zero]
      refine wpAnyH_take (i := 15) (v := .bool true) rfl (by kernel_rfl) (by kernel_rfl) (by kernel_rfl) (fun _ _ _ h => h) (.inl ⟨by rfl, fun W' hW' => ?_⟩) hS ?_
      · go_simp
      simp only [Act.put, List.getElem_toArray, List.getElem_cons_succ, List.getElem_cons_zero, List.setIfInBounds_toArray, List.set_cons_succ, List.set_cons_zero]
      refine wpAnyH_take (i := 16) (v := .agg #[tx q.name, .bool q.dur, .int .i64 q.depth, .int .i64 q.seq, .int .i64 q.tag, .slice ai ni ci, .slice ah nh ch]) rfl (by kernel_rfl) (by kernel_rfl) (by kernel_rfl) (fun _ _ _ h => h) (.inl ⟨by rfl, fun W' hW' => ?_⟩) hS ?_
      · obtain ⟨d0, d1, d2, d3, d4, d5, d6⟩ := hW'.q.c7; go_simp
      simp only [Act.put, List.getElem_toArray, List.getElem_cons_succ, List.getElem_cons_zero, List.setIfInBounds_toArray, List.set_cons_succ, List.set_cons_zero]
      refine wpAnyH_take (i := 18) (v := .agg #[tx q.name, .bool q.dur, .int .i64 q.depth, .int .i64 q.seq, .int .i64 q.tag, .slice ai ni ci, .slice ah nh ch]) rfl (by kernel_rfl) (by kernel_rfl) (by kernel_rfl) (fun _ _ _ h => h) (.inl ⟨by rfl, fun W' hW' => ?_⟩) hS ?_
      · obtain ⟨d0, d1, d2, d3, d4, d5, d6⟩ := hW'.q.c7; go_simp
      simp only [Act.put, List.getElem_toArray, List.getElem_cons_succ, List.getElem_cons_zero, List.setIfInBounds_toArray, List.set_cons_succ, List.set_cons_zero]
      refine wpAnyH_one (i := 17) (by kernel_rfl) rfl (by rfl) (fun K hK => ?_)
      go_simp
      refine (H13 _ hS.l).mono ?_
      rintro e w5 ⟨rfl, b5⟩
      replace hS := hS.on b5
      show K _ _
      refine hK _ _ hS ?_
      clear hK K b5
      refine wpAnyH_one (i := 19) (by kernel_rfl) rfl (by rfl) (fun K hK => ?_)
      go_simp
      refine (H14 _ hS.l).mono ?_
      rintro e w5 ⟨rfl, b5⟩
      replace hS := hS.on b5
      show K _ _
      refine hK _ _ hS ?_
      clear hK K b5
      refine wpAnyH_take (i := 20) (v := .bool true) rfl (by kernel_rfl) (by kernel_rfl) (by kernel_rfl) (fun _ _ _ h => h) (.inl ⟨by rfl, fun W' hW' => ?_⟩) hS ?_
      · go_simp
      simp only [Act.put, List.getElem_toArray, List.getElem_cons_succ, List.getElem_cons_zero, List.setIfInBounds_toArray, List.set_cons_succ, List.set_cons_zero]
      refine wpAnyH_take (i := 21) (v := .bool true) rfl (by kernel_rfl) (by kernel_rfl) (by kernel_rfl) (fun _ _ _ h => h) (.inl ⟨by rfl, fun W' hW' => ?_⟩) hS ?_
      · go_simp
      simp only [Act.put, List.getElem_toArray, List.getElem_cons_succ, List.getElem_cons_zero, List.setIfInBounds_toArray, List.set_cons_succ, List.set_cons_zero]
      refine wpAnyH_take (i := 22) (v := .bool true) rfl (by kernel_rfl) (by kernel_rfl) (by kernel_rfl) (fun _ _ _ h => h) (.inl ⟨by rfl, fun W' hW' => ?_⟩) hS ?_
      · go_simp
      simp only [Act.put, List.getElem_toArray, List.getElem_cons_succ, List.getElem_cons_zero, List.setIfInBounds_toArray, List.set_cons_succ, List.set_cons_zero]
      refine wpAnyH_take (i := 23) (v := .agg #[tx q.name, .bool q.dur, .int .i64 q.depth, .int .i64 q.seq, .int .i64 q.tag, .slice ai ni ci, .slice ah nh ch]) rfl (by kernel_rfl) (by kernel_rfl) (by kernel_rfl) (fun _ _ _ h => h) (.inl ⟨by rfl, fun W' hW' => ?_⟩) hS ?_
      · obtain ⟨d0, d1, d2, d3, d4, d5, d6⟩ := hW'.q.c7; go_simp
      simp only [Act.put, List.getElem_toArray, List.getElem_cons_succ, List.getElem_cons_zero, List.setIfInBounds_toArray, List.set_cons_succ, List.set_cons_zero]
      refine wpAnyH_take (i := 25) (v := .pointer (some ⟨w.heap.size, 5, none⟩)) rfl (by kernel_rfl) (by kernel_rfl) (by kernel_rfl) (fun _ _ _ h => h) (.inl ⟨by rfl, fun W' hW' => ?_⟩) hS ?_
      · go_simp
      simp only [Act.put, List.getElem_toArray, List.getElem_cons_succ, List.getElem_cons_zero, List.setIfInBounds_toArray, List.set_cons_succ, List.set_cons_zero]
      refine wpAnyH_take (i := 26) (v := .slice ai ni ci) rfl (by kernel_rfl) (by kernel_rfl) (by kernel_rfl) (fun _ _ _ h => h) (.inl ⟨by rfl, fun W' hW' => ?_⟩) hS ?_
      · obtain ⟨d0, d1, d2, d3, d4, d5, d6⟩ := hW'.q.c7; go_simp
      simp only [Act.put, List.getElem_toArray, List.getElem_cons_succ, List.getElem_cons_zero, List.setIfInBounds_toArray, List.set_cons_succ, List.set_cons_zero]
      refine wpAnyH_take (i := 27) (v := .int .i64 ni) rfl (by kernel_rfl) (by kernel_rfl) (by kernel_rfl) (fun _ _ _ h => h) (.inl ⟨by rfl, fun W' hW' => ?_⟩) hS ?_
      · go_simp
      simp only [Act.put, List.getElem_toArray, List.getElem_cons_succ, List.getElem_cons_zero, List.setIfInBounds_toArray, List.set_cons_succ, List.set_cons_zero]
      refine wpAnyH_take (i := 28) (v := .pointer (some ⟨w.heap.size, 6, none⟩)) rfl (by kernel_rfl) (by kernel_rfl) (by kernel_rfl) (fun _ _ _ h => h) (.inl ⟨by rfl, fun W' hW' => ?_⟩) hS ?_
      · go_simp
      simp only [Act.put, List.getElem_toArray, List.getElem_cons_succ, List.getElem_cons_zero, List.setIfInBounds_toArray, List.set_cons_succ, List.set_cons_zero]
      refine wpAnyH_take (i := 29) (v := .slice ah nh ch) rfl (by kernel_rfl) (by kernel_rfl) (by kernel_rfl) (fun _ _ _ h => h) (.inl ⟨by rfl, fun W' hW' => ?_⟩) hS ?_
      · obtain ⟨d0, d1, d2, d3, d4, d5, d6⟩ := hW'.q.c7; go_simp
      simp only [Act.put, List.getElem_toArray, List.getElem_cons_succ, List.getElem_cons_zero, List.setIfInBounds_toArray, List.set_cons_succ, List.set_cons_zero]
      refine wpAnyH_take (i := 30) (v := .int .i64 nh) rfl (by kernel_rfl) (by kernel_rfl) (by kernel_rfl) (fun _ _ _ h => h) (.inl ⟨by rfl, fun W' hW' => ?_⟩) hS ?_
      · go_simp
      simp only [Act.put, List.getElem_toArray, List.getElem_cons_succ, List.getElem_cons_zero, List.setIfInBounds_toArray, List.set_cons_succ, List.set_cons_zero]
      refine wpAnyH_take (i := 31) (v := .int .i64 ((ni : Int) + (nh : Int))) rfl (by kernel_rfl) (by kernel_rfl) (by kernel_rfl) (fun _ _ _ h => h) (.inl ⟨by rfl, fun W' hW' => ?_⟩) hS ?_
      · go_simp; try (rw [IntKind.wrap_i64]; omega)
      simp only [Act.put, List.getElem_toArray, List.getElem_cons_succ, List.getElem_cons_zero, List.setIfInBounds_toArray, List.set_cons_succ, List.set_cons_zero]
      refine wpAnyH_one (i := 24) (by kernel_rfl) rfl (by rfl) (fun K hK => ?_)
      go_simp
      refine (H15 _ hS.l).mono ?_
      rintro e w5 ⟨rfl, b5⟩
      replace hS := hS.on b5
      show K _ _
      refine hK _ _ hS ?_
      clear hK K b5
      refine wpAnyH_take (i := 32) (v := .bool true) rfl (by kernel_rfl) (by kernel_rfl) (by kernel_rfl) (fun _ _ _ h => h) (.inl ⟨by rfl, fun W' hW' => ?_⟩) hS ?_
      · go_simp
      simp only [Act.put, List.getElem_toArray, List.getElem_cons_succ, List.getElem_cons_zero, List.setIfInBounds_toArray, List.set_cons_succ, List.set_cons_zero]
      refine wpAnyH_take (i := 33) (v := .bool true) rfl (by kernel_rfl) (by kernel_rfl) (by kernel_rfl) (fun _ _ _ h => h) (.inl ⟨by rfl, fun W' hW' => ?_⟩) hS ?_
      · go_simp
      simp only [Act.put, List.getElem_toArray, List.getElem_cons_succ, List.getElem_cons_zero, List.setIfInBounds_toArray, List.set_cons_succ, List.set_cons_zero]
      refine wpAnyH_take (i := 34) (v := .bool true) rfl (by kernel_rfl) (by kernel_rfl) (by kernel_rfl) (fun _ _ _ h => h) (.inl ⟨by rfl, fun W' hW' => ?_⟩) hS ?_
      · go_simp
      simp only [Act.put, List.getElem_toArray, List.getElem_cons_succ, List.getElem_cons_zero, List.setIfInBounds_toArray, List.set_cons_succ, List.set_cons_zero]
      refine wpAnyH_take (i := 35) (v := .agg #[tx q.name, .bool q.dur, .int .i64 q.depth, .int .i64 q.seq, .int .i64 q.tag, .slice ai ni ci, .slice ah nh ch]) rfl (by kernel_rfl) (by kernel_rfl) (by kernel_rfl) (fun _ _ _ h => h) (.inl ⟨by rfl, fun W' hW' => ?_⟩) hS ?_
      · obtain ⟨d0, d1, d2, d3, d4, d5, d6⟩ := hW'.q.c7; go_simp
      simp only [Act.put, List.getElem_toArray, List.getElem_cons_succ, List.getElem_cons_zero, List.setIfInBounds_toArray, List.set_cons_succ, List.set_cons_zero]
      refine wpAnyH_take (i := 36) (v := .pointer (some ⟨(w.heap.size + 2), 1, none⟩)) rfl (by kernel_rfl) (by kernel_rfl) (by kernel_rfl) (fun _ _ _ h => h) (.inl ⟨by rfl, fun W' hW' => ?_⟩) hS ?_
      · go_simp
      simp only [Act.put, List.getElem_toArray, List.getElem_cons_succ, List.getElem_cons_zero, List.setIfInBounds_toArray, List.set_cons_succ, List.set_cons_zero]
      refine wpAnyH_take (i := 37) (v := .int .i64 o.conn) rfl (by kernel_rfl) (by kernel_rfl) (by kernel_rfl) (fun _ _ _ h => h) (.inl ⟨by rfl, fun W' hW' => ?_⟩) hS ?_
      · obtain ⟨d1, d2⟩ := ocells hW'.o; go_simp
      simp only [Act.put, List.getElem_toArray, List.getElem_cons_succ, List.getElem_cons_zero, List.setIfInBounds_toArray, List.set_cons_succ, List.set_cons_zero]
      refine wpAnyH_take (i := 38) (v := .pointer (some ⟨(w.heap.size + 2), 2, none⟩)) rfl (by kernel_rfl) (by kernel_rfl) (by kernel_rfl) (fun _ _ _ h => h) (.inl ⟨by rfl, fun W' hW' => ?_⟩) hS ?_
      · go_simp
      simp only [Act.put, List.getElem_toArray, List.getElem_cons_succ, List.getElem_cons_zero, List.setIfInBounds_toArray, List.set_cons_succ, List.set_cons_zero]
      refine wpAnyH_take (i := 39) (v := .int .i64 o.n) rfl (by kernel_rfl) (by kernel_rfl) (by kernel_rfl) (fun _ _ _ h => h) (.inl ⟨by rfl, fun W' hW' => ?_⟩) hS ?_
      · obtain ⟨d1, d2⟩ := ocells hW'.o; go_simp
      simp only [Act.put, List.getElem_toArray, List.getElem_cons_succ, List.getElem_cons_zero, List.setIfInBounds_toArray, List.set_cons_succ, List.set_cons_zero]
      refine wpAnyH_take (i := 41) (v := .agg #[tx q.name, .bool q.dur, .int .i64 q.depth, .int .i64 q.seq, .int .i64 q.tag, .slice ai ni ci, .slice ah nh ch]) rfl (by kernel_rfl) (by kernel_rfl) (by kernel_rfl) (fun _ _ _ h => h) (.inl ⟨by rfl, fun W' hW' => ?_⟩) hS ?_
      · obtain ⟨d0, d1, d2, d3, d4, d5, d6⟩ := hW'.q.c7; go_simp
      simp only [Act.put, List.getElem_toArray, List.getElem_cons_succ, List.getElem_cons_zero, List.setIfInBounds_toArray, List.set_cons_succ, List.set_cons_zero]
      refine wpAnyH_take (i := 42) (v := .pointer (some ⟨(w.heap.size + 2), 1, none⟩)) rfl (by kernel_rfl) (by kernel_rfl) (by kernel_rfl) (fun _ _ _ h => h) (.inl ⟨by rfl, fun W' hW' => ?_⟩) hS ?_
      · go_simp
      simp only [Act.put, List.getElem_toArray, List.getElem_cons_succ, List.getElem_cons_zero, List.setIfInBounds_toArray, List.set_cons_succ, List.set_cons_zero]
      refine wpAnyH_take (i := 43) (v := .int .i64 o.conn) rfl (by kernel_rfl) (by kernel_rfl) (by kernel_rfl) (fun _ _ _ h => h) (.inl ⟨by rfl, fun W' hW' => ?_⟩) hS ?_
      · obtain ⟨d1, d2⟩ := ocells hW'.o; go_simp
      simp only [Act.put, List.getElem_toArray, List.getElem_cons_succ, List.getElem_cons_zero, List.setIfInBounds_toArray, List.set_cons_succ, List.set_cons_zero]
      refine wpAnyH_take (i := 44) (v := .pointer (some ⟨(w.heap.size + 2), 2, none⟩)) rfl (by kernel_rfl) (by kernel_rfl) (by kernel_rfl) (fun _ _ _ h => h) (.inl ⟨by rfl, fun W' hW' => ?_⟩) hS ?_
      · go_simp
      simp only [Act.put, List.getElem_toArray, List.getElem_cons_succ, List.getElem_cons_zero, List.setIfInBounds_toArray, List.set_cons_succ, List.set_cons_zero]
      refine wpAnyH_take (i := 45) (v := .int .i64 o.n) rfl (by kernel_rfl) (by kernel_rfl) (by kernel_rfl) (fun _ _ _ h => h) (.inl ⟨by rfl, fun W' hW' => ?_⟩) hS ?_
      · obtain ⟨d1, d2⟩ := ocells hW'.o; go_simp
      simp only [Act.put, List.getElem_toArray, List.getElem_cons_succ, List.getElem_cons_zero, List.setIfInBounds_toArray, List.set_cons_succ, List.set_cons_zero]
      refine wpAnyH_one (i := 40) (by kernel_rfl) rfl (by rfl) (fun K hK => ?_)
      go_simp
      refine (H16 _ hS.l).mono ?_
      rintro e w5 ⟨rfl, b5⟩
      replace hS := hS.on b5
      show K _ _
      refine hK _ _ hS ?_
      clear hK K b5
      refine wpAnyH_one (i := 46) (by kernel_rfl) rfl (by rfl) (fun K hK => ?_)
      go_simp
      refine (H17 _ hS.l).mono ?_
      rintro e w5 ⟨rfl, b5⟩
      replace hS := hS.on b5
      show K _ _
      refine hK _ _ hS ?_
      clear hK K b5
      refine wpAnyH_take (i := 47) (v := .bool true) rfl (by kernel_rfl) (by kernel_rfl) (by kernel_rfl) (fun _ _ _ h => h) (.inl ⟨by rfl, fun W' hW' => ?_⟩) hS ?_
      · go_simp
      simp only [Act.put, List.getElem_toArray, List.getElem_cons_succ, List.getElem_cons_zero, List.setIfInBounds_toArray, List.set_cons_succ, List.set_cons_zero]
      refine wpAnyH_take (i := 48) (v := .bool true) rfl (by kernel_rfl) (by kernel_rfl) (by kernel_rfl) (fun _ _ _ h => h) (.inl ⟨by rfl, fun W' hW' => ?_⟩) hS ?_
      · go_simp
      simp only [Act.put, List.getElem_toArray, List.getElem_cons_succ, List.getElem_cons_zero, List.setIfInBounds_toArray, List.set_cons_succ, List.set_cons_zero]
      refine wpAnyH_take (i := 49) (v := .bool true) rfl (by kernel_rfl) (by kernel_rfl) (by kernel_rfl) (fun _ _ _ h => h) (.inl ⟨by rfl, fun W' hW' => ?_⟩) hS ?_
      · go_simp
      simp only [Act.put, List.getElem_toArray, List.getElem_cons_succ, List.getElem_cons_zero, List.setIfInBounds_toArray, List.set_cons_succ, List.set_cons_zero]
      refine wpAnyH_take (i := 50) (v := .agg #[tx q.name, .bool q.dur, .int .i64 q.depth, .int .i64 q.seq, .int .i64 q.tag, .slice ai ni ci, .slice ah nh ch]) rfl (by kernel_rfl) (by kernel_rfl) (by kernel_rfl) (fun _ _ _ h => h) (.inl ⟨by rfl, fun W' hW' => ?_⟩) hS ?_
      · obtain ⟨d0, d1, d2, d3, d4, d5, d6⟩ := hW'.q.c7; go_simp
      simp only [Act.put, List.getElem_toArray, List.getElem_cons_succ, List.getElem_cons_zero, List.setIfInBounds_toArray, List.set_cons_succ, List.set_cons_zero]
      refine wpAnyH_take (i := 52) (v := .agg #[tx q.name, .bool q.dur, .int .i64 q.depth, .int .i64 q.seq, .int .i64 q.tag, .slice ai ni ci, .slice ah nh ch]) rfl (by kernel_rfl) (by kernel_rfl) (by kernel_rfl) (fun _ _ _ h => h) (.inl ⟨by rfl, fun W' hW' => ?_⟩) hS ?_
      · obtain ⟨d0, d1, d2, d3, d4, d5, d6⟩ := hW'.q.c7; go_simp
      simp only [Act.put, List.getElem_toArray, List.getElem_cons_succ, List.getElem_cons_zero, List.setIfInBounds_toArray, List.set_cons_succ, List.set_cons_zero]
      refine wpAnyH_one (i := 51) (by kernel_rfl) rfl (by rfl) (fun K hK => ?_)
      go_simp
      refine (H18 _ hS.l).mono ?_
      rintro e w6 ⟨v6, rfl, o6, b6⟩
      have H12b := same_same w6 _ _ q o6.rd ((RQ.out.on (nxt B8.out hS.l)).on b6) SM.out
      replace hS := hS.on b6
      have HSH : Hid (∀ W, Below w6.heap.size w6 W → QcS w w8 W o ov #[tx q.name, .bool q.dur, .int .i64 q.depth, .int .i64 q.seq, .int .i64 q.tag, .slice ai ni ci, .slice ah nh ch] #[tx m.topic, tx m.body, .slice pa np pc, .bool m.dur, .int .i64 m.til] #[tx x.name, .bool x.dur, .int .i64 x.depth, .int .i64 x.seq, .int .i64 x.tag, .slice a1 n1 c1, .slice a2 n2 c2] #[tx x.name, .bool x.dur, .int .i64 x.depth, .int .i64 x.seq, .int .i64 x.tag, .slice a3 n1 c3, .slice a4 n2 c4] ga gb) := fun W b => hS.on b
      obtain ⟨iv6, hv6, rfl, oi6, oh6⟩ := o6
      try unfold queV at H12b
      show K _ _
      refine hK _ _ hS ?_
      clear hK K b6 oi6 oh6
      refine wpAnyH_one (i := 53) (by kernel_rfl) rfl (by rfl) (fun K hK => ?_)
      go_simp
      refine H12b.mono ?_
      rintro e w5 ⟨rfl, b5⟩
      replace hS := HSH.out _ b5
      show K _ _
      refine hK _ _ hS ?_
      clear hK K b5 H12b HSH
      refine wpAnyH_take (i := 54) (v := .bool true) rfl (by kernel_rfl) (by kernel_rfl) (by kernel_rfl) (fun _ _ _ h => h) (.inl ⟨by rfl, fun W' hW' => ?_⟩) hS ?_
      · go_simp
      simp only [Act.put, List.getElem_toArray, List.getElem_cons_succ, List.getElem_cons_zero, List.setIfInBounds_toArray, List.set_cons_succ, List.set_cons_zero]
      refine wpAnyH_take (i := 55) (v := .bool true) rfl (by kernel_rfl) (by kernel_rfl) (by kernel_rfl) (fun _ _ _ h => h) (.inl ⟨by rfl, fun W' hW' => ?_⟩) hS ?_
      · go_simp
      simp only [Act.put, List.getElem_toArray, List.getElem_cons_succ, List.getElem_cons_zero, List.setIfInBounds_toArray, List.set_cons_succ, List.set_cons_zero]
      refine wpAnyH_done (by kernel_rfl) ?_ _
      clear H10 H11 H12 H13 H14 H15 H16 H17 H18
      go_wp2
      go_ret
      exact ⟨rfl, nxt B8.out hS.l⟩
end Go.Proofs.YtlbcefocmdnlgaaGreatDoor

set_option maxRecDepth 100000
namespace Go.Proofs.YtlbcefocmdnlgaaGreatDoor
open Go.RowKit Go.Lib

theorem own : ownKnob Tryz.prog.godebug = none := by kernel_rfl
theorem laidOut : laidOutB Tryz.prog = true := by kernel_rfl

theorem trodAll_cons_mk {H : Type} {enc : TypeId × Value → H} {P : Program} {w : World} {base : Nat} {sp : Nat → Bool} {held : Bool} {t : TypeId} {ts : List TypeId} {v : Value} {vs : List Value} {d : DataW H} {ds : List (DataW H)} {p q : List MemPlace}
    (h : DataW.Trod enc P w base sp held t v d p) (hr : DataW.TrodAll enc P w base sp held ts vs ds q) : DataW.TrodAll enc P w base sp held (t :: ts) (v :: vs) (d :: ds) (p ++ q) := ⟨p, q, h, hr, rfl⟩
theorem trodAll_mk0 {H : Type} {enc : TypeId × Value → H} {P : Program} {w : World} {base : Nat} {sp : Nat → Bool} {held : Bool} : DataW.TrodAll enc P w base sp held [] [] [] [] := rfl

theorem vars_of_shape {W : World} (hsh : W.ShapedOpen Tryz.prog) : To.Vars W :=
  ⟨Go.Proofs.cell_of_shapedOpen_int (zero := #[.int .i64 0]) (t := 3) hsh (of_decide_eq_true (by kernel_rfl)) (by kernel_rfl) rfl (by kernel_rfl) (by kernel_rfl) Tryz.underlying3⟩

/-- A statement over variables that are laid, in a world that has its shape. -/
theorem returns_and_shaped {H : Type} {enc : TypeId × Value → H} {a : Assume} {C : Checked} {os : Os} {f : FuncId} {fn : Func} {s : ChangeSpec} {conds : List PathCond} {apart fresh handsOn again : Bool} {X : World → Array Value → Prop}
    (hX : ∀ (w w' : World) (args : Array Value), w.heap = w'.heap → X w args → X w' args)
    (own : ownKnob C.prog.godebug = none) (started : os.Started) (noInit : C.prog.inits.idxOf? f = none) (hfn : C.prog.funcs[f]? = some fn)
    (witness : ∃ (w : World) (tape : Tape) (i : Input), w.os = os ∧ (w.forCall tape i).Shaped C.prog ∧ i.vars = [] ∧ Input.okWide C.prog (w.forCall tape i) .any w.heap.size f i ∧
      ((s.pre enc C.prog fn conds apart (w.forCall tape i).memory i.args ∧ X (w.forCall tape i).memory i.args) ∧ sizedMet enc C.prog fn (OpenSpec.ofChange s) apart (w.forCall tape i).memory i.args) ∧ a.holds C.prog (lone (Frame.enter C.prog f i.args .normal) [] (w.forCall tape i)))
    (contract : ∀ (W : World) (base : Nat) (args : Array Value) (ds gs : List (DataW H)) (before : List MemPlace),
      (∀ (j : Nat) t v, fn.params[j]? = some t → args[j]? = some v → Value.okWide C.prog W .any base t v) →
      DataW.Whole enc C.prog fn.params.toList s.vars apart W args.toList ds gs before →
      (DataW.weightsEach C.prog (fn.params.toList ++ s.plain.varTypes C.prog) (ds ++ gs)).all (· ≤ reachBytes) = true → X W args → W.ShapedOpen C.prog →
      Calls C.prog f args W fun e W' => ∃ v, e = .returned v ∧ s.post enc C.prog fn apart fresh handsOn again W args v W') :
    ReturnsInHanded a C os f .any (fun w args => (s.pre enc C.prog fn conds apart w args ∧ X w args) ∧ sizedMet enc C.prog fn (OpenSpec.ofChange s) apart w args) (s.post enc C.prog fn apart fresh handsOn again) := by
  refine returnsInHanded_of_calls own started noInit witness ?_
  intro w tape i _ hsh _ hok hpre hholds
  obtain ⟨_, _, _, fn', hfn', _, _, _, _, hval⟩ := hok
  obtain rfl : fn' = fn := Option.some.inj (hfn'.symm.trans hfn)
  obtain ⟨⟨⟨ds, gs, before, hw, hc⟩, hx⟩, hz⟩ := hpre
  refine (contract (w.forCall tape i) w.heap.size i.args ds gs before hval (DataW.Whole.of_heap (w' := w.forCall tape i) (by rfl) hw) (hz.weights hw) (hX _ _ _ (by rfl) hx) hsh).mono fun e W' ⟨v, he, hp⟩ => ?_
  subst he
  exact ChangeSpec.post_blind hp
end Go.Proofs.YtlbcefocmdnlgaaGreatDoor

set_option maxRecDepth 100000
namespace Go.Proofs.YtlbcefocmdnlgaaGreatDoor
open Go.RowKit Go.Lib Go.Deep

theorem cells3 : Tryz.prog.cellsOf 3 = 1 := by kernel_rfl
theorem cells9 : Tryz.prog.cellsOf 9 = 1 := by kernel_rfl
theorem cells84 : Tryz.prog.cellsOf 50 = 1 := by kernel_rfl
theorem cells86 : Tryz.prog.cellsOf 52 = 4 := by kernel_rfl
theorem i64b {z : Int} (h : (Lit.int .i64 z).wf = true) : -9223372036854775808 ≤ z ∧ z ≤ 9223372036854775807 := by
  simpa [Lit.wf, IntKind.min, IntKind.max, IntKind.signed, IntKind.bits] using h
theorem f64b {z : Nat} (h : (Lit.float .f64 z).wf = true) : z < 2 ^ 64 := by
  simpa [Lit.wf] using h

theorem flt_cell {H : Type} {enc : TypeId × Value → H} {W : World} {c : Value} {fuel : Nat} {x : DataW H × List MemPlace} (h : DataW.trod enc Tryz.prog W 0 (fun _ => true) true fuel 50 [c] = some x) : ∃ r, [c] = [Value.float .f64 r] ∧ r < 2 ^ 64 := by
  cases fuel with
  | zero => simp [DataW.trod] at h
  | succ n =>
    simp only [DataW.trod, Tryz.underlying50] at h
    cases c with
    | float k b =>
      simp at h
      obtain ⟨⟨rfl, hw⟩, _⟩ := h
      exact ⟨b, rfl, f64b hw⟩
    | _ => simp at h
theorem val_cells {H : Type} {enc : TypeId × Value → H} {W : World} {cs : List Value} {fuel : Nat} {x : DataW H × List MemPlace} (h : DataW.trod enc Tryz.prog W 0 (fun _ => true) true fuel 52 cs = some x) :
    ∃ y : Val, cs = [.int .i64 y.kind, .int .i64 y.num, .string y.text, .float .f64 y.real] ∧ (-9223372036854775808 ≤ y.kind ∧ y.kind ≤ 9223372036854775807) ∧ (-9223372036854775808 ≤ y.num ∧ y.num ≤ 9223372036854775807) ∧ y.text.size ≤ maxLen ∧ y.real < 2 ^ 64 := by
  obtain ⟨xs, n, _, rfl, hl, hlen, hf⟩ := DataW.trod_struct Tryz.underlying52 h
  rw [cells86] at hl
  match xs, hlen with
  | [y0, y1, y2, y3], _ =>
    have t0 : DataW.trod enc Tryz.prog W 0 (fun _ => true) true n 3 ((cs.drop 0).take (Tryz.prog.cellsOf 3)) = some y0 := by simpa using hf 0 _ rfl
    have t1 : DataW.trod enc Tryz.prog W 0 (fun _ => true) true n 3 ((cs.drop 1).take (Tryz.prog.cellsOf 3)) = some y1 := by simpa using hf 1 _ rfl
    have t2 : DataW.trod enc Tryz.prog W 0 (fun _ => true) true n 9 ((cs.drop 2).take (Tryz.prog.cellsOf 9)) = some y2 := by simpa using hf 2 _ rfl
    have t3 : DataW.trod enc Tryz.prog W 0 (fun _ => true) true n 50 ((cs.drop 3).take (Tryz.prog.cellsOf 50)) = some y3 := by simpa using hf 3 _ rfl
    match cs, hl with
    | [c0, c1, c2, c3], _ =>
      simp only [cells3, cells9, cells84, List.drop, List.take] at t0 t1 t2 t3
      obtain ⟨k, e0, _, wk⟩ := DataW.trod_int Tryz.underlying3 t0
      obtain ⟨m, e1, _, wm⟩ := DataW.trod_int Tryz.underlying3 t1
      obtain ⟨s, e2, _, ws⟩ := DataW.trod_string Tryz.underlying9 t2
      obtain ⟨r, e3, wr⟩ := flt_cell t3
      simp only [List.cons.injEq, and_true] at e0 e1 e2 e3
      subst e0 e1 e2 e3
      exact ⟨⟨k, m, s, r⟩, rfl, i64b wk, i64b wm, ws, wr⟩
theorem cells88 : Tryz.prog.cellsOf 54 = 5 := by kernel_rfl
theorem bytes88 : Tryz.prog.bytesOf 54 = 56 := by kernel_rfl

/-- What is told of a value that came in. -/
def InV (y : Val) : Prop := (-9223372036854775808 ≤ y.kind ∧ y.kind ≤ 9223372036854775807) ∧ (-9223372036854775808 ≤ y.num ∧ y.num ≤ 9223372036854775807) ∧ y.text.size ≤ maxLen ∧ y.real < 2 ^ 64
def InP (p : Pr) : Prop := p.name.size ≤ maxLen ∧ InV p.val

theorem prop_cells {H : Type} {enc : TypeId × Value → H} {W : World} {cs : List Value} {fuel : Nat} {x : DataW H × List MemPlace} (h : DataW.trod enc Tryz.prog W 0 (fun _ => true) true fuel 54 cs = some x) :
    ∃ y : Pr, cs = [.string y.name, .int .i64 y.val.kind, .int .i64 y.val.num, .string y.val.text, .float .f64 y.val.real] ∧ InP y := by
  obtain ⟨xs, n, _, rfl, hl, hlen, hf⟩ := DataW.trod_struct Tryz.underlying54 h
  rw [cells88] at hl
  match xs, hlen with
  | [y0, y1], _ =>
    have t0 : DataW.trod enc Tryz.prog W 0 (fun _ => true) true n 9 ((cs.drop 0).take (Tryz.prog.cellsOf 9)) = some y0 := by simpa using hf 0 _ rfl
    have t1 : DataW.trod enc Tryz.prog W 0 (fun _ => true) true n 52 ((cs.drop 1).take (Tryz.prog.cellsOf 52)) = some y1 := by simpa using hf 1 _ rfl
    match cs, hl with
    | [c0, c1, c2, c3, c4], _ =>
      simp only [cells9, cells86, List.drop, List.take] at t0 t1
      obtain ⟨s, e0, _, ws⟩ := DataW.trod_string Tryz.underlying9 t0
      obtain ⟨y, e1, hy⟩ := val_cells t1
      simp only [List.cons.injEq, and_true] at e0 e1
      obtain ⟨rfl, rfl, rfl, rfl⟩ := e1
      subst e0
      exact ⟨⟨s, y⟩, rfl, ws, hy⟩

theorem prop_at {H : Type} {enc : TypeId × Value → H} {W : World} {a : Addr} {cs : List Value} {fuel : Nat} {x : DataW H × List MemPlace}
    (hc : W.cells? 0 a (Tryz.prog.cellsOf 54) = some cs) (h : DataW.trod enc Tryz.prog W 0 (fun _ => true) true fuel 54 cs = some x) :
    ∃ (b o : Nat) (y : Pr), a = ⟨b, o, none⟩ ∧ PrAt W b o y ∧ InP y := by
  obtain ⟨y, rfl, hy⟩ := prop_cells h
  rw [cells88] at hc
  obtain ⟨b, o, sp⟩ := a
  obtain ⟨_, _, hh⟩ := World.cells?_some hc
  have h0 := hh 0 (by omega)
  have h1 := hh 1 (by omega)
  have h2 := hh 2 (by omega)
  have h3 := hh 3 (by omega)
  have h4 := hh 4 (by omega)
  simp only [Addr.add, List.getElem?_cons_zero, List.getElem?_cons_succ] at h0 h1 h2 h3 h4
  have hsp : sp = none := by simpa [Addr.add] using World.cell?_spot h0
  subst hsp
  exact ⟨b, o, y, rfl, ⟨h0, h1, h2, h3, h4⟩, hy⟩

theorem rd_props {H : Type} {enc : TypeId × Value → H} {W : World} {a : Option Addr} {n c : Nat} {d : DataW H} {p : List MemPlace}
    (h : DataW.Trod enc Tryz.prog W 0 (fun _ => true) true 26 (.slice a n c) d p) :
    ∃ l : List Pr, RdP W (.slice a n c) l ∧ l.length = n ∧ (∀ q ∈ l, InP q) ∧ (n = 0 ∨ ∃ E S, d = .slice E S ∧ n ≤ E.length + S.length) := by
  obtain ⟨fuel, hf⟩ := h
  rcases open_slice Tryz.underlying26 hf with ⟨hcs, _⟩ | ⟨x, l, cp, m, f, D, Pl, hcs, _, hl, hm, hmm, hx, hel⟩
  · simp [Value.cells] at hcs
    obtain ⟨rfl, rfl, rfl⟩ := hcs
    exact ⟨[], .inl ⟨⟨_, _, rfl⟩, rfl⟩, rfl, fun q hq => by simp at hq, .inl rfl⟩
  · simp [Value.cells] at hcs
    obtain ⟨rfl, rfl, rfl⟩ := hcs
    have hmc : m = c := by simpa using hmm
    subst hmc
    have hd := (Prod.mk.inj hx).1
    rcases Nat.eq_zero_or_pos n with h0 | h0
    · subst h0
      exact ⟨[], .inl ⟨⟨_, _, rfl⟩, rfl⟩, rfl, fun q hq => by simp at hq, .inl rfl⟩
    · have key : ∀ i, i < n → ∃ (b o : Nat) (y : Pr), x.add (i * 5) = ⟨b, o, none⟩ ∧ PrAt W b o y ∧ InP y := fun i hi => by
        obtain ⟨cs', h1, h2⟩ := hel i (by omega)
        have := prop_at h1 h2
        rwa [cells88] at this
      obtain ⟨b, o, _, e0, _⟩ := key 0 (by omega)
      have ex : x = ⟨b, o, none⟩ := by simpa [Addr.add] using e0
      subst ex
      have key2 : ∀ i, i < n → ∃ y : Pr, PrAt W b (o + i * 5) y ∧ InP y := fun i hi => by
        obtain ⟨b', o', y, e, g, hy⟩ := key i hi
        rw [Addr.add_lit] at e
        cases e
        exact ⟨y, g, hy⟩
      have hall : ∀ k, k ≤ n → ∃ l : List Pr, l.length = k ∧ ∀ i (h : i < l.length), PrAt W b (o + i * 5) l[i] ∧ InP l[i] := by
        intro k
        induction k with
        | zero => exact fun _ => ⟨[], rfl, fun i h => by simp at h⟩
        | succ k ih =>
          intro hk
          obtain ⟨l, hl, hh⟩ := ih (by omega)
          obtain ⟨y, hy⟩ := key2 k (by omega)
          refine ⟨l ++ [y], by simp [hl], fun i hi => ?_⟩
          by_cases e : i < l.length
          · rw [List.getElem_append_left e]; exact hh i e
          · have : i = k := by simp at hi; omega
            subst this
            rw [List.getElem_append_right (by omega)]
            simpa using hy
      obtain ⟨l, hl2, hh⟩ := hall n (Nat.le_refl _)
      refine ⟨l, .inr ⟨b, o, m, by rw [hl2], by omega, fun i hi => (hh i hi).1⟩, hl2, fun q hq => ?_, .inr ⟨_, _, hd, by simp⟩⟩
      obtain ⟨i, hi, rfl⟩ := List.mem_iff_getElem.1 hq
      exact (hh i hi).2

theorem cells4 : Tryz.prog.cellsOf 4 = 1 := by kernel_rfl
theorem cells29 : Tryz.prog.cellsOf 26 = 1 := by kernel_rfl
theorem cells31 : Tryz.prog.cellsOf 28 = 5 := by kernel_rfl
theorem cells35 : Tryz.prog.cellsOf 43 = 7 := by kernel_rfl
theorem cells45 : Tryz.prog.cellsOf 61 = 10 := by kernel_rfl
theorem cells33 : Tryz.prog.cellsOf 30 = 9 := by kernel_rfl
theorem cells25 : Tryz.prog.cellsOf 25 = 7 := by kernel_rfl
theorem cells22 : Tryz.prog.cellsOf 22 = 1 := by kernel_rfl
theorem cells23 : Tryz.prog.cellsOf 23 = 1 := by kernel_rfl
theorem bytes35 : Tryz.prog.bytesOf 43 = 88 := by kernel_rfl
theorem bytes45 : Tryz.prog.bytesOf 61 = 112 := by kernel_rfl
theorem tx_of (s : ByteArray) : Value.string s = tx s.data.toList := by cases s; simp [tx]

/-- A cell that holds a list of properties. -/
theorem props_cell {H : Type} {enc : TypeId × Value → H} {W : World} {c : Value} {fuel : Nat} {x : DataW H × List MemPlace} (h : DataW.trod enc Tryz.prog W 0 (fun _ => true) true fuel 26 [c] = some x) : ∃ l : List Pr, RdP W c l := by
  rcases open_slice Tryz.underlying26 h with ⟨hcs, _⟩ | ⟨a, l, cp, m, f, D, Pl, hcs, _⟩
  · simp only [List.cons.injEq, and_true] at hcs
    subst hcs
    exact ⟨[], .inl ⟨⟨_, _, rfl⟩, rfl⟩⟩
  · simp only [List.cons.injEq, and_true] at hcs
    subst hcs
    obtain ⟨l, hl, _⟩ := rd_props (d := x.1) (p := x.2) ⟨fuel, h⟩
    exact ⟨l, hl⟩

theorem msg_cells {H : Type} {enc : TypeId × Value → H} {W : World} {cs : List Value} {fuel : Nat} {x : DataW H × List MemPlace} (h : DataW.trod enc Tryz.prog W 0 (fun _ => true) true fuel 28 cs = some x) :
    ∃ (y : Msg) (pv : Value), cs = msgV y pv ∧ RdP W pv y.props := by
  obtain ⟨xs, n, _, rfl, hl, hlen, hf⟩ := DataW.trod_struct Tryz.underlying28 h
  rw [cells31] at hl
  match xs, hlen with
  | [y0, y1, y2, y3, y4], _ =>
    have t0 : DataW.trod enc Tryz.prog W 0 (fun _ => true) true n 9 ((cs.drop 0).take (Tryz.prog.cellsOf 9)) = some y0 := by simpa using hf 0 _ rfl
    have t1 : DataW.trod enc Tryz.prog W 0 (fun _ => true) true n 9 ((cs.drop 1).take (Tryz.prog.cellsOf 9)) = some y1 := by simpa using hf 1 _ rfl
    have t2 : DataW.trod enc Tryz.prog W 0 (fun _ => true) true n 26 ((cs.drop 2).take (Tryz.prog.cellsOf 26)) = some y2 := by simpa using hf 2 _ rfl
    have t3 : DataW.trod enc Tryz.prog W 0 (fun _ => true) true n 4 ((cs.drop 3).take (Tryz.prog.cellsOf 4)) = some y3 := by simpa using hf 3 _ rfl
    have t4 : DataW.trod enc Tryz.prog W 0 (fun _ => true) true n 3 ((cs.drop 4).take (Tryz.prog.cellsOf 3)) = some y4 := by simpa using hf 4 _ rfl
    match cs, hl with
    | [c0, c1, c2, c3, c4], _ =>
      simp only [cells3, cells4, cells9, cells29, List.drop, List.take] at t0 t1 t2 t3 t4
      obtain ⟨s, e0, _, _⟩ := DataW.trod_string Tryz.underlying9 t0
      obtain ⟨b, e1, _, _⟩ := DataW.trod_string Tryz.underlying9 t1
      obtain ⟨l, hp⟩ := props_cell t2
      obtain ⟨d, e3, _⟩ := DataW.trod_bool Tryz.underlying4 t3
      obtain ⟨u, e4, _, _⟩ := DataW.trod_int Tryz.underlying3 t4
      simp only [List.cons.injEq, and_true] at e0 e1 e3 e4
      subst e0 e1 e3 e4
      exact ⟨⟨s.data.toList, b.data.toList, l, d, u⟩, c2, by simp only [msgV, tx_of], hp⟩
theorem itm_cells {H : Type} {enc : TypeId × Value → H} {W : World} {cs : List Value} {fuel : Nat} {x : DataW H × List MemPlace} (h : DataW.trod enc Tryz.prog W 0 (fun _ => true) true fuel 43 cs = some x) :
    ∃ (y : Itm) (pv : Value), cs = itmV y pv ∧ RdP W pv y.msg.props := by
  obtain ⟨xs, n, _, rfl, hl, hlen, hf⟩ := DataW.trod_struct Tryz.underlying43 h
  rw [cells35] at hl
  match xs, hlen with
  | [y0, y1, y2], _ =>
    have t0 : DataW.trod enc Tryz.prog W 0 (fun _ => true) true n 3 ((cs.drop 0).take (Tryz.prog.cellsOf 3)) = some y0 := by simpa using hf 0 _ rfl
    have t1 : DataW.trod enc Tryz.prog W 0 (fun _ => true) true n 4 ((cs.drop 1).take (Tryz.prog.cellsOf 4)) = some y1 := by simpa using hf 1 _ rfl
    have t2 : DataW.trod enc Tryz.prog W 0 (fun _ => true) true n 28 ((cs.drop 2).take (Tryz.prog.cellsOf 28)) = some y2 := by simpa using hf 2 _ rfl
    match cs, hl with
    | [c0, c1, c2, c3, c4, c5, c6], _ =>
      simp only [cells3, cells4, cells31, List.drop, List.take] at t0 t1 t2
      obtain ⟨s, e0, _, _⟩ := DataW.trod_int Tryz.underlying3 t0
      obtain ⟨b, e1, _⟩ := DataW.trod_bool Tryz.underlying4 t1
      obtain ⟨m, pv, e2, hp⟩ := msg_cells t2
      simp only [msgV, List.cons.injEq, and_true] at e0 e1 e2
      obtain ⟨rfl, rfl, rfl, rfl, rfl⟩ := e2
      subst e0 e1
      exact ⟨⟨s, b, m⟩, _, rfl, hp⟩
theorem hld_cells {H : Type} {enc : TypeId × Value → H} {W : World} {cs : List Value} {fuel : Nat} {x : DataW H × List MemPlace} (h : DataW.trod enc Tryz.prog W 0 (fun _ => true) true fuel 61 cs = some x) :
    ∃ (y : Hld) (pv : Value), cs = hldV y pv ∧ RdP W pv y.itm.msg.props := by
  obtain ⟨xs, n, _, rfl, hl, hlen, hf⟩ := DataW.trod_struct Tryz.underlying61 h
  rw [cells45] at hl
  match xs, hlen with
  | [y0, y1, y2, y3], _ =>
    have t0 : DataW.trod enc Tryz.prog W 0 (fun _ => true) true n 3 ((cs.drop 0).take (Tryz.prog.cellsOf 3)) = some y0 := by simpa using hf 0 _ rfl
    have t1 : DataW.trod enc Tryz.prog W 0 (fun _ => true) true n 3 ((cs.drop 1).take (Tryz.prog.cellsOf 3)) = some y1 := by simpa using hf 1 _ rfl
    have t2 : DataW.trod enc Tryz.prog W 0 (fun _ => true) true n 3 ((cs.drop 2).take (Tryz.prog.cellsOf 3)) = some y2 := by simpa using hf 2 _ rfl
    have t3 : DataW.trod enc Tryz.prog W 0 (fun _ => true) true n 43 ((cs.drop 3).take (Tryz.prog.cellsOf 43)) = some y3 := by simpa using hf 3 _ rfl
    match cs, hl with
    | [c0, c1, c2, c3, c4, c5, c6, c7, c8, c9], _ =>
      simp only [cells3, cells35, List.drop, List.take] at t0 t1 t2 t3
      obtain ⟨s, e0, _, _⟩ := DataW.trod_int Tryz.underlying3 t0
      obtain ⟨b, e1, _, _⟩ := DataW.trod_int Tryz.underlying3 t1
      obtain ⟨u, e2, _, _⟩ := DataW.trod_int Tryz.underlying3 t2
      obtain ⟨m, pv, e3, hp⟩ := itm_cells t3
      simp only [itmV, List.cons.injEq, and_true] at e0 e1 e2 e3
      obtain ⟨rfl, rfl, rfl, rfl, rfl, rfl, rfl⟩ := e3
      subst e0 e1 e2
      exact ⟨⟨s, b, u, m⟩, _, rfl, hp⟩
theorem op_cells {H : Type} {enc : TypeId × Value → H} {W : World} {cs : List Value} {fuel : Nat} {x : DataW H × List MemPlace} (h : DataW.trod enc Tryz.prog W 0 (fun _ => true) true fuel 30 cs = some x) :
    ∃ (y : Opn) (pv : Value), cs = opV y pv ∧ RdP W pv y.m.props := by
  obtain ⟨xs, n, _, rfl, hl, hlen, hf⟩ := DataW.trod_struct Tryz.underlying30 h
  rw [cells33] at hl
  match xs, hlen with
  | [y0, y1, y2, y3, y4], _ =>
    have t0 : DataW.trod enc Tryz.prog W 0 (fun _ => true) true n 3 ((cs.drop 0).take (Tryz.prog.cellsOf 3)) = some y0 := by simpa using hf 0 _ rfl
    have t1 : DataW.trod enc Tryz.prog W 0 (fun _ => true) true n 3 ((cs.drop 1).take (Tryz.prog.cellsOf 3)) = some y1 := by simpa using hf 1 _ rfl
    have t2 : DataW.trod enc Tryz.prog W 0 (fun _ => true) true n 3 ((cs.drop 2).take (Tryz.prog.cellsOf 3)) = some y2 := by simpa using hf 2 _ rfl
    have t3 : DataW.trod enc Tryz.prog W 0 (fun _ => true) true n 4 ((cs.drop 3).take (Tryz.prog.cellsOf 4)) = some y3 := by simpa using hf 3 _ rfl
    have t4 : DataW.trod enc Tryz.prog W 0 (fun _ => true) true n 28 ((cs.drop 4).take (Tryz.prog.cellsOf 28)) = some y4 := by simpa using hf 4 _ rfl
    match cs, hl with
    | [c0, c1, c2, c3, c4, c5, c6, c7, c8], _ =>
      simp only [cells3, cells4, cells31, List.drop, List.take] at t0 t1 t2 t3 t4
      obtain ⟨s, e0, _, _⟩ := DataW.trod_int Tryz.underlying3 t0
      obtain ⟨b, e1, _, _⟩ := DataW.trod_int Tryz.underlying3 t1
      obtain ⟨u, e2, _, _⟩ := DataW.trod_int Tryz.underlying3 t2
      obtain ⟨g, e3, _⟩ := DataW.trod_bool Tryz.underlying4 t3
      obtain ⟨m, pv, e4, hp⟩ := msg_cells t4
      simp only [msgV, List.cons.injEq, and_true] at e0 e1 e2 e3 e4
      obtain ⟨rfl, rfl, rfl, rfl, rfl⟩ := e4
      subst e0 e1 e2 e3
      exact ⟨⟨s, b, u, g, m⟩, _, rfl, hp⟩

/-- A slice whose elements are told by their cells. -/
theorem rd_list {H : Type} {enc : TypeId × Value → H} {W : World} {α : Type} {t e k : Nat} {R : List Value → α → Prop} (ht : Tryz.prog.underlying t = some (.slice e)) (hk : Tryz.prog.cellsOf e = k) (k0 : 0 < k)
    (hE : ∀ cs fuel x, DataW.trod enc Tryz.prog W 0 (fun _ => true) true fuel e cs = some x → ∃ y, (∀ u ∈ cs, u.oneCell' = true) ∧ R cs y)
    {v : Value} {fuel : Nat} {x : DataW H × List MemPlace} (h : DataW.trod enc Tryz.prog W 0 (fun _ => true) true fuel t [v] = some x) :
    ∃ l : List α, RdL k R W v l ∧ (l.length = 0 ∨ ∃ E S Pl, x = (.slice E S, Pl) ∧ l.length ≤ E.length + S.length) := by
  rcases open_slice ht h with ⟨hcs, _⟩ | ⟨a, n, c, m, f, D, Pl, hcs, _, hl, hm, hmm, hx, hel⟩
  · simp only [List.cons.injEq, and_true] at hcs
    subst hcs
    exact ⟨[], ⟨[], rfl, .inl ⟨⟨_, _, rfl⟩, rfl⟩, by simp⟩, .inl rfl⟩
  · simp only [List.cons.injEq, and_true] at hcs
    subst hcs
    have hmc : m = c := by simpa using hmm
    subst hmc
    rcases Nat.eq_zero_or_pos n with h0 | h0
    · subst h0
      exact ⟨[], ⟨[], rfl, .inl ⟨⟨_, _, rfl⟩, rfl⟩, by simp⟩, .inl rfl⟩
    · have key : ∀ i, i < n → ∃ (b o : Nat) (cs : List Value) (y : α), a.add (i * k) = ⟨b, o, none⟩ ∧ cs.length = k ∧ (∀ j, j < k → W.cell? ⟨b, o + j, none⟩ = cs[j]?) ∧ (∀ u ∈ cs, u.oneCell' = true) ∧ R cs y := fun i hi => by
        obtain ⟨cs', h1, h2⟩ := hel i (by omega)
        obtain ⟨y, h3, h4⟩ := hE _ _ _ h2
        rw [hk] at h1
        obtain ⟨_, hlen, hh⟩ := World.cells?_some h1
        generalize a.add (i * k) = ad at *
        obtain ⟨b, o, sp⟩ := ad
        have hc0 := hh 0 k0
        have hsp : sp = none := by
          rw [List.getElem?_eq_getElem (by omega)] at hc0
          simpa [Addr.add] using World.cell?_spot hc0
        subst hsp
        exact ⟨b, o, cs', y, rfl, hlen, fun j hj => by rw [← hh j hj, Addr.add_lit], h3, h4⟩
      obtain ⟨b, o, _, _, e0, _⟩ := key 0 (by omega)
      have ex : a = ⟨b, o, none⟩ := by simpa [Addr.add] using e0
      subst ex
      have hall : ∀ m, m ≤ n → ∃ zs : Zs α, zs.length = m ∧ (∀ j u, (cellsZ zs)[j]? = some u → W.cell? ⟨b, o + j, none⟩ = some u) ∧ ∀ z ∈ zs, (z.1.length = k ∧ ∀ u ∈ z.1, u.oneCell' = true) ∧ R z.1 z.2 := by
        intro m
        induction m with
        | zero => exact fun _ => ⟨[], rfl, fun j u h => by simp [cellsZ] at h, by simp⟩
        | succ m ih =>
          intro hm
          obtain ⟨zs, hl, h1, h2⟩ := ih (by omega)
          obtain ⟨b', o', cs, y, e, h3, h4, h5, h6⟩ := key m (by omega)
          rw [Addr.add_lit] at e
          cases e
          have hcl : (cellsZ zs).length = m * k := by rw [cellsZ_len (fun z hz => (h2 z hz).1.1), hl]
          refine ⟨zs ++ [(cs, y)], by simp [hl], fun j u hj => ?_, fun z hz => ?_⟩
          · rw [cellsZ_app] at hj
            by_cases hlt : j < m * k
            · rw [List.getElem?_append_left (by omega)] at hj
              exact h1 j u hj
            · rw [List.getElem?_append_right (by omega), hcl] at hj
              have hj2 : j - m * k < k := by
                have := (List.getElem?_eq_some_iff.1 hj).1
                simp [cellsZ] at this
                omega
              have h7 := h4 (j - m * k) hj2
              have e9 : o + m * k + (j - m * k) = o + j := by omega
              rw [e9] at h7
              rw [h7]
              simpa [cellsZ] using hj
          · rcases List.mem_append.1 hz with hz | hz
            · exact h2 z hz
            · simp at hz
              subst hz
              exact ⟨⟨h3, h5⟩, h6⟩
      obtain ⟨zs, hl2, h1, h2⟩ := hall n (Nat.le_refl _)
      refine ⟨zs.map (·.2), ⟨zs, rfl, .inr ⟨b, o, m, by rw [hl2], by omega, h1⟩, h2⟩, .inr ⟨_, _, _, hx, by simp [hl2]⟩⟩
def OpR (p : Value → List Pr → Prop) (vs : List Value) (o : Opn) : Prop := ∃ pv, vs = opV o pv ∧ p pv o.m.props
def RdO (w : World) (v : Value) (l : List Opn) : Prop := RdL 9 (OpR (RdP w)) w v l
theorem items_cell {H : Type} {enc : TypeId × Value → H} {W : World} {v : Value} {fuel : Nat} {x : DataW H × List MemPlace} (h : DataW.trod enc Tryz.prog W 0 (fun _ => true) true fuel 22 [v] = some x) :
    ∃ l, RdI W v l ∧ (l.length = 0 ∨ ∃ E S Pl, x = (.slice E S, Pl) ∧ l.length ≤ E.length + S.length) :=
  rd_list Tryz.underlying22 cells35 (by decide) (fun cs fuel x h => by
    obtain ⟨y, pv, rfl, hp⟩ := itm_cells h
    refine ⟨y, fun u hu => ?_, pv, rfl, hp⟩
    have := hp.one
    simp only [itmV, List.mem_cons, List.not_mem_nil, or_false] at hu
    rcases hu with rfl | rfl | rfl | rfl | rfl | rfl | rfl <;> first | rfl | exact this) h
theorem held_cell {H : Type} {enc : TypeId × Value → H} {W : World} {v : Value} {fuel : Nat} {x : DataW H × List MemPlace} (h : DataW.trod enc Tryz.prog W 0 (fun _ => true) true fuel 23 [v] = some x) :
    ∃ l, RdH W v l ∧ (l.length = 0 ∨ ∃ E S Pl, x = (.slice E S, Pl) ∧ l.length ≤ E.length + S.length) :=
  rd_list Tryz.underlying23 cells45 (by decide) (fun cs fuel x h => by
    obtain ⟨y, pv, rfl, hp⟩ := hld_cells h
    refine ⟨y, fun u hu => ?_, pv, rfl, hp⟩
    have := hp.one
    simp only [hldV, List.mem_cons, List.not_mem_nil, or_false] at hu
    rcases hu with rfl | rfl | rfl | rfl | rfl | rfl | rfl | rfl | rfl | rfl <;> first | rfl | exact this) h
/-- A queue that came in: its lists are no longer than memory is. -/
theorem open_que {H : Type} {enc : TypeId × Value → H} {W : World} {v : Value} {d : DataW H} {p : List MemPlace} (h : DataW.Trod enc Tryz.prog W 0 (fun _ => true) true 25 v d p)
    (hsz : ∀ n ∈ d.weights Tryz.prog 25, n ≤ reachBytes) : ∃ q : Que, RdQ W v q ∧ lenQ q ≤ 9223372036854775806 := by
  obtain ⟨fuel, h⟩ := h
  obtain ⟨xs, n, _, hx, hl, hlen, hf⟩ := DataW.trod_struct Tryz.underlying25 h
  rw [cells25] at hl
  obtain ⟨hd, _⟩ := Prod.mk.inj hx
  subst hd
  match xs, hlen with
  | [y0, y1, y2, y3, y4, y5, y6], _ =>
    have t0 : DataW.trod enc Tryz.prog W 0 (fun _ => true) true n 9 ((v.cells.toList.drop 0).take (Tryz.prog.cellsOf 9)) = some y0 := by simpa using hf 0 _ rfl
    have t1 : DataW.trod enc Tryz.prog W 0 (fun _ => true) true n 4 ((v.cells.toList.drop 1).take (Tryz.prog.cellsOf 4)) = some y1 := by simpa using hf 1 _ rfl
    have t2 : DataW.trod enc Tryz.prog W 0 (fun _ => true) true n 3 ((v.cells.toList.drop 2).take (Tryz.prog.cellsOf 3)) = some y2 := by simpa using hf 2 _ rfl
    have t3 : DataW.trod enc Tryz.prog W 0 (fun _ => true) true n 3 ((v.cells.toList.drop 3).take (Tryz.prog.cellsOf 3)) = some y3 := by simpa using hf 3 _ rfl
    have t4 : DataW.trod enc Tryz.prog W 0 (fun _ => true) true n 3 ((v.cells.toList.drop 4).take (Tryz.prog.cellsOf 3)) = some y4 := by simpa using hf 4 _ rfl
    have t5 : DataW.trod enc Tryz.prog W 0 (fun _ => true) true n 22 ((v.cells.toList.drop 5).take (Tryz.prog.cellsOf 22)) = some y5 := by simpa using hf 5 _ rfl
    have t6 : DataW.trod enc Tryz.prog W 0 (fun _ => true) true n 23 ((v.cells.toList.drop 6).take (Tryz.prog.cellsOf 23)) = some y6 := by simpa using hf 6 _ rfl
    clear hf h
    obtain ⟨a, rfl⟩ : ∃ a, v = .agg a := by
      cases v with
      | agg a => exact ⟨a, rfl⟩
      | _ => simp [Value.cells] at hl
    obtain ⟨cs, rfl⟩ : ∃ cs : List Value, a = cs.toArray := ⟨a.toList, by simp⟩
    simp only [Value.cells] at hl t0 t1 t2 t3 t4 t5 t6
    match cs, hl with
    | [c0, c1, c2, c3, c4, c5, c6], _ =>
      simp only [cells3, cells4, cells9, cells22, cells23, List.drop, List.take] at t0 t1 t2 t3 t4 t5 t6
      obtain ⟨s, e0, _, _⟩ := DataW.trod_string Tryz.underlying9 t0
      obtain ⟨b, e1, _⟩ := DataW.trod_bool Tryz.underlying4 t1
      obtain ⟨z2, e2, _, _⟩ := DataW.trod_int Tryz.underlying3 t2
      obtain ⟨z3, e3, _, _⟩ := DataW.trod_int Tryz.underlying3 t3
      obtain ⟨z4, e4, _, _⟩ := DataW.trod_int Tryz.underlying3 t4
      obtain ⟨li, hi, bi⟩ := items_cell t5
      obtain ⟨lh, hh, bh⟩ := held_cell t6
      simp only [List.cons.injEq, and_true] at e0 e1 e2 e3 e4
      subst e0 e1 e2 e3 e4
      have w5 : li.length ≤ reachBytes := by
        rcases bi with h | ⟨E, S, Pl, rfl, h⟩
        · omega
        · have := hsz ((E.length + S.length) * 88) (by
            simp [DataW.weights, Tryz.underlying25, DataW.weightsEach, Tryz.underlying22, bytes35])
          omega
      have w6 : lh.length ≤ reachBytes := by
        rcases bh with h | ⟨E, S, Pl, rfl, h⟩
        · omega
        · have := hsz ((E.length + S.length) * 112) (by
            simp [DataW.weights, Tryz.underlying25, DataW.weightsEach, Tryz.underlying23, bytes45])
          omega
      refine ⟨⟨s.data.toList, b, z2, z3, z4, li, lh⟩, ⟨c5, c6, by simp only [queV, tx_of], hi, hh⟩, ?_⟩
      simp only [lenQ, reachBytes] at *
      omega
end Go.Proofs.YtlbcefocmdnlgaaGreatDoor

namespace Go.Proofs.YtlbcefocmdnlgaaGreatDoor
open Go.RowKit Go.Lib Go.Deep
set_option maxRecDepth 100000

theorem wAll_mem {H : Type} {e : TypeId} : ∀ {ds : List (DataW H)} {d : DataW H}, d ∈ ds → ∀ n ∈ d.weights Tryz.prog e, n ∈ DataW.weightsAll Tryz.prog e ds
  | [], _, h, _, _ => by simp at h
  | x :: ds, d, h, n, hn => by
    rw [DataW.weightsAll]
    rcases List.mem_cons.1 h with rfl | h
    · exact List.mem_append_left _ hn
    · exact List.mem_append_right _ (wAll_mem h n hn)
/-- What is told of a message that came in. -/
def InM (m : Msg) : Prop := (∀ p ∈ m.props, InP p) ∧ m.props.length ≤ 2513169434916
theorem props_cellW {H : Type} {enc : TypeId × Value → H} {W : World} {c : Value} {fuel : Nat} {x : DataW H × List MemPlace} (h : DataW.trod enc Tryz.prog W 0 (fun _ => true) true fuel 26 [c] = some x) (hw : ∀ n ∈ x.1.weights Tryz.prog 26, n ≤ reachBytes) :
    ∃ l : List Pr, RdP W c l ∧ (∀ p ∈ l, InP p) ∧ l.length ≤ 2513169434916 := by
  rcases open_slice Tryz.underlying26 h with ⟨hcs, _⟩ | ⟨a, l, cp, m, f, D, Pl, hcs, _⟩
  · simp only [List.cons.injEq, and_true] at hcs
    subst hcs
    exact ⟨[], .inl ⟨⟨_, _, rfl⟩, rfl⟩, by simp, by simp⟩
  · simp only [List.cons.injEq, and_true] at hcs
    subst hcs
    obtain ⟨l', hl, hn, hp, hb⟩ := rd_props (d := x.1) (p := x.2) ⟨fuel, h⟩
    refine ⟨l', hl, hp, ?_⟩
    rcases hb with hb | ⟨E, S, hd, hb⟩
    · omega
    · have := hw ((E.length + S.length) * 56) (by rw [hd]; simp [DataW.weights, Tryz.underlying26, bytes88])
      simp only [reachBytes] at this
      omega
theorem msg_cellsW {H : Type} {enc : TypeId × Value → H} {W : World} {cs : List Value} {fuel : Nat} {x : DataW H × List MemPlace} (h : DataW.trod enc Tryz.prog W 0 (fun _ => true) true fuel 28 cs = some x) (hw : ∀ n ∈ x.1.weights Tryz.prog 28, n ≤ reachBytes) :
    ∃ (y : Msg) (pv : Value), cs = msgV y pv ∧ RdP W pv y.props ∧ InM y := by
  obtain ⟨xs, n, _, rfl, hl, hlen, hf⟩ := DataW.trod_struct Tryz.underlying28 h
  rw [cells31] at hl
  match xs, hlen with
  | [y0, y1, y2, y3, y4], _ =>
    have t0 : DataW.trod enc Tryz.prog W 0 (fun _ => true) true n 9 ((cs.drop 0).take (Tryz.prog.cellsOf 9)) = some y0 := by simpa using hf 0 _ rfl
    have t1 : DataW.trod enc Tryz.prog W 0 (fun _ => true) true n 9 ((cs.drop 1).take (Tryz.prog.cellsOf 9)) = some y1 := by simpa using hf 1 _ rfl
    have t2 : DataW.trod enc Tryz.prog W 0 (fun _ => true) true n 26 ((cs.drop 2).take (Tryz.prog.cellsOf 26)) = some y2 := by simpa using hf 2 _ rfl
    have t3 : DataW.trod enc Tryz.prog W 0 (fun _ => true) true n 4 ((cs.drop 3).take (Tryz.prog.cellsOf 4)) = some y3 := by simpa using hf 3 _ rfl
    have t4 : DataW.trod enc Tryz.prog W 0 (fun _ => true) true n 3 ((cs.drop 4).take (Tryz.prog.cellsOf 3)) = some y4 := by simpa using hf 4 _ rfl
    match cs, hl with
    | [c0, c1, c2, c3, c4], _ =>
      simp only [cells3, cells4, cells9, cells29, List.drop, List.take] at t0 t1 t2 t3 t4
      obtain ⟨s, e0, _, _⟩ := DataW.trod_string Tryz.underlying9 t0
      obtain ⟨b, e1, _, _⟩ := DataW.trod_string Tryz.underlying9 t1
      obtain ⟨l, hp, hq⟩ := props_cellW t2 (fun n hn => hw n (by simp [DataW.weights, Tryz.underlying28, DataW.weightsEach]; simp [hn]))
      obtain ⟨d, e3, _⟩ := DataW.trod_bool Tryz.underlying4 t3
      obtain ⟨u, e4, _, _⟩ := DataW.trod_int Tryz.underlying3 t4
      simp only [List.cons.injEq, and_true] at e0 e1 e3 e4
      subst e0 e1 e3 e4
      exact ⟨⟨s.data.toList, b.data.toList, l, d, u⟩, c2, by simp only [msgV, tx_of], hp, hq⟩
theorem itm_cellsW {H : Type} {enc : TypeId × Value → H} {W : World} {cs : List Value} {fuel : Nat} {x : DataW H × List MemPlace} (h : DataW.trod enc Tryz.prog W 0 (fun _ => true) true fuel 43 cs = some x) (hw : ∀ n ∈ x.1.weights Tryz.prog 43, n ≤ reachBytes) :
    ∃ (y : Itm) (pv : Value), cs = itmV y pv ∧ RdP W pv y.msg.props ∧ InM y.msg := by
  obtain ⟨xs, n, _, rfl, hl, hlen, hf⟩ := DataW.trod_struct Tryz.underlying43 h
  rw [cells35] at hl
  match xs, hlen with
  | [y0, y1, y2], _ =>
    have t0 : DataW.trod enc Tryz.prog W 0 (fun _ => true) true n 3 ((cs.drop 0).take (Tryz.prog.cellsOf 3)) = some y0 := by simpa using hf 0 _ rfl
    have t1 : DataW.trod enc Tryz.prog W 0 (fun _ => true) true n 4 ((cs.drop 1).take (Tryz.prog.cellsOf 4)) = some y1 := by simpa using hf 1 _ rfl
    have t2 : DataW.trod enc Tryz.prog W 0 (fun _ => true) true n 28 ((cs.drop 2).take (Tryz.prog.cellsOf 28)) = some y2 := by simpa using hf 2 _ rfl
    match cs, hl with
    | [c0, c1, c2, c3, c4, c5, c6], _ =>
      simp only [cells3, cells4, cells31, List.drop, List.take] at t0 t1 t2
      obtain ⟨s, e0, _, _⟩ := DataW.trod_int Tryz.underlying3 t0
      obtain ⟨b, e1, _⟩ := DataW.trod_bool Tryz.underlying4 t1
      obtain ⟨m, pv, e2, hp, hq⟩ := msg_cellsW t2 (fun n hn => hw n (by simp [DataW.weights, Tryz.underlying43, DataW.weightsEach]; simp [hn]))
      simp only [msgV, List.cons.injEq, and_true] at e0 e1 e2
      obtain ⟨rfl, rfl, rfl, rfl, rfl⟩ := e2
      subst e0 e1
      exact ⟨⟨s, b, m⟩, _, rfl, hp, hq⟩
theorem hld_cellsW {H : Type} {enc : TypeId × Value → H} {W : World} {cs : List Value} {fuel : Nat} {x : DataW H × List MemPlace} (h : DataW.trod enc Tryz.prog W 0 (fun _ => true) true fuel 61 cs = some x) (hw : ∀ n ∈ x.1.weights Tryz.prog 61, n ≤ reachBytes) :
    ∃ (y : Hld) (pv : Value), cs = hldV y pv ∧ RdP W pv y.itm.msg.props ∧ InM y.itm.msg := by
  obtain ⟨xs, n, _, rfl, hl, hlen, hf⟩ := DataW.trod_struct Tryz.underlying61 h
  rw [cells45] at hl
  match xs, hlen with
  | [y0, y1, y2, y3], _ =>
    have t0 : DataW.trod enc Tryz.prog W 0 (fun _ => true) true n 3 ((cs.drop 0).take (Tryz.prog.cellsOf 3)) = some y0 := by simpa using hf 0 _ rfl
    have t1 : DataW.trod enc Tryz.prog W 0 (fun _ => true) true n 3 ((cs.drop 1).take (Tryz.prog.cellsOf 3)) = some y1 := by simpa using hf 1 _ rfl
    have t2 : DataW.trod enc Tryz.prog W 0 (fun _ => true) true n 3 ((cs.drop 2).take (Tryz.prog.cellsOf 3)) = some y2 := by simpa using hf 2 _ rfl
    have t3 : DataW.trod enc Tryz.prog W 0 (fun _ => true) true n 43 ((cs.drop 3).take (Tryz.prog.cellsOf 43)) = some y3 := by simpa using hf 3 _ rfl
    match cs, hl with
    | [c0, c1, c2, c3, c4, c5, c6, c7, c8, c9], _ =>
      simp only [cells3, cells35, List.drop, List.take] at t0 t1 t2 t3
      obtain ⟨s, e0, _, _⟩ := DataW.trod_int Tryz.underlying3 t0
      obtain ⟨b, e1, _, _⟩ := DataW.trod_int Tryz.underlying3 t1
      obtain ⟨u, e2, _, _⟩ := DataW.trod_int Tryz.underlying3 t2
      obtain ⟨m, pv, e3, hp, hq⟩ := itm_cellsW t3 (fun n hn => hw n (by simp [DataW.weights, Tryz.underlying61, DataW.weightsEach]; simp [hn]))
      simp only [itmV, List.cons.injEq, and_true] at e0 e1 e2 e3
      obtain ⟨rfl, rfl, rfl, rfl, rfl, rfl, rfl⟩ := e3
      subst e0 e1 e2
      exact ⟨⟨s, b, u, m⟩, _, rfl, hp, hq⟩
theorem op_cellsW {H : Type} {enc : TypeId × Value → H} {W : World} {cs : List Value} {fuel : Nat} {x : DataW H × List MemPlace} (h : DataW.trod enc Tryz.prog W 0 (fun _ => true) true fuel 30 cs = some x) (hw : ∀ n ∈ x.1.weights Tryz.prog 30, n ≤ reachBytes) :
    ∃ (y : Opn) (pv : Value), cs = opV y pv ∧ RdP W pv y.m.props ∧ InM y.m := by
  obtain ⟨xs, n, _, rfl, hl, hlen, hf⟩ := DataW.trod_struct Tryz.underlying30 h
  rw [cells33] at hl
  match xs, hlen with
  | [y0, y1, y2, y3, y4], _ =>
    have t0 : DataW.trod enc Tryz.prog W 0 (fun _ => true) true n 3 ((cs.drop 0).take (Tryz.prog.cellsOf 3)) = some y0 := by simpa using hf 0 _ rfl
    have t1 : DataW.trod enc Tryz.prog W 0 (fun _ => true) true n 3 ((cs.drop 1).take (Tryz.prog.cellsOf 3)) = some y1 := by simpa using hf 1 _ rfl
    have t2 : DataW.trod enc Tryz.prog W 0 (fun _ => true) true n 3 ((cs.drop 2).take (Tryz.prog.cellsOf 3)) = some y2 := by simpa using hf 2 _ rfl
    have t3 : DataW.trod enc Tryz.prog W 0 (fun _ => true) true n 4 ((cs.drop 3).take (Tryz.prog.cellsOf 4)) = some y3 := by simpa using hf 3 _ rfl
    have t4 : DataW.trod enc Tryz.prog W 0 (fun _ => true) true n 28 ((cs.drop 4).take (Tryz.prog.cellsOf 28)) = some y4 := by simpa using hf 4 _ rfl
    match cs, hl with
    | [c0, c1, c2, c3, c4, c5, c6, c7, c8], _ =>
      simp only [cells3, cells4, cells31, List.drop, List.take] at t0 t1 t2 t3 t4
      obtain ⟨s, e0, _, _⟩ := DataW.trod_int Tryz.underlying3 t0
      obtain ⟨b, e1, _, _⟩ := DataW.trod_int Tryz.underlying3 t1
      obtain ⟨u, e2, _, _⟩ := DataW.trod_int Tryz.underlying3 t2
      obtain ⟨g, e3, _⟩ := DataW.trod_bool Tryz.underlying4 t3
      obtain ⟨m, pv, e4, hp, hq⟩ := msg_cellsW t4 (fun n hn => hw n (by simp [DataW.weights, Tryz.underlying30, DataW.weightsEach]; simp [hn]))
      simp only [msgV, List.cons.injEq, and_true] at e0 e1 e2 e3 e4
      obtain ⟨rfl, rfl, rfl, rfl, rfl⟩ := e4
      subst e0 e1 e2 e3
      exact ⟨⟨s, b, u, g, m⟩, _, rfl, hp, hq⟩
theorem rd_listW {H : Type} {enc : TypeId × Value → H} {W : World} {α : Type} {t e k : Nat} {R : List Value → α → Prop} (ht : Tryz.prog.underlying t = some (.slice e)) (hk : Tryz.prog.cellsOf e = k) (k0 : 0 < k)
    (hE : ∀ cs fuel x, DataW.trod enc Tryz.prog W 0 (fun _ => true) true fuel e cs = some x → (∀ n ∈ x.1.weights Tryz.prog e, n ≤ reachBytes) → ∃ y, (∀ u ∈ cs, u.oneCell' = true) ∧ R cs y)
    {v : Value} {fuel : Nat} {x : DataW H × List MemPlace} (h : DataW.trod enc Tryz.prog W 0 (fun _ => true) true fuel t [v] = some x) (hw : ∀ n ∈ x.1.weights Tryz.prog t, n ≤ reachBytes) :
    ∃ l : List α, RdL k R W v l ∧ (l.length = 0 ∨ ∃ E S Pl, x = (.slice E S, Pl) ∧ l.length ≤ E.length + S.length) := by
  rcases open_slice ht h with ⟨hcs, _⟩ | ⟨a, n, c, m, f, D, Pl, hcs, _, hl, hm, hmm, hx, hel⟩
  · simp only [List.cons.injEq, and_true] at hcs
    subst hcs
    exact ⟨[], ⟨[], rfl, .inl ⟨⟨_, _, rfl⟩, rfl⟩, by simp⟩, .inl rfl⟩
  · simp only [List.cons.injEq, and_true] at hcs
    subst hcs
    have hmc : m = c := by simpa using hmm
    subst hmc
    rcases Nat.eq_zero_or_pos n with h0 | h0
    · subst h0
      exact ⟨[], ⟨[], rfl, .inl ⟨⟨_, _, rfl⟩, rfl⟩, by simp⟩, .inl rfl⟩
    · have key : ∀ i, i < n → ∃ (b o : Nat) (cs : List Value) (y : α), a.add (i * k) = ⟨b, o, none⟩ ∧ cs.length = k ∧ (∀ j, j < k → W.cell? ⟨b, o + j, none⟩ = cs[j]?) ∧ (∀ u ∈ cs, u.oneCell' = true) ∧ R cs y := fun i hi => by
        obtain ⟨cs', h1, h2⟩ := hel i (by omega)
        obtain ⟨y, h3, h4⟩ := hE _ _ _ h2 (fun n' hn' => hw n' (by
          rw [hx]
          simp only [DataW.weights, ht]
          exact List.mem_cons_of_mem _ (List.mem_append_left _ (wAll_mem (List.mem_map.2 ⟨i, by simp; omega, rfl⟩) n' hn'))))
        rw [hk] at h1
        obtain ⟨_, hlen, hh⟩ := World.cells?_some h1
        generalize a.add (i * k) = ad at *
        obtain ⟨b, o, sp⟩ := ad
        have hc0 := hh 0 k0
        have hsp : sp = none := by
          rw [List.getElem?_eq_getElem (by omega)] at hc0
          simpa [Addr.add] using World.cell?_spot hc0
        subst hsp
        exact ⟨b, o, cs', y, rfl, hlen, fun j hj => by rw [← hh j hj, Addr.add_lit], h3, h4⟩
      obtain ⟨b, o, _, _, e0, _⟩ := key 0 (by omega)
      have ex : a = ⟨b, o, none⟩ := by simpa [Addr.add] using e0
      subst ex
      have hall : ∀ m, m ≤ n → ∃ zs : Zs α, zs.length = m ∧ (∀ j u, (cellsZ zs)[j]? = some u → W.cell? ⟨b, o + j, none⟩ = some u) ∧ ∀ z ∈ zs, (z.1.length = k ∧ ∀ u ∈ z.1, u.oneCell' = true) ∧ R z.1 z.2 := by
        intro m
        induction m with
        | zero => exact fun _ => ⟨[], rfl, fun j u h => by simp [cellsZ] at h, by simp⟩
        | succ m ih =>
          intro hm
          obtain ⟨zs, hl, h1, h2⟩ := ih (by omega)
          obtain ⟨b', o', cs, y, e, h3, h4, h5, h6⟩ := key m (by omega)
          rw [Addr.add_lit] at e
          cases e
          have hcl : (cellsZ zs).length = m * k := by rw [cellsZ_len (fun z hz => (h2 z hz).1.1), hl]
          refine ⟨zs ++ [(cs, y)], by simp [hl], fun j u hj => ?_, fun z hz => ?_⟩
          · rw [cellsZ_app] at hj
            by_cases hlt : j < m * k
            · rw [List.getElem?_append_left (by omega)] at hj
              exact h1 j u hj
            · rw [List.getElem?_append_right (by omega), hcl] at hj
              have hj2 : j - m * k < k := by
                have := (List.getElem?_eq_some_iff.1 hj).1
                simp [cellsZ] at this
                omega
              have h7 := h4 (j - m * k) hj2
              have e9 : o + m * k + (j - m * k) = o + j := by omega
              rw [e9] at h7
              rw [h7]
              simpa [cellsZ] using hj
          · rcases List.mem_append.1 hz with hz | hz
            · exact h2 z hz
            · simp at hz
              subst hz
              exact ⟨⟨h3, h5⟩, h6⟩
      obtain ⟨zs, hl2, h1, h2⟩ := hall n (Nat.le_refl _)
      refine ⟨zs.map (·.2), ⟨zs, rfl, .inr ⟨b, o, m, by rw [hl2], by omega, h1⟩, h2⟩, .inr ⟨_, _, _, hx, by simp [hl2]⟩⟩
theorem rdl_part {α : Type} {k : Nat} {R : List Value → α → Prop} {P : α → Prop} {w : World} {v : Value} {l : List α} (h : RdL k (fun vs y => R vs y ∧ P y) w v l) : RdL k R w v l ∧ ∀ y ∈ l, P y := by
  obtain ⟨zs, rfl, hz⟩ := h
  refine ⟨⟨zs, rfl, hz.imp fun _ _ h => h.1⟩, fun y hy => ?_⟩
  obtain ⟨z, hz', rfl⟩ := List.mem_map.1 hy
  exact (hz.2 z hz').2.2
theorem items_cellW {H : Type} {enc : TypeId × Value → H} {W : World} {v : Value} {fuel : Nat} {x : DataW H × List MemPlace} (h : DataW.trod enc Tryz.prog W 0 (fun _ => true) true fuel 22 [v] = some x) (hw : ∀ n ∈ x.1.weights Tryz.prog 22, n ≤ reachBytes) :
    ∃ l, (RdI W v l ∧ ∀ y ∈ l, InM y.msg) ∧ (l.length = 0 ∨ ∃ E S Pl, x = (.slice E S, Pl) ∧ l.length ≤ E.length + S.length) := by
  obtain ⟨l, h1, h2⟩ := rd_listW (R := fun vs y => ItR (RdP W) vs y ∧ InM y.msg) Tryz.underlying22 cells35 (by decide) (fun cs fuel x h hw => by
    obtain ⟨y, pv, rfl, hp, hq⟩ := itm_cellsW h hw
    refine ⟨y, fun u hu => ?_, ⟨pv, rfl, hp⟩, hq⟩
    have := hp.one
    simp only [itmV, List.mem_cons, List.not_mem_nil, or_false] at hu
    rcases hu with rfl | rfl | rfl | rfl | rfl | rfl | rfl <;> first | rfl | exact this) h hw
  exact ⟨l, rdl_part h1, h2⟩
theorem held_cellW {H : Type} {enc : TypeId × Value → H} {W : World} {v : Value} {fuel : Nat} {x : DataW H × List MemPlace} (h : DataW.trod enc Tryz.prog W 0 (fun _ => true) true fuel 23 [v] = some x) (hw : ∀ n ∈ x.1.weights Tryz.prog 23, n ≤ reachBytes) :
    ∃ l, (RdH W v l ∧ ∀ y ∈ l, InM y.itm.msg) ∧ (l.length = 0 ∨ ∃ E S Pl, x = (.slice E S, Pl) ∧ l.length ≤ E.length + S.length) := by
  obtain ⟨l, h1, h2⟩ := rd_listW (R := fun vs y => HeR (RdP W) vs y ∧ InM y.itm.msg) Tryz.underlying23 cells45 (by decide) (fun cs fuel x h hw => by
    obtain ⟨y, pv, rfl, hp, hq⟩ := hld_cellsW h hw
    refine ⟨y, fun u hu => ?_, ⟨pv, rfl, hp⟩, hq⟩
    have := hp.one
    simp only [hldV, List.mem_cons, List.not_mem_nil, or_false] at hu
    rcases hu with rfl | rfl | rfl | rfl | rfl | rfl | rfl | rfl | rfl | rfl <;> first | rfl | exact this) h hw
  exact ⟨l, rdl_part h1, h2⟩
theorem open_queW {H : Type} {enc : TypeId × Value → H} {W : World} {v : Value} {d : DataW H} {p : List MemPlace} (h : DataW.Trod enc Tryz.prog W 0 (fun _ => true) true 25 v d p)
    (hsz : ∀ n ∈ d.weights Tryz.prog 25, n ≤ reachBytes) : ∃ q : Que, RdQ W v q ∧ lenQ q ≤ 9223372036854775806 ∧ q.name.length ≤ maxLen ∧ (∀ y ∈ q.items, InM y.msg) ∧ ∀ y ∈ q.held, InM y.itm.msg := by
  obtain ⟨fuel, h⟩ := h
  obtain ⟨xs, n, _, hx, hl, hlen, hf⟩ := DataW.trod_struct Tryz.underlying25 h
  rw [cells25] at hl
  obtain ⟨hd, _⟩ := Prod.mk.inj hx
  subst hd
  match xs, hlen with
  | [y0, y1, y2, y3, y4, y5, y6], _ =>
    have t0 : DataW.trod enc Tryz.prog W 0 (fun _ => true) true n 9 ((v.cells.toList.drop 0).take (Tryz.prog.cellsOf 9)) = some y0 := by simpa using hf 0 _ rfl
    have t1 : DataW.trod enc Tryz.prog W 0 (fun _ => true) true n 4 ((v.cells.toList.drop 1).take (Tryz.prog.cellsOf 4)) = some y1 := by simpa using hf 1 _ rfl
    have t2 : DataW.trod enc Tryz.prog W 0 (fun _ => true) true n 3 ((v.cells.toList.drop 2).take (Tryz.prog.cellsOf 3)) = some y2 := by simpa using hf 2 _ rfl
    have t3 : DataW.trod enc Tryz.prog W 0 (fun _ => true) true n 3 ((v.cells.toList.drop 3).take (Tryz.prog.cellsOf 3)) = some y3 := by simpa using hf 3 _ rfl
    have t4 : DataW.trod enc Tryz.prog W 0 (fun _ => true) true n 3 ((v.cells.toList.drop 4).take (Tryz.prog.cellsOf 3)) = some y4 := by simpa using hf 4 _ rfl
    have t5 : DataW.trod enc Tryz.prog W 0 (fun _ => true) true n 22 ((v.cells.toList.drop 5).take (Tryz.prog.cellsOf 22)) = some y5 := by simpa using hf 5 _ rfl
    have t6 : DataW.trod enc Tryz.prog W 0 (fun _ => true) true n 23 ((v.cells.toList.drop 6).take (Tryz.prog.cellsOf 23)) = some y6 := by simpa using hf 6 _ rfl
    clear hf h
    obtain ⟨a, rfl⟩ : ∃ a, v = .agg a := by
      cases v with
      | agg a => exact ⟨a, rfl⟩
      | _ => simp [Value.cells] at hl
    obtain ⟨cs, rfl⟩ : ∃ cs : List Value, a = cs.toArray := ⟨a.toList, by simp⟩
    simp only [Value.cells] at hl t0 t1 t2 t3 t4 t5 t6
    match cs, hl with
    | [c0, c1, c2, c3, c4, c5, c6], _ =>
      simp only [cells3, cells4, cells9, cells22, cells23, List.drop, List.take] at t0 t1 t2 t3 t4 t5 t6
      obtain ⟨s, e0, _, wsn⟩ := DataW.trod_string Tryz.underlying9 t0
      obtain ⟨b, e1, _⟩ := DataW.trod_bool Tryz.underlying4 t1
      obtain ⟨z2, e2, _, _⟩ := DataW.trod_int Tryz.underlying3 t2
      obtain ⟨z3, e3, _, _⟩ := DataW.trod_int Tryz.underlying3 t3
      obtain ⟨z4, e4, _, _⟩ := DataW.trod_int Tryz.underlying3 t4
      obtain ⟨li, ⟨hi, hqi⟩, bi⟩ := items_cellW t5 (fun n hn => hsz n (by simp [DataW.weights, Tryz.underlying25, DataW.weightsEach]; simp [hn]))
      obtain ⟨lh, ⟨hh, hqh⟩, bh⟩ := held_cellW t6 (fun n hn => hsz n (by simp [DataW.weights, Tryz.underlying25, DataW.weightsEach]; simp [hn]))
      simp only [List.cons.injEq, and_true] at e0 e1 e2 e3 e4
      subst e0 e1 e2 e3 e4
      have w5 : li.length ≤ reachBytes := by
        rcases bi with h | ⟨E, S, Pl, rfl, h⟩
        · omega
        · have := hsz ((E.length + S.length) * 88) (by
            simp [DataW.weights, Tryz.underlying25, DataW.weightsEach, Tryz.underlying22, bytes35])
          omega
      have w6 : lh.length ≤ reachBytes := by
        rcases bh with h | ⟨E, S, Pl, rfl, h⟩
        · omega
        · have := hsz ((E.length + S.length) * 112) (by
            simp [DataW.weights, Tryz.underlying25, DataW.weightsEach, Tryz.underlying23, bytes45])
          omega
      refine ⟨⟨s.data.toList, b, z2, z3, z4, li, lh⟩, ⟨c5, c6, by simp only [queV, tx_of], hi, hh⟩, ?_, by simpa using wsn, hqi, hqh⟩
      simp only [lenQ, reachBytes] at *
      omega
theorem open_msgW {H : Type} {enc : TypeId × Value → H} {W : World} {v : Value} {d : DataW H} {p : List MemPlace} (h : DataW.Trod enc Tryz.prog W 0 (fun _ => true) true 28 v d p)
    (hsz : ∀ n ∈ d.weights Tryz.prog 28, n ≤ reachBytes) : ∃ (y : Msg) (pv : Value), v = .agg (msgV y pv).toArray ∧ RdP W pv y.props ∧ InM y := by
  obtain ⟨fuel, h⟩ := h
  obtain ⟨y, pv, e, hp, hq⟩ := msg_cellsW h hsz
  refine ⟨y, pv, ?_, hp, hq⟩
  cases v with
  | agg a =>
    simp only [Value.cells] at e
    rw [← e]
  | _ => simp [Value.cells, msgV] at e
theorem open_opW {H : Type} {enc : TypeId × Value → H} {W : World} {v : Value} {d : DataW H} {p : List MemPlace} (h : DataW.Trod enc Tryz.prog W 0 (fun _ => true) true 30 v d p)
    (hsz : ∀ n ∈ d.weights Tryz.prog 30, n ≤ reachBytes) : ∃ (y : Opn) (pv : Value), v = .agg (opV y pv).toArray ∧ RdP W pv y.m.props ∧ InM y.m := by
  obtain ⟨fuel, h⟩ := h
  obtain ⟨y, pv, e, hp, hq⟩ := op_cellsW h hsz
  refine ⟨y, pv, ?_, hp, hq⟩
  cases v with
  | agg a =>
    simp only [Value.cells] at e
    rw [← e]
  | _ => simp [Value.cells, opV] at e
end Go.Proofs.YtlbcefocmdnlgaaGreatDoor

namespace Go.Proofs.YtlbcefocmdnlgaaGreatDoor
open Go.RowKit Go.Lib

theorem InM.fit {m : Msg} (h : InM m) : FitM m := ⟨fun p hp => ⟨(h.1 p hp).1, (h.1 p hp).2.2.2.2⟩, by have := h.2; omega⟩
theorem can_in (W : World) (hva : To.Vars W) (v : Value) (q : Que) (hx : RdQ W v q) (bx : lenQ q ≤ 9223372036854775806) (nx : q.name.length ≤ maxLen) (ix : ∀ y ∈ q.items, InM y.msg) (jx : ∀ y ∈ q.held, InM y.itm.msg)
    (m : Msg) (pv : Value) (hp : RdP W pv m.props) (im : InM m) (o : Opn) (ov : Value) :
    Calls Tryz.prog 3 #[v, .agg (msgV m pv).toArray, .agg (opV o ov).toArray] W fun e w' => e = .returned (.bool true) ∧ Below W.heap.size W w' :=
  can_law W hva v q hx ⟨nx, fun y hy => (ix y hy).fit, fun y hy => (jx y hy).fit⟩ (fun y hy => (ix y hy).2) (fun y hy => (jx y hy).2) bx m pv hp im.fit o ov
end Go.Proofs.YtlbcefocmdnlgaaGreatDoor

set_option maxRecDepth 100000
namespace Go.Proofs.YtlbcefocmdnlgaaGreatDoor
open Go.ChangeShapes Go.WideShapes Go.ChangeAt Go.RowKit Go.Lib
open Go.ChangeMaps (open_string shut_string)

theorem can_contract (H : Type) (enc : TypeId × Value → H) (W : World) (base : Nat) (args : Array Value) (ds gs : List (DataW H)) (before : List MemPlace)
    (hval : ∀ (j : Nat) t v, Tryz.f3.params[j]? = some t → args[j]? = some v → Value.okWide Tryz.prog W .any base t v)
    (hW : DataW.Whole enc Tryz.prog Tryz.f3.params.toList Rows.queueCanSpec.vars false W args.toList ds gs before)
    (hsz0 : (DataW.weightsEach Tryz.prog (Tryz.f3.params.toList ++ Rows.queueCanSpec.plain.varTypes Tryz.prog) (ds ++ gs)).all (· ≤ reachBytes) = true)
    (_hL : laidMetH Tryz.prog Rows.queueCanRow.laid W) (hsh : W.ShapedOpen Tryz.prog) :
    Calls Tryz.prog 3 args W fun e W' => ∃ v, e = .returned v ∧ Rows.queueCanSpec.post enc Tryz.prog Tryz.f3 false true false false W args v W' := by
  have hv : To.Vars W := by
    exact vars_of_shape hsh
  have hW' := hW
  obtain ⟨p, q, hA0, hV, rfl, hfz, hnd⟩ := hW
  have hA : DataW.TrodAll enc Tryz.prog W 0 (fun _ => true) true Tryz.f3.params.toList args.toList ds p := hA0
  have hsz := hsz0
  rw [Tryz.params3] at hA hval hsz
  obtain ⟨v0, vs0, d0, ds0, p0, q0, hargs, rfl, rfl, h0, r0⟩ := trodAll_cons hA
  obtain ⟨v1, vs1, d1, ds1, p1, q1, rfl, rfl, rfl, h1, r1⟩ := trodAll_cons r0
  obtain ⟨v2, vs2, d2, ds2, p2, q2, rfl, rfl, rfl, h2, r2⟩ := trodAll_cons r1
  obtain ⟨rfl, rfl, rfl⟩ := trodAll_nil r2
  obtain rfl : args = #[v0, v1, v2] := by cases args; simp_all
  obtain ⟨rfl, rfl⟩ := trodVars_none hV
  have lt0 : ∀ x ∈ p0, x.block < W.heap.size := by obtain ⟨m, hm⟩ := h0; exact DataW.trod_lt m _ _ _ hm
  obtain ⟨x0, hx0, bx0, nx0, ix0, jx0⟩ := open_queW h0 (fun n hn => by have := List.all_eq_true.1 hsz n (DataW.weights_mem_each (j := 0) rfl rfl n hn); simpa using this)
  have lt1 : ∀ x ∈ p1, x.block < W.heap.size := by obtain ⟨m, hm⟩ := h1; exact DataW.trod_lt m _ _ _ hm
  obtain ⟨x1, pv1, rfl, hp1, im1⟩ := open_msgW h1 (fun n hn => by have := List.all_eq_true.1 hsz n (DataW.weights_mem_each (j := 1) rfl rfl n hn); simpa using this)
  have lt2 : ∀ x ∈ p2, x.block < W.heap.size := by obtain ⟨m, hm⟩ := h2; exact DataW.trod_lt m _ _ _ hm
  obtain ⟨x2, pv2, rfl, hp2, im2⟩ := open_opW h2 (fun n hn => by have := List.all_eq_true.1 hsz n (DataW.weights_mem_each (j := 2) rfl rfl n hn); simpa using this)
  refine (can_in W hv _ x0 hx0 bx0 nx0 ix0 jx0 x1 pv1 hp1 im1 x2 pv2).mono fun e W' ⟨he, bel⟩ => ?_
  subst he
  exact ⟨_, rfl, _, _, _, [], _, [], hW', trodAll_mk1 (shut_bool Tryz.underlying4 _), (trodAll_cons_mk (Below.trod laidOut (by kernel_rfl) (of_decide_eq_true (by kernel_rfl)) h0 bel lt0) (trodAll_cons_mk (Below.trod laidOut (by kernel_rfl) (of_decide_eq_true (by kernel_rfl)) h1 bel lt1) (trodAll_cons_mk (Below.trod laidOut (by kernel_rfl) (of_decide_eq_true (by kernel_rfl)) h2 bel lt2) trodAll_mk0))), rfl, bel.frame _, fun h => by cases h⟩

theorem can_lifted (os : Os) (started : os.Started) (H : Type) (enc : TypeId × Value → H) :
    ReturnsInHanded {} Tryz.checked os 3 .any (fun w args => (Rows.queueCanSpec.pre enc Tryz.prog Tryz.f3 [] false w args ∧ laidMetH Tryz.prog Rows.queueCanRow.laid w) ∧ sizedMet enc Tryz.prog Tryz.f3 (OpenSpec.ofChange Rows.queueCanSpec) false w args)
      (Rows.queueCanSpec.post enc Tryz.prog Tryz.f3 false true false false) := by
  refine returns_and_shaped (C := Tryz.checked) (X := fun w _ => laidMetH Tryz.prog Rows.queueCanRow.laid w) (fun _ _ _ hh h => h.of_heap hh) own started (by kernel_rfl) Tryz.func3
    (ChangeSpec.witness_shaped (enc := enc) (C := Tryz.checked) (os := os) (X := fun w _ => laidMetH Tryz.prog Rows.queueCanRow.laid w) false (World.laidAll Tryz.prog os Rows.queueCanRow.laid) #[.agg #[.string ByteArray.empty, .bool false, .int .i64 0, .int .i64 0, .int .i64 0, .slice none 0 0, .slice none 0 0], .agg #[.string ByteArray.empty, .string ByteArray.empty, .slice none 0 0, .bool false, .int .i64 0], .agg #[.int .i64 0, .int .i64 0, .int .i64 0, .bool false, .string ByteArray.empty, .string ByteArray.empty, .slice none 0 0, .bool false, .int .i64 0]] 8 (World.laidAll_os _ _ _)
      (World.shaped_of_ZipB (by kernel_rfl) (by kernel_rfl)) (by kernel_rfl) (by kernel_rfl) (by kernel_rfl)
      (by rw [MakeChecks.laidMetH_plain _ _ _ (by kernel_rfl)]; exact laidMet_laidAll _ (by kernel_rfl) (by kernel_rfl))) ?_
  intro W base args ds gs before hval hW hsz hL hsh
  exact can_contract H enc W base args ds gs before hval hW hsz hL hsh

theorem can_said : Rows.QueueCanSaid :=
  OpenClaim.holds_of_wide 3 Tryz.f3 rfl rfl rfl rfl rfl rfl rfl ⟨rfl, rfl, rfl, rfl, rfl⟩ rfl rfl rfl rfl rfl (by kernel_rfl) Tryz.func3 (by kernel_rfl)
    (of_decide_eq_true (by kernel_rfl)) (by unfold Func.isWrapper; first | (rw [if_pos (by decide +kernel)]; kernel_rfl) | (rw [if_neg (by decide +kernel)]; exact ⟨rfl, rfl⟩))
    (fun os started H enc _ => can_lifted os started H enc)

theorem can_plain (f : FuncId) (fn : Func) (hf : Tryz.pinned.checked.prog.funcNamed "trivet/trivetlaw10.QueueCan" = some f) (hfn : Tryz.pinned.checked.prog.funcs[f]? = some fn) :
    false = Tryz.pinned.checked.prog.looks [] ∧ ∀ (j : Nat) t, fn.params[j]? = some t → Tryz.pinned.checked.prog.wantsStandIn t = false := by
  obtain rfl : f = 3 := Option.some.inj ((show Tryz.prog.funcNamed "trivet/trivetlaw10.QueueCan" = some 3 by kernel_rfl).symm.trans hf) |>.symm
  obtain rfl : fn = Tryz.f3 := (Option.some.inj (Tryz.func3.symm.trans hfn)).symm
  refine ⟨by kernel_rfl, fun j t ht => ?_⟩
  rw [Tryz.params3] at ht
  have hm : t ∈ [25, 28, 30] := by simpa using Array.mem_of_getElem? ht
  have hall : ([25, 28, 30].all fun u => !Tryz.prog.wantsStandIn u) = true := by kernel_rfl
  exact (show Tryz.prog.wantsStandIn t = false by simpa using List.all_eq_true.1 hall t hm)

theorem queueCan_card : Rows.QueueCanCardSaid :=
  Claim7.holds_tied_plain_at .later [] _ _ _ _ can_said (fun _ h => by cases h) (by kernel_rfl) (fun _ h => by cases h) queueCan_row_tie rfl ⟨rfl, rfl⟩ (by kernel_rfl) rfl can_plain (by kernel_rfl)
#print axioms queueCan_card
end Go.Proofs.YtlbcefocmdnlgaaGreatDoor
