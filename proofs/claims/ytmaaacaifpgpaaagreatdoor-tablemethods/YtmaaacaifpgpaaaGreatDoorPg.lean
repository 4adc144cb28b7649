
/- What prop.Valid answers of any list. -/
import Derived.Test.YtmaaacaifpgpaaaGreatDoorPf
namespace Go.Proofs.YtmaaacaifpgpaaaGreatDoor
open Go.RowKit Go.Lib Ieee
set_option linter.unusedSimpArgs false

@[go_sem] theorem run_store_float (P : Program) (w : World) (a : Addr) (m : Mode) (k : FloatKind) (b : Nat) : (store a (.float k b) m).run P w = stored P w a (.float k b) m := run_store P w a _ m rfl

theorem rising_take : ∀ (l : List Pr) (k : Nat) (h : k + 1 < l.length), rising (l.take (k + 2)) = (rising (l.take (k + 1)) && Op.bytesLess (l[k]'(by omega)).name.toList l[k + 1].name.toList)
  | a :: b :: l, 0, h => by simp [rising]
  | a :: b :: l, k + 1, h => by
    have := rising_take (b :: l) k (by simpa using h)
    simp only [List.take_succ_cons, rising, List.getElem_cons_succ] at this ⊢
    rw [this, Bool.and_assoc]
  | [_], k, h => by simp at h
  | [], k, h => by simp at h
def okT (l : List Pr) (k : Nat) : Bool := (l.take k).all canB && rising (l.take k)
theorem okT_0 (l : List Pr) : okT l 0 = true := rfl
theorem okT_1 (l : List Pr) (h : 0 < l.length) : okT l 1 = canB l[0] := by
  match l, h with
  | a :: l, _ => simp [okT, rising]
theorem all_takeP {p : Pr → Bool} {s : List Pr} (k : Nat) (h : k < s.length) : (s.take (k + 1)).all p = ((s.take k).all p && p s[k]) := by
  rw [List.take_succ_eq_append_getElem h, List.all_append]
  simp
theorem okT_s (l : List Pr) (k : Nat) (h : k + 1 < l.length) : okT l (k + 2) = (okT l (k + 1) && (canB l[k + 1] && Op.bytesLess (l[k]'(by omega)).name.toList l[k + 1].name.toList)) := by
  unfold okT
  rw [rising_take l k h, all_takeP (k + 1) h]
  cases (l.take (k + 1)).all canB <;> cases rising (l.take (k + 1)) <;> simp
theorem rising_pre : ∀ (l : List Pr) (k : Nat), rising (l.take k) = false → rising l = false
  | a :: b :: l, k + 2, h => by
    simp only [List.take_succ_cons, rising, Bool.and_eq_false_iff] at h ⊢
    rcases h with h | h
    · exact .inl h
    · exact .inr (rising_pre (b :: l) (k + 1) (by simpa using h))
  | _, 0, h => by simp [rising] at h
  | [], _ + 1, h => by simp [rising] at h
  | [_], _ + 1, h => by simp [rising] at h
  | _ :: _ :: _, 1, h => by simp [rising] at h
theorem okT_no (l : List Pr) (k : Nat) (h : okT l k = false) : (l.all canB && rising l) = false := by
  simp only [okT, Bool.and_eq_false_iff] at h ⊢
  rcases h with h | h
  · left; rw [← List.take_append_drop k l, List.all_append, h]; rfl
  · exact .inr (rising_pre l k h)
theorem okT_all (l : List Pr) (k : Nat) (h : l.length ≤ k) : okT l k = (l.all canB && rising l) := by
  unfold okT; rw [List.take_of_length_le h]

theorem okT_bad (l : List Pr) (k : Nat) (h : k < l.length) (hc : canB l[k] = false) : okT l (k + 1) = false := by
  unfold okT
  rw [all_takeP k h, hc]
  simp

set_option maxRecDepth 4000 in
theorem valid7_nil (w : World) (a : Option Addr) (c : Nat) : Calls Tryz.prog 29 #[.slice a 0 c] w fun e w' => e = .returned (.bool true) ∧ Below w.heap.size w w' := by
  go_enter Tryz.func29, Tryz.ntmps29
  go_wp2_with fail
  go_loopw [10] (fun i wr => i = .int .i64 0 ∧ wr = w) (fun _ _ => 0)
  case atStart => exact ⟨rfl, rfl⟩
  case round =>
    obtain ⟨rfl, rfl⟩ := hrel
    go_wp2
    go_ret
    exact ⟨rfl, Below.refl _ _⟩

set_option maxRecDepth 4000 in
set_option maxHeartbeats 2000000 in
theorem valid7_some (w : World) (l : List Pr) (b o c : Nat) (h : ∀ i (h : i < l.length), PrAt w b (o + i * 5) l[i]) :
    Calls Tryz.prog 29 #[.slice (some ⟨b, o, none⟩) l.length c] w fun e w' => e = .returned (.bool (validL l)) ∧ Below w.heap.size w w' := by
  by_cases h16 : (l.length : Int) > 16
  · have e : validL l = false := by simp [validL]; omega
    rw [e]
    go_enter Tryz.func29, Tryz.ntmps29
    go_wp2
    go_ret
    exact ⟨rfl, Below.refl _ _⟩
  have e : validL l = (l.all canB && rising l) := by unfold validL; rw [decide_eq_true (by omega)]; rfl
  rw [e]
  clear e
  have H : Hid (∀ i (h : i < l.length), PrAt w b (o + i * 5) l[i]) := h
  have K0 := okT_0 l
  have K1 : Hid (∀ (h : 0 < l.length), okT l 1 = canB l[0]) := okT_1 l
  have KS : Hid (∀ (k : Nat) (h : k + 1 < l.length), okT l (k + 2) = (okT l (k + 1) && (canB l[k + 1] && Op.bytesLess (l[k]'(by omega)).name.toList l[k + 1].name.toList))) := okT_s l
  have KN : Hid (∀ k, okT l k = false → (l.all canB && rising l) = false) := okT_no l
  have KA : Hid (∀ k, l.length ≤ k → okT l k = (l.all canB && rising l)) := okT_all l
  clear h
  generalize (l.all canB && rising l) = r at *
  go_enter Tryz.func29, Tryz.ntmps29
  go_wp2_with fail
  go_loopw [10] (fun i wr => ∃ k : Nat, k ≤ l.length ∧ i = .int .i64 k ∧ Below w.heap.size w wr ∧ Hid (okT l k = true)) (fun i _ => l.length - (RowKit.intOf i).toNat)
  case atStart => exact ⟨0, by omega, rfl, Below.refl _ _, K0⟩
  case round =>
    obtain ⟨k, hk, rfl, hbr, hz⟩ := hrel
    by_cases hlt : k < l.length
    · obtain ⟨a0, a1, a2, a3, a4⟩ := (H.out k hlt).on hbr
      have hwr := hbr.size
      have HC := fun W : World => canbe7 W l[k]
      unfold Pr.v at HC
      cases hcan : canB l[k] with
      | false =>
        have hr := KN.out _ (okT_bad l k hlt hcan)
        rw [hcan] at HC
        obtain ⟨pk, hpk⟩ : ∃ pk, pk = l[k] := ⟨_, rfl⟩
        rw [← hpk] at a0 a1 a2 a3 a4 HC
        clear hcan hpk hz
        go_upto_region 6 with fail
        have hbA : Below w.heap.size w (wr.alloc (Obj.cells #[Value.string pk.name, Value.int IntKind.i64 pk.val.kind, Value.int IntKind.i64 pk.val.num, Value.string pk.val.text, Value.float FloatKind.f64 pk.val.real] 44)) := hbr.alloc hwr _
        have c0 : (wr.alloc (Obj.cells #[Value.string pk.name, Value.int IntKind.i64 pk.val.kind, Value.int IntKind.i64 pk.val.num, Value.string pk.val.text, Value.float FloatKind.f64 pk.val.real] 44)).cell? ⟨wr.heap.size, 0, none⟩ = some (.string pk.name) := World.cell?_alloc_new ..
        have c1 : (wr.alloc (Obj.cells #[Value.string pk.name, Value.int IntKind.i64 pk.val.kind, Value.int IntKind.i64 pk.val.num, Value.string pk.val.text, Value.float FloatKind.f64 pk.val.real] 44)).cell? ⟨wr.heap.size, 1, none⟩ = some (.int .i64 pk.val.kind) := World.cell?_alloc_new ..
        have c2 : (wr.alloc (Obj.cells #[Value.string pk.name, Value.int IntKind.i64 pk.val.kind, Value.int IntKind.i64 pk.val.num, Value.string pk.val.text, Value.float FloatKind.f64 pk.val.real] 44)).cell? ⟨wr.heap.size, 2, none⟩ = some (.int .i64 pk.val.num) := World.cell?_alloc_new ..
        have c3 : (wr.alloc (Obj.cells #[Value.string pk.name, Value.int IntKind.i64 pk.val.kind, Value.int IntKind.i64 pk.val.num, Value.string pk.val.text, Value.float FloatKind.f64 pk.val.real] 44)).cell? ⟨wr.heap.size, 3, none⟩ = some (.string pk.val.text) := World.cell?_alloc_new ..
        have c4 : (wr.alloc (Obj.cells #[Value.string pk.name, Value.int IntKind.i64 pk.val.kind, Value.int IntKind.i64 pk.val.num, Value.string pk.val.text, Value.float FloatKind.f64 pk.val.real] 44)).cell? ⟨wr.heap.size, 4, none⟩ = some (.float .f64 pk.val.real) := World.cell?_alloc_new ..
        have hsA : (wr.alloc (Obj.cells #[Value.string pk.name, Value.int IntKind.i64 pk.val.kind, Value.int IntKind.i64 pk.val.num, Value.string pk.val.text, Value.float FloatKind.f64 pk.val.real] 44)).heap.size = wr.heap.size + 1 := by simp
        refine wp_region_held (S := fun W => W.cell? ⟨wr.heap.size, 0, none⟩ = some (.string pk.name) ∧ W.cell? ⟨wr.heap.size, 1, none⟩ = some (.int .i64 pk.val.kind) ∧ W.cell? ⟨wr.heap.size, 2, none⟩ = some (.int .i64 pk.val.num) ∧ W.cell? ⟨wr.heap.size, 3, none⟩ = some (.string pk.val.text) ∧ W.cell? ⟨wr.heap.size, 4, none⟩ = some (.float .f64 pk.val.real)) hmix ?_
        show wpAnyH _ _ _ _ _ _ _ _ (World.drew _)
        have hS : (fun W : World => W.cell? ⟨wr.heap.size, 0, none⟩ = some (.string pk.name) ∧ W.cell? ⟨wr.heap.size, 1, none⟩ = some (.int .i64 pk.val.kind) ∧ W.cell? ⟨wr.heap.size, 2, none⟩ = some (.int .i64 pk.val.num) ∧ W.cell? ⟨wr.heap.size, 3, none⟩ = some (.string pk.val.text) ∧ W.cell? ⟨wr.heap.size, 4, none⟩ = some (.float .f64 pk.val.real)) (wr.alloc (Obj.cells #[Value.string pk.name, Value.int IntKind.i64 pk.val.kind, Value.int IntKind.i64 pk.val.num, Value.string pk.val.text, Value.float FloatKind.f64 pk.val.real] 44)).drew := ⟨c0, c1, c2, c3, c4⟩
        have hb1 : Below w.heap.size w (wr.alloc (Obj.cells #[Value.string pk.name, Value.int IntKind.i64 pk.val.kind, Value.int IntKind.i64 pk.val.num, Value.string pk.val.text, Value.float FloatKind.f64 pk.val.real] 44)).drew := hbA.drew
        have hs1 : (wr.alloc (Obj.cells #[Value.string pk.name, Value.int IntKind.i64 pk.val.kind, Value.int IntKind.i64 pk.val.num, Value.string pk.val.text, Value.float FloatKind.f64 pk.val.real] 44)).drew.heap.size = wr.heap.size + 1 := hsA
        clear c0 c1 c2 c3 c4 hbA hsA
        generalize (wr.alloc (Obj.cells #[Value.string pk.name, Value.int IntKind.i64 pk.val.kind, Value.int IntKind.i64 pk.val.num, Value.string pk.val.text, Value.float FloatKind.f64 pk.val.real] 44)).drew = w1 at *
        refine wpAnyH_take (i := 0) (v := .agg #[Value.string pk.name, Value.int IntKind.i64 pk.val.kind, Value.int IntKind.i64 pk.val.num, Value.string pk.val.text, Value.float FloatKind.f64 pk.val.real]) rfl (by kernel_rfl) (by kernel_rfl) (by kernel_rfl) (fun _ _ _ h => h) (.inl ⟨by rfl, fun W' hW' => ?_⟩) hS ?_
        · obtain ⟨d0, d1, d2, d3, d4⟩ := hW'
          go_simp
        simp only [Act.put, List.getElem_toArray, List.getElem_cons_succ, List.getElem_cons_zero, List.setIfInBounds_toArray, List.set_cons_succ, List.set_cons_zero]
        refine wpAnyH_one (i := 1) (by kernel_rfl) rfl (by rfl) (fun K hK => ?_)
        go_simp
        refine (HC _).mono ?_
        rintro e w2 ⟨rfl, hb2⟩
        have hS2 : (fun W : World => W.cell? ⟨wr.heap.size, 0, none⟩ = some (.string pk.name) ∧ W.cell? ⟨wr.heap.size, 1, none⟩ = some (.int .i64 pk.val.kind) ∧ W.cell? ⟨wr.heap.size, 2, none⟩ = some (.int .i64 pk.val.num) ∧ W.cell? ⟨wr.heap.size, 3, none⟩ = some (.string pk.val.text) ∧ W.cell? ⟨wr.heap.size, 4, none⟩ = some (.float .f64 pk.val.real)) w2 := by
          obtain ⟨d0, d1, d2, d3, d4⟩ := hS
          exact ⟨by rw [hb2.cell (by dsimp only; omega)]; exact d0, by rw [hb2.cell (by dsimp only; omega)]; exact d1, by rw [hb2.cell (by dsimp only; omega)]; exact d2, by rw [hb2.cell (by dsimp only; omega)]; exact d3, by rw [hb2.cell (by dsimp only; omega)]; exact d4⟩
        have hb02 : Below w.heap.size w w2 := hb1.trans (hb2.mono (by omega))
        show K _ _
        refine hK _ _ hS2 ?_
        clear hK K
        refine wpAnyH_take (i := 2) (v := .bool true) rfl (by kernel_rfl) (by kernel_rfl) (by kernel_rfl) (fun _ _ _ h => h) (.inl ⟨by rfl, fun W' hW' => ?_⟩) hS2 ?_
        · go_simp
        simp only [Act.put, List.getElem_toArray, List.getElem_cons_succ, List.getElem_cons_zero, List.setIfInBounds_toArray, List.set_cons_succ, List.set_cons_zero]
        refine wpAnyH_take (i := 3) (v := .bool true) rfl (by kernel_rfl) (by kernel_rfl) (by kernel_rfl) (fun _ _ _ h => h) (.inl ⟨by rfl, fun W' hW' => ?_⟩) hS2 ?_
        · go_simp
        simp only [Act.put, List.getElem_toArray, List.getElem_cons_succ, List.getElem_cons_zero, List.setIfInBounds_toArray, List.set_cons_succ, List.set_cons_zero]
        refine wpAnyH_take (i := 4) (v := undef) rfl (by kernel_rfl) (by kernel_rfl) (by kernel_rfl) (fun _ _ _ h => h) (.inr ⟨by rfl, rfl⟩) hS2 ?_
        simp only [Act.put, List.getElem_toArray, List.getElem_cons_succ, List.getElem_cons_zero, List.setIfInBounds_toArray, List.set_cons_succ, List.set_cons_zero]
        refine wpAnyH_take (i := 5) (v := undef) rfl (by kernel_rfl) (by kernel_rfl) (by kernel_rfl) (fun _ _ _ h => h) (.inr ⟨by rfl, rfl⟩) hS2 ?_
        simp only [Act.put, List.getElem_toArray, List.getElem_cons_succ, List.getElem_cons_zero, List.setIfInBounds_toArray, List.set_cons_succ, List.set_cons_zero]
        refine wpAnyH_take (i := 6) (v := undef) rfl (by kernel_rfl) (by kernel_rfl) (by kernel_rfl) (fun _ _ _ h => h) (.inr ⟨by rfl, rfl⟩) hS2 ?_
        simp only [Act.put, List.getElem_toArray, List.getElem_cons_succ, List.getElem_cons_zero, List.setIfInBounds_toArray, List.set_cons_succ, List.set_cons_zero]
        refine wpAnyH_take (i := 7) (v := undef) rfl (by kernel_rfl) (by kernel_rfl) (by kernel_rfl) (fun _ _ _ h => h) (.inr ⟨by rfl, rfl⟩) hS2 ?_
        simp only [Act.put, List.getElem_toArray, List.getElem_cons_succ, List.getElem_cons_zero, List.setIfInBounds_toArray, List.set_cons_succ, List.set_cons_zero]
        refine wpAnyH_take (i := 8) (v := undef) rfl (by kernel_rfl) (by kernel_rfl) (by kernel_rfl) (fun _ _ _ h => h) (.inr ⟨by rfl, rfl⟩) hS2 ?_
        simp only [Act.put, List.getElem_toArray, List.getElem_cons_succ, List.getElem_cons_zero, List.setIfInBounds_toArray, List.set_cons_succ, List.set_cons_zero]
        refine wpAnyH_take (i := 9) (v := undef) rfl (by kernel_rfl) (by kernel_rfl) (by kernel_rfl) (fun _ _ _ h => h) (.inr ⟨by rfl, rfl⟩) hS2 ?_
        simp only [Act.put, List.getElem_toArray, List.getElem_cons_succ, List.getElem_cons_zero, List.setIfInBounds_toArray, List.set_cons_succ, List.set_cons_zero]
        refine wpAnyH_take (i := 10) (v := undef) rfl (by kernel_rfl) (by kernel_rfl) (by kernel_rfl) (fun _ _ _ h => h) (.inr ⟨by rfl, rfl⟩) hS2 ?_
        simp only [Act.put, List.getElem_toArray, List.getElem_cons_succ, List.getElem_cons_zero, List.setIfInBounds_toArray, List.set_cons_succ, List.set_cons_zero]
        refine wpAnyH_take (i := 11) (v := undef) rfl (by kernel_rfl) (by kernel_rfl) (by kernel_rfl) (fun _ _ _ h => h) (.inr ⟨by rfl, rfl⟩) hS2 ?_
        simp only [Act.put, List.getElem_toArray, List.getElem_cons_succ, List.getElem_cons_zero, List.setIfInBounds_toArray, List.set_cons_succ, List.set_cons_zero]
        refine wpAnyH_take (i := 12) (v := undef) rfl (by kernel_rfl) (by kernel_rfl) (by kernel_rfl) (fun _ _ _ h => h) (.inr ⟨by rfl, rfl⟩) hS2 ?_
        simp only [Act.put, List.getElem_toArray, List.getElem_cons_succ, List.getElem_cons_zero, List.setIfInBounds_toArray, List.set_cons_succ, List.set_cons_zero]
        refine wpAnyH_take (i := 13) (v := undef) rfl (by kernel_rfl) (by kernel_rfl) (by kernel_rfl) (fun _ _ _ h => h) (.inr ⟨by rfl, rfl⟩) hS2 ?_
        simp only [Act.put, List.getElem_toArray, List.getElem_cons_succ, List.getElem_cons_zero, List.setIfInBounds_toArray, List.set_cons_succ, List.set_cons_zero]
        refine wpAnyH_take (i := 14) (v := undef) rfl (by kernel_rfl) (by kernel_rfl) (by kernel_rfl) (fun _ _ _ h => h) (.inr ⟨by rfl, rfl⟩) hS2 ?_
        simp only [Act.put, List.getElem_toArray, List.getElem_cons_succ, List.getElem_cons_zero, List.setIfInBounds_toArray, List.set_cons_succ, List.set_cons_zero]
        refine wpAnyH_take (i := 15) (v := undef) rfl (by kernel_rfl) (by kernel_rfl) (by kernel_rfl) (fun _ _ _ h => h) (.inr ⟨by rfl, rfl⟩) hS2 ?_
        simp only [Act.put, List.getElem_toArray, List.getElem_cons_succ, List.getElem_cons_zero, List.setIfInBounds_toArray, List.set_cons_succ, List.set_cons_zero]
        refine wpAnyH_take (i := 16) (v := undef) rfl (by kernel_rfl) (by kernel_rfl) (by kernel_rfl) (fun _ _ _ h => h) (.inr ⟨by rfl, rfl⟩) hS2 ?_
        simp only [Act.put, List.getElem_toArray, List.getElem_cons_succ, List.getElem_cons_zero, List.setIfInBounds_toArray, List.set_cons_succ, List.set_cons_zero]
        refine wpAnyH_take (i := 17) (v := .bool true) rfl (by kernel_rfl) (by kernel_rfl) (by kernel_rfl) (fun _ _ _ h => h) (.inl ⟨by rfl, fun W' hW' => ?_⟩) hS2 ?_
        · go_simp
        simp only [Act.put, List.getElem_toArray, List.getElem_cons_succ, List.getElem_cons_zero, List.setIfInBounds_toArray, List.set_cons_succ, List.set_cons_zero]
        refine wpAnyH_done (by kernel_rfl) ?_ _
        go_wp2
        go_ret
        exact ⟨ret_b (by first | rfl | exact hr.symm), hb02⟩
      | true =>
        rw [hcan] at HC
        rcases Nat.eq_zero_or_pos k with hk0 | hk0
        · subst hk0
          have hok : Hid (okT l 1 = true) := by rw [K1.out hlt]; exact hcan
          obtain ⟨pk, hpk⟩ : ∃ pk, pk = l[0] := ⟨_, rfl⟩
          rw [← hpk] at a0 a1 a2 a3 a4 HC
          rw [show o + 0 * 5 = o by omega] at a0 a1 a2 a3 a4
          clear hcan hpk hz
          go_upto_region 6 with fail
          have hbA : Below w.heap.size w (wr.alloc (Obj.cells #[Value.string pk.name, Value.int IntKind.i64 pk.val.kind, Value.int IntKind.i64 pk.val.num, Value.string pk.val.text, Value.float FloatKind.f64 pk.val.real] 44)) := hbr.alloc hwr _
          have c0 : (wr.alloc (Obj.cells #[Value.string pk.name, Value.int IntKind.i64 pk.val.kind, Value.int IntKind.i64 pk.val.num, Value.string pk.val.text, Value.float FloatKind.f64 pk.val.real] 44)).cell? ⟨wr.heap.size, 0, none⟩ = some (.string pk.name) := World.cell?_alloc_new ..
          have c1 : (wr.alloc (Obj.cells #[Value.string pk.name, Value.int IntKind.i64 pk.val.kind, Value.int IntKind.i64 pk.val.num, Value.string pk.val.text, Value.float FloatKind.f64 pk.val.real] 44)).cell? ⟨wr.heap.size, 1, none⟩ = some (.int .i64 pk.val.kind) := World.cell?_alloc_new ..
          have c2 : (wr.alloc (Obj.cells #[Value.string pk.name, Value.int IntKind.i64 pk.val.kind, Value.int IntKind.i64 pk.val.num, Value.string pk.val.text, Value.float FloatKind.f64 pk.val.real] 44)).cell? ⟨wr.heap.size, 2, none⟩ = some (.int .i64 pk.val.num) := World.cell?_alloc_new ..
          have c3 : (wr.alloc (Obj.cells #[Value.string pk.name, Value.int IntKind.i64 pk.val.kind, Value.int IntKind.i64 pk.val.num, Value.string pk.val.text, Value.float FloatKind.f64 pk.val.real] 44)).cell? ⟨wr.heap.size, 3, none⟩ = some (.string pk.val.text) := World.cell?_alloc_new ..
          have c4 : (wr.alloc (Obj.cells #[Value.string pk.name, Value.int IntKind.i64 pk.val.kind, Value.int IntKind.i64 pk.val.num, Value.string pk.val.text, Value.float FloatKind.f64 pk.val.real] 44)).cell? ⟨wr.heap.size, 4, none⟩ = some (.float .f64 pk.val.real) := World.cell?_alloc_new ..
          have hsA : (wr.alloc (Obj.cells #[Value.string pk.name, Value.int IntKind.i64 pk.val.kind, Value.int IntKind.i64 pk.val.num, Value.string pk.val.text, Value.float FloatKind.f64 pk.val.real] 44)).heap.size = wr.heap.size + 1 := by simp
          refine wp_region_held (S := fun W => W.cell? ⟨wr.heap.size, 0, none⟩ = some (.string pk.name) ∧ W.cell? ⟨wr.heap.size, 1, none⟩ = some (.int .i64 pk.val.kind) ∧ W.cell? ⟨wr.heap.size, 2, none⟩ = some (.int .i64 pk.val.num) ∧ W.cell? ⟨wr.heap.size, 3, none⟩ = some (.string pk.val.text) ∧ W.cell? ⟨wr.heap.size, 4, none⟩ = some (.float .f64 pk.val.real)) hmix ?_
          show wpAnyH _ _ _ _ _ _ _ _ (World.drew _)
          have hS : (fun W : World => W.cell? ⟨wr.heap.size, 0, none⟩ = some (.string pk.name) ∧ W.cell? ⟨wr.heap.size, 1, none⟩ = some (.int .i64 pk.val.kind) ∧ W.cell? ⟨wr.heap.size, 2, none⟩ = some (.int .i64 pk.val.num) ∧ W.cell? ⟨wr.heap.size, 3, none⟩ = some (.string pk.val.text) ∧ W.cell? ⟨wr.heap.size, 4, none⟩ = some (.float .f64 pk.val.real)) (wr.alloc (Obj.cells #[Value.string pk.name, Value.int IntKind.i64 pk.val.kind, Value.int IntKind.i64 pk.val.num, Value.string pk.val.text, Value.float FloatKind.f64 pk.val.real] 44)).drew := ⟨c0, c1, c2, c3, c4⟩
          have hb1 : Below w.heap.size w (wr.alloc (Obj.cells #[Value.string pk.name, Value.int IntKind.i64 pk.val.kind, Value.int IntKind.i64 pk.val.num, Value.string pk.val.text, Value.float FloatKind.f64 pk.val.real] 44)).drew := hbA.drew
          have hs1 : (wr.alloc (Obj.cells #[Value.string pk.name, Value.int IntKind.i64 pk.val.kind, Value.int IntKind.i64 pk.val.num, Value.string pk.val.text, Value.float FloatKind.f64 pk.val.real] 44)).drew.heap.size = wr.heap.size + 1 := hsA
          clear c0 c1 c2 c3 c4 hbA hsA
          generalize (wr.alloc (Obj.cells #[Value.string pk.name, Value.int IntKind.i64 pk.val.kind, Value.int IntKind.i64 pk.val.num, Value.string pk.val.text, Value.float FloatKind.f64 pk.val.real] 44)).drew = w1 at *
          refine wpAnyH_take (i := 0) (v := .agg #[Value.string pk.name, Value.int IntKind.i64 pk.val.kind, Value.int IntKind.i64 pk.val.num, Value.string pk.val.text, Value.float FloatKind.f64 pk.val.real]) rfl (by kernel_rfl) (by kernel_rfl) (by kernel_rfl) (fun _ _ _ h => h) (.inl ⟨by rfl, fun W' hW' => ?_⟩) hS ?_
          · obtain ⟨d0, d1, d2, d3, d4⟩ := hW'
            go_simp
          simp only [Act.put, List.getElem_toArray, List.getElem_cons_succ, List.getElem_cons_zero, List.setIfInBounds_toArray, List.set_cons_succ, List.set_cons_zero]
          refine wpAnyH_one (i := 1) (by kernel_rfl) rfl (by rfl) (fun K hK => ?_)
          go_simp
          refine (HC _).mono ?_
          rintro e w2 ⟨rfl, hb2⟩
          have hS2 : (fun W : World => W.cell? ⟨wr.heap.size, 0, none⟩ = some (.string pk.name) ∧ W.cell? ⟨wr.heap.size, 1, none⟩ = some (.int .i64 pk.val.kind) ∧ W.cell? ⟨wr.heap.size, 2, none⟩ = some (.int .i64 pk.val.num) ∧ W.cell? ⟨wr.heap.size, 3, none⟩ = some (.string pk.val.text) ∧ W.cell? ⟨wr.heap.size, 4, none⟩ = some (.float .f64 pk.val.real)) w2 := by
            obtain ⟨d0, d1, d2, d3, d4⟩ := hS
            exact ⟨by rw [hb2.cell (by dsimp only; omega)]; exact d0, by rw [hb2.cell (by dsimp only; omega)]; exact d1, by rw [hb2.cell (by dsimp only; omega)]; exact d2, by rw [hb2.cell (by dsimp only; omega)]; exact d3, by rw [hb2.cell (by dsimp only; omega)]; exact d4⟩
          have hb02 : Below w.heap.size w w2 := hb1.trans (hb2.mono (by omega))
          show K _ _
          refine hK _ _ hS2 ?_
          clear hK K
          refine wpAnyH_take (i := 2) (v := .bool false) rfl (by kernel_rfl) (by kernel_rfl) (by kernel_rfl) (fun _ _ _ h => h) (.inl ⟨by rfl, fun W' hW' => ?_⟩) hS2 ?_
          · go_simp
          simp only [Act.put, List.getElem_toArray, List.getElem_cons_succ, List.getElem_cons_zero, List.setIfInBounds_toArray, List.set_cons_succ, List.set_cons_zero]
          refine wpAnyH_take (i := 3) (v := .bool false) rfl (by kernel_rfl) (by kernel_rfl) (by kernel_rfl) (fun _ _ _ h => h) (.inl ⟨by rfl, fun W' hW' => ?_⟩) hS2 ?_
          · go_simp
          simp only [Act.put, List.getElem_toArray, List.getElem_cons_succ, List.getElem_cons_zero, List.setIfInBounds_toArray, List.set_cons_succ, List.set_cons_zero]
          refine wpAnyH_take (i := 4) (v := .int .i64 0) rfl (by kernel_rfl) (by kernel_rfl) (by kernel_rfl) (fun _ _ _ h => h) (.inl ⟨by rfl, fun W' hW' => ?_⟩) hS2 ?_
          · go_simp
          simp only [Act.put, List.getElem_toArray, List.getElem_cons_succ, List.getElem_cons_zero, List.setIfInBounds_toArray, List.set_cons_succ, List.set_cons_zero]
          refine wpAnyH_take (i := 5) (v := .bool false) rfl (by kernel_rfl) (by kernel_rfl) (by kernel_rfl) (fun _ _ _ h => h) (.inl ⟨by rfl, fun W' hW' => ?_⟩) hS2 ?_
          · go_simp
          simp only [Act.put, List.getElem_toArray, List.getElem_cons_succ, List.getElem_cons_zero, List.setIfInBounds_toArray, List.set_cons_succ, List.set_cons_zero]
          refine wpAnyH_take (i := 6) (v := .bool false) rfl (by kernel_rfl) (by kernel_rfl) (by kernel_rfl) (fun _ _ _ h => h) (.inl ⟨by rfl, fun W' hW' => ?_⟩) hS2 ?_
          · go_simp
          simp only [Act.put, List.getElem_toArray, List.getElem_cons_succ, List.getElem_cons_zero, List.setIfInBounds_toArray, List.set_cons_succ, List.set_cons_zero]
          refine wpAnyH_take (i := 7) (v := undef) rfl (by kernel_rfl) (by kernel_rfl) (by kernel_rfl) (fun _ _ _ h => h) (.inr ⟨by rfl, rfl⟩) hS2 ?_
          simp only [Act.put, List.getElem_toArray, List.getElem_cons_succ, List.getElem_cons_zero, List.setIfInBounds_toArray, List.set_cons_succ, List.set_cons_zero]
          refine wpAnyH_take (i := 8) (v := undef) rfl (by kernel_rfl) (by kernel_rfl) (by kernel_rfl) (fun _ _ _ h => h) (.inr ⟨by rfl, rfl⟩) hS2 ?_
          simp only [Act.put, List.getElem_toArray, List.getElem_cons_succ, List.getElem_cons_zero, List.setIfInBounds_toArray, List.set_cons_succ, List.set_cons_zero]
          refine wpAnyH_take (i := 9) (v := undef) rfl (by kernel_rfl) (by kernel_rfl) (by kernel_rfl) (fun _ _ _ h => h) (.inr ⟨by rfl, rfl⟩) hS2 ?_
          simp only [Act.put, List.getElem_toArray, List.getElem_cons_succ, List.getElem_cons_zero, List.setIfInBounds_toArray, List.set_cons_succ, List.set_cons_zero]
          refine wpAnyH_take (i := 10) (v := undef) rfl (by kernel_rfl) (by kernel_rfl) (by kernel_rfl) (fun _ _ _ h => h) (.inr ⟨by rfl, rfl⟩) hS2 ?_
          simp only [Act.put, List.getElem_toArray, List.getElem_cons_succ, List.getElem_cons_zero, List.setIfInBounds_toArray, List.set_cons_succ, List.set_cons_zero]
          refine wpAnyH_take (i := 11) (v := undef) rfl (by kernel_rfl) (by kernel_rfl) (by kernel_rfl) (fun _ _ _ h => h) (.inr ⟨by rfl, rfl⟩) hS2 ?_
          simp only [Act.put, List.getElem_toArray, List.getElem_cons_succ, List.getElem_cons_zero, List.setIfInBounds_toArray, List.set_cons_succ, List.set_cons_zero]
          refine wpAnyH_take (i := 12) (v := undef) rfl (by kernel_rfl) (by kernel_rfl) (by kernel_rfl) (fun _ _ _ h => h) (.inr ⟨by rfl, rfl⟩) hS2 ?_
          simp only [Act.put, List.getElem_toArray, List.getElem_cons_succ, List.getElem_cons_zero, List.setIfInBounds_toArray, List.set_cons_succ, List.set_cons_zero]
          refine wpAnyH_take (i := 13) (v := undef) rfl (by kernel_rfl) (by kernel_rfl) (by kernel_rfl) (fun _ _ _ h => h) (.inr ⟨by rfl, rfl⟩) hS2 ?_
          simp only [Act.put, List.getElem_toArray, List.getElem_cons_succ, List.getElem_cons_zero, List.setIfInBounds_toArray, List.set_cons_succ, List.set_cons_zero]
          refine wpAnyH_take (i := 14) (v := undef) rfl (by kernel_rfl) (by kernel_rfl) (by kernel_rfl) (fun _ _ _ h => h) (.inr ⟨by rfl, rfl⟩) hS2 ?_
          simp only [Act.put, List.getElem_toArray, List.getElem_cons_succ, List.getElem_cons_zero, List.setIfInBounds_toArray, List.set_cons_succ, List.set_cons_zero]
          refine wpAnyH_take (i := 15) (v := undef) rfl (by kernel_rfl) (by kernel_rfl) (by kernel_rfl) (fun _ _ _ h => h) (.inr ⟨by rfl, rfl⟩) hS2 ?_
          simp only [Act.put, List.getElem_toArray, List.getElem_cons_succ, List.getElem_cons_zero, List.setIfInBounds_toArray, List.set_cons_succ, List.set_cons_zero]
          refine wpAnyH_take (i := 16) (v := .bool false) rfl (by kernel_rfl) (by kernel_rfl) (by kernel_rfl) (fun _ _ _ h => h) (.inl ⟨by rfl, fun W' hW' => ?_⟩) hS2 ?_
          · go_simp
          simp only [Act.put, List.getElem_toArray, List.getElem_cons_succ, List.getElem_cons_zero, List.setIfInBounds_toArray, List.set_cons_succ, List.set_cons_zero]
          refine wpAnyH_take (i := 17) (v := .bool false) rfl (by kernel_rfl) (by kernel_rfl) (by kernel_rfl) (fun _ _ _ h => h) (.inl ⟨by rfl, fun W' hW' => ?_⟩) hS2 ?_
          · go_simp
          simp only [Act.put, List.getElem_toArray, List.getElem_cons_succ, List.getElem_cons_zero, List.setIfInBounds_toArray, List.set_cons_succ, List.set_cons_zero]
          refine wpAnyH_done (by kernel_rfl) ?_ _
          go_wp2
          go_roundw
          case rel => exact ⟨1, by omega, by go_num, hb02, hok⟩
          case measure => simp [RowKit.intOf]; omega
        · obtain ⟨m, hm⟩ : ∃ m, k = m + 1 := ⟨k - 1, by omega⟩
          subst hm
          have hst := KS.out m hlt
          obtain ⟨q0, _, _, _, _⟩ := (H.out m (by omega)).on hbr
          obtain ⟨pk, hpk⟩ : ∃ pk, pk = l[m + 1] := ⟨_, rfl⟩
          obtain ⟨pn, hpn⟩ : ∃ pn, pn = l[m].name := ⟨_, rfl⟩
          rw [hz.out, hcan, ← hpk, ← hpn, Bool.true_and, Bool.true_and] at hst
          rw [← hpn] at q0
          rw [← hpk] at a0 a1 a2 a3 a4 HC
          clear hcan hpk hpn hz
          cases hle : Op.bytesLess pn.toList pk.name.toList with
          | true =>
            rw [hle] at hst
            have hok : Hid (okT l (m + 2) = true) := hst
            clear hst
            go_upto_region 6 with fail
            have hbA : Below w.heap.size w (wr.alloc (Obj.cells #[Value.string pk.name, Value.int IntKind.i64 pk.val.kind, Value.int IntKind.i64 pk.val.num, Value.string pk.val.text, Value.float FloatKind.f64 pk.val.real] 44)) := hbr.alloc hwr _
            have c0 : (wr.alloc (Obj.cells #[Value.string pk.name, Value.int IntKind.i64 pk.val.kind, Value.int IntKind.i64 pk.val.num, Value.string pk.val.text, Value.float FloatKind.f64 pk.val.real] 44)).cell? ⟨wr.heap.size, 0, none⟩ = some (.string pk.name) := World.cell?_alloc_new ..
            have c1 : (wr.alloc (Obj.cells #[Value.string pk.name, Value.int IntKind.i64 pk.val.kind, Value.int IntKind.i64 pk.val.num, Value.string pk.val.text, Value.float FloatKind.f64 pk.val.real] 44)).cell? ⟨wr.heap.size, 1, none⟩ = some (.int .i64 pk.val.kind) := World.cell?_alloc_new ..
            have c2 : (wr.alloc (Obj.cells #[Value.string pk.name, Value.int IntKind.i64 pk.val.kind, Value.int IntKind.i64 pk.val.num, Value.string pk.val.text, Value.float FloatKind.f64 pk.val.real] 44)).cell? ⟨wr.heap.size, 2, none⟩ = some (.int .i64 pk.val.num) := World.cell?_alloc_new ..
            have c3 : (wr.alloc (Obj.cells #[Value.string pk.name, Value.int IntKind.i64 pk.val.kind, Value.int IntKind.i64 pk.val.num, Value.string pk.val.text, Value.float FloatKind.f64 pk.val.real] 44)).cell? ⟨wr.heap.size, 3, none⟩ = some (.string pk.val.text) := World.cell?_alloc_new ..
            have c4 : (wr.alloc (Obj.cells #[Value.string pk.name, Value.int IntKind.i64 pk.val.kind, Value.int IntKind.i64 pk.val.num, Value.string pk.val.text, Value.float FloatKind.f64 pk.val.real] 44)).cell? ⟨wr.heap.size, 4, none⟩ = some (.float .f64 pk.val.real) := World.cell?_alloc_new ..
            have hsA : (wr.alloc (Obj.cells #[Value.string pk.name, Value.int IntKind.i64 pk.val.kind, Value.int IntKind.i64 pk.val.num, Value.string pk.val.text, Value.float FloatKind.f64 pk.val.real] 44)).heap.size = wr.heap.size + 1 := by simp
            have c5 : (wr.alloc (Obj.cells #[Value.string pk.name, Value.int IntKind.i64 pk.val.kind, Value.int IntKind.i64 pk.val.num, Value.string pk.val.text, Value.float FloatKind.f64 pk.val.real] 44)).cell? ⟨b, o + m * 5, none⟩ = some (.string pn) := by rw [((Below.refl _ wr).alloc (Nat.le_refl _) _).cell (World.block_lt_of_cell? wr _ q0)]; exact q0
            refine wp_region_held (S := fun W => W.cell? ⟨wr.heap.size, 0, none⟩ = some (.string pk.name) ∧ W.cell? ⟨wr.heap.size, 1, none⟩ = some (.int .i64 pk.val.kind) ∧ W.cell? ⟨wr.heap.size, 2, none⟩ = some (.int .i64 pk.val.num) ∧ W.cell? ⟨wr.heap.size, 3, none⟩ = some (.string pk.val.text) ∧ W.cell? ⟨wr.heap.size, 4, none⟩ = some (.float .f64 pk.val.real) ∧ W.cell? ⟨b, o + m * 5, none⟩ = some (.string pn)) hmix ?_
            show wpAnyH _ _ _ _ _ _ _ _ (World.drew _)
            have hS : (fun W : World => W.cell? ⟨wr.heap.size, 0, none⟩ = some (.string pk.name) ∧ W.cell? ⟨wr.heap.size, 1, none⟩ = some (.int .i64 pk.val.kind) ∧ W.cell? ⟨wr.heap.size, 2, none⟩ = some (.int .i64 pk.val.num) ∧ W.cell? ⟨wr.heap.size, 3, none⟩ = some (.string pk.val.text) ∧ W.cell? ⟨wr.heap.size, 4, none⟩ = some (.float .f64 pk.val.real) ∧ W.cell? ⟨b, o + m * 5, none⟩ = some (.string pn)) (wr.alloc (Obj.cells #[Value.string pk.name, Value.int IntKind.i64 pk.val.kind, Value.int IntKind.i64 pk.val.num, Value.string pk.val.text, Value.float FloatKind.f64 pk.val.real] 44)).drew := ⟨c0, c1, c2, c3, c4, c5⟩
            have hb1 : Below w.heap.size w (wr.alloc (Obj.cells #[Value.string pk.name, Value.int IntKind.i64 pk.val.kind, Value.int IntKind.i64 pk.val.num, Value.string pk.val.text, Value.float FloatKind.f64 pk.val.real] 44)).drew := hbA.drew
            have hs1 : (wr.alloc (Obj.cells #[Value.string pk.name, Value.int IntKind.i64 pk.val.kind, Value.int IntKind.i64 pk.val.num, Value.string pk.val.text, Value.float FloatKind.f64 pk.val.real] 44)).drew.heap.size = wr.heap.size + 1 := hsA
            clear c0 c1 c2 c3 c4 c5 hbA hsA
            generalize (wr.alloc (Obj.cells #[Value.string pk.name, Value.int IntKind.i64 pk.val.kind, Value.int IntKind.i64 pk.val.num, Value.string pk.val.text, Value.float FloatKind.f64 pk.val.real] 44)).drew = w1 at *
            refine wpAnyH_take (i := 0) (v := .agg #[Value.string pk.name, Value.int IntKind.i64 pk.val.kind, Value.int IntKind.i64 pk.val.num, Value.string pk.val.text, Value.float FloatKind.f64 pk.val.real]) rfl (by kernel_rfl) (by kernel_rfl) (by kernel_rfl) (fun _ _ _ h => h) (.inl ⟨by rfl, fun W' hW' => ?_⟩) hS ?_
            · obtain ⟨d0, d1, d2, d3, d4, d5⟩ := hW'
              go_simp
            simp only [Act.put, List.getElem_toArray, List.getElem_cons_succ, List.getElem_cons_zero, List.setIfInBounds_toArray, List.set_cons_succ, List.set_cons_zero]
            refine wpAnyH_one (i := 1) (by kernel_rfl) rfl (by rfl) (fun K hK => ?_)
            go_simp
            refine (HC _).mono ?_
            rintro e w2 ⟨rfl, hb2⟩
            have hS2 : (fun W : World => W.cell? ⟨wr.heap.size, 0, none⟩ = some (.string pk.name) ∧ W.cell? ⟨wr.heap.size, 1, none⟩ = some (.int .i64 pk.val.kind) ∧ W.cell? ⟨wr.heap.size, 2, none⟩ = some (.int .i64 pk.val.num) ∧ W.cell? ⟨wr.heap.size, 3, none⟩ = some (.string pk.val.text) ∧ W.cell? ⟨wr.heap.size, 4, none⟩ = some (.float .f64 pk.val.real) ∧ W.cell? ⟨b, o + m * 5, none⟩ = some (.string pn)) w2 := by
              obtain ⟨d0, d1, d2, d3, d4, d5⟩ := hS
              exact ⟨by rw [hb2.cell (by dsimp only; omega)]; exact d0, by rw [hb2.cell (by dsimp only; omega)]; exact d1, by rw [hb2.cell (by dsimp only; omega)]; exact d2, by rw [hb2.cell (by dsimp only; omega)]; exact d3, by rw [hb2.cell (by dsimp only; omega)]; exact d4, by rw [hb2.cell (World.block_lt_of_cell? w1 _ d5)]; exact d5⟩
            have hb02 : Below w.heap.size w w2 := hb1.trans (hb2.mono (by omega))
            show K _ _
            refine hK _ _ hS2 ?_
            clear hK K
            refine wpAnyH_take (i := 2) (v := .bool false) rfl (by kernel_rfl) (by kernel_rfl) (by kernel_rfl) (fun _ _ _ h => h) (.inl ⟨by rfl, fun W' hW' => ?_⟩) hS2 ?_
            · go_simp
            simp only [Act.put, List.getElem_toArray, List.getElem_cons_succ, List.getElem_cons_zero, List.setIfInBounds_toArray, List.set_cons_succ, List.set_cons_zero]
            refine wpAnyH_take (i := 3) (v := .bool false) rfl (by kernel_rfl) (by kernel_rfl) (by kernel_rfl) (fun _ _ _ h => h) (.inl ⟨by rfl, fun W' hW' => ?_⟩) hS2 ?_
            · go_simp
            simp only [Act.put, List.getElem_toArray, List.getElem_cons_succ, List.getElem_cons_zero, List.setIfInBounds_toArray, List.set_cons_succ, List.set_cons_zero]
            refine wpAnyH_take (i := 4) (v := .int .i64 (m + 1 : Nat)) rfl (by kernel_rfl) (by kernel_rfl) (by kernel_rfl) (fun _ _ _ h => h) (.inl ⟨by rfl, fun W' hW' => ?_⟩) hS2 ?_
            · go_simp
            simp only [Act.put, List.getElem_toArray, List.getElem_cons_succ, List.getElem_cons_zero, List.setIfInBounds_toArray, List.set_cons_succ, List.set_cons_zero]
            refine wpAnyH_take (i := 5) (v := .bool true) rfl (by kernel_rfl) (by kernel_rfl) (by kernel_rfl) (fun _ _ _ h => h) (.inl ⟨by rfl, fun W' hW' => ?_⟩) hS2 ?_
            · go_simp
            simp only [Act.put, List.getElem_toArray, List.getElem_cons_succ, List.getElem_cons_zero, List.setIfInBounds_toArray, List.set_cons_succ, List.set_cons_zero]
            refine wpAnyH_take (i := 6) (v := .bool true) rfl (by kernel_rfl) (by kernel_rfl) (by kernel_rfl) (fun _ _ _ h => h) (.inl ⟨by rfl, fun W' hW' => ?_⟩) hS2 ?_
            · go_simp
            simp only [Act.put, List.getElem_toArray, List.getElem_cons_succ, List.getElem_cons_zero, List.setIfInBounds_toArray, List.set_cons_succ, List.set_cons_zero]
            refine wpAnyH_take (i := 7) (v := .slice (some ⟨b, o, none⟩) l.length c) rfl (by kernel_rfl) (by kernel_rfl) (by kernel_rfl) (fun _ _ _ h => h) (.inl ⟨by rfl, fun W' hW' => ?_⟩) hS2 ?_
            · go_simp
            simp only [Act.put, List.getElem_toArray, List.getElem_cons_succ, List.getElem_cons_zero, List.setIfInBounds_toArray, List.set_cons_succ, List.set_cons_zero]
            refine wpAnyH_take (i := 8) (v := .int .i64 (m + 1 : Nat)) rfl (by kernel_rfl) (by kernel_rfl) (by kernel_rfl) (fun _ _ _ h => h) (.inl ⟨by rfl, fun W' hW' => ?_⟩) hS2 ?_
            · go_simp
            simp only [Act.put, List.getElem_toArray, List.getElem_cons_succ, List.getElem_cons_zero, List.setIfInBounds_toArray, List.set_cons_succ, List.set_cons_zero]
            refine wpAnyH_take (i := 9) (v := .int .i64 (m : Int)) rfl (by kernel_rfl) (by kernel_rfl) (by kernel_rfl) (fun _ _ _ h => h) (.inl ⟨by rfl, fun W' hW' => ?_⟩) hS2 ?_
            · go_simp
              rw [IntKind.wrap_i64]; omega
            simp only [Act.put, List.getElem_toArray, List.getElem_cons_succ, List.getElem_cons_zero, List.setIfInBounds_toArray, List.set_cons_succ, List.set_cons_zero]
            refine wpAnyH_take (i := 10) (v := .pointer (some ⟨b, o + m * 5, none⟩)) rfl (by kernel_rfl) (by kernel_rfl) (by kernel_rfl) (fun _ _ _ h => h) (.inl ⟨by rfl, fun W' hW' => ?_⟩) hS2 ?_
            · go_simp
              intro hh; omega
            simp only [Act.put, List.getElem_toArray, List.getElem_cons_succ, List.getElem_cons_zero, List.setIfInBounds_toArray, List.set_cons_succ, List.set_cons_zero]
            refine wpAnyH_take (i := 11) (v := .pointer (some ⟨b, o + m * 5, none⟩)) rfl (by kernel_rfl) (by kernel_rfl) (by kernel_rfl) (fun _ _ _ h => h) (.inl ⟨by rfl, fun W' hW' => ?_⟩) hS2 ?_
            · go_simp
            simp only [Act.put, List.getElem_toArray, List.getElem_cons_succ, List.getElem_cons_zero, List.setIfInBounds_toArray, List.set_cons_succ, List.set_cons_zero]
            refine wpAnyH_take (i := 12) (v := .string pn) rfl (by kernel_rfl) (by kernel_rfl) (by kernel_rfl) (fun _ _ _ h => h) (.inl ⟨by rfl, fun W' hW' => ?_⟩) hS2 ?_
            · obtain ⟨d0, d1, d2, d3, d4, d5⟩ := hW'
              go_simp
            simp only [Act.put, List.getElem_toArray, List.getElem_cons_succ, List.getElem_cons_zero, List.setIfInBounds_toArray, List.set_cons_succ, List.set_cons_zero]
            refine wpAnyH_take (i := 13) (v := .pointer (some ⟨wr.heap.size, 0, none⟩)) rfl (by kernel_rfl) (by kernel_rfl) (by kernel_rfl) (fun _ _ _ h => h) (.inl ⟨by rfl, fun W' hW' => ?_⟩) hS2 ?_
            · go_simp
            simp only [Act.put, List.getElem_toArray, List.getElem_cons_succ, List.getElem_cons_zero, List.setIfInBounds_toArray, List.set_cons_succ, List.set_cons_zero]
            refine wpAnyH_take (i := 14) (v := .string pk.name) rfl (by kernel_rfl) (by kernel_rfl) (by kernel_rfl) (fun _ _ _ h => h) (.inl ⟨by rfl, fun W' hW' => ?_⟩) hS2 ?_
            · obtain ⟨d0, d1, d2, d3, d4, d5⟩ := hW'
              go_simp
            simp only [Act.put, List.getElem_toArray, List.getElem_cons_succ, List.getElem_cons_zero, List.setIfInBounds_toArray, List.set_cons_succ, List.set_cons_zero]
            refine wpAnyH_take (i := 15) (v := .bool false) rfl (by kernel_rfl) (by kernel_rfl) (by kernel_rfl) (fun _ _ _ h => h) (.inl ⟨by rfl, fun W' hW' => ?_⟩) hS2 ?_
            · go_simp
            simp only [Act.put, List.getElem_toArray, List.getElem_cons_succ, List.getElem_cons_zero, List.setIfInBounds_toArray, List.set_cons_succ, List.set_cons_zero]
            refine wpAnyH_take (i := 16) (v := .bool false) rfl (by kernel_rfl) (by kernel_rfl) (by kernel_rfl) (fun _ _ _ h => h) (.inl ⟨by rfl, fun W' hW' => ?_⟩) hS2 ?_
            · go_simp
            simp only [Act.put, List.getElem_toArray, List.getElem_cons_succ, List.getElem_cons_zero, List.setIfInBounds_toArray, List.set_cons_succ, List.set_cons_zero]
            refine wpAnyH_take (i := 17) (v := .bool false) rfl (by kernel_rfl) (by kernel_rfl) (by kernel_rfl) (fun _ _ _ h => h) (.inl ⟨by rfl, fun W' hW' => ?_⟩) hS2 ?_
            · go_simp
            simp only [Act.put, List.getElem_toArray, List.getElem_cons_succ, List.getElem_cons_zero, List.setIfInBounds_toArray, List.set_cons_succ, List.set_cons_zero]
            refine wpAnyH_done (by kernel_rfl) ?_ _
            go_wp2
            go_roundw
            case rel => exact ⟨m + 2, by omega, by go_num, hb02, hok⟩
            case measure => simp [RowKit.intOf]; omega
          | false =>
            rw [hle] at hst
            have hr := KN.out _ hst
            clear hst
            go_upto_region 6 with fail
            have hbA : Below w.heap.size w (wr.alloc (Obj.cells #[Value.string pk.name, Value.int IntKind.i64 pk.val.kind, Value.int IntKind.i64 pk.val.num, Value.string pk.val.text, Value.float FloatKind.f64 pk.val.real] 44)) := hbr.alloc hwr _
            have c0 : (wr.alloc (Obj.cells #[Value.string pk.name, Value.int IntKind.i64 pk.val.kind, Value.int IntKind.i64 pk.val.num, Value.string pk.val.text, Value.float FloatKind.f64 pk.val.real] 44)).cell? ⟨wr.heap.size, 0, none⟩ = some (.string pk.name) := World.cell?_alloc_new ..
            have c1 : (wr.alloc (Obj.cells #[Value.string pk.name, Value.int IntKind.i64 pk.val.kind, Value.int IntKind.i64 pk.val.num, Value.string pk.val.text, Value.float FloatKind.f64 pk.val.real] 44)).cell? ⟨wr.heap.size, 1, none⟩ = some (.int .i64 pk.val.kind) := World.cell?_alloc_new ..
            have c2 : (wr.alloc (Obj.cells #[Value.string pk.name, Value.int IntKind.i64 pk.val.kind, Value.int IntKind.i64 pk.val.num, Value.string pk.val.text, Value.float FloatKind.f64 pk.val.real] 44)).cell? ⟨wr.heap.size, 2, none⟩ = some (.int .i64 pk.val.num) := World.cell?_alloc_new ..
            have c3 : (wr.alloc (Obj.cells #[Value.string pk.name, Value.int IntKind.i64 pk.val.kind, Value.int IntKind.i64 pk.val.num, Value.string pk.val.text, Value.float FloatKind.f64 pk.val.real] 44)).cell? ⟨wr.heap.size, 3, none⟩ = some (.string pk.val.text) := World.cell?_alloc_new ..
            have c4 : (wr.alloc (Obj.cells #[Value.string pk.name, Value.int IntKind.i64 pk.val.kind, Value.int IntKind.i64 pk.val.num, Value.string pk.val.text, Value.float FloatKind.f64 pk.val.real] 44)).cell? ⟨wr.heap.size, 4, none⟩ = some (.float .f64 pk.val.real) := World.cell?_alloc_new ..
            have hsA : (wr.alloc (Obj.cells #[Value.string pk.name, Value.int IntKind.i64 pk.val.kind, Value.int IntKind.i64 pk.val.num, Value.string pk.val.text, Value.float FloatKind.f64 pk.val.real] 44)).heap.size = wr.heap.size + 1 := by simp
            have c5 : (wr.alloc (Obj.cells #[Value.string pk.name, Value.int IntKind.i64 pk.val.kind, Value.int IntKind.i64 pk.val.num, Value.string pk.val.text, Value.float FloatKind.f64 pk.val.real] 44)).cell? ⟨b, o + m * 5, none⟩ = some (.string pn) := by rw [((Below.refl _ wr).alloc (Nat.le_refl _) _).cell (World.block_lt_of_cell? wr _ q0)]; exact q0
            refine wp_region_held (S := fun W => W.cell? ⟨wr.heap.size, 0, none⟩ = some (.string pk.name) ∧ W.cell? ⟨wr.heap.size, 1, none⟩ = some (.int .i64 pk.val.kind) ∧ W.cell? ⟨wr.heap.size, 2, none⟩ = some (.int .i64 pk.val.num) ∧ W.cell? ⟨wr.heap.size, 3, none⟩ = some (.string pk.val.text) ∧ W.cell? ⟨wr.heap.size, 4, none⟩ = some (.float .f64 pk.val.real) ∧ W.cell? ⟨b, o + m * 5, none⟩ = some (.string pn)) hmix ?_
            show wpAnyH _ _ _ _ _ _ _ _ (World.drew _)
            have hS : (fun W : World => W.cell? ⟨wr.heap.size, 0, none⟩ = some (.string pk.name) ∧ W.cell? ⟨wr.heap.size, 1, none⟩ = some (.int .i64 pk.val.kind) ∧ W.cell? ⟨wr.heap.size, 2, none⟩ = some (.int .i64 pk.val.num) ∧ W.cell? ⟨wr.heap.size, 3, none⟩ = some (.string pk.val.text) ∧ W.cell? ⟨wr.heap.size, 4, none⟩ = some (.float .f64 pk.val.real) ∧ W.cell? ⟨b, o + m * 5, none⟩ = some (.string pn)) (wr.alloc (Obj.cells #[Value.string pk.name, Value.int IntKind.i64 pk.val.kind, Value.int IntKind.i64 pk.val.num, Value.string pk.val.text, Value.float FloatKind.f64 pk.val.real] 44)).drew := ⟨c0, c1, c2, c3, c4, c5⟩
            have hb1 : Below w.heap.size w (wr.alloc (Obj.cells #[Value.string pk.name, Value.int IntKind.i64 pk.val.kind, Value.int IntKind.i64 pk.val.num, Value.string pk.val.text, Value.float FloatKind.f64 pk.val.real] 44)).drew := hbA.drew
            have hs1 : (wr.alloc (Obj.cells #[Value.string pk.name, Value.int IntKind.i64 pk.val.kind, Value.int IntKind.i64 pk.val.num, Value.string pk.val.text, Value.float FloatKind.f64 pk.val.real] 44)).drew.heap.size = wr.heap.size + 1 := hsA
            clear c0 c1 c2 c3 c4 c5 hbA hsA
            generalize (wr.alloc (Obj.cells #[Value.string pk.name, Value.int IntKind.i64 pk.val.kind, Value.int IntKind.i64 pk.val.num, Value.string pk.val.text, Value.float FloatKind.f64 pk.val.real] 44)).drew = w1 at *
            refine wpAnyH_take (i := 0) (v := .agg #[Value.string pk.name, Value.int IntKind.i64 pk.val.kind, Value.int IntKind.i64 pk.val.num, Value.string pk.val.text, Value.float FloatKind.f64 pk.val.real]) rfl (by kernel_rfl) (by kernel_rfl) (by kernel_rfl) (fun _ _ _ h => h) (.inl ⟨by rfl, fun W' hW' => ?_⟩) hS ?_
            · obtain ⟨d0, d1, d2, d3, d4, d5⟩ := hW'
              go_simp
            simp only [Act.put, List.getElem_toArray, List.getElem_cons_succ, List.getElem_cons_zero, List.setIfInBounds_toArray, List.set_cons_succ, List.set_cons_zero]
            refine wpAnyH_one (i := 1) (by kernel_rfl) rfl (by rfl) (fun K hK => ?_)
            go_simp
            refine (HC _).mono ?_
            rintro e w2 ⟨rfl, hb2⟩
            have hS2 : (fun W : World => W.cell? ⟨wr.heap.size, 0, none⟩ = some (.string pk.name) ∧ W.cell? ⟨wr.heap.size, 1, none⟩ = some (.int .i64 pk.val.kind) ∧ W.cell? ⟨wr.heap.size, 2, none⟩ = some (.int .i64 pk.val.num) ∧ W.cell? ⟨wr.heap.size, 3, none⟩ = some (.string pk.val.text) ∧ W.cell? ⟨wr.heap.size, 4, none⟩ = some (.float .f64 pk.val.real) ∧ W.cell? ⟨b, o + m * 5, none⟩ = some (.string pn)) w2 := by
              obtain ⟨d0, d1, d2, d3, d4, d5⟩ := hS
              exact ⟨by rw [hb2.cell (by dsimp only; omega)]; exact d0, by rw [hb2.cell (by dsimp only; omega)]; exact d1, by rw [hb2.cell (by dsimp only; omega)]; exact d2, by rw [hb2.cell (by dsimp only; omega)]; exact d3, by rw [hb2.cell (by dsimp only; omega)]; exact d4, by rw [hb2.cell (World.block_lt_of_cell? w1 _ d5)]; exact d5⟩
            have hb02 : Below w.heap.size w w2 := hb1.trans (hb2.mono (by omega))
            show K _ _
            refine hK _ _ hS2 ?_
            clear hK K
            refine wpAnyH_take (i := 2) (v := .bool false) rfl (by kernel_rfl) (by kernel_rfl) (by kernel_rfl) (fun _ _ _ h => h) (.inl ⟨by rfl, fun W' hW' => ?_⟩) hS2 ?_
            · go_simp
            simp only [Act.put, List.getElem_toArray, List.getElem_cons_succ, List.getElem_cons_zero, List.setIfInBounds_toArray, List.set_cons_succ, List.set_cons_zero]
            refine wpAnyH_take (i := 3) (v := .bool false) rfl (by kernel_rfl) (by kernel_rfl) (by kernel_rfl) (fun _ _ _ h => h) (.inl ⟨by rfl, fun W' hW' => ?_⟩) hS2 ?_
            · go_simp
            simp only [Act.put, List.getElem_toArray, List.getElem_cons_succ, List.getElem_cons_zero, List.setIfInBounds_toArray, List.set_cons_succ, List.set_cons_zero]
            refine wpAnyH_take (i := 4) (v := .int .i64 (m + 1 : Nat)) rfl (by kernel_rfl) (by kernel_rfl) (by kernel_rfl) (fun _ _ _ h => h) (.inl ⟨by rfl, fun W' hW' => ?_⟩) hS2 ?_
            · go_simp
            simp only [Act.put, List.getElem_toArray, List.getElem_cons_succ, List.getElem_cons_zero, List.setIfInBounds_toArray, List.set_cons_succ, List.set_cons_zero]
            refine wpAnyH_take (i := 5) (v := .bool true) rfl (by kernel_rfl) (by kernel_rfl) (by kernel_rfl) (fun _ _ _ h => h) (.inl ⟨by rfl, fun W' hW' => ?_⟩) hS2 ?_
            · go_simp
            simp only [Act.put, List.getElem_toArray, List.getElem_cons_succ, List.getElem_cons_zero, List.setIfInBounds_toArray, List.set_cons_succ, List.set_cons_zero]
            refine wpAnyH_take (i := 6) (v := .bool true) rfl (by kernel_rfl) (by kernel_rfl) (by kernel_rfl) (fun _ _ _ h => h) (.inl ⟨by rfl, fun W' hW' => ?_⟩) hS2 ?_
            · go_simp
            simp only [Act.put, List.getElem_toArray, List.getElem_cons_succ, List.getElem_cons_zero, List.setIfInBounds_toArray, List.set_cons_succ, List.set_cons_zero]
            refine wpAnyH_take (i := 7) (v := .slice (some ⟨b, o, none⟩) l.length c) rfl (by kernel_rfl) (by kernel_rfl) (by kernel_rfl) (fun _ _ _ h => h) (.inl ⟨by rfl, fun W' hW' => ?_⟩) hS2 ?_
            · go_simp
            simp only [Act.put, List.getElem_toArray, List.getElem_cons_succ, List.getElem_cons_zero, List.setIfInBounds_toArray, List.set_cons_succ, List.set_cons_zero]
            refine wpAnyH_take (i := 8) (v := .int .i64 (m + 1 : Nat)) rfl (by kernel_rfl) (by kernel_rfl) (by kernel_rfl) (fun _ _ _ h => h) (.inl ⟨by rfl, fun W' hW' => ?_⟩) hS2 ?_
            · go_simp
            simp only [Act.put, List.getElem_toArray, List.getElem_cons_succ, List.getElem_cons_zero, List.setIfInBounds_toArray, List.set_cons_succ, List.set_cons_zero]
            refine wpAnyH_take (i := 9) (v := .int .i64 (m : Int)) rfl (by kernel_rfl) (by kernel_rfl) (by kernel_rfl) (fun _ _ _ h => h) (.inl ⟨by rfl, fun W' hW' => ?_⟩) hS2 ?_
            · go_simp
              rw [IntKind.wrap_i64]; omega
            simp only [Act.put, List.getElem_toArray, List.getElem_cons_succ, List.getElem_cons_zero, List.setIfInBounds_toArray, List.set_cons_succ, List.set_cons_zero]
            refine wpAnyH_take (i := 10) (v := .pointer (some ⟨b, o + m * 5, none⟩)) rfl (by kernel_rfl) (by kernel_rfl) (by kernel_rfl) (fun _ _ _ h => h) (.inl ⟨by rfl, fun W' hW' => ?_⟩) hS2 ?_
            · go_simp
              intro hh; omega
            simp only [Act.put, List.getElem_toArray, List.getElem_cons_succ, List.getElem_cons_zero, List.setIfInBounds_toArray, List.set_cons_succ, List.set_cons_zero]
            refine wpAnyH_take (i := 11) (v := .pointer (some ⟨b, o + m * 5, none⟩)) rfl (by kernel_rfl) (by kernel_rfl) (by kernel_rfl) (fun _ _ _ h => h) (.inl ⟨by rfl, fun W' hW' => ?_⟩) hS2 ?_
            · go_simp
            simp only [Act.put, List.getElem_toArray, List.getElem_cons_succ, List.getElem_cons_zero, List.setIfInBounds_toArray, List.set_cons_succ, List.set_cons_zero]
            refine wpAnyH_take (i := 12) (v := .string pn) rfl (by kernel_rfl) (by kernel_rfl) (by kernel_rfl) (fun _ _ _ h => h) (.inl ⟨by rfl, fun W' hW' => ?_⟩) hS2 ?_
            · obtain ⟨d0, d1, d2, d3, d4, d5⟩ := hW'
              go_simp
            simp only [Act.put, List.getElem_toArray, List.getElem_cons_succ, List.getElem_cons_zero, List.setIfInBounds_toArray, List.set_cons_succ, List.set_cons_zero]
            refine wpAnyH_take (i := 13) (v := .pointer (some ⟨wr.heap.size, 0, none⟩)) rfl (by kernel_rfl) (by kernel_rfl) (by kernel_rfl) (fun _ _ _ h => h) (.inl ⟨by rfl, fun W' hW' => ?_⟩) hS2 ?_
            · go_simp
            simp only [Act.put, List.getElem_toArray, List.getElem_cons_succ, List.getElem_cons_zero, List.setIfInBounds_toArray, List.set_cons_succ, List.set_cons_zero]
            refine wpAnyH_take (i := 14) (v := .string pk.name) rfl (by kernel_rfl) (by kernel_rfl) (by kernel_rfl) (fun _ _ _ h => h) (.inl ⟨by rfl, fun W' hW' => ?_⟩) hS2 ?_
            · obtain ⟨d0, d1, d2, d3, d4, d5⟩ := hW'
              go_simp
            simp only [Act.put, List.getElem_toArray, List.getElem_cons_succ, List.getElem_cons_zero, List.setIfInBounds_toArray, List.set_cons_succ, List.set_cons_zero]
            refine wpAnyH_take (i := 15) (v := .bool true) rfl (by kernel_rfl) (by kernel_rfl) (by kernel_rfl) (fun _ _ _ h => h) (.inl ⟨by rfl, fun W' hW' => ?_⟩) hS2 ?_
            · go_simp
            simp only [Act.put, List.getElem_toArray, List.getElem_cons_succ, List.getElem_cons_zero, List.setIfInBounds_toArray, List.set_cons_succ, List.set_cons_zero]
            refine wpAnyH_take (i := 16) (v := .bool true) rfl (by kernel_rfl) (by kernel_rfl) (by kernel_rfl) (fun _ _ _ h => h) (.inl ⟨by rfl, fun W' hW' => ?_⟩) hS2 ?_
            · go_simp
            simp only [Act.put, List.getElem_toArray, List.getElem_cons_succ, List.getElem_cons_zero, List.setIfInBounds_toArray, List.set_cons_succ, List.set_cons_zero]
            refine wpAnyH_take (i := 17) (v := .bool true) rfl (by kernel_rfl) (by kernel_rfl) (by kernel_rfl) (fun _ _ _ h => h) (.inl ⟨by rfl, fun W' hW' => ?_⟩) hS2 ?_
            · go_simp
            simp only [Act.put, List.getElem_toArray, List.getElem_cons_succ, List.getElem_cons_zero, List.setIfInBounds_toArray, List.set_cons_succ, List.set_cons_zero]
            refine wpAnyH_done (by kernel_rfl) ?_ _
            go_wp2
            go_ret
            exact ⟨ret_b (by first | rfl | exact hr.symm), hb02⟩
    · have h4 := KA.out k (by omega)
      rw [hz.out] at h4
      go_wp2
      go_ret
      exact ⟨ret_b h4, hbr⟩

theorem valid7 (w : World) (v : Value) (l : List Pr) (h : RdP w v l) : Calls Tryz.prog 29 #[v] w fun e w' => e = .returned (.bool (validL l)) ∧ Below w.heap.size w w' := by
  rcases h with ⟨⟨a, c, rfl⟩, rfl⟩ | ⟨b, o, c, rfl, _, h⟩
  · exact valid7_nil w a c
  · exact valid7_some w l b o c h
end Go.Proofs.YtmaaacaifpgpaaaGreatDoor
