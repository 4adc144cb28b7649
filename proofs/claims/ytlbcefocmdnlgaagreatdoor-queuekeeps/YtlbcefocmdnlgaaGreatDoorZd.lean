/- What prop.Valid answers of any list. Lists of properties in the call's own memory: append, slices.Grow and slices.Concat. Rows in the call's own memory whose elements have several cells: what append in place and clear leave. Conditions: those that each row states. Messages, items and queues in memory: what may be read, and what is the call's own. -/
import Derived.Test.YtlbcefocmdnlgaaGreatDoorZc
import Derived.Laws.AppendOwn
import Derived.OwnWalk
import Derived.Below
namespace Go.Proofs.YtlbcefocmdnlgaaGreatDoor
open Go.RowKit Go.Lib Ieee
set_option linter.unusedSimpArgs false

@[go_sem] theorem run_store_float (P : Program) (w : World) (a : Addr) (m : Mode) (k : FloatKind) (b : Nat) : (store a (.float k b) m).run P w = stored P w a (.float k b) m := run_store P w a _ m rfl

theorem rising_take : ∀ (l : List Pr) (k : Nat) (h : k + 1 < l.length), rising (l.take (k + 2)) = (rising (l.take (k + 1)) && Op.bytesLess (l[k]'(by omega)).name.toList l[k + 1].name.toList)
  | a :: b :: l, 0, h => by simp [rising]
  | a :: b :: l, k + 1, h => by
    have := rising_take (b :: l) k (by simpa using h)
    simp only [List.take_succ_cons, rising, List.getElem_cons_succ] at this ⊢
    rw [this, Bool.and_assoc]
  | [_], k, h => by simp at h
  | [], k, h => by simp at h
def okT (l : List Pr) (k : Nat) : Bool := (l.take k).all canB && rising (l.take k)
theorem okT_0 (l : List Pr) : okT l 0 = true := rfl
theorem okT_1 (l : List Pr) (h : 0 < l.length) : okT l 1 = canB l[0] := by
  match l, h with
  | a :: l, _ => simp [okT, rising]
theorem all_takeP {p : Pr → Bool} {s : List Pr} (k : Nat) (h : k < s.length) : (s.take (k + 1)).all p = ((s.take k).all p && p s[k]) := by
  rw [List.take_succ_eq_append_getElem h, List.all_append]
  simp
theorem okT_s (l : List Pr) (k : Nat) (h : k + 1 < l.length) : okT l (k + 2) = (okT l (k + 1) && (canB l[k + 1] && Op.bytesLess (l[k]'(by omega)).name.toList l[k + 1].name.toList)) := by
  unfold okT
  rw [rising_take l k h, all_takeP (k + 1) h]
  cases (l.take (k + 1)).all canB <;> cases rising (l.take (k + 1)) <;> simp
theorem rising_pre : ∀ (l : List Pr) (k : Nat), rising (l.take k) = false → rising l = false
  | a :: b :: l, k + 2, h => by
    simp only [List.take_succ_cons, rising, Bool.and_eq_false_iff] at h ⊢
    rcases h with h | h
    · exact .inl h
    · exact .inr (rising_pre (b :: l) (k + 1) (by simpa using h))
  | _, 0, h => by simp [rising] at h
  | [], _ + 1, h => by simp [rising] at h
  | [_], _ + 1, h => by simp [rising] at h
  | _ :: _ :: _, 1, h => by simp [rising] at h
theorem okT_no (l : List Pr) (k : Nat) (h : okT l k = false) : (l.all canB && rising l) = false := by
  simp only [okT, Bool.and_eq_false_iff] at h ⊢
  rcases h with h | h
  · left; rw [← List.take_append_drop k l, List.all_append, h]; rfl
  · exact .inr (rising_pre l k h)
theorem okT_all (l : List Pr) (k : Nat) (h : l.length ≤ k) : okT l k = (l.all canB && rising l) := by
  unfold okT; rw [List.take_of_length_le h]

theorem okT_bad (l : List Pr) (k : Nat) (h : k < l.length) (hc : canB l[k] = false) : okT l (k + 1) = false := by
  unfold okT
  rw [all_takeP k h, hc]
  simp

set_option maxRecDepth 4000 in
theorem valid7_nil (w : World) (a : Option Addr) (c : Nat) : Calls Tryz.prog 33 #[.slice a 0 c] w fun e w' => e = .returned (.bool true) ∧ Below w.heap.size w w' := by
  go_enter Tryz.func33, Tryz.ntmps33
  go_wp2_with fail
  go_loopw [10] (fun i wr => i = .int .i64 0 ∧ wr = w) (fun _ _ => 0)
  case atStart => exact ⟨rfl, rfl⟩
  case round =>
    obtain ⟨rfl, rfl⟩ := hrel
    go_wp2
    go_ret
    exact ⟨rfl, Below.refl _ _⟩

set_option maxRecDepth 4000 in
set_option maxHeartbeats 2000000 in
theorem valid7_some (w : World) (l : List Pr) (b o c : Nat) (h : ∀ i (h : i < l.length), PrAt w b (o + i * 5) l[i]) :
    Calls Tryz.prog 33 #[.slice (some ⟨b, o, none⟩) l.length c] w fun e w' => e = .returned (.bool (validL l)) ∧ Below w.heap.size w w' := by
  by_cases h16 : (l.length : Int) > 16
  · have e : validL l = false := by simp [validL]; omega
    rw [e]
    go_enter Tryz.func33, Tryz.ntmps33
    go_wp2
    go_ret
    exact ⟨rfl, Below.refl _ _⟩
  have e : validL l = (l.all canB && rising l) := by unfold validL; rw [decide_eq_true (by omega)]; rfl
  rw [e]
  clear e
  have H : Hid (∀ i (h : i < l.length), PrAt w b (o + i * 5) l[i]) := h
  have K0 := okT_0 l
  have K1 : Hid (∀ (h : 0 < l.length), okT l 1 = canB l[0]) := okT_1 l
  have KS : Hid (∀ (k : Nat) (h : k + 1 < l.length), okT l (k + 2) = (okT l (k + 1) && (canB l[k + 1] && Op.bytesLess (l[k]'(by omega)).name.toList l[k + 1].name.toList))) := okT_s l
  have KN : Hid (∀ k, okT l k = false → (l.all canB && rising l) = false) := okT_no l
  have KA : Hid (∀ k, l.length ≤ k → okT l k = (l.all canB && rising l)) := okT_all l
  clear h
  generalize (l.all canB && rising l) = r at *
  go_enter Tryz.func33, Tryz.ntmps33
  go_wp2_with fail
  go_loopw [10] (fun i wr => ∃ k : Nat, k ≤ l.length ∧ i = .int .i64 k ∧ Below w.heap.size w wr ∧ Hid (okT l k = true)) (fun i _ => l.length - (RowKit.intOf i).toNat)
  case atStart => exact ⟨0, by omega, rfl, Below.refl _ _, K0⟩
  case round =>
    obtain ⟨k, hk, rfl, hbr, hz⟩ := hrel
    by_cases hlt : k < l.length
    · obtain ⟨a0, a1, a2, a3, a4⟩ := (H.out k hlt).on hbr
      have hwr := hbr.size
      have HC := fun W : World => canbe7 W l[k]
      unfold Pr.v at HC
      cases hcan : canB l[k] with
      | false =>
        have hr := KN.out _ (okT_bad l k hlt hcan)
        rw [hcan] at HC
        obtain ⟨pk, hpk⟩ : ∃ pk, pk = l[k] := ⟨_, rfl⟩
        rw [← hpk] at a0 a1 a2 a3 a4 HC
        clear hcan hpk hz
        go_upto_region 6 with fail
        have hbA : Below w.heap.size w (wr.alloc (Obj.cells #[Value.string pk.name, Value.int IntKind.i64 pk.val.kind, Value.int IntKind.i64 pk.val.num, Value.string pk.val.text, Value.float FloatKind.f64 pk.val.real] 54)) := hbr.alloc hwr _
        have c0 : (wr.alloc (Obj.cells #[Value.string pk.name, Value.int IntKind.i64 pk.val.kind, Value.int IntKind.i64 pk.val.num, Value.string pk.val.text, Value.float FloatKind.f64 pk.val.real] 54)).cell? ⟨wr.heap.size, 0, none⟩ = some (.string pk.name) := World.cell?_alloc_new ..
        have c1 : (wr.alloc (Obj.cells #[Value.string pk.name, Value.int IntKind.i64 pk.val.kind, Value.int IntKind.i64 pk.val.num, Value.string pk.val.text, Value.float FloatKind.f64 pk.val.real] 54)).cell? ⟨wr.heap.size, 1, none⟩ = some (.int .i64 pk.val.kind) := World.cell?_alloc_new ..
        have c2 : (wr.alloc (Obj.cells #[Value.string pk.name, Value.int IntKind.i64 pk.val.kind, Value.int IntKind.i64 pk.val.num, Value.string pk.val.text, Value.float FloatKind.f64 pk.val.real] 54)).cell? ⟨wr.heap.size, 2, none⟩ = some (.int .i64 pk.val.num) := World.cell?_alloc_new ..
        have c3 : (wr.alloc (Obj.cells #[Value.string pk.name, Value.int IntKind.i64 pk.val.kind, Value.int IntKind.i64 pk.val.num, Value.string pk.val.text, Value.float FloatKind.f64 pk.val.real] 54)).cell? ⟨wr.heap.size, 3, none⟩ = some (.string pk.val.text) := World.cell?_alloc_new ..
        have c4 : (wr.alloc (Obj.cells #[Value.string pk.name, Value.int IntKind.i64 pk.val.kind, Value.int IntKind.i64 pk.val.num, Value.string pk.val.text, Value.float FloatKind.f64 pk.val.real] 54)).cell? ⟨wr.heap.size, 4, none⟩ = some (.float .f64 pk.val.real) := World.cell?_alloc_new ..
        have hsA : (wr.alloc (Obj.cells #[Value.string pk.name, Value.int IntKind.i64 pk.val.kind, Value.int IntKind.i64 pk.val.num, Value.string pk.val.text, Value.float FloatKind.f64 pk.val.real] 54)).heap.size = wr.heap.size + 1 := by simp
        refine wp_region_held (S := fun W => W.cell? ⟨wr.heap.size, 0, none⟩ = some (.string pk.name) ∧ W.cell? ⟨wr.heap.size, 1, none⟩ = some (.int .i64 pk.val.kind) ∧ W.cell? ⟨wr.heap.size, 2, none⟩ = some (.int .i64 pk.val.num) ∧ W.cell? ⟨wr.heap.size, 3, none⟩ = some (.string pk.val.text) ∧ W.cell? ⟨wr.heap.size, 4, none⟩ = some (.float .f64 pk.val.real)) hmix ?_
        show wpAnyH _ _ _ _ _ _ _ _ (World.drew _)
        have hS : (fun W : World => W.cell? ⟨wr.heap.size, 0, none⟩ = some (.string pk.name) ∧ W.cell? ⟨wr.heap.size, 1, none⟩ = some (.int .i64 pk.val.kind) ∧ W.cell? ⟨wr.heap.size, 2, none⟩ = some (.int .i64 pk.val.num) ∧ W.cell? ⟨wr.heap.size, 3, none⟩ = some (.string pk.val.text) ∧ W.cell? ⟨wr.heap.size, 4, none⟩ = some (.float .f64 pk.val.real)) (wr.alloc (Obj.cells #[Value.string pk.name, Value.int IntKind.i64 pk.val.kind, Value.int IntKind.i64 pk.val.num, Value.string pk.val.text, Value.float FloatKind.f64 pk.val.real] 54)).drew := ⟨c0, c1, c2, c3, c4⟩
        have hb1 : Below w.heap.size w (wr.alloc (Obj.cells #[Value.string pk.name, Value.int IntKind.i64 pk.val.kind, Value.int IntKind.i64 pk.val.num, Value.string pk.val.text, Value.float FloatKind.f64 pk.val.real] 54)).drew := hbA.drew
        have hs1 : (wr.alloc (Obj.cells #[Value.string pk.name, Value.int IntKind.i64 pk.val.kind, Value.int IntKind.i64 pk.val.num, Value.string pk.val.text, Value.float FloatKind.f64 pk.val.real] 54)).drew.heap.size = wr.heap.size + 1 := hsA
        clear c0 c1 c2 c3 c4 hbA hsA
        generalize (wr.alloc (Obj.cells #[Value.string pk.name, Value.int IntKind.i64 pk.val.kind, Value.int IntKind.i64 pk.val.num, Value.string pk.val.text, Value.float FloatKind.f64 pk.val.real] 54)).drew = w1 at *
        refine wpAnyH_take (i := 0) (v := .agg #[Value.string pk.name, Value.int IntKind.i64 pk.val.kind, Value.int IntKind.i64 pk.val.num, Value.string pk.val.text, Value.float FloatKind.f64 pk.val.real]) rfl (by kernel_rfl) (by kernel_rfl) (by kernel_rfl) (fun _ _ _ h => h) (.inl ⟨by rfl, fun W' hW' => ?_⟩) hS ?_
        · obtain ⟨d0, d1, d2, d3, d4⟩ := hW'
          go_simp
        simp only [Act.put, List.getElem_toArray, List.getElem_cons_succ, List.getElem_cons_zero, List.setIfInBounds_toArray, List.set_cons_succ, List.set_cons_zero]
        refine wpAnyH_one (i := 1) (by kernel_rfl) rfl (by rfl) (fun K hK => ?_)
        go_simp
        refine (HC _).mono ?_
        rintro e w2 ⟨rfl, hb2⟩
        have hS2 : (fun W : World => W.cell? ⟨wr.heap.size, 0, none⟩ = some (.string pk.name) ∧ W.cell? ⟨wr.heap.size, 1, none⟩ = some (.int .i64 pk.val.kind) ∧ W.cell? ⟨wr.heap.size, 2, none⟩ = some (.int .i64 pk.val.num) ∧ W.cell? ⟨wr.heap.size, 3, none⟩ = some (.string pk.val.text) ∧ W.cell? ⟨wr.heap.size, 4, none⟩ = some (.float .f64 pk.val.real)) w2 := by
          obtain ⟨d0, d1, d2, d3, d4⟩ := hS
          exact ⟨by rw [hb2.cell (by dsimp only; omega)]; exact d0, by rw [hb2.cell (by dsimp only; omega)]; exact d1, by rw [hb2.cell (by dsimp only; omega)]; exact d2, by rw [hb2.cell (by dsimp only; omega)]; exact d3, by rw [hb2.cell (by dsimp only; omega)]; exact d4⟩
        have hb02 : Below w.heap.size w w2 := hb1.trans (hb2.mono (by omega))
        show K _ _
        refine hK _ _ hS2 ?_
        clear hK K
        refine wpAnyH_take (i := 2) (v := .bool true) rfl (by kernel_rfl) (by kernel_rfl) (by kernel_rfl) (fun _ _ _ h => h) (.inl ⟨by rfl, fun W' hW' => ?_⟩) hS2 ?_
        · go_simp
        simp only [Act.put, List.getElem_toArray, List.getElem_cons_succ, List.getElem_cons_zero, List.setIfInBounds_toArray, List.set_cons_succ, List.set_cons_zero]
        refine wpAnyH_take (i := 3) (v := .bool true) rfl (by kernel_rfl) (by kernel_rfl) (by kernel_rfl) (fun _ _ _ h => h) (.inl ⟨by rfl, fun W' hW' => ?_⟩) hS2 ?_
        · go_simp
        simp only [Act.put, List.getElem_toArray, List.getElem_cons_succ, List.getElem_cons_zero, List.setIfInBounds_toArray, List.set_cons_succ, List.set_cons_zero]
        refine wpAnyH_take (i := 4) (v := undef) rfl (by kernel_rfl) (by kernel_rfl) (by kernel_rfl) (fun _ _ _ h => h) (.inr ⟨by rfl, rfl⟩) hS2 ?_
        simp only [Act.put, List.getElem_toArray, List.getElem_cons_succ, List.getElem_cons_zero, List.setIfInBounds_toArray, List.set_cons_succ, List.set_cons_zero]
        refine wpAnyH_take (i := 5) (v := undef) rfl (by kernel_rfl) (by kernel_rfl) (by kernel_rfl) (fun _ _ _ h => h) (.inr ⟨by rfl, rfl⟩) hS2 ?_
        simp only [Act.put, List.getElem_toArray, List.getElem_cons_succ, List.getElem_cons_zero, List.setIfInBounds_toArray, List.set_cons_succ, List.set_cons_zero]
        refine wpAnyH_take (i := 6) (v := undef) rfl (by kernel_rfl) (by kernel_rfl) (by kernel_rfl) (fun _ _ _ h => h) (.inr ⟨by rfl, rfl⟩) hS2 ?_
        simp only [Act.put, List.getElem_toArray, List.getElem_cons_succ, List.getElem_cons_zero, List.setIfInBounds_toArray, List.set_cons_succ, List.set_cons_zero]
        refine wpAnyH_take (i := 7) (v := undef) rfl (by kernel_rfl) (by kernel_rfl) (by kernel_rfl) (fun _ _ _ h => h) (.inr ⟨by rfl, rfl⟩) hS2 ?_
        simp only [Act.put, List.getElem_toArray, List.getElem_cons_succ, List.getElem_cons_zero, List.setIfInBounds_toArray, List.set_cons_succ, List.set_cons_zero]
        refine wpAnyH_take (i := 8) (v := undef) rfl (by kernel_rfl) (by kernel_rfl) (by kernel_rfl) (fun _ _ _ h => h) (.inr ⟨by rfl, rfl⟩) hS2 ?_
        simp only [Act.put, List.getElem_toArray, List.getElem_cons_succ, List.getElem_cons_zero, List.setIfInBounds_toArray, List.set_cons_succ, List.set_cons_zero]
        refine wpAnyH_take (i := 9) (v := undef) rfl (by kernel_rfl) (by kernel_rfl) (by kernel_rfl) (fun _ _ _ h => h) (.inr ⟨by rfl, rfl⟩) hS2 ?_
        simp only [Act.put, List.getElem_toArray, List.getElem_cons_succ, List.getElem_cons_zero, List.setIfInBounds_toArray, List.set_cons_succ, List.set_cons_zero]
        refine wpAnyH_take (i := 10) (v := undef) rfl (by kernel_rfl) (by kernel_rfl) (by kernel_rfl) (fun _ _ _ h => h) (.inr ⟨by rfl, rfl⟩) hS2 ?_
        simp only [Act.put, List.getElem_toArray, List.getElem_cons_succ, List.getElem_cons_zero, List.setIfInBounds_toArray, List.set_cons_succ, List.set_cons_zero]
        refine wpAnyH_take (i := 11) (v := undef) rfl (by kernel_rfl) (by kernel_rfl) (by kernel_rfl) (fun _ _ _ h => h) (.inr ⟨by rfl, rfl⟩) hS2 ?_
        simp only [Act.put, List.getElem_toArray, List.getElem_cons_succ, List.getElem_cons_zero, List.setIfInBounds_toArray, List.set_cons_succ, List.set_cons_zero]
        refine wpAnyH_take (i := 12) (v := undef) rfl (by kernel_rfl) (by kernel_rfl) (by kernel_rfl) (fun _ _ _ h => h) (.inr ⟨by rfl, rfl⟩) hS2 ?_
        simp only [Act.put, List.getElem_toArray, List.getElem_cons_succ, List.getElem_cons_zero, List.setIfInBounds_toArray, List.set_cons_succ, List.set_cons_zero]
        refine wpAnyH_take (i := 13) (v := undef) rfl (by kernel_rfl) (by kernel_rfl) (by kernel_rfl) (fun _ _ _ h => h) (.inr ⟨by rfl, rfl⟩) hS2 ?_
        simp only [Act.put, List.getElem_toArray, List.getElem_cons_succ, List.getElem_cons_zero, List.setIfInBounds_toArray, List.set_cons_succ, List.set_cons_zero]
        refine wpAnyH_take (i := 14) (v := undef) rfl (by kernel_rfl) (by kernel_rfl) (by kernel_rfl) (fun _ _ _ h => h) (.inr ⟨by rfl, rfl⟩) hS2 ?_
        simp only [Act.put, List.getElem_toArray, List.getElem_cons_succ, List.getElem_cons_zero, List.setIfInBounds_toArray, List.set_cons_succ, List.set_cons_zero]
        refine wpAnyH_take (i := 15) (v := undef) rfl (by kernel_rfl) (by kernel_rfl) (by kernel_rfl) (fun _ _ _ h => h) (.inr ⟨by rfl, rfl⟩) hS2 ?_
        simp only [Act.put, List.getElem_toArray, List.getElem_cons_succ, List.getElem_cons_zero, List.setIfInBounds_toArray, List.set_cons_succ, List.set_cons_zero]
        refine wpAnyH_take (i := 16) (v := undef) rfl (by kernel_rfl) (by kernel_rfl) (by kernel_rfl) (fun _ _ _ h => h) (.inr ⟨by rfl, rfl⟩) hS2 ?_
        simp only [Act.put, List.getElem_toArray, List.getElem_cons_succ, List.getElem_cons_zero, List.setIfInBounds_toArray, List.set_cons_succ, List.set_cons_zero]
        refine wpAnyH_take (i := 17) (v := .bool true) rfl (by kernel_rfl) (by kernel_rfl) (by kernel_rfl) (fun _ _ _ h => h) (.inl ⟨by rfl, fun W' hW' => ?_⟩) hS2 ?_
        · go_simp
        simp only [Act.put, List.getElem_toArray, List.getElem_cons_succ, List.getElem_cons_zero, List.setIfInBounds_toArray, List.set_cons_succ, List.set_cons_zero]
        refine wpAnyH_done (by kernel_rfl) ?_ _
        go_wp2
        go_ret
        exact ⟨ret_b (by first | rfl | exact hr.symm), hb02⟩
      | true =>
        rw [hcan] at HC
        rcases Nat.eq_zero_or_pos k with hk0 | hk0
        · subst hk0
          have hok : Hid (okT l 1 = true) := by rw [K1.out hlt]; exact hcan
          obtain ⟨pk, hpk⟩ : ∃ pk, pk = l[0] := ⟨_, rfl⟩
          rw [← hpk] at a0 a1 a2 a3 a4 HC
          rw [show o + 0 * 5 = o by omega] at a0 a1 a2 a3 a4
          clear hcan hpk hz
          go_upto_region 6 with fail
          have hbA : Below w.heap.size w (wr.alloc (Obj.cells #[Value.string pk.name, Value.int IntKind.i64 pk.val.kind, Value.int IntKind.i64 pk.val.num, Value.string pk.val.text, Value.float FloatKind.f64 pk.val.real] 54)) := hbr.alloc hwr _
          have c0 : (wr.alloc (Obj.cells #[Value.string pk.name, Value.int IntKind.i64 pk.val.kind, Value.int IntKind.i64 pk.val.num, Value.string pk.val.text, Value.float FloatKind.f64 pk.val.real] 54)).cell? ⟨wr.heap.size, 0, none⟩ = some (.string pk.name) := World.cell?_alloc_new ..
          have c1 : (wr.alloc (Obj.cells #[Value.string pk.name, Value.int IntKind.i64 pk.val.kind, Value.int IntKind.i64 pk.val.num, Value.string pk.val.text, Value.float FloatKind.f64 pk.val.real] 54)).cell? ⟨wr.heap.size, 1, none⟩ = some (.int .i64 pk.val.kind) := World.cell?_alloc_new ..
          have c2 : (wr.alloc (Obj.cells #[Value.string pk.name, Value.int IntKind.i64 pk.val.kind, Value.int IntKind.i64 pk.val.num, Value.string pk.val.text, Value.float FloatKind.f64 pk.val.real] 54)).cell? ⟨wr.heap.size, 2, none⟩ = some (.int .i64 pk.val.num) := World.cell?_alloc_new ..
          have c3 : (wr.alloc (Obj.cells #[Value.string pk.name, Value.int IntKind.i64 pk.val.kind, Value.int IntKind.i64 pk.val.num, Value.string pk.val.text, Value.float FloatKind.f64 pk.val.real] 54)).cell? ⟨wr.heap.size, 3, none⟩ = some (.string pk.val.text) := World.cell?_alloc_new ..
          have c4 : (wr.alloc (Obj.cells #[Value.string pk.name, Value.int IntKind.i64 pk.val.kind, Value.int IntKind.i64 pk.val.num, Value.string pk.val.text, Value.float FloatKind.f64 pk.val.real] 54)).cell? ⟨wr.heap.size, 4, none⟩ = some (.float .f64 pk.val.real) := World.cell?_alloc_new ..
          have hsA : (wr.alloc (Obj.cells #[Value.string pk.name, Value.int IntKind.i64 pk.val.kind, Value.int IntKind.i64 pk.val.num, Value.string pk.val.text, Value.float FloatKind.f64 pk.val.real] 54)).heap.size = wr.heap.size + 1 := by simp
          refine wp_region_held (S := fun W => W.cell? ⟨wr.heap.size, 0, none⟩ = some (.string pk.name) ∧ W.cell? ⟨wr.heap.size, 1, none⟩ = some (.int .i64 pk.val.kind) ∧ W.cell? ⟨wr.heap.size, 2, none⟩ = some (.int .i64 pk.val.num) ∧ W.cell? ⟨wr.heap.size, 3, none⟩ = some (.string pk.val.text) ∧ W.cell? ⟨wr.heap.size, 4, none⟩ = some (.float .f64 pk.val.real)) hmix ?_
          show wpAnyH _ _ _ _ _ _ _ _ (World.drew _)
          have hS : (fun W : World => W.cell? ⟨wr.heap.size, 0, none⟩ = some (.string pk.name) ∧ W.cell? ⟨wr.heap.size, 1, none⟩ = some (.int .i64 pk.val.kind) ∧ W.cell? ⟨wr.heap.size, 2, none⟩ = some (.int .i64 pk.val.num) ∧ W.cell? ⟨wr.heap.size, 3, none⟩ = some (.string pk.val.text) ∧ W.cell? ⟨wr.heap.size, 4, none⟩ = some (.float .f64 pk.val.real)) (wr.alloc (Obj.cells #[Value.string pk.name, Value.int IntKind.i64 pk.val.kind, Value.int IntKind.i64 pk.val.num, Value.string pk.val.text, Value.float FloatKind.f64 pk.val.real] 54)).drew := ⟨c0, c1, c2, c3, c4⟩
          have hb1 : Below w.heap.size w (wr.alloc (Obj.cells #[Value.string pk.name, Value.int IntKind.i64 pk.val.kind, Value.int IntKind.i64 pk.val.num, Value.string pk.val.text, Value.float FloatKind.f64 pk.val.real] 54)).drew := hbA.drew
          have hs1 : (wr.alloc (Obj.cells #[Value.string pk.name, Value.int IntKind.i64 pk.val.kind, Value.int IntKind.i64 pk.val.num, Value.string pk.val.text, Value.float FloatKind.f64 pk.val.real] 54)).drew.heap.size = wr.heap.size + 1 := hsA
          clear c0 c1 c2 c3 c4 hbA hsA
          generalize (wr.alloc (Obj.cells #[Value.string pk.name, Value.int IntKind.i64 pk.val.kind, Value.int IntKind.i64 pk.val.num, Value.string pk.val.text, Value.float FloatKind.f64 pk.val.real] 54)).drew = w1 at *
          refine wpAnyH_take (i := 0) (v := .agg #[Value.string pk.name, Value.int IntKind.i64 pk.val.kind, Value.int IntKind.i64 pk.val.num, Value.string pk.val.text, Value.float FloatKind.f64 pk.val.real]) rfl (by kernel_rfl) (by kernel_rfl) (by kernel_rfl) (fun _ _ _ h => h) (.inl ⟨by rfl, fun W' hW' => ?_⟩) hS ?_
          · obtain ⟨d0, d1, d2, d3, d4⟩ := hW'
            go_simp
          simp only [Act.put, List.getElem_toArray, List.getElem_cons_succ, List.getElem_cons_zero, List.setIfInBounds_toArray, List.set_cons_succ, List.set_cons_zero]
          refine wpAnyH_one (i := 1) (by kernel_rfl) rfl (by rfl) (fun K hK => ?_)
          go_simp
          refine (HC _).mono ?_
          rintro e w2 ⟨rfl, hb2⟩
          have hS2 : (fun W : World => W.cell? ⟨wr.heap.size, 0, none⟩ = some (.string pk.name) ∧ W.cell? ⟨wr.heap.size, 1, none⟩ = some (.int .i64 pk.val.kind) ∧ W.cell? ⟨wr.heap.size, 2, none⟩ = some (.int .i64 pk.val.num) ∧ W.cell? ⟨wr.heap.size, 3, none⟩ = some (.string pk.val.text) ∧ W.cell? ⟨wr.heap.size, 4, none⟩ = some (.float .f64 pk.val.real)) w2 := by
            obtain ⟨d0, d1, d2, d3, d4⟩ := hS
            exact ⟨by rw [hb2.cell (by dsimp only; omega)]; exact d0, by rw [hb2.cell (by dsimp only; omega)]; exact d1, by rw [hb2.cell (by dsimp only; omega)]; exact d2, by rw [hb2.cell (by dsimp only; omega)]; exact d3, by rw [hb2.cell (by dsimp only; omega)]; exact d4⟩
          have hb02 : Below w.heap.size w w2 := hb1.trans (hb2.mono (by omega))
          show K _ _
          refine hK _ _ hS2 ?_
          clear hK K
          refine wpAnyH_take (i := 2) (v := .bool false) rfl (by kernel_rfl) (by kernel_rfl) (by kernel_rfl) (fun _ _ _ h => h) (.inl ⟨by rfl, fun W' hW' => ?_⟩) hS2 ?_
          · go_simp
          simp only [Act.put, List.getElem_toArray, List.getElem_cons_succ, List.getElem_cons_zero, List.setIfInBounds_toArray, List.set_cons_succ, List.set_cons_zero]
          refine wpAnyH_take (i := 3) (v := .bool false) rfl (by kernel_rfl) (by kernel_rfl) (by kernel_rfl) (fun _ _ _ h => h) (.inl ⟨by rfl, fun W' hW' => ?_⟩) hS2 ?_
          · go_simp
          simp only [Act.put, List.getElem_toArray, List.getElem_cons_succ, List.getElem_cons_zero, List.setIfInBounds_toArray, List.set_cons_succ, List.set_cons_zero]
          refine wpAnyH_take (i := 4) (v := .int .i64 0) rfl (by kernel_rfl) (by kernel_rfl) (by kernel_rfl) (fun _ _ _ h => h) (.inl ⟨by rfl, fun W' hW' => ?_⟩) hS2 ?_
          · go_simp
          simp only [Act.put, List.getElem_toArray, List.getElem_cons_succ, List.getElem_cons_zero, List.setIfInBounds_toArray, List.set_cons_succ, List.set_cons_zero]
          refine wpAnyH_take (i := 5) (v := .bool false) rfl (by kernel_rfl) (by kernel_rfl) (by kernel_rfl) (fun _ _ _ h => h) (.inl ⟨by rfl, fun W' hW' => ?_⟩) hS2 ?_
          · go_simp
          simp only [Act.put, List.getElem_toArray, List.getElem_cons_succ, List.getElem_cons_zero, List.setIfInBounds_toArray, List.set_cons_succ, List.set_cons_zero]
          refine wpAnyH_take (i := 6) (v := .bool false) rfl (by kernel_rfl) (by kernel_rfl) (by kernel_rfl) (fun _ _ _ h => h) (.inl ⟨by rfl, fun W' hW' => ?_⟩) hS2 ?_
          · go_simp
          simp only [Act.put, List.getElem_toArray, List.getElem_cons_succ, List.getElem_cons_zero, List.setIfInBounds_toArray, List.set_cons_succ, List.set_cons_zero]
          refine wpAnyH_take (i := 7) (v := undef) rfl (by kernel_rfl) (by kernel_rfl) (by kernel_rfl) (fun _ _ _ h => h) (.inr ⟨by rfl, rfl⟩) hS2 ?_
          simp only [Act.put, List.getElem_toArray, List.getElem_cons_succ, List.getElem_cons_zero, List.setIfInBounds_toArray, List.set_cons_succ, List.set_cons_zero]
          refine wpAnyH_take (i := 8) (v := undef) rfl (by kernel_rfl) (by kernel_rfl) (by kernel_rfl) (fun _ _ _ h => h) (.inr ⟨by rfl, rfl⟩) hS2 ?_
          simp only [Act.put, List.getElem_toArray, List.getElem_cons_succ, List.getElem_cons_zero, List.setIfInBounds_toArray, List.set_cons_succ, List.set_cons_zero]
          refine wpAnyH_take (i := 9) (v := undef) rfl (by kernel_rfl) (by kernel_rfl) (by kernel_rfl) (fun _ _ _ h => h) (.inr ⟨by rfl, rfl⟩) hS2 ?_
          simp only [Act.put, List.getElem_toArray, List.getElem_cons_succ, List.getElem_cons_zero, List.setIfInBounds_toArray, List.set_cons_succ, List.set_cons_zero]
          refine wpAnyH_take (i := 10) (v := undef) rfl (by kernel_rfl) (by kernel_rfl) (by kernel_rfl) (fun _ _ _ h => h) (.inr ⟨by rfl, rfl⟩) hS2 ?_
          simp only [Act.put, List.getElem_toArray, List.getElem_cons_succ, List.getElem_cons_zero, List.setIfInBounds_toArray, List.set_cons_succ, List.set_cons_zero]
          refine wpAnyH_take (i := 11) (v := undef) rfl (by kernel_rfl) (by kernel_rfl) (by kernel_rfl) (fun _ _ _ h => h) (.inr ⟨by rfl, rfl⟩) hS2 ?_
          simp only [Act.put, List.getElem_toArray, List.getElem_cons_succ, List.getElem_cons_zero, List.setIfInBounds_toArray, List.set_cons_succ, List.set_cons_zero]
          refine wpAnyH_take (i := 12) (v := undef) rfl (by kernel_rfl) (by kernel_rfl) (by kernel_rfl) (fun _ _ _ h => h) (.inr ⟨by rfl, rfl⟩) hS2 ?_
          simp only [Act.put, List.getElem_toArray, List.getElem_cons_succ, List.getElem_cons_zero, List.setIfInBounds_toArray, List.set_cons_succ, List.set_cons_zero]
          refine wpAnyH_take (i := 13) (v := undef) rfl (by kernel_rfl) (by kernel_rfl) (by kernel_rfl) (fun _ _ _ h => h) (.inr ⟨by rfl, rfl⟩) hS2 ?_
          simp only [Act.put, List.getElem_toArray, List.getElem_cons_succ, List.getElem_cons_zero, List.setIfInBounds_toArray, List.set_cons_succ, List.set_cons_zero]
          refine wpAnyH_take (i := 14) (v := undef) rfl (by kernel_rfl) (by kernel_rfl) (by kernel_rfl) (fun _ _ _ h => h) (.inr ⟨by rfl, rfl⟩) hS2 ?_
          simp only [Act.put, List.getElem_toArray, List.getElem_cons_succ, List.getElem_cons_zero, List.setIfInBounds_toArray, List.set_cons_succ, List.set_cons_zero]
          refine wpAnyH_take (i := 15) (v := undef) rfl (by kernel_rfl) (by kernel_rfl) (by kernel_rfl) (fun _ _ _ h => h) (.inr ⟨by rfl, rfl⟩) hS2 ?_
          simp only [Act.put, List.getElem_toArray, List.getElem_cons_succ, List.getElem_cons_zero, List.setIfInBounds_toArray, List.set_cons_succ, List.set_cons_zero]
          refine wpAnyH_take (i := 16) (v := .bool false) rfl (by kernel_rfl) (by kernel_rfl) (by kernel_rfl) (fun _ _ _ h => h) (.inl ⟨by rfl, fun W' hW' => ?_⟩) hS2 ?_
          · go_simp
          simp only [Act.put, List.getElem_toArray, List.getElem_cons_succ, List.getElem_cons_zero, List.setIfInBounds_toArray, List.set_cons_succ, List.set_cons_zero]
          refine wpAnyH_take (i := 17) (v := .bool false) rfl (by kernel_rfl) (by kernel_rfl) (by kernel_rfl) (fun _ _ _ h => h) (.inl ⟨by rfl, fun W' hW' => ?_⟩) hS2 ?_
          · go_simp
          simp only [Act.put, List.getElem_toArray, List.getElem_cons_succ, List.getElem_cons_zero, List.setIfInBounds_toArray, List.set_cons_succ, List.set_cons_zero]
          refine wpAnyH_done (by kernel_rfl) ?_ _
          go_wp2
          go_roundw
          case rel => exact ⟨1, by omega, by go_num, hb02, hok⟩
          case measure => simp [RowKit.intOf]; omega
        · obtain ⟨m, hm⟩ : ∃ m, k = m + 1 := ⟨k - 1, by omega⟩
          subst hm
          have hst := KS.out m hlt
          obtain ⟨q0, _, _, _, _⟩ := (H.out m (by omega)).on hbr
          obtain ⟨pk, hpk⟩ : ∃ pk, pk = l[m + 1] := ⟨_, rfl⟩
          obtain ⟨pn, hpn⟩ : ∃ pn, pn = l[m].name := ⟨_, rfl⟩
          rw [hz.out, hcan, ← hpk, ← hpn, Bool.true_and, Bool.true_and] at hst
          rw [← hpn] at q0
          rw [← hpk] at a0 a1 a2 a3 a4 HC
          clear hcan hpk hpn hz
          cases hle : Op.bytesLess pn.toList pk.name.toList with
          | true =>
            rw [hle] at hst
            have hok : Hid (okT l (m + 2) = true) := hst
            clear hst
            go_upto_region 6 with fail
            have hbA : Below w.heap.size w (wr.alloc (Obj.cells #[Value.string pk.name, Value.int IntKind.i64 pk.val.kind, Value.int IntKind.i64 pk.val.num, Value.string pk.val.text, Value.float FloatKind.f64 pk.val.real] 54)) := hbr.alloc hwr _
            have c0 : (wr.alloc (Obj.cells #[Value.string pk.name, Value.int IntKind.i64 pk.val.kind, Value.int IntKind.i64 pk.val.num, Value.string pk.val.text, Value.float FloatKind.f64 pk.val.real] 54)).cell? ⟨wr.heap.size, 0, none⟩ = some (.string pk.name) := World.cell?_alloc_new ..
            have c1 : (wr.alloc (Obj.cells #[Value.string pk.name, Value.int IntKind.i64 pk.val.kind, Value.int IntKind.i64 pk.val.num, Value.string pk.val.text, Value.float FloatKind.f64 pk.val.real] 54)).cell? ⟨wr.heap.size, 1, none⟩ = some (.int .i64 pk.val.kind) := World.cell?_alloc_new ..
            have c2 : (wr.alloc (Obj.cells #[Value.string pk.name, Value.int IntKind.i64 pk.val.kind, Value.int IntKind.i64 pk.val.num, Value.string pk.val.text, Value.float FloatKind.f64 pk.val.real] 54)).cell? ⟨wr.heap.size, 2, none⟩ = some (.int .i64 pk.val.num) := World.cell?_alloc_new ..
            have c3 : (wr.alloc (Obj.cells #[Value.string pk.name, Value.int IntKind.i64 pk.val.kind, Value.int IntKind.i64 pk.val.num, Value.string pk.val.text, Value.float FloatKind.f64 pk.val.real] 54)).cell? ⟨wr.heap.size, 3, none⟩ = some (.string pk.val.text) := World.cell?_alloc_new ..
            have c4 : (wr.alloc (Obj.cells #[Value.string pk.name, Value.int IntKind.i64 pk.val.kind, Value.int IntKind.i64 pk.val.num, Value.string pk.val.text, Value.float FloatKind.f64 pk.val.real] 54)).cell? ⟨wr.heap.size, 4, none⟩ = some (.float .f64 pk.val.real) := World.cell?_alloc_new ..
            have hsA : (wr.alloc (Obj.cells #[Value.string pk.name, Value.int IntKind.i64 pk.val.kind, Value.int IntKind.i64 pk.val.num, Value.string pk.val.text, Value.float FloatKind.f64 pk.val.real] 54)).heap.size = wr.heap.size + 1 := by simp
            have c5 : (wr.alloc (Obj.cells #[Value.string pk.name, Value.int IntKind.i64 pk.val.kind, Value.int IntKind.i64 pk.val.num, Value.string pk.val.text, Value.float FloatKind.f64 pk.val.real] 54)).cell? ⟨b, o + m * 5, none⟩ = some (.string pn) := by rw [((Below.refl _ wr).alloc (Nat.le_refl _) _).cell (World.block_lt_of_cell? wr _ q0)]; exact q0
            refine wp_region_held (S := fun W => W.cell? ⟨wr.heap.size, 0, none⟩ = some (.string pk.name) ∧ W.cell? ⟨wr.heap.size, 1, none⟩ = some (.int .i64 pk.val.kind) ∧ W.cell? ⟨wr.heap.size, 2, none⟩ = some (.int .i64 pk.val.num) ∧ W.cell? ⟨wr.heap.size, 3, none⟩ = some (.string pk.val.text) ∧ W.cell? ⟨wr.heap.size, 4, none⟩ = some (.float .f64 pk.val.real) ∧ W.cell? ⟨b, o + m * 5, none⟩ = some (.string pn)) hmix ?_
            show wpAnyH _ _ _ _ _ _ _ _ (World.drew _)
            have hS : (fun W : World => W.cell? ⟨wr.heap.size, 0, none⟩ = some (.string pk.name) ∧ W.cell? ⟨wr.heap.size, 1, none⟩ = some (.int .i64 pk.val.kind) ∧ W.cell? ⟨wr.heap.size, 2, none⟩ = some (.int .i64 pk.val.num) ∧ W.cell? ⟨wr.heap.size, 3, none⟩ = some (.string pk.val.text) ∧ W.cell? ⟨wr.heap.size, 4, none⟩ = some (.float .f64 pk.val.real) ∧ W.cell? ⟨b, o + m * 5, none⟩ = some (.string pn)) (wr.alloc (Obj.cells #[Value.string pk.name, Value.int IntKind.i64 pk.val.kind, Value.int IntKind.i64 pk.val.num, Value.string pk.val.text, Value.float FloatKind.f64 pk.val.real] 54)).drew := ⟨c0, c1, c2, c3, c4, c5⟩
            have hb1 : Below w.heap.size w (wr.alloc (Obj.cells #[Value.string pk.name, Value.int IntKind.i64 pk.val.kind, Value.int IntKind.i64 pk.val.num, Value.string pk.val.text, Value.float FloatKind.f64 pk.val.real] 54)).drew := hbA.drew
            have hs1 : (wr.alloc (Obj.cells #[Value.string pk.name, Value.int IntKind.i64 pk.val.kind, Value.int IntKind.i64 pk.val.num, Value.string pk.val.text, Value.float FloatKind.f64 pk.val.real] 54)).drew.heap.size = wr.heap.size + 1 := hsA
            clear c0 c1 c2 c3 c4 c5 hbA hsA
            generalize (wr.alloc (Obj.cells #[Value.string pk.name, Value.int IntKind.i64 pk.val.kind, Value.int IntKind.i64 pk.val.num, Value.string pk.val.text, Value.float FloatKind.f64 pk.val.real] 54)).drew = w1 at *
            refine wpAnyH_take (i := 0) (v := .agg #[Value.string pk.name, Value.int IntKind.i64 pk.val.kind, Value.int IntKind.i64 pk.val.num, Value.string pk.val.text, Value.float FloatKind.f64 pk.val.real]) rfl (by kernel_rfl) (by kernel_rfl) (by kernel_rfl) (fun _ _ _ h => h) (.inl ⟨by rfl, fun W' hW' => ?_⟩) hS ?_
            · obtain ⟨d0, d1, d2, d3, d4, d5⟩ := hW'
              go_simp
            simp only [Act.put, List.getElem_toArray, List.getElem_cons_succ, List.getElem_cons_zero, List.setIfInBounds_toArray, List.set_cons_succ, List.set_cons_zero]
            refine wpAnyH_one (i := 1) (by kernel_rfl) rfl (by rfl) (fun K hK => ?_)
            go_simp
            refine (HC _).mono ?_
            rintro e w2 ⟨rfl, hb2⟩
            have hS2 : (fun W : World => W.cell? ⟨wr.heap.size, 0, none⟩ = some (.string pk.name) ∧ W.cell? ⟨wr.heap.size, 1, none⟩ = some (.int .i64 pk.val.kind) ∧ W.cell? ⟨wr.heap.size, 2, none⟩ = some (.int .i64 pk.val.num) ∧ W.cell? ⟨wr.heap.size, 3, none⟩ = some (.string pk.val.text) ∧ W.cell? ⟨wr.heap.size, 4, none⟩ = some (.float .f64 pk.val.real) ∧ W.cell? ⟨b, o + m * 5, none⟩ = some (.string pn)) w2 := by
              obtain ⟨d0, d1, d2, d3, d4, d5⟩ := hS
              exact ⟨by rw [hb2.cell (by dsimp only; omega)]; exact d0, by rw [hb2.cell (by dsimp only; omega)]; exact d1, by rw [hb2.cell (by dsimp only; omega)]; exact d2, by rw [hb2.cell (by dsimp only; omega)]; exact d3, by rw [hb2.cell (by dsimp only; omega)]; exact d4, by rw [hb2.cell (World.block_lt_of_cell? w1 _ d5)]; exact d5⟩
            have hb02 : Below w.heap.size w w2 := hb1.trans (hb2.mono (by omega))
            show K _ _
            refine hK _ _ hS2 ?_
            clear hK K
            refine wpAnyH_take (i := 2) (v := .bool false) rfl (by kernel_rfl) (by kernel_rfl) (by kernel_rfl) (fun _ _ _ h => h) (.inl ⟨by rfl, fun W' hW' => ?_⟩) hS2 ?_
            · go_simp
            simp only [Act.put, List.getElem_toArray, List.getElem_cons_succ, List.getElem_cons_zero, List.setIfInBounds_toArray, List.set_cons_succ, List.set_cons_zero]
            refine wpAnyH_take (i := 3) (v := .bool false) rfl (by kernel_rfl) (by kernel_rfl) (by kernel_rfl) (fun _ _ _ h => h) (.inl ⟨by rfl, fun W' hW' => ?_⟩) hS2 ?_
            · go_simp
            simp only [Act.put, List.getElem_toArray, List.getElem_cons_succ, List.getElem_cons_zero, List.setIfInBounds_toArray, List.set_cons_succ, List.set_cons_zero]
            refine wpAnyH_take (i := 4) (v := .int .i64 (m + 1 : Nat)) rfl (by kernel_rfl) (by kernel_rfl) (by kernel_rfl) (fun _ _ _ h => h) (.inl ⟨by rfl, fun W' hW' => ?_⟩) hS2 ?_
            · go_simp
            simp only [Act.put, List.getElem_toArray, List.getElem_cons_succ, List.getElem_cons_zero, List.setIfInBounds_toArray, List.set_cons_succ, List.set_cons_zero]
            refine wpAnyH_take (i := 5) (v := .bool true) rfl (by kernel_rfl) (by kernel_rfl) (by kernel_rfl) (fun _ _ _ h => h) (.inl ⟨by rfl, fun W' hW' => ?_⟩) hS2 ?_
            · go_simp
            simp only [Act.put, List.getElem_toArray, List.getElem_cons_succ, List.getElem_cons_zero, List.setIfInBounds_toArray, List.set_cons_succ, List.set_cons_zero]
            refine wpAnyH_take (i := 6) (v := .bool true) rfl (by kernel_rfl) (by kernel_rfl) (by kernel_rfl) (fun _ _ _ h => h) (.inl ⟨by rfl, fun W' hW' => ?_⟩) hS2 ?_
            · go_simp
            simp only [Act.put, List.getElem_toArray, List.getElem_cons_succ, List.getElem_cons_zero, List.setIfInBounds_toArray, List.set_cons_succ, List.set_cons_zero]
            refine wpAnyH_take (i := 7) (v := .slice (some ⟨b, o, none⟩) l.length c) rfl (by kernel_rfl) (by kernel_rfl) (by kernel_rfl) (fun _ _ _ h => h) (.inl ⟨by rfl, fun W' hW' => ?_⟩) hS2 ?_
            · go_simp
            simp only [Act.put, List.getElem_toArray, List.getElem_cons_succ, List.getElem_cons_zero, List.setIfInBounds_toArray, List.set_cons_succ, List.set_cons_zero]
            refine wpAnyH_take (i := 8) (v := .int .i64 (m + 1 : Nat)) rfl (by kernel_rfl) (by kernel_rfl) (by kernel_rfl) (fun _ _ _ h => h) (.inl ⟨by rfl, fun W' hW' => ?_⟩) hS2 ?_
            · go_simp
            simp only [Act.put, List.getElem_toArray, List.getElem_cons_succ, List.getElem_cons_zero, List.setIfInBounds_toArray, List.set_cons_succ, List.set_cons_zero]
            refine wpAnyH_take (i := 9) (v := .int .i64 (m : Int)) rfl (by kernel_rfl) (by kernel_rfl) (by kernel_rfl) (fun _ _ _ h => h) (.inl ⟨by rfl, fun W' hW' => ?_⟩) hS2 ?_
            · go_simp
              rw [IntKind.wrap_i64]; omega
            simp only [Act.put, List.getElem_toArray, List.getElem_cons_succ, List.getElem_cons_zero, List.setIfInBounds_toArray, List.set_cons_succ, List.set_cons_zero]
            refine wpAnyH_take (i := 10) (v := .pointer (some ⟨b, o + m * 5, none⟩)) rfl (by kernel_rfl) (by kernel_rfl) (by kernel_rfl) (fun _ _ _ h => h) (.inl ⟨by rfl, fun W' hW' => ?_⟩) hS2 ?_
            · go_simp
              intro hh; omega
            simp only [Act.put, List.getElem_toArray, List.getElem_cons_succ, List.getElem_cons_zero, List.setIfInBounds_toArray, List.set_cons_succ, List.set_cons_zero]
            refine wpAnyH_take (i := 11) (v := .pointer (some ⟨b, o + m * 5, none⟩)) rfl (by kernel_rfl) (by kernel_rfl) (by kernel_rfl) (fun _ _ _ h => h) (.inl ⟨by rfl, fun W' hW' => ?_⟩) hS2 ?_
            · go_simp
            simp only [Act.put, List.getElem_toArray, List.getElem_cons_succ, List.getElem_cons_zero, List.setIfInBounds_toArray, List.set_cons_succ, List.set_cons_zero]
            refine wpAnyH_take (i := 12) (v := .string pn) rfl (by kernel_rfl) (by kernel_rfl) (by kernel_rfl) (fun _ _ _ h => h) (.inl ⟨by rfl, fun W' hW' => ?_⟩) hS2 ?_
            · obtain ⟨d0, d1, d2, d3, d4, d5⟩ := hW'
              go_simp
            simp only [Act.put, List.getElem_toArray, List.getElem_cons_succ, List.getElem_cons_zero, List.setIfInBounds_toArray, List.set_cons_succ, List.set_cons_zero]
            refine wpAnyH_take (i := 13) (v := .pointer (some ⟨wr.heap.size, 0, none⟩)) rfl (by kernel_rfl) (by kernel_rfl) (by kernel_rfl) (fun _ _ _ h => h) (.inl ⟨by rfl, fun W' hW' => ?_⟩) hS2 ?_
            · go_simp
            simp only [Act.put, List.getElem_toArray, List.getElem_cons_succ, List.getElem_cons_zero, List.setIfInBounds_toArray, List.set_cons_succ, List.set_cons_zero]
            refine wpAnyH_take (i := 14) (v := .string pk.name) rfl (by kernel_rfl) (by kernel_rfl) (by kernel_rfl) (fun _ _ _ h => h) (.inl ⟨by rfl, fun W' hW' => ?_⟩) hS2 ?_
            · obtain ⟨d0, d1, d2, d3, d4, d5⟩ := hW'
              go_simp
            simp only [Act.put, List.getElem_toArray, List.getElem_cons_succ, List.getElem_cons_zero, List.setIfInBounds_toArray, List.set_cons_succ, List.set_cons_zero]
            refine wpAnyH_take (i := 15) (v := .bool false) rfl (by kernel_rfl) (by kernel_rfl) (by kernel_rfl) (fun _ _ _ h => h) (.inl ⟨by rfl, fun W' hW' => ?_⟩) hS2 ?_
            · go_simp
            simp only [Act.put, List.getElem_toArray, List.getElem_cons_succ, List.getElem_cons_zero, List.setIfInBounds_toArray, List.set_cons_succ, List.set_cons_zero]
            refine wpAnyH_take (i := 16) (v := .bool false) rfl (by kernel_rfl) (by kernel_rfl) (by kernel_rfl) (fun _ _ _ h => h) (.inl ⟨by rfl, fun W' hW' => ?_⟩) hS2 ?_
            · go_simp
            simp only [Act.put, List.getElem_toArray, List.getElem_cons_succ, List.getElem_cons_zero, List.setIfInBounds_toArray, List.set_cons_succ, List.set_cons_zero]
            refine wpAnyH_take (i := 17) (v := .bool false) rfl (by kernel_rfl) (by kernel_rfl) (by kernel_rfl) (fun _ _ _ h => h) (.inl ⟨by rfl, fun W' hW' => ?_⟩) hS2 ?_
            · go_simp
            simp only [Act.put, List.getElem_toArray, List.getElem_cons_succ, List.getElem_cons_zero, List.setIfInBounds_toArray, List.set_cons_succ, List.set_cons_zero]
            refine wpAnyH_done (by kernel_rfl) ?_ _
            go_wp2
            go_roundw
            case rel => exact ⟨m + 2, by omega, by go_num, hb02, hok⟩
            case measure => simp [RowKit.intOf]; omega
          | false =>
            rw [hle] at hst
            have hr := KN.out _ hst
            clear hst
            go_upto_region 6 with fail
            have hbA : Below w.heap.size w (wr.alloc (Obj.cells #[Value.string pk.name, Value.int IntKind.i64 pk.val.kind, Value.int IntKind.i64 pk.val.num, Value.string pk.val.text, Value.float FloatKind.f64 pk.val.real] 54)) := hbr.alloc hwr _
            have c0 : (wr.alloc (Obj.cells #[Value.string pk.name, Value.int IntKind.i64 pk.val.kind, Value.int IntKind.i64 pk.val.num, Value.string pk.val.text, Value.float FloatKind.f64 pk.val.real] 54)).cell? ⟨wr.heap.size, 0, none⟩ = some (.string pk.name) := World.cell?_alloc_new ..
            have c1 : (wr.alloc (Obj.cells #[Value.string pk.name, Value.int IntKind.i64 pk.val.kind, Value.int IntKind.i64 pk.val.num, Value.string pk.val.text, Value.float FloatKind.f64 pk.val.real] 54)).cell? ⟨wr.heap.size, 1, none⟩ = some (.int .i64 pk.val.kind) := World.cell?_alloc_new ..
            have c2 : (wr.alloc (Obj.cells #[Value.string pk.name, Value.int IntKind.i64 pk.val.kind, Value.int IntKind.i64 pk.val.num, Value.string pk.val.text, Value.float FloatKind.f64 pk.val.real] 54)).cell? ⟨wr.heap.size, 2, none⟩ = some (.int .i64 pk.val.num) := World.cell?_alloc_new ..
            have c3 : (wr.alloc (Obj.cells #[Value.string pk.name, Value.int IntKind.i64 pk.val.kind, Value.int IntKind.i64 pk.val.num, Value.string pk.val.text, Value.float FloatKind.f64 pk.val.real] 54)).cell? ⟨wr.heap.size, 3, none⟩ = some (.string pk.val.text) := World.cell?_alloc_new ..
            have c4 : (wr.alloc (Obj.cells #[Value.string pk.name, Value.int IntKind.i64 pk.val.kind, Value.int IntKind.i64 pk.val.num, Value.string pk.val.text, Value.float FloatKind.f64 pk.val.real] 54)).cell? ⟨wr.heap.size, 4, none⟩ = some (.float .f64 pk.val.real) := World.cell?_alloc_new ..
            have hsA : (wr.alloc (Obj.cells #[Value.string pk.name, Value.int IntKind.i64 pk.val.kind, Value.int IntKind.i64 pk.val.num, Value.string pk.val.text, Value.float FloatKind.f64 pk.val.real] 54)).heap.size = wr.heap.size + 1 := by simp
            have c5 : (wr.alloc (Obj.cells #[Value.string pk.name, Value.int IntKind.i64 pk.val.kind, Value.int IntKind.i64 pk.val.num, Value.string pk.val.text, Value.float FloatKind.f64 pk.val.real] 54)).cell? ⟨b, o + m * 5, none⟩ = some (.string pn) := by rw [((Below.refl _ wr).alloc (Nat.le_refl _) _).cell (World.block_lt_of_cell? wr _ q0)]; exact q0
            refine wp_region_held (S := fun W => W.cell? ⟨wr.heap.size, 0, none⟩ = some (.string pk.name) ∧ W.cell? ⟨wr.heap.size, 1, none⟩ = some (.int .i64 pk.val.kind) ∧ W.cell? ⟨wr.heap.size, 2, none⟩ = some (.int .i64 pk.val.num) ∧ W.cell? ⟨wr.heap.size, 3, none⟩ = some (.string pk.val.text) ∧ W.cell? ⟨wr.heap.size, 4, none⟩ = some (.float .f64 pk.val.real) ∧ W.cell? ⟨b, o + m * 5, none⟩ = some (.string pn)) hmix ?_
            show wpAnyH _ _ _ _ _ _ _ _ (World.drew _)
            have hS : (fun W : World => W.cell? ⟨wr.heap.size, 0, none⟩ = some (.string pk.name) ∧ W.cell? ⟨wr.heap.size, 1, none⟩ = some (.int .i64 pk.val.kind) ∧ W.cell? ⟨wr.heap.size, 2, none⟩ = some (.int .i64 pk.val.num) ∧ W.cell? ⟨wr.heap.size, 3, none⟩ = some (.string pk.val.text) ∧ W.cell? ⟨wr.heap.size, 4, none⟩ = some (.float .f64 pk.val.real) ∧ W.cell? ⟨b, o + m * 5, none⟩ = some (.string pn)) (wr.alloc (Obj.cells #[Value.string pk.name, Value.int IntKind.i64 pk.val.kind, Value.int IntKind.i64 pk.val.num, Value.string pk.val.text, Value.float FloatKind.f64 pk.val.real] 54)).drew := ⟨c0, c1, c2, c3, c4, c5⟩
            have hb1 : Below w.heap.size w (wr.alloc (Obj.cells #[Value.string pk.name, Value.int IntKind.i64 pk.val.kind, Value.int IntKind.i64 pk.val.num, Value.string pk.val.text, Value.float FloatKind.f64 pk.val.real] 54)).drew := hbA.drew
            have hs1 : (wr.alloc (Obj.cells #[Value.string pk.name, Value.int IntKind.i64 pk.val.kind, Value.int IntKind.i64 pk.val.num, Value.string pk.val.text, Value.float FloatKind.f64 pk.val.real] 54)).drew.heap.size = wr.heap.size + 1 := hsA
            clear c0 c1 c2 c3 c4 c5 hbA hsA
            generalize (wr.alloc (Obj.cells #[Value.string pk.name, Value.int IntKind.i64 pk.val.kind, Value.int IntKind.i64 pk.val.num, Value.string pk.val.text, Value.float FloatKind.f64 pk.val.real] 54)).drew = w1 at *
            refine wpAnyH_take (i := 0) (v := .agg #[Value.string pk.name, Value.int IntKind.i64 pk.val.kind, Value.int IntKind.i64 pk.val.num, Value.string pk.val.text, Value.float FloatKind.f64 pk.val.real]) rfl (by kernel_rfl) (by kernel_rfl) (by kernel_rfl) (fun _ _ _ h => h) (.inl ⟨by rfl, fun W' hW' => ?_⟩) hS ?_
            · obtain ⟨d0, d1, d2, d3, d4, d5⟩ := hW'
              go_simp
            simp only [Act.put, List.getElem_toArray, List.getElem_cons_succ, List.getElem_cons_zero, List.setIfInBounds_toArray, List.set_cons_succ, List.set_cons_zero]
            refine wpAnyH_one (i := 1) (by kernel_rfl) rfl (by rfl) (fun K hK => ?_)
            go_simp
            refine (HC _).mono ?_
            rintro e w2 ⟨rfl, hb2⟩
            have hS2 : (fun W : World => W.cell? ⟨wr.heap.size, 0, none⟩ = some (.string pk.name) ∧ W.cell? ⟨wr.heap.size, 1, none⟩ = some (.int .i64 pk.val.kind) ∧ W.cell? ⟨wr.heap.size, 2, none⟩ = some (.int .i64 pk.val.num) ∧ W.cell? ⟨wr.heap.size, 3, none⟩ = some (.string pk.val.text) ∧ W.cell? ⟨wr.heap.size, 4, none⟩ = some (.float .f64 pk.val.real) ∧ W.cell? ⟨b, o + m * 5, none⟩ = some (.string pn)) w2 := by
              obtain ⟨d0, d1, d2, d3, d4, d5⟩ := hS
              exact ⟨by rw [hb2.cell (by dsimp only; omega)]; exact d0, by rw [hb2.cell (by dsimp only; omega)]; exact d1, by rw [hb2.cell (by dsimp only; omega)]; exact d2, by rw [hb2.cell (by dsimp only; omega)]; exact d3, by rw [hb2.cell (by dsimp only; omega)]; exact d4, by rw [hb2.cell (World.block_lt_of_cell? w1 _ d5)]; exact d5⟩
            have hb02 : Below w.heap.size w w2 := hb1.trans (hb2.mono (by omega))
            show K _ _
            refine hK _ _ hS2 ?_
            clear hK K
            refine wpAnyH_take (i := 2) (v := .bool false) rfl (by kernel_rfl) (by kernel_rfl) (by kernel_rfl) (fun _ _ _ h => h) (.inl ⟨by rfl, fun W' hW' => ?_⟩) hS2 ?_
            · go_simp
            simp only [Act.put, List.getElem_toArray, List.getElem_cons_succ, List.getElem_cons_zero, List.setIfInBounds_toArray, List.set_cons_succ, List.set_cons_zero]
            refine wpAnyH_take (i := 3) (v := .bool false) rfl (by kernel_rfl) (by kernel_rfl) (by kernel_rfl) (fun _ _ _ h => h) (.inl ⟨by rfl, fun W' hW' => ?_⟩) hS2 ?_
            · go_simp
            simp only [Act.put, List.getElem_toArray, List.getElem_cons_succ, List.getElem_cons_zero, List.setIfInBounds_toArray, List.set_cons_succ, List.set_cons_zero]
            refine wpAnyH_take (i := 4) (v := .int .i64 (m + 1 : Nat)) rfl (by kernel_rfl) (by kernel_rfl) (by kernel_rfl) (fun _ _ _ h => h) (.inl ⟨by rfl, fun W' hW' => ?_⟩) hS2 ?_
            · go_simp
            simp only [Act.put, List.getElem_toArray, List.getElem_cons_succ, List.getElem_cons_zero, List.setIfInBounds_toArray, List.set_cons_succ, List.set_cons_zero]
            refine wpAnyH_take (i := 5) (v := .bool true) rfl (by kernel_rfl) (by kernel_rfl) (by kernel_rfl) (fun _ _ _ h => h) (.inl ⟨by rfl, fun W' hW' => ?_⟩) hS2 ?_
            · go_simp
            simp only [Act.put, List.getElem_toArray, List.getElem_cons_succ, List.getElem_cons_zero, List.setIfInBounds_toArray, List.set_cons_succ, List.set_cons_zero]
            refine wpAnyH_take (i := 6) (v := .bool true) rfl (by kernel_rfl) (by kernel_rfl) (by kernel_rfl) (fun _ _ _ h => h) (.inl ⟨by rfl, fun W' hW' => ?_⟩) hS2 ?_
            · go_simp
            simp only [Act.put, List.getElem_toArray, List.getElem_cons_succ, List.getElem_cons_zero, List.setIfInBounds_toArray, List.set_cons_succ, List.set_cons_zero]
            refine wpAnyH_take (i := 7) (v := .slice (some ⟨b, o, none⟩) l.length c) rfl (by kernel_rfl) (by kernel_rfl) (by kernel_rfl) (fun _ _ _ h => h) (.inl ⟨by rfl, fun W' hW' => ?_⟩) hS2 ?_
            · go_simp
            simp only [Act.put, List.getElem_toArray, List.getElem_cons_succ, List.getElem_cons_zero, List.setIfInBounds_toArray, List.set_cons_succ, List.set_cons_zero]
            refine wpAnyH_take (i := 8) (v := .int .i64 (m + 1 : Nat)) rfl (by kernel_rfl) (by kernel_rfl) (by kernel_rfl) (fun _ _ _ h => h) (.inl ⟨by rfl, fun W' hW' => ?_⟩) hS2 ?_
            · go_simp
            simp only [Act.put, List.getElem_toArray, List.getElem_cons_succ, List.getElem_cons_zero, List.setIfInBounds_toArray, List.set_cons_succ, List.set_cons_zero]
            refine wpAnyH_take (i := 9) (v := .int .i64 (m : Int)) rfl (by kernel_rfl) (by kernel_rfl) (by kernel_rfl) (fun _ _ _ h => h) (.inl ⟨by rfl, fun W' hW' => ?_⟩) hS2 ?_
            · go_simp
              rw [IntKind.wrap_i64]; omega
            simp only [Act.put, List.getElem_toArray, List.getElem_cons_succ, List.getElem_cons_zero, List.setIfInBounds_toArray, List.set_cons_succ, List.set_cons_zero]
            refine wpAnyH_take (i := 10) (v := .pointer (some ⟨b, o + m * 5, none⟩)) rfl (by kernel_rfl) (by kernel_rfl) (by kernel_rfl) (fun _ _ _ h => h) (.inl ⟨by rfl, fun W' hW' => ?_⟩) hS2 ?_
            · go_simp
              intro hh; omega
            simp only [Act.put, List.getElem_toArray, List.getElem_cons_succ, List.getElem_cons_zero, List.setIfInBounds_toArray, List.set_cons_succ, List.set_cons_zero]
            refine wpAnyH_take (i := 11) (v := .pointer (some ⟨b, o + m * 5, none⟩)) rfl (by kernel_rfl) (by kernel_rfl) (by kernel_rfl) (fun _ _ _ h => h) (.inl ⟨by rfl, fun W' hW' => ?_⟩) hS2 ?_
            · go_simp
            simp only [Act.put, List.getElem_toArray, List.getElem_cons_succ, List.getElem_cons_zero, List.setIfInBounds_toArray, List.set_cons_succ, List.set_cons_zero]
            refine wpAnyH_take (i := 12) (v := .string pn) rfl (by kernel_rfl) (by kernel_rfl) (by kernel_rfl) (fun _ _ _ h => h) (.inl ⟨by rfl, fun W' hW' => ?_⟩) hS2 ?_
            · obtain ⟨d0, d1, d2, d3, d4, d5⟩ := hW'
              go_simp
            simp only [Act.put, List.getElem_toArray, List.getElem_cons_succ, List.getElem_cons_zero, List.setIfInBounds_toArray, List.set_cons_succ, List.set_cons_zero]
            refine wpAnyH_take (i := 13) (v := .pointer (some ⟨wr.heap.size, 0, none⟩)) rfl (by kernel_rfl) (by kernel_rfl) (by kernel_rfl) (fun _ _ _ h => h) (.inl ⟨by rfl, fun W' hW' => ?_⟩) hS2 ?_
            · go_simp
            simp only [Act.put, List.getElem_toArray, List.getElem_cons_succ, List.getElem_cons_zero, List.setIfInBounds_toArray, List.set_cons_succ, List.set_cons_zero]
            refine wpAnyH_take (i := 14) (v := .string pk.name) rfl (by kernel_rfl) (by kernel_rfl) (by kernel_rfl) (fun _ _ _ h => h) (.inl ⟨by rfl, fun W' hW' => ?_⟩) hS2 ?_
            · obtain ⟨d0, d1, d2, d3, d4, d5⟩ := hW'
              go_simp
            simp only [Act.put, List.getElem_toArray, List.getElem_cons_succ, List.getElem_cons_zero, List.setIfInBounds_toArray, List.set_cons_succ, List.set_cons_zero]
            refine wpAnyH_take (i := 15) (v := .bool true) rfl (by kernel_rfl) (by kernel_rfl) (by kernel_rfl) (fun _ _ _ h => h) (.inl ⟨by rfl, fun W' hW' => ?_⟩) hS2 ?_
            · go_simp
            simp only [Act.put, List.getElem_toArray, List.getElem_cons_succ, List.getElem_cons_zero, List.setIfInBounds_toArray, List.set_cons_succ, List.set_cons_zero]
            refine wpAnyH_take (i := 16) (v := .bool true) rfl (by kernel_rfl) (by kernel_rfl) (by kernel_rfl) (fun _ _ _ h => h) (.inl ⟨by rfl, fun W' hW' => ?_⟩) hS2 ?_
            · go_simp
            simp only [Act.put, List.getElem_toArray, List.getElem_cons_succ, List.getElem_cons_zero, List.setIfInBounds_toArray, List.set_cons_succ, List.set_cons_zero]
            refine wpAnyH_take (i := 17) (v := .bool true) rfl (by kernel_rfl) (by kernel_rfl) (by kernel_rfl) (fun _ _ _ h => h) (.inl ⟨by rfl, fun W' hW' => ?_⟩) hS2 ?_
            · go_simp
            simp only [Act.put, List.getElem_toArray, List.getElem_cons_succ, List.getElem_cons_zero, List.setIfInBounds_toArray, List.set_cons_succ, List.set_cons_zero]
            refine wpAnyH_done (by kernel_rfl) ?_ _
            go_wp2
            go_ret
            exact ⟨ret_b (by first | rfl | exact hr.symm), hb02⟩
    · have h4 := KA.out k (by omega)
      rw [hz.out] at h4
      go_wp2
      go_ret
      exact ⟨ret_b h4, hbr⟩

theorem valid7 (w : World) (v : Value) (l : List Pr) (h : RdP w v l) : Calls Tryz.prog 33 #[v] w fun e w' => e = .returned (.bool (validL l)) ∧ Below w.heap.size w w' := by
  rcases h with ⟨⟨a, c, rfl⟩, rfl⟩ | ⟨b, o, c, rfl, _, h⟩
  · exact valid7_nil w a c
  · exact valid7_some w l b o c h
end Go.Proofs.YtlbcefocmdnlgaaGreatDoor

namespace Go.Proofs.YtlbcefocmdnlgaaGreatDoor
open Go.RowKit Go.Lib Ieee

def prC (p : Pr) : List Value := [.string p.name, .int .i64 p.val.kind, .int .i64 p.val.num, .string p.val.text, .float .f64 p.val.real]
def cellsP (l : List Pr) : List Value := l.flatMap prC
theorem cellsP_len (l : List Pr) : (cellsP l).length = l.length * 5 := by
  induction l with
  | nil => rfl
  | cons a l ih => simp [cellsP, prC] at ih ⊢; omega
theorem cellsP_app (l m : List Pr) : cellsP (l ++ m) = cellsP l ++ cellsP m := by simp [cellsP]
theorem cellsP_at : ∀ (l : List Pr) (i : Nat) (h : i < l.length) (j : Nat), j < 5 → (cellsP l)[i * 5 + j]? = (prC l[i])[j]?
  | a :: l, 0, _, j, hj => by
    simp only [cellsP, List.flatMap_cons, List.getElem_cons_zero, Nat.zero_mul, Nat.zero_add]
    rw [List.getElem?_append_left (by simp [prC]; omega)]
  | a :: l, i + 1, h, j, hj => by
    have := cellsP_at l i (by simpa using h) j hj
    simp only [cellsP, List.flatMap_cons, List.getElem_cons_succ] at this ⊢
    rw [List.getElem?_append_right (by simp [prC]; omega), ← this]
    congr 1
    simp [prC]
    omega
theorem cellsP_one (l : List Pr) : ∀ u ∈ cellsP l, u.oneCell' = true := by
  intro u hu
  simp only [cellsP, List.mem_flatMap] at hu
  obtain ⟨p, _, hu⟩ := hu
  simp only [prC, List.mem_cons, List.not_mem_nil, or_false] at hu
  rcases hu with rfl | rfl | rfl | rfl | rfl <;> rfl

theorem info33 : (Tryz.prog.info? 54).map (fun i => (i.zero, i.size, i.bytes)) = some (some (.agg #[.string ⟨#[]⟩, .int .i64 0, .int .i64 0, .string ⟨#[]⟩, .float .f64 0]), 5, 56) := by kernel_rfl

/-- A list in the call's own memory, from block B on. -/
def OwnP (w : World) (B : Nat) (v : Value) (l : List Pr) : Prop := w.ownsRow B 54 5 v l.length (cellsP l)

theorem prAt_cells {w : World} {b o : Nat} {l : List Pr} (h : ∀ i (h : i < l.length), PrAt w b (o + i * 5) l[i]) : ∀ j u, (cellsP l)[j]? = some u → w.cell? ⟨b, o + j, none⟩ = some u := by
  intro j u hu
  have hj : j < l.length * 5 := by
    rcases Nat.lt_or_ge j (l.length * 5) with h' | h'
    · exact h'
    · rw [List.getElem?_eq_none (by rw [cellsP_len]; omega)] at hu; cases hu
  obtain ⟨i, k, rfl, hk⟩ : ∃ i k, j = i * 5 + k ∧ k < 5 := ⟨j / 5, j % 5, by omega, by omega⟩
  have hi : i < l.length := by omega
  rw [cellsP_at l i hi k hk] at hu
  obtain ⟨h0, h1, h2, h3, h4⟩ := h i hi
  match k, hk, hu with
  | 0, _, hu => simp [prC] at hu; subst hu; exact h0
  | 1, _, hu => simp [prC] at hu; subst hu; exact h1
  | 2, _, hu => simp [prC] at hu; subst hu; exact h2
  | 3, _, hu => simp [prC] at hu; subst hu; exact h3
  | 4, _, hu => simp [prC] at hu; subst hu; exact h4
theorem OwnP.rd {w : World} {B : Nat} {v : Value} {l : List Pr} (h : OwnP w B v l) : RdP w v l := by
  obtain ⟨hl, h⟩ := h
  rcases h with ⟨rfl, h0⟩ | ⟨g, cap, cur, rfl, hb, hg, hc, hm, hs, ht⟩
  · exact .inl ⟨⟨_, _, rfl⟩, List.length_eq_zero_iff.1 h0⟩
  · refine .inr ⟨g, 0, cap, rfl, hc, fun i hi => ?_⟩
    have key : ∀ j, j < 5 → w.cell? ⟨g, 0 + i * 5 + j, none⟩ = (prC l[i])[j]? := fun j hj => by
      rw [← cellsP_at l i hi j hj, ← ht, List.getElem?_take_of_lt (by omega)]
      simp [World.cell?, hg]
    exact ⟨key 0 (by omega), key 1 (by omega), key 2 (by omega), key 3 (by omega), key 4 (by omega)⟩
theorem OwnP.low {w : World} {B B' : Nat} {v : Value} {l : List Pr} (h : OwnP w B' v l) (hB : B ≤ B') : OwnP w B v l := by
  obtain ⟨hl, h⟩ := h
  refine ⟨hl, ?_⟩
  rcases h with h | ⟨g, cap, cur, hv, hb, h⟩
  · exact .inl h
  · exact .inr ⟨g, cap, cur, hv, by omega, h⟩
theorem OwnP.up {w w' : World} {B : Nat} {v : Value} {l : List Pr} (h : OwnP w B v l) (hb : Below w.heap.size w w') : OwnP w' B v l := by
  obtain ⟨hl, h⟩ := h
  refine ⟨hl, ?_⟩
  rcases h with h | ⟨g, cap, cur, hv, hg, hc, h⟩
  · exact .inl h
  · have hlt : g < w.heap.size := by
      rcases Nat.lt_or_ge g w.heap.size with h1 | h1
      · exact h1
      · rw [Array.getElem?_eq_none h1] at hc; cases hc
    exact .inr ⟨g, cap, cur, hv, hg, by rw [hb.block g hlt]; exact hc, h⟩

theorem appP {o : Oper} {a : Act} {K : Act → World → Prop} {Q : Exit → Act → World → Prop} (s x : Operand)
    (ho : o.op = .call { callee := .builtin .append, args := #[s, x], argTypes := #[26, 26] }) (B : Nat) (v vx : Value) (l l2 : List Pr) (w : World)
    (hs : a.eval s = v) (hown : OwnP w B v l) (hx : a.eval x = vx) (hsrc : RdP w vx l2) (hn : l.length + l2.length ≤ 100000) (hB : B ≤ w.heap.size)
    (h : ∀ v' w', OwnP w' B v' (l ++ l2) → Below B w w' → K (a.put o.dst v') w') : o.wp Tryz.prog a w K Q := by
  obtain ⟨i0, hi, hz0, hz1, hz2⟩ := info_parts info33
  rcases hsrc with ⟨⟨ad, c, rfl⟩, rfl⟩ | ⟨b, off, c, rfl, hc, hsrc⟩
  · have hrun : (Builtin.append_ #[26, 26] o.type #[v, .slice ad 0 c]).run Tryz.prog w = .ok v w := by
      rcases hown.2 with ⟨rfl, _⟩ | ⟨g, cap, cur, rfl, _, _, hnc, _⟩
      · cases ad <;> simp [Builtin.append_, run_underlying Tryz.underlying26, sizeOf, typeInfo, hi, Builtin.lenOf, Builtin.firstCells, loadCells, loadCellsFrom]
      · cases ad <;> simp [Builtin.append_, run_underlying Tryz.underlying26, sizeOf, typeInfo, hi, Builtin.lenOf, Builtin.firstCells, hnc, storeCells, loadCells, loadCellsFrom]
    unfold Oper.wp execOp
    simp only [ho, resolve, invoke, builtin, Sem.run_bind, Sem.run_pure, Result.andThen_ok, List.map_toArray, List.map_cons, List.map_nil, hs, hx, hrun]
    exact h v w (by rw [List.append_nil]; exact hown) (Below.refl _ _)
  · refine wp_append_own _ s x 26 ho B 54 i0 (.agg #[.string ⟨#[]⟩, .int .i64 0, .int .i64 0, .string ⟨#[]⟩, .float .f64 0]) 5 56 Tryz.underlying26 hi hz0 hz1 hz2 rfl (by decide) v l.length (cellsP l) hs hown ⟨b, off, none⟩ l2.length c (cellsP l2) hx (cellsP_len l2) ?_ (cellsP_one l2) (by unfold maxLen; omega) (by omega) hB ?_
    · intro j u hj
      rw [Addr.add_lit]
      exact prAt_cells hsrc j u hj
    · intro v' w' h1 h2 _
      refine h v' w' ?_ ?_
      · unfold OwnP
        rw [List.length_append, cellsP_app]
        exact h1
      · exact (Below.refl B w).grown h2 hB (fun k hk => (World.ownsRow.lt hown k hk).1)

end Go.Proofs.YtlbcefocmdnlgaaGreatDoor

namespace Go.Proofs.YtlbcefocmdnlgaaGreatDoor
open Go.RowKit

/-- Elements of k cells each, told by their cells and by what they are. -/
abbrev Zs (α : Type) := List (List Value × α)
def cellsZ {α : Type} (zs : Zs α) : List Value := zs.flatMap (·.1)
theorem cellsZ_app {α : Type} (a b : Zs α) : cellsZ (a ++ b) = cellsZ a ++ cellsZ b := by simp [cellsZ]
theorem cellsZ_len {α : Type} {k : Nat} : ∀ {zs : Zs α}, (∀ z ∈ zs, z.1.length = k) → (cellsZ zs).length = zs.length * k
  | [], _ => by simp [cellsZ]
  | z :: zs, h => by
    have := cellsZ_len (k := k) (zs := zs) (fun y hy => h y (List.mem_cons_of_mem _ hy))
    simp only [cellsZ, List.flatMap_cons, List.length_append, List.length_cons] at this ⊢
    rw [this, h z (List.mem_cons_self ..), Nat.succ_mul, Nat.add_comm]
theorem cellsZ_at {α : Type} {k : Nat} : ∀ {zs : Zs α}, (∀ z ∈ zs, z.1.length = k) → ∀ (i : Nat) (h : i < zs.length) (j : Nat), j < k → (cellsZ zs)[i * k + j]? = (zs[i].1)[j]?
  | z :: zs, hk, 0, _, j, hj => by
    simp only [cellsZ, List.flatMap_cons, List.getElem_cons_zero, Nat.zero_mul, Nat.zero_add]
    rw [List.getElem?_append_left (by rw [hk z (List.mem_cons_self ..)]; exact hj)]
  | z :: zs, hk, i + 1, h, j, hj => by
    have := cellsZ_at (k := k) (zs := zs) (fun y hy => hk y (List.mem_cons_of_mem _ hy)) i (by simpa using h) j hj
    simp only [cellsZ, List.flatMap_cons, List.getElem_cons_succ] at this ⊢
    have hz := hk z (List.mem_cons_self ..)
    rw [List.getElem?_append_right (by rw [hz, Nat.succ_mul]; omega), ← this]
    congr 1
    rw [hz, Nat.succ_mul]
    omega
theorem cellsZ_take {α : Type} {k : Nat} : ∀ {zs : Zs α}, (∀ z ∈ zs, z.1.length = k) → ∀ i, (cellsZ zs).take (i * k) = cellsZ (zs.take i)
  | [], _, i => by simp [cellsZ]
  | z :: zs, hk, 0 => by simp [cellsZ]
  | z :: zs, hk, i + 1 => by
    have := cellsZ_take (k := k) (zs := zs) (fun y hy => hk y (List.mem_cons_of_mem _ hy)) i
    simp only [cellsZ, List.flatMap_cons, List.take_succ_cons] at this ⊢
    have hz := hk z (List.mem_cons_self ..)
    rw [List.take_append, hz, List.take_of_length_le (by rw [hz, Nat.succ_mul]; omega), ← this, Nat.succ_mul, Nat.add_sub_cancel]
theorem cellsZ_drop {α : Type} {k : Nat} : ∀ {zs : Zs α}, (∀ z ∈ zs, z.1.length = k) → ∀ i, (cellsZ zs).drop (i * k) = cellsZ (zs.drop i)
  | [], _, i => by simp [cellsZ]
  | z :: zs, hk, 0 => by simp [cellsZ]
  | z :: zs, hk, i + 1 => by
    have := cellsZ_drop (k := k) (zs := zs) (fun y hy => hk y (List.mem_cons_of_mem _ hy)) i
    simp only [cellsZ, List.flatMap_cons, List.drop_succ_cons] at this ⊢
    have hz := hk z (List.mem_cons_self ..)
    rw [List.drop_append, hz, List.drop_of_length_le (by rw [hz, Nat.succ_mul]; omega), ← this, Nat.succ_mul, Nat.add_sub_cancel, List.nil_append]

/-- clear of a slice of elements of several cells, in a row of the call's own. -/
theorem run_clear_row {P : Program} (w : World) (t e ty : TypeId) (z : Value) (ht : P.underlying t = some (.slice e)) (hv : ∀ w, (zeroValue e).run P w = .ok z w) (h1 : ∀ u ∈ z.cells.toList, u.oneCell' = true)
    (g o n c : Nat) (hn : 0 < n) (cur : Array Value) (hg : w.heap[g]? = some (.cells cur e (0, 0))) (hfit : o + n * z.cells.size ≤ cur.size) :
    ∃ zs : List Value, zs.length = n * z.cells.size ∧ (Builtin.clear_ #[t] ty #[.slice (some ⟨g, o, none⟩) n c]).run P w = .ok (.tuple #[]) (w.setRow g (cur.toList.take o ++ zs ++ cur.toList.drop (o + zs.length)).toArray) := by
  have hl : (Builtin.zeroCells z.cells n).toList.length = n * z.cells.size := by simp [Builtin.zeroCells]
  refine ⟨(Builtin.zeroCells z.cells n).toList, hl, ?_⟩
  have hone : ∀ u ∈ (Builtin.zeroCells z.cells n).toList, u.oneCell' = true := by
    intro u hu
    simp only [Builtin.zeroCells, Array.toList_map, List.mem_map] at hu
    obtain ⟨i, hi, rfl⟩ := hu
    have hi2 : i < n * z.cells.size := by simpa using hi
    have hpos : 0 < z.cells.size := by
      rcases Nat.eq_zero_or_pos z.cells.size with h0 | h0
      · rw [h0] at hi2; omega
      · exact h0
    have hm := Nat.mod_lt i hpos
    rw [getElem!_pos z.cells (i % z.cells.size) hm]
    exact h1 _ (by simp)
  have hst := run_storeCells_at P g o e (Builtin.zeroCells z.cells n).toList 0 cur w hg (by rw [hl]; omega) hone
  obtain ⟨m, rfl⟩ : ∃ m, n = m + 1 := ⟨n - 1, by omega⟩
  simp only [Nat.add_zero] at hst
  simp [Builtin.clear_, run_underlying ht, hv, hst]
end Go.Proofs.YtlbcefocmdnlgaaGreatDoor

namespace Go.Proofs.YtlbcefocmdnlgaaGreatDoor
open Go.RowKit Go.Lib

/-- A text as a value. -/
abbrev tx (l : List UInt8) : Value := .string ⟨l.toArray⟩
def msgV (m : Msg) (pv : Value) : List Value := [tx m.topic, tx m.body, pv, .bool m.dur, .int .i64 m.til]
def itmV (x : Itm) (pv : Value) : List Value := [.int .i64 x.seq, .bool x.again, tx x.msg.topic, tx x.msg.body, pv, .bool x.msg.dur, .int .i64 x.msg.til]
def hldV (h : Hld) (pv : Value) : List Value := [.int .i64 h.tag, .int .i64 h.conn, .int .i64 h.sub, .int .i64 h.itm.seq, .bool h.itm.again, tx h.itm.msg.topic, tx h.itm.msg.body, pv, .bool h.itm.msg.dur, .int .i64 h.itm.msg.til]
def queV (q : Que) (iv hv : Value) : Value := .agg #[tx q.name, .bool q.dur, .int .i64 q.depth, .int .i64 q.seq, .int .i64 q.tag, iv, hv]

/-- An item's, a held one's cells: its properties satisfy p. -/
def ItR (p : Value → List Pr → Prop) (vs : List Value) (x : Itm) : Prop := ∃ pv, vs = itmV x pv ∧ p pv x.msg.props
def HeR (p : Value → List Pr → Prop) (vs : List Value) (h : Hld) : Prop := ∃ pv, vs = hldV h pv ∧ p pv h.itm.msg.props

theorem RdP.one {w : World} {v : Value} {l : List Pr} (h : RdP w v l) : v.oneCell' = true := by
  rcases h with ⟨⟨a, c, rfl⟩, _⟩ | ⟨b, o, c, rfl, _⟩ <;> rfl

/-- A slice whose elements' cells R tells. -/
def RdZ {α : Type} (k : Nat) (R : List Value → α → Prop) (w : World) (v : Value) (zs : Zs α) : Prop :=
  (((∃ a c, v = .slice a 0 c) ∧ zs = []) ∨ ∃ (b o c : Nat), v = .slice (some ⟨b, o, none⟩) zs.length c ∧ zs.length ≤ c ∧ ∀ j u, (cellsZ zs)[j]? = some u → w.cell? ⟨b, o + j, none⟩ = some u)
  ∧ ∀ z ∈ zs, (z.1.length = k ∧ ∀ u ∈ z.1, u.oneCell' = true) ∧ R z.1 z.2
def RdL {α : Type} (k : Nat) (R : List Value → α → Prop) (w : World) (v : Value) (l : List α) : Prop := ∃ zs : Zs α, zs.map (·.2) = l ∧ RdZ k R w v zs
def OwnZ {α : Type} (e k : Nat) (R : List Value → α → Prop) (w : World) (B : Nat) (v : Value) (zs : Zs α) : Prop :=
  w.ownsRow B e k v zs.length (cellsZ zs) ∧ ∀ z ∈ zs, (z.1.length = k ∧ ∀ u ∈ z.1, u.oneCell' = true) ∧ R z.1 z.2
def OwnL {α : Type} (e k : Nat) (R : List Value → α → Prop) (w : World) (B : Nat) (v : Value) (l : List α) : Prop := ∃ zs : Zs α, zs.map (·.2) = l ∧ OwnZ e k R w B v zs

theorem RdZ.imp {α : Type} {k : Nat} {R R' : List Value → α → Prop} {w : World} {v : Value} {zs : Zs α} (h : RdZ k R w v zs) (hR : ∀ vs x, R vs x → R' vs x) : RdZ k R' w v zs := ⟨h.1, fun z hz => ⟨(h.2 z hz).1, hR _ _ (h.2 z hz).2⟩⟩
theorem OwnZ.imp {α : Type} {e k : Nat} {R R' : List Value → α → Prop} {w : World} {B : Nat} {v : Value} {zs : Zs α} (h : OwnZ e k R w B v zs) (hR : ∀ vs x, R vs x → R' vs x) : OwnZ e k R' w B v zs := ⟨h.1, fun z hz => ⟨(h.2 z hz).1, hR _ _ (h.2 z hz).2⟩⟩
theorem RdZ.len {α : Type} {k : Nat} {R : List Value → α → Prop} {w : World} {v : Value} {zs : Zs α} (h : RdZ k R w v zs) : ∃ a c, v = .slice a zs.length c := by
  rcases h.1 with ⟨⟨a, c, rfl⟩, rfl⟩ | ⟨b, o, c, rfl, _⟩
  · exact ⟨a, c, rfl⟩
  · exact ⟨_, c, rfl⟩
theorem RdZ.on {α : Type} {k : Nat} {R : List Value → α → Prop} {w w' : World} {v : Value} {zs : Zs α} (h : RdZ k R w v zs) (hb : Below w.heap.size w w') : RdZ k R w' v zs := by
  refine ⟨?_, h.2⟩
  rcases h.1 with h | ⟨b, o, c, rfl, hc, h⟩
  · exact .inl h
  · refine .inr ⟨b, o, c, rfl, hc, fun j u hu => ?_⟩
    have h1 := h j u hu
    rw [hb.cell (World.block_lt_of_cell? w _ h1)]
    exact h1
/-- The cells of one element. -/
theorem RdZ.cells {α : Type} {k : Nat} {R : List Value → α → Prop} {w : World} {b o n c : Nat} {zs : Zs α} (h : RdZ k R w (.slice (some ⟨b, o, none⟩) n c) zs) {i : Nat} (hi : i < zs.length) :
    ∀ j u, (zs[i].1)[j]? = some u → w.cell? ⟨b, o + i * k + j, none⟩ = some u := by
  rcases h.1 with ⟨_, rfl⟩ | ⟨b', o', c', e, hc, h1⟩
  · simp at hi
  · injection e with e1 e2 e3
    injection e1 with e1
    injection e1 with e1 e4 e5
    subst e1 e4
    intro j u hu
    have hk := (h.2 _ (List.getElem_mem hi)).1.1
    have hj : j < k := by rw [← hk]; exact (List.getElem?_eq_some_iff.1 hu).1
    rw [← cellsZ_at (fun z hz => (h.2 z hz).1.1) i hi j hj] at hu
    rw [Nat.add_assoc]
    exact h1 _ _ hu
theorem RdZ.some {α : Type} {k : Nat} {R : List Value → α → Prop} {w : World} {v : Value} {zs : Zs α} (h : RdZ k R w v zs) (h0 : 0 < zs.length) : ∃ b o c, v = .slice (some ⟨b, o, none⟩) zs.length c ∧ zs.length ≤ c := by
  rcases h.1 with ⟨_, rfl⟩ | ⟨b', o', c', e, hc, h1⟩
  · simp at h0
  · exact ⟨b', o', c', e, hc⟩
theorem OwnZ.rd {α : Type} {e k : Nat} {R : List Value → α → Prop} {w : World} {B : Nat} {v : Value} {zs : Zs α} (h : OwnZ e k R w B v zs) : RdZ k R w v zs := by
  refine ⟨?_, h.2⟩
  obtain ⟨hl, h1 | ⟨g, cap, cur, rfl, hb, hg, hc, hm, hs, ht⟩⟩ := h.1
  · exact .inl ⟨⟨_, _, h1.1⟩, List.length_eq_zero_iff.1 h1.2⟩
  · refine .inr ⟨g, 0, cap, rfl, hc, fun j u hu => ?_⟩
    have := World.ownsRow.cells (g := g) h.1 rfl j u hu
    rwa [Addr.add_lit] at this
theorem OwnZ.low {α : Type} {e k : Nat} {R : List Value → α → Prop} {w : World} {B B' : Nat} {v : Value} {zs : Zs α} (h : OwnZ e k R w B' v zs) (hB : B ≤ B') : OwnZ e k R w B v zs := by
  refine ⟨?_, h.2⟩
  obtain ⟨hl, h1 | ⟨g, cap, cur, hv, hb, h1⟩⟩ := h.1
  · exact ⟨hl, .inl h1⟩
  · exact ⟨hl, .inr ⟨g, cap, cur, hv, by omega, h1⟩⟩

/-- All blocks of a type are as they were. -/
def Kt (t : TypeId) (w w' : World) : Prop := ∀ (k : Nat) (cur : Array Value), w.heap[k]? = some (.cells cur t (0, 0)) → w'.heap[k]? = w.heap[k]?
theorem Kt.refl (t : TypeId) (w : World) : Kt t w w := fun _ _ _ => rfl
theorem Kt.trans {t : TypeId} {a b c : World} (h : Kt t a b) (h' : Kt t b c) : Kt t a c := fun k cur hk => by
  have h1 := h k cur hk
  exact (h' k cur (h1.trans hk)).trans h1
theorem Kt.of_below {t : TypeId} {w w' : World} (h : Below w.heap.size w w') : Kt t w w' := fun k _ hk => h.block k (Array.getElem?_eq_some_iff.1 hk).1
theorem Kt.of_grown {t e : TypeId} {w w' : World} {B k n : Nat} {v : Value} {xs : List Value} (h : w.ownsRow B e k v n xs) (hg : w.grownBy w' v.ownBlock) (hne : t ≠ e) : Kt t w w' := fun j cur hj => by
  refine hg.block j (Array.getElem?_eq_some_iff.1 hj).1 (fun e1 => ?_)
  obtain ⟨_, ⟨rfl, _⟩ | ⟨g, cap, cur', rfl, _, hg', _⟩⟩ := h
  · cases e1
  · simp [Value.ownBlock] at e1
    subst e1
    rw [hj] at hg'
    injection hg' with e2
    injection e2 with _ e3 _
    exact hne e3
theorem OwnZ.keep {α : Type} {e k : Nat} {R : List Value → α → Prop} {w w' : World} {B : Nat} {v : Value} {zs : Zs α} (h : OwnZ e k R w B v zs) (hk : Kt e w w') : OwnZ e k R w' B v zs := by
  refine ⟨?_, h.2⟩
  obtain ⟨hl, h1 | ⟨g, cap, cur, hv, hb, hg, h1⟩⟩ := h.1
  · exact ⟨hl, .inl h1⟩
  · exact ⟨hl, .inr ⟨g, cap, cur, hv, hb, (hk g cur hg).trans hg, h1⟩⟩
theorem OwnP.keep {w w' : World} {B : Nat} {v : Value} {l : List Pr} (h : OwnP w B v l) (hk : Kt 54 w w') : OwnP w' B v l := by
  obtain ⟨hl, h1 | ⟨g, cap, cur, hv, hb, hg, h1⟩⟩ := h
  · exact ⟨hl, .inl h1⟩
  · exact ⟨hl, .inr ⟨g, cap, cur, hv, hb, (hk g cur hg).trans hg, h1⟩⟩
theorem ItR.keep {w w' : World} {B : Nat} {vs : List Value} {x : Itm} (h : ItR (OwnP w B) vs x) (hk : Kt 54 w w') : ItR (OwnP w' B) vs x := by
  obtain ⟨pv, h1, h2⟩ := h
  exact ⟨pv, h1, h2.keep hk⟩
theorem HeR.keep {w w' : World} {B : Nat} {vs : List Value} {x : Hld} (h : HeR (OwnP w B) vs x) (hk : Kt 54 w w') : HeR (OwnP w' B) vs x := by
  obtain ⟨pv, h1, h2⟩ := h
  exact ⟨pv, h1, h2.keep hk⟩
theorem ItR.on {w w' : World} {vs : List Value} {x : Itm} (h : ItR (RdP w) vs x) (hb : Below w.heap.size w w') : ItR (RdP w') vs x := by
  obtain ⟨pv, h1, h2⟩ := h
  exact ⟨pv, h1, h2.on hb⟩
theorem HeR.on {w w' : World} {vs : List Value} {x : Hld} (h : HeR (RdP w) vs x) (hb : Below w.heap.size w w') : HeR (RdP w') vs x := by
  obtain ⟨pv, h1, h2⟩ := h
  exact ⟨pv, h1, h2.on hb⟩
theorem ItR.rd {w : World} {B : Nat} {vs : List Value} {x : Itm} (h : ItR (OwnP w B) vs x) : ItR (RdP w) vs x := by
  obtain ⟨pv, h1, h2⟩ := h
  exact ⟨pv, h1, h2.rd⟩
theorem HeR.rd {w : World} {B : Nat} {vs : List Value} {x : Hld} (h : HeR (OwnP w B) vs x) : HeR (RdP w) vs x := by
  obtain ⟨pv, h1, h2⟩ := h
  exact ⟨pv, h1, h2.rd⟩
theorem ItR.low {w : World} {B B' : Nat} {vs : List Value} {x : Itm} (h : ItR (OwnP w B') vs x) (hB : B ≤ B') : ItR (OwnP w B) vs x := by
  obtain ⟨pv, h1, h2⟩ := h
  exact ⟨pv, h1, h2.low hB⟩
theorem HeR.low {w : World} {B B' : Nat} {vs : List Value} {x : Hld} (h : HeR (OwnP w B') vs x) (hB : B ≤ B') : HeR (OwnP w B) vs x := by
  obtain ⟨pv, h1, h2⟩ := h
  exact ⟨pv, h1, h2.low hB⟩

/-- What waits, what is held: to be read; the call's own, from block B on. -/
def RdI (w : World) (v : Value) (l : List Itm) : Prop := RdL 7 (ItR (RdP w)) w v l
def RdH (w : World) (v : Value) (l : List Hld) : Prop := RdL 10 (HeR (RdP w)) w v l
def OwnI (w : World) (B : Nat) (v : Value) (l : List Itm) : Prop := OwnL 43 7 (ItR (OwnP w B)) w B v l
def OwnH (w : World) (B : Nat) (v : Value) (l : List Hld) : Prop := OwnL 61 10 (HeR (OwnP w B)) w B v l
theorem RdI.on {w w' : World} {v : Value} {l : List Itm} (h : RdI w v l) (hb : Below w.heap.size w w') : RdI w' v l := by
  obtain ⟨zs, h1, h2⟩ := h
  exact ⟨zs, h1, (h2.on hb).imp fun _ _ h => h.on hb⟩
theorem RdH.on {w w' : World} {v : Value} {l : List Hld} (h : RdH w v l) (hb : Below w.heap.size w w') : RdH w' v l := by
  obtain ⟨zs, h1, h2⟩ := h
  exact ⟨zs, h1, (h2.on hb).imp fun _ _ h => h.on hb⟩
theorem OwnI.rd {w : World} {B : Nat} {v : Value} {l : List Itm} (h : OwnI w B v l) : RdI w v l := by
  obtain ⟨zs, h1, h2⟩ := h
  exact ⟨zs, h1, h2.rd.imp fun _ _ h => h.rd⟩
theorem OwnH.rd {w : World} {B : Nat} {v : Value} {l : List Hld} (h : OwnH w B v l) : RdH w v l := by
  obtain ⟨zs, h1, h2⟩ := h
  exact ⟨zs, h1, h2.rd.imp fun _ _ h => h.rd⟩
theorem OwnI.keep {w w' : World} {B : Nat} {v : Value} {l : List Itm} (h : OwnI w B v l) (h1 : Kt 43 w w') (h2 : Kt 54 w w') : OwnI w' B v l := by
  obtain ⟨zs, h3, h4⟩ := h
  exact ⟨zs, h3, (h4.keep h1).imp fun _ _ h => h.keep h2⟩
theorem OwnH.keep {w w' : World} {B : Nat} {v : Value} {l : List Hld} (h : OwnH w B v l) (h1 : Kt 61 w w') (h2 : Kt 54 w w') : OwnH w' B v l := by
  obtain ⟨zs, h3, h4⟩ := h
  exact ⟨zs, h3, (h4.keep h1).imp fun _ _ h => h.keep h2⟩
theorem OwnI.low {w : World} {B B' : Nat} {v : Value} {l : List Itm} (h : OwnI w B' v l) (hB : B ≤ B') : OwnI w B v l := by
  obtain ⟨zs, h1, h2⟩ := h
  exact ⟨zs, h1, (h2.low hB).imp fun _ _ h => h.low hB⟩
theorem OwnH.low {w : World} {B B' : Nat} {v : Value} {l : List Hld} (h : OwnH w B' v l) (hB : B ≤ B') : OwnH w B v l := by
  obtain ⟨zs, h1, h2⟩ := h
  exact ⟨zs, h1, (h2.low hB).imp fun _ _ h => h.low hB⟩
theorem RdL.len {α : Type} {k : Nat} {R : List Value → α → Prop} {w : World} {v : Value} {l : List α} (h : RdL k R w v l) : ∃ a c, v = .slice a l.length c := by
  obtain ⟨zs, rfl, h⟩ := h
  obtain ⟨a, c, h⟩ := h.len
  exact ⟨a, c, by rw [h, List.length_map]⟩
/-- A queue to be read; the call's own. -/
def RdQ (w : World) (v : Value) (q : Que) : Prop := ∃ iv hv, v = queV q iv hv ∧ RdI w iv q.items ∧ RdH w hv q.held
def OwnQ (w : World) (B : Nat) (v : Value) (q : Que) : Prop := ∃ iv hv, v = queV q iv hv ∧ OwnI w B iv q.items ∧ OwnH w B hv q.held
theorem RdQ.on {w w' : World} {v : Value} {q : Que} (h : RdQ w v q) (hb : Below w.heap.size w w') : RdQ w' v q := by
  obtain ⟨iv, hv, h1, h2, h3⟩ := h
  exact ⟨iv, hv, h1, h2.on hb, h3.on hb⟩
theorem OwnQ.rd {w : World} {B : Nat} {v : Value} {q : Que} (h : OwnQ w B v q) : RdQ w v q := by
  obtain ⟨iv, hv, h1, h2, h3⟩ := h
  exact ⟨iv, hv, h1, h2.rd, h3.rd⟩
theorem OwnQ.on {w w' : World} {B : Nat} {v : Value} {q : Que} (h : OwnQ w B v q) (hb : Below w.heap.size w w') : OwnQ w' B v q := by
  obtain ⟨iv, hv, h1, h2, h3⟩ := h
  exact ⟨iv, hv, h1, h2.keep (.of_below hb) (.of_below hb), h3.keep (.of_below hb) (.of_below hb)⟩
theorem nxt {a b c : World} (h1 : Below a.heap.size a b) (h2 : Below b.heap.size b c) : Below a.heap.size a c := h1.trans (h2.mono h1.size)
end Go.Proofs.YtlbcefocmdnlgaaGreatDoor
