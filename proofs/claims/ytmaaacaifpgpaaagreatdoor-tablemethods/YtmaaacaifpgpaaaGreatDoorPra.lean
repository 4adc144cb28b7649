
/- What the document's Good and Name answer. -/
import Derived.Test.YtmaaacaifpgpaaaGreatDoorQb
namespace Go.Proofs.YtmaaacaifpgpaaaGreatDoor
open Go.RowKit Go.Lib Ieee

theorem emp_list (t : ByteArray) : (t.toList == (⟨#[]⟩ : ByteArray).toList) = t.toList.isEmpty := by
  have e : (⟨#[]⟩ : ByteArray).toList = [] := by rw [ByteArray.toList_eq]
  rw [e]
  cases t.toList <;> rfl
theorem goodV_ref (k n : Int) (t : ByteArray) (r : Nat) : goodV ⟨k, n, t, r⟩ =
    if k = 1 then t.toList.isEmpty && ((r : Int) == 0)
    else if k = 2 then t.toList.isEmpty && ((r : Int) == 0) && decide (n ≥ 0) && decide (n ≤ 1)
    else if k = 3 then (n == 0) && ((r : Int) == 0) && decide ((t.size : Int) ≤ 256)
    else (k == 4) && (n == 0) && t.toList.isEmpty && decide (r = canonB r) := by
  unfold goodV sameV
  dsimp only
  rw [emp_list]
  by_cases h1 : k = 1
  · subst h1
    rw [if_pos rfl, if_pos rfl]
    simp
  by_cases h2 : k = 2
  · subst h2
    rw [if_neg h1, if_pos rfl, if_neg h1, if_pos rfl]
    rw [Bool.eq_iff_iff]
    simp only [Bool.and_eq_true, Bool.or_eq_true, beq_iff_eq, decide_eq_true_eq]
    constructor
    · rintro ⟨hn, _, _, ht, hr⟩; exact ⟨⟨⟨ht, by simpa using hr⟩, by omega⟩, by omega⟩
    · rintro ⟨⟨⟨ht, hr⟩, h3⟩, h4⟩; exact ⟨by omega, trivial, trivial, ht, by simpa using hr⟩
  by_cases h3 : k = 3
  · subst h3
    rw [if_neg h1, if_neg h2, if_pos rfl, if_neg h1, if_neg h2, if_pos rfl]
    rw [Bool.eq_iff_iff]
    simp only [Bool.and_eq_true, beq_iff_eq, decide_eq_true_eq]
    constructor
    · rintro ⟨ht, _, hn, _, hr⟩; exact ⟨⟨hn, by simpa using hr⟩, ht⟩
    · rintro ⟨⟨hn, hr⟩, ht⟩; exact ⟨ht, trivial, hn, trivial, by simpa using hr⟩
  by_cases h4 : k = 4
  · subst h4
    rw [if_neg h1, if_neg h2, if_neg h3, if_pos rfl, if_neg h1, if_neg h2, if_neg h3]
    rw [Bool.eq_iff_iff]
    simp only [Bool.and_eq_true, beq_iff_eq, decide_eq_true_eq]
    constructor
    · rintro ⟨_, hn, ht, hr⟩; exact ⟨⟨⟨trivial, hn⟩, ht⟩, by omega⟩
    · rintro ⟨⟨⟨_, hn⟩, ht⟩, hr⟩; exact ⟨trivial, hn, ht, by omega⟩
  · rw [if_neg h1, if_neg h2, if_neg h3, if_neg h4, if_neg h1, if_neg h2, if_neg h3]
    simp [h4]

set_option maxRecDepth 4000 in
set_option maxHeartbeats 1000000 in
theorem rgood7 (w : World) (a : Val) (ha : a.real < 2 ^ 64) :
    Calls Tryz.prog 52 #[a.v] w fun e w' => e = .returned (.bool (goodV a)) ∧ Below w.heap.size w w' := by
  obtain ⟨k, n, t, r⟩ := a
  rw [goodV_ref]
  dsimp only at ha
  have HB := fun W : World => rbits_any W r
  have HC := fun W : World => rcanon_any W r ha
  have HS := fun W : World => rsame_any W r (canonB r)
  have hb1 : Below w.heap.size w (w.alloc (Obj.cells #[Value.int IntKind.i64 k, Value.int IntKind.i64 n, Value.string t, Value.float FloatKind.f64 r] 42)) := (Below.refl _ w).alloc (Nat.le_refl _) _
  have c0 : (w.alloc (Obj.cells #[Value.int IntKind.i64 k, Value.int IntKind.i64 n, Value.string t, Value.float FloatKind.f64 r] 42)).cell? ⟨w.heap.size, 0, none⟩ = some (.int .i64 k) := World.cell?_alloc_new ..
  have c1 : (w.alloc (Obj.cells #[Value.int IntKind.i64 k, Value.int IntKind.i64 n, Value.string t, Value.float FloatKind.f64 r] 42)).cell? ⟨w.heap.size, 1, none⟩ = some (.int .i64 n) := World.cell?_alloc_new ..
  have c2 : (w.alloc (Obj.cells #[Value.int IntKind.i64 k, Value.int IntKind.i64 n, Value.string t, Value.float FloatKind.f64 r] 42)).cell? ⟨w.heap.size, 2, none⟩ = some (.string t) := World.cell?_alloc_new ..
  have c3 : (w.alloc (Obj.cells #[Value.int IntKind.i64 k, Value.int IntKind.i64 n, Value.string t, Value.float FloatKind.f64 r] 42)).cell? ⟨w.heap.size, 3, none⟩ = some (.float .f64 r) := World.cell?_alloc_new ..
  unfold Val.v at *
  dsimp only at *
  clear ha
  go_enter Tryz.func52, Tryz.ntmps52
  go_upto_region 1 with fail
  generalize (w.alloc (Obj.cells #[Value.int IntKind.i64 k, Value.int IntKind.i64 n, Value.string t, Value.float FloatKind.f64 r] 42)) = w1 at *
  go_wp2_with fail
  refine (HB _).mono ?_
  rintro e w2 ⟨rfl, hw2⟩
  subst hw2
  clear HB
  cases er : ((r : Int) == 0) with
  | false =>
    by_cases h1 : k = 1
    · subst h1
      cases et : t.toList.isEmpty with
      | false =>
        go_wp2
        go_ret
        exact ⟨ret_b (by simp_all), hb1⟩
      | true =>
        go_wp2
        go_ret
        exact ⟨ret_b (by simp_all), hb1⟩
    by_cases h2 : k = 2
    · subst h2
      cases et : t.toList.isEmpty with
      | false =>
        go_wp2
        go_ret
        exact ⟨ret_b (by simp_all), hb1⟩
      | true =>
        by_cases hn0 : n ≥ 0
        · by_cases hn1 : n ≤ 1
          · go_wp2
            go_ret
            exact ⟨ret_b (by simp_all), hb1⟩
          · go_wp2
            go_ret
            exact ⟨ret_b (by simp_all), hb1⟩
        · have hn9 : n < 0 := by omega
          go_wp2
          go_ret
          exact ⟨ret_b (by first | (simp_all; done) | (simp_all; omega)), hb1⟩
    by_cases h3 : k = 3
    · subst h3
      cases en : (n == 0) with
      | false =>
        go_wp2
        go_ret
        exact ⟨ret_b (by simp_all), hb1⟩
      | true =>
        go_wp2
        go_ret
        exact ⟨ret_b (by simp_all), hb1⟩
    cases e4 : (k == 4) with
    | false =>
      go_upto_region 8 with fail
      go_quiet (fail)
      go_wp2
      go_ret
      exact ⟨ret_b (by simp_all), below_drewN hb1 _⟩
    | true =>
    cases en : (n == 0) with
    | false =>
      go_upto_region 8 with fail
      go_quiet (fail)
      go_wp2
      go_ret
      exact ⟨ret_b (by simp_all), below_drewN hb1 _⟩
    | true =>
    cases et : t.toList.isEmpty with
    | false =>
      go_upto_region 8 with fail
      go_quiet (fail)
      go_wp2
      go_ret
      exact ⟨ret_b (by simp_all), below_drewN hb1 _⟩
    | true =>
      go_upto_region 8 with fail
      go_quiet (first | (go_at_call 61; exact Calls.quiet_of_same (HC _)) | (go_at_call 63; exact Calls.quiet_of_same (HS _)))
      go_wp2
      go_ret
      exact ⟨ret_b (by simp_all), below_drewN hb1 _⟩
  | true =>
    by_cases h1 : k = 1
    · subst h1
      cases et : t.toList.isEmpty with
      | false =>
        go_wp2
        go_ret
        exact ⟨ret_b (by simp_all), hb1⟩
      | true =>
        go_wp2
        go_ret
        exact ⟨ret_b (by simp_all), hb1⟩
    by_cases h2 : k = 2
    · subst h2
      cases et : t.toList.isEmpty with
      | false =>
        go_wp2
        go_ret
        exact ⟨ret_b (by simp_all), hb1⟩
      | true =>
        by_cases hn0 : n ≥ 0
        · by_cases hn1 : n ≤ 1
          · go_wp2
            go_ret
            exact ⟨ret_b (by simp_all), hb1⟩
          · go_wp2
            go_ret
            exact ⟨ret_b (by simp_all), hb1⟩
        · have hn9 : n < 0 := by omega
          go_wp2
          go_ret
          exact ⟨ret_b (by first | (simp_all; done) | (simp_all; omega)), hb1⟩
    by_cases h3 : k = 3
    · subst h3
      cases en : (n == 0) with
      | false =>
        go_wp2
        go_ret
        exact ⟨ret_b (by simp_all), hb1⟩
      | true =>
        go_wp2
        go_ret
        exact ⟨ret_b (by simp_all), hb1⟩
    cases e4 : (k == 4) with
    | false =>
      go_upto_region 8 with fail
      go_quiet (fail)
      go_wp2
      go_ret
      exact ⟨ret_b (by simp_all), below_drewN hb1 _⟩
    | true =>
    cases en : (n == 0) with
    | false =>
      go_upto_region 8 with fail
      go_quiet (fail)
      go_wp2
      go_ret
      exact ⟨ret_b (by simp_all), below_drewN hb1 _⟩
    | true =>
    cases et : t.toList.isEmpty with
    | false =>
      go_upto_region 8 with fail
      go_quiet (fail)
      go_wp2
      go_ret
      exact ⟨ret_b (by simp_all), below_drewN hb1 _⟩
    | true =>
      go_upto_region 8 with fail
      go_quiet (first | (go_at_call 61; exact Calls.quiet_of_same (HC _)) | (go_at_call 63; exact Calls.quiet_of_same (HS _)))
      go_wp2
      go_ret
      exact ⟨ret_b (by simp_all), below_drewN hb1 _⟩
end Go.Proofs.YtmaaacaifpgpaaaGreatDoor
