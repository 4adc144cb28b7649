
/- How long a body is, as content-length says it; the body itself. Conditions: those that each row states. -/
import Derived.Test.YtfdbekfbbihdgaaDoorSc
import Derived.Lib.AppendIntMem
import Derived.Lib.AtoiErrMem
namespace Go.Proofs.YtfdbekfbbihdgaaDoor
open Go.RowKit Go.Lib
set_option maxRecDepth 100000
set_option linter.unusedSimpArgs false

/-- The library's variables: the table, the two errors. -/
structure Vars (B : Nat) (w : World) : Prop where
  tab : Lib.TabBelow Tryd.prog B w "internal/strconv.uint64pow10" .u64 Lib.pow10Tab
  syn : ∀ w', Below B w w' → ∃ tp p, w'.var? Tryd.prog "strconv.ErrSyntax" = some #[.iface tp p]
  rng : ∀ w', Below B w w' → ∃ tp p, w'.var? Tryd.prog "strconv.ErrRange" = some #[.iface tp p]
theorem Vars.on {B : Nat} {w w' : World} (h : Vars B w) (hb : Below B w w') : Vars B w' :=
  ⟨Lib.TabBelow.on h.tab hb, fun u hu => h.syn u (hb.trans hu), fun u hu => h.rng u (hb.trans hu)⟩
theorem Vars.mono {B B' : Nat} {w : World} (h : Vars B w) (hB : B ≤ B') : Vars B' w :=
  ⟨fun w' hb => h.tab w' (hb.mono hB), fun u hu => h.syn u (hu.mono hB), fun u hu => h.rng u (hu.mono hB)⟩
theorem Alb.belowB {B b : Nat} {w w' : World} (h : Alb w.heap.size w w' b) (hB : B ≤ b) (hs : b < w.heap.size) : Below B w w' := ⟨h.os, h.tape, h.output, h.size, fun k hk => h.block k (by omega) (by omega)⟩
theorem atoi_ok (w : World) (l : Bs) (hs : l.length ≤ 140737488355328) (v : Int) (h : atoiAll l = .ok v) :
    Calls Tryd.prog 68 #[str l] w fun e w' => e = .returned (.tuple #[.int .i64 v, .nilIface]) ∧ Below w.heap.size w w' := by
  refine (Tryd.strconv_Atoi_ok ⟨l.toArray⟩ (by simp [ByteArray.size]; omega) v h w).mono ?_
  rintro e w' ⟨rfl, rfl | ⟨t, rfl⟩⟩
  · exact ⟨rfl, Below.refl _ _⟩
  · exact ⟨rfl, bytesWorld_below _ _ _⟩
theorem atoi_no (w : World) (B : Nat) (l : Bs) (hs : l.length ≤ 140737488355328) (hV : Vars B w) (h : ∀ v, atoiAll l ≠ .ok v) :
    Calls Tryd.prog 68 #[str l] w fun e w' => ∃ (m : Int) (N : Nat), e = .returned (.tuple #[.int .i64 m, .iface 107 (.pointer (some ⟨N, 0, none⟩))]) ∧ Below w.heap.size w w' := by
  cases e : atoiAll l with
  | ok v => exact absurd e (h v)
  | «syntax» =>
    obtain ⟨tp, p, hv⟩ := hV.syn w (Below.refl _ _)
    refine (Tryd.strconv_Atoi_syntax_var ⟨l.toArray⟩ (by simp [ByteArray.size]; omega) e tp p w hv).mono ?_
    rintro e w' ⟨N, rfl, _, _, hb⟩
    exact ⟨_, N, rfl, hb⟩
  | range =>
    obtain ⟨tp, p, hv⟩ := hV.rng w (Below.refl _ _)
    refine (Tryd.strconv_Atoi_range_var ⟨l.toArray⟩ (by simp [ByteArray.size]; omega) e tp p w hv).mono ?_
    rintro e w' ⟨N, rfl, _, _, hb⟩
    exact ⟨_, N, rfl, hb⟩
theorem itoa_any (w : World) (B : Nat) (n : Int) (h0 : -9223372036854775808 ≤ n) (h1 : n ≤ 9223372036854775807) (hV : Vars B w) :
    Calls Tryd.prog 33 #[.int .i64 n] w fun e w' => e = .returned (str (itoa n)) ∧ Below w.heap.size w w' := by
  refine (Tryd.strconv_Itoa n h0 h1 w hV.tab.here).mono ?_
  rintro e w' ⟨rfl, k, os, rfl⟩
  exact ⟨rfl, below_grow _ _ (Nat.le_refl _) _ _⟩

set_option maxHeartbeats 1000000 in
theorem length_no (w : World) (l : Bs) (g : List PanicEntry) (A : Value → World → Prop) (hA : Calls Tryd.prog 68 #[str l] w fun e w' => ∃ v, e = .returned v ∧ A v w')
    (hI : ∀ w, Calls Tryd.prog 45 #[.bool false, .int .i64 40] w fun e w' => e = .panicked g ∧ w' = w)
    (h : ∀ v w', A v w' → ∃ (m : Int) (N : Nat), v = .tuple #[.int .i64 m, .iface 107 (.pointer (some ⟨N, 0, none⟩))] ∧ Below w.heap.size w w') :
    Calls Tryd.prog 57 #[str l] w fun e w' => Below w.heap.size w w' ∧ e = .panicked g := by
  go_enter Tryd.func57, Tryd.ntmps57
  go_wp2_with fail
  refine hA.mono ?_
  rintro e w1 ⟨v, rfl, ha⟩
  obtain ⟨m, N, rfl, hb⟩ := h v w1 ha
  go_wp2_with fail
  refine (hI _).mono ?_
  rintro e w' ⟨rfl, rfl⟩
  exact ⟨rfl, hb, rfl⟩
set_option maxHeartbeats 1000000 in
theorem length_any (w : World) (B : Nat) (l : Bs) (hs : l.length ≤ 140737488355328) (hV : Vars B w) (hB : B ≤ w.heap.size) :
    Calls Tryd.prog 57 #[str l] w fun e w' => Below w.heap.size w w' ∧ ((∃ n, lenL l = some n ∧ n ≤ 1024 ∧ e = .returned (.int .i64 n)) ∨ (lenL l = none ∧ e = .panicked (gup 40))) := by
  have HI := fun w => insist_no w 40
  obtain ⟨g, hg⟩ : ∃ g, gup 40 = g := ⟨_, rfl⟩
  rw [hg] at HI ⊢
  clear hg
  by_cases hv : ∃ v, atoiAll l = .ok v
  · obtain ⟨v, hv⟩ := hv
    have HA := atoi_ok w l hs v hv
    by_cases h0 : 0 ≤ v
    · by_cases h1 : v ≤ 1024
      · have HT := fun w (h : Vars B w) => itoa_any w B v (by omega) (by omega) h
        by_cases h2 : itoa v = l
        · obtain ⟨n, rfl⟩ : ∃ n : Nat, v = n := ⟨v.toNat, by omega⟩
          have hn : lenL l = some n := by unfold lenL; rw [hv]; simp [h1, h2]
          have hz : decide ((n : Int) ≤ 1024) = true := by simpa using h1
          rw [h2] at HT
          clear hv h2
          go_enter Tryd.func57, Tryd.ntmps57
          go_wp2_with fail
          refine HA.mono ?_
          rintro e w1 ⟨rfl, b1⟩
          have HT1 := HT w1 (hV.on (b1.mono hB))
          go_wp2_with fail
          refine HT1.mono ?_
          rintro e w2 ⟨rfl, b2⟩
          go_wp2_with fail
          refine (insist_ok _ _).mono ?_
          rintro e w' ⟨rfl, rfl⟩
          go_wp2
          go_ret
          exact ⟨b1.trans (b2.mono b1.size), .inl ⟨n, hn, by omega, rfl⟩⟩
        · have hn : lenL l = none := by unfold lenL; rw [hv]; simp [h2]
          have hz0 : decide (0 ≤ v) = true := by simpa using h0
          have hz : decide (v ≤ 1024) = true := by simpa using h1
          have hq : (itoa v == l) = false := by rw [beq_l]; simpa using h2
          generalize itoa v = t at *
          clear hv h2
          go_enter Tryd.func57, Tryd.ntmps57
          go_wp2_with fail
          refine HA.mono ?_
          rintro e w1 ⟨rfl, b1⟩
          have HT1 := HT w1 (hV.on (b1.mono hB))
          go_wp2_with fail
          refine HT1.mono ?_
          rintro e w2 ⟨rfl, b2⟩
          go_wp2_with fail
          refine (HI _).mono ?_
          rintro e w' ⟨rfl, rfl⟩
          exact ⟨rfl, b1.trans (b2.mono b1.size), .inr ⟨hn, rfl⟩⟩
      · have hn : lenL l = none := by unfold lenL; rw [hv]; simp [h1]
        have hz0 : decide (0 ≤ v) = true := by simpa using h0
        have hz : decide (v ≤ 1024) = false := by simpa using h1
        clear hv
        go_enter Tryd.func57, Tryd.ntmps57
        go_wp2_with fail
        refine HA.mono ?_
        rintro e w1 ⟨rfl, b1⟩
        go_wp2_with fail
        refine (HI _).mono ?_
        rintro e w' ⟨rfl, rfl⟩
        exact ⟨rfl, b1, .inr ⟨hn, rfl⟩⟩
    · have hn : lenL l = none := by unfold lenL; rw [hv]; simp [h0]
      have hz0 : decide (0 ≤ v) = false := by simpa using h0
      clear hv
      go_enter Tryd.func57, Tryd.ntmps57
      go_wp2_with fail
      refine HA.mono ?_
      rintro e w1 ⟨rfl, b1⟩
      go_wp2_with fail
      refine (HI _).mono ?_
      rintro e w' ⟨rfl, rfl⟩
      exact ⟨rfl, b1, .inr ⟨hn, rfl⟩⟩
  · have hn : lenL l = none := by
      unfold lenL
      cases e : atoiAll l with
      | ok v => exact absurd ⟨v, e⟩ hv
      | «syntax» => rfl
      | range => rfl
    refine (length_no w l g (fun v w' => ∃ (m : Int) (N : Nat), v = .tuple #[.int .i64 m, .iface 107 (.pointer (some ⟨N, 0, none⟩))] ∧ Below w.heap.size w w') ((atoi_no w B l hs hV (fun v h => hv ⟨v, h⟩)).mono fun e w' ⟨m, N, h1, h2⟩ => ⟨_, h1, m, N, rfl, h2⟩) HI (fun v w' h => h)).mono fun e w' ⟨h1, h2⟩ => ⟨h1, .inr ⟨hn, h2⟩⟩
set_option maxHeartbeats 1000000 in
theorem upto_any (w : World) (b n : Nat) (s : Bs) (hr : Cr w b s) (hb : b < w.heap.size) (_hs : s.length ≤ 140737488355328) (hn : n ≤ 140737488355328) :
    Calls Tryd.prog 56 #[.pointer (some ⟨b, 0, none⟩), .int .i64 n] w fun e w' => Alb w.heap.size w w' b ∧ ((∃ x r, upTo n s = .ok (x, r) ∧ e = .returned (str x) ∧ Cr w' b r) ∨ (∃ g, upTo n s = .error g ∧ e = .panicked (gup g))) := by
  obtain ⟨c0, f0⟩ := hr
  by_cases h1 : n < s.length
  · have gj := get_str s n
    have hz : (n : Int) < (s.length : Int) := by omega
    by_cases h2 : s.getD n 0 = 0
    · have hu : upTo n s = .ok (s.take n, s.drop (n + 1)) := by unfold upTo; rw [if_neg (by omega), if_pos h2]
      have K := fun w => clone_any w (s.take n) (by rw [List.length_take]; omega)
      have e1 : (⟨s.toArray⟩ : ByteArray).extract 0 n = ⟨(s.take n).toArray⟩ := by rw [ext_str]; simp
      have e2 : (⟨s.toArray⟩ : ByteArray).extract (n + 1) s.length = ⟨(s.drop (n + 1)).toArray⟩ := by
        rw [ext_str, List.take_of_length_le (by rw [List.length_drop]; omega)]
      have fin : ∀ w' w2, Below w.heap.size w w' → w2 = w'.setCell ⟨b, 0, none⟩ (str (s.drop (n + 1))) → w'.cell? ⟨b, 0, none⟩ = some (str s) → w'.frozen? ⟨b, 0, none⟩ = false → Cr w2 b (s.drop (n + 1)) ∧ Alb w.heap.size w w2 b := by
        rintro w' w2 hbw rfl hc hf
        exact ⟨⟨World.cell?_setCell_same (h := hc) .., by rw [World.frozen?_setCell]; exact hf⟩, (Alb.below hbw).trans (.but (But.set _ _ _ _))⟩
      rw [h2] at gj
      generalize s.take n = t at *
      generalize s.drop (n + 1) = r at *
      clear h2
      go_enter Tryd.func56, Tryd.ntmps56
      go_wp2_with (first | (go_at_call 45; refine (insist_ok _ _).mono ?_; rintro e w' ⟨rfl, rfl⟩))
      refine (K _).mono ?_
      rintro e w1 ⟨rfl, b1⟩
      have c1 : w1.cell? ⟨b, 0, none⟩ = some (str s) := by rw [b1.cell (p := ⟨b, 0, none⟩) hb]; exact c0
      have f1 : w1.frozen? ⟨b, 0, none⟩ = false := by rw [b1.frozen (p := ⟨b, 0, none⟩) hb]; exact f0
      go_wp2
      go_ret
      obtain ⟨h3, h4⟩ := fin w1 _ b1 rfl c1 f1
      exact ⟨h4, .inl ⟨_, _, hu, rfl, h3⟩⟩
    · have hu : upTo n s = .error 40 := by unfold upTo; rw [if_neg (by omega), if_neg h2]
      have HI := fun w => insist_no w 40
      have hz2 : (((s.getD n 0).toNat : Int) == 0) = false := by
        rw [beq_eq_false_iff_ne]
        intro h
        exact h2 (byte_eq_of_toNat h)
      generalize s.getD n 0 = c at *
      obtain ⟨g, hg⟩ : ∃ g, gup 40 = g := ⟨_, rfl⟩
      have hE : ∃ x, (Except.error 40 : Except Int (Bs × Bs)) = .error x ∧ g = gup x := ⟨40, rfl, hg.symm⟩
      rw [hg] at HI
      clear hg h2
      go_enter Tryd.func56, Tryd.ntmps56
      go_wp2_with fail
      refine (insist_ok _ _).mono ?_
      rintro e w' ⟨rfl, rfl⟩
      go_wp2_with fail
      refine (HI _).mono ?_
      rintro e w' ⟨rfl, rfl⟩
      obtain ⟨x, h3, h4⟩ := hE
      exact ⟨rfl, Alb.refl _ _ _, .inr ⟨x, by rw [hu, h3], by rw [h4]⟩⟩
  · have hu : upTo n s = .error 41 := by unfold upTo; rw [if_pos (by omega)]
    have HI := fun w => insist_no w 41
    have hz : decide ((n : Int) < (s.length : Int)) = false := by simp; omega
    obtain ⟨g, hg⟩ : ∃ g, gup 41 = g := ⟨_, rfl⟩
    have hE : ∃ x, (Except.error 41 : Except Int (Bs × Bs)) = .error x ∧ g = gup x := ⟨41, rfl, hg.symm⟩
    rw [hg] at HI
    clear hg
    go_enter Tryd.func56, Tryd.ntmps56
    go_wp2_with fail
    refine (HI _).mono ?_
    rintro e w' ⟨rfl, rfl⟩
    obtain ⟨x, h3, h4⟩ := hE
    exact ⟨rfl, Alb.refl _ _ _, .inr ⟨x, by rw [hu, h3], by rw [h4]⟩⟩
end Go.Proofs.YtfdbekfbbihdgaaDoor
