
/- table's reader: num, short, long. Conditions: those that each row states. -/
import Derived.Test.YtmaaacaifpgpaaaDoorTi
import Derived.Test.YtmaaacaifpgpaaaDoorNu
namespace Go.Proofs.YtmaaacaifpgpaaaDoor
open Go.RowKit Go.Lib
set_option maxRecDepth 100000
set_option linter.unusedSimpArgs false

theorem Cr.on {w w' : World} {b B : Nat} {s : List UInt8} (h : Cr w b s) (hb : Below B w w') (hk : b < B) : Cr w' b s :=
  ⟨by rw [hb.cell (p := ⟨b, 0, none⟩) hk]; exact h.c0, by rw [hb.frozen (p := ⟨b, 0, none⟩) hk]; exact h.f0⟩
set_option maxHeartbeats 4000000 in
theorem cnum_ok (w : World) (b k : Nat) (s : List UInt8) (hr : Cr w b s) (hb : b < w.heap.size) (hs : s.length ≤ 140737488355328) (hk8 : k ≤ 8) (hk : k ≤ s.length) :
    Calls Tryd.prog 48 #[.pointer (some ⟨b, 0, none⟩), .int .i64 k] w fun e w' => e = .returned (.int .u64 (numL (s.take k))) ∧ Cr w' b (s.drop k) ∧ Alb w.heap.size w w' b := by
  have CT := cut_ok w b k s hr hs hk
  have hl : (s.take k).length ≤ 8 := by rw [List.length_take]; omega
  have u1 : IntKind.u64.wrap (k : Int) = (k : Int) := by rw [IntKind.wrap_u64]; omega
  generalize s.take k = l at *
  generalize s.drop k = r at *
  clear hs hk hr hk8
  go_enter Tryd.func48, Tryd.ntmps48
  go_wp2_with fail
  refine CT.mono ?_
  rintro e w1 ⟨rfl, h1, b1⟩
  obtain ⟨c, W, hcv, hcell, hbW⟩ := bytes_of w1 l
  have h2 : Cr W b r := h1.on hbW (by rw [b1.size]; exact hb)
  have hA : Alb w.heap.size w W b := (Alb.but b1).trans (.below (by rw [← b1.size]; exact hbW))
  have HC : Hid (∀ j (h : j < l.length), W.cell? ⟨w1.heap.size, j, none⟩ = some (.int .u8 (l[j].toNat : Int))) := hcell
  clear hcell CT h1 b1 hbW u1
  go_wp2_with fail
  go_loop [5, 14] (fun n i => ∃ j : Nat, j ≤ l.length ∧ i = .int .i64 j ∧ n = .int .u64 (numL (l.take j))) (fun _ i => l.length - (RowKit.intOf i).toNat)
  case atStart => exact ⟨0, Nat.zero_le _, rfl, rfl⟩
  case round =>
    obtain ⟨j, hj, rfl, rfl⟩ := hrel
    by_cases hlt : j < l.length
    · have hcj := HC.out j hlt
      have h8 : numL (l.take j) < 256 ^ j := by
        have := numL_lt (l.take j)
        rwa [List.length_take, Nat.min_eq_left hj] at this
      have h56 : numL (l.take j) < 72057594037927936 := Nat.lt_of_lt_of_le h8 (by have : 256 ^ j ≤ 256 ^ 7 := Nat.pow_le_pow_right (by decide) (by omega); simpa using this)
      have HS : Hid (numL (l.take (j + 1)) = numL (l.take j) * 256 + l[j].toNat) := by
        show _ = _
        rw [List.take_succ_eq_append_getElem hlt, numL_snoc]
      clear h8
      generalize numL (l.take j) = n at *
      have hby := l[j].toNat_lt
      generalize l[j].toNat = x at *
      have hjz : (j : Int) < (l.length : Int) := by omega
      have hn0 : (0 : Int) ≤ (n : Int) := by omega
      go_wp2
      all_goals
        go_round
        case rel => exact ⟨j + 1, by omega, by go_num, by rw [HS.out]; first | rfl | (rw [or_z n x h56 hby])⟩
        case measure => simp [RowKit.intOf]; omega
    · have hjk : j = l.length := by omega
      subst hjk
      go_wp2
      go_ret
      refine ⟨?_, h2, hA⟩
      show Ending.returned (.int .u64 _) = _
      first | rfl | rw [List.take_length]

set_option maxHeartbeats 400000 in
theorem cnum_no (w : World) (b k : Nat) (s : List UInt8) (hr : Cr w b s) (hs : s.length ≤ 140737488355328) (hk8 : k ≤ 8) (hk : s.length < k) :
    Calls Tryd.prog 48 #[.pointer (some ⟨b, 0, none⟩), .int .i64 k] w fun e w' => e = .panicked (gup 11) ∧ w' = w := by
  have CT := cut_no w b k s hr hs hk
  have u1 : IntKind.u64.wrap (k : Int) = (k : Int) := by rw [IntKind.wrap_u64]; omega
  obtain ⟨g, hg⟩ : ∃ g, gup 11 = g := ⟨_, rfl⟩
  rw [hg] at CT ⊢
  clear hg hs hk hk8 hr
  go_enter Tryd.func48, Tryd.ntmps48
  go_wp2_with fail
  refine CT.mono ?_
  rintro e w' ⟨rfl, rfl⟩
  exact ⟨rfl, rfl, rfl⟩
/-- num, in one. -/
theorem cnum_any (w : World) (b k : Nat) (s : List UInt8) (hr : Cr w b s) (hb : b < w.heap.size) (hs : s.length ≤ 140737488355328) (hk8 : k ≤ 8) :
    Calls Tryd.prog 48 #[.pointer (some ⟨b, 0, none⟩), .int .i64 k] w fun e w' =>
      Alb w.heap.size w w' b ∧ ((k ≤ s.length ∧ e = .returned (.int .u64 (numL (s.take k))) ∧ Cr w' b (s.drop k)) ∨ (s.length < k ∧ e = .panicked (gup 11) ∧ Cr w' b s)) := by
  by_cases h : k ≤ s.length
  · exact (cnum_ok w b k s hr hb hs hk8 h).mono fun e w' ⟨h1, h2, h3⟩ => ⟨h3, .inl ⟨h, h1, h2⟩⟩
  · exact (cnum_no w b k s hr hs hk8 (by omega)).mono fun e w' ⟨h1, h2⟩ => ⟨by subst h2; exact Alb.refl _ _ _, .inr ⟨by omega, h1, by subst h2; exact hr⟩⟩

def cshort (s : List UInt8) : Option (List UInt8 × List UInt8) := if s.length < 1 then none else cutP (s.drop 1) (numL (s.take 1))
def clong (s : List UInt8) (most : Nat) : Option (List UInt8 × List UInt8) := if s.length < 4 then none else if most < numL (s.take 4) then none else cutP (s.drop 4) (numL (s.take 4))
set_option maxHeartbeats 1000000 in
theorem cshort_any (w : World) (b : Nat) (s : List UInt8) (hr : Cr w b s) (hb : b < w.heap.size) (hs : s.length ≤ 140737488355328) :
    Calls Tryd.prog 66 #[.pointer (some ⟨b, 0, none⟩)] w fun e w' =>
      Alb w.heap.size w w' b ∧ ((∃ t r, cshort s = some (t, r) ∧ e = .returned (str t) ∧ Cr w' b r) ∨ (cshort s = none ∧ e = .panicked (gup 11))) := by
  have N := cnum_any w b 1 s hr hb hs (by omega)
  obtain ⟨g, hg⟩ : ∃ g, gup 11 = g := ⟨_, rfl⟩
  rw [hg] at N ⊢
  have HS : Hid (s.length ≤ 140737488355328) := hs
  clear hr hs
  go_enter Tryd.func66, Tryd.ntmps66
  go_wp2_with fail
  refine N.mono ?_
  rintro e w1 ⟨hA, ⟨h1, rfl, hc⟩ | ⟨h1, rfl, -⟩⟩
  · have C := cut_any w1 b (numL (s.take 1)) (s.drop 1) hc (by have := HS.out; rw [List.length_drop]; omega)
    rw [hg] at C
    have HE : Hid (cshort s = cutP (s.drop 1) (numL (s.take 1))) := by show _ = _; unfold cshort; rw [if_neg (by omega)]
    have hl : (s.drop 1).length ≤ 140737488355328 := by have := HS.out; rw [List.length_drop]; omega
    have HL : Hid ((s.drop 1).length ≤ 140737488355328) := hl
    clear N hc h1 hl
    generalize numL (s.take 1) = n at *
    generalize s.drop 1 = r at *
    go_wp2_with fail
    refine C.mono ?_
    rintro e w2 ⟨hB, ⟨h2, rfl, hc2⟩ | ⟨h2, rfl, -⟩⟩
    · have K := clone_any w2 (r.take n) (by have := HL.out; rw [List.length_take]; omega)
      have e1 : cutP r n = some (r.take n, r.drop n) := by unfold cutP; rw [if_pos h2]
      have hb2 : b < w2.heap.size := by have := hA.size; have := hB.size; omega
      have hA2 := hA.trans (.but hB)
      clear C h2
      go_wp2_with fail
      refine K.mono ?_
      rintro e w3 ⟨rfl, b3⟩
      have hc3 := hc2.on b3 hb2
      have hA3 := hA2.trans (.below (b3.mono hA2.size))
      go_wp2
      go_ret
      exact ⟨hA3, .inl ⟨_, _, by rw [HE.out, e1], rfl, hc3⟩⟩
    · exact ⟨rfl, hA.trans (.but hB), .inr ⟨by rw [HE.out]; unfold cutP; rw [if_neg (by omega)], rfl⟩⟩
  · exact ⟨rfl, hA, .inr ⟨by unfold cshort; rw [if_pos h1], rfl⟩⟩

set_option maxHeartbeats 1000000 in
theorem clong_any (w : World) (b most : Nat) (s : List UInt8) (hr : Cr w b s) (hb : b < w.heap.size) (hs : s.length ≤ 140737488355328) :
    Calls Tryd.prog 81 #[.pointer (some ⟨b, 0, none⟩), .int .u64 most] w fun e w' =>
      Alb w.heap.size w w' b ∧ ((∃ t r, clong s most = some (t, r) ∧ e = .returned (str t) ∧ Cr w' b r) ∨ (clong s most = none ∧ e = .panicked (gup 11))) := by
  have N := cnum_any w b 4 s hr hb hs (by omega)
  obtain ⟨g, hg⟩ : ∃ g, gup 11 = g := ⟨_, rfl⟩
  have I := fun w => insist_no w 11
  rw [hg] at N I ⊢
  have HS : Hid (s.length ≤ 140737488355328) := hs
  clear hr hs
  go_enter Tryd.func81, Tryd.ntmps81
  go_wp2_with fail
  refine N.mono ?_
  rintro e w1 ⟨hA, ⟨h1, rfl, hc⟩ | ⟨h1, rfl, -⟩⟩
  · have C := cut_any w1 b (numL (s.take 4)) (s.drop 4) hc (by have := HS.out; rw [List.length_drop]; omega)
    rw [hg] at C
    have HE : Hid (clong s most = if most < numL (s.take 4) then none else cutP (s.drop 4) (numL (s.take 4))) := by show _ = _; unfold clong; rw [if_neg (by omega)]
    have HL : Hid ((s.drop 4).length ≤ 140737488355328) := by have := HS.out; show _ ≤ _; rw [List.length_drop]; omega
    clear N hc h1
    generalize numL (s.take 4) = n at *
    generalize s.drop 4 = r at *
    by_cases hm : n ≤ most
    · have hd : decide (n ≤ most) = true := by simpa using hm
      go_wp2_with (first | (go_at_call 49; refine (insist_ok _ _).mono ?_; rintro e w' ⟨rfl, rfl⟩))
      refine C.mono ?_
      rintro e w2 ⟨hB, ⟨h2, rfl, hc2⟩ | ⟨h2, rfl, -⟩⟩
      · have K := clone_any w2 (r.take n) (by have := HL.out; rw [List.length_take]; omega)
        have e1 : cutP r n = some (r.take n, r.drop n) := by unfold cutP; rw [if_pos h2]
        have hb2 : b < w2.heap.size := by have := hA.size; have := hB.size; omega
        have hA2 := hA.trans (.but hB)
        clear C h2
        go_wp2_with fail
        refine K.mono ?_
        rintro e w3 ⟨rfl, b3⟩
        have hc3 := hc2.on b3 hb2
        have hA3 := hA2.trans (.below (b3.mono hA2.size))
        go_wp2
        go_ret
        exact ⟨hA3, .inl ⟨_, _, by rw [HE.out, if_neg (by omega), e1], rfl, hc3⟩⟩
      · exact ⟨rfl, hA.trans (.but hB), .inr ⟨by rw [HE.out, if_neg (by omega)]; unfold cutP; rw [if_neg (by omega)], rfl⟩⟩
    · have hd : decide (n ≤ most) = false := by simpa using hm
      go_wp2_with fail
      refine (I _).mono ?_
      rintro e w2 ⟨rfl, rfl⟩
      exact ⟨rfl, hA, .inr ⟨by rw [HE.out, if_pos (by omega)], rfl⟩⟩
  · exact ⟨rfl, hA, .inr ⟨by unfold clong; rw [if_pos h1], rfl⟩⟩
end Go.Proofs.YtmaaacaifpgpaaaDoor
