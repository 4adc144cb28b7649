/- What the reader's Num, Count and End answer, and what they leave of the reader, for any bytes that can be read, where the library's table of powers of ten and its two errors' variables read as they were laid. -/
import Derived.Test.YtbdfhmffdnlbfaaDoorReader
namespace Go.Proofs.YtbdfhmffdnlbfaaDoor
open Go.RowKit Go.Lib

/-- A number is read: the answer, whether the reader is bad then, what is left. -/
def numR (least : Int) (bad : Bool) (l : List UInt8) : Int × Bool × List UInt8 :=
  if bad then (0, true, l) else
  match digs l 59 with
  | some (n, i) => if n < least then (0, true, []) else (n, false, l.drop (i + 1))
  | none => (0, true, [])

theorem digs_lt {l : List UInt8} {c : UInt8} {n : Int} {i : Nat} (h : digs l c = some (n, i)) : i < l.length ∧ i ≤ 20 ∧ -9223372036854775808 ≤ n ∧ n ≤ 9223372036854775807 := by
  unfold digs at h
  split at h
  · cases h
  · rename_i hf
    obtain ⟨k, hk⟩ := Int.eq_ofNat_of_zero_le (show 0 ≤ indexByte l c by omega)
    have hil : k < l.length := (List.getElem?_eq_some_iff.1 (indexByte_some hk).1).1
    split at h
    · rename_i v hv
      have := atoiAll_bounds hv
      split at h
      · simp only [Option.some.injEq, Prod.mk.injEq] at h
        obtain ⟨rfl, rfl⟩ := h
        omega
      · cases h
    · cases h

theorem RdB.drop {w : World} {b o c : Nat} {l : List UInt8} (s : Nat) (hs : s ≤ l.length) (hc : ∀ j, j < l.length → w.cell? ⟨b, o + j, none⟩ = some (.int .u8 ((l.getD j 0).toNat : Int))) (hlc : l.length ≤ c) (X m k : Nat) (hX : c ≠ s → X = o + s) (hm : m = l.length - s) (hk : k = c - s) :
    RdB w (.slice (some ⟨b, X, none⟩) m k) (l.drop s) := by
  subst hm hk
  have e : (l.drop s).length = l.length - s := by simp
  refine .inr ⟨b, X, c - s, by rw [e], by omega, fun j hj => ?_⟩
  rw [hX (by omega), Nat.add_assoc, hc (s + j) (by omega)]
  simp only [List.getD_eq_getElem?_getD, List.getElem?_drop]

set_option maxHeartbeats 400000 in
theorem number_yes (w : World) (B R b o c n0 : Nat) (least n : Int) (l : List UInt8) (i : Nat) (h : RdrAt w R (.slice (some ⟨b, o, none⟩) n0 c) false) (hn0 : n0 = l.length) (hlc : l.length ≤ c) (hc : ∀ j, j < l.length → w.cell? ⟨b, o + j, none⟩ = some (.int .u8 ((l.getD j 0).toNat : Int)))
    (hV : Vars B w) (hBR : B ≤ R) (hd : digs l 59 = some (n, i)) (hn : least ≤ n) :
    Calls Tryd.prog 28 #[.pointer (some ⟨R, 0, none⟩), .int .i64 least] w fun e w' => e = .returned (.int .i64 n) ∧ Rdr w' R false (l.drop (i + 1)) ∧ w.grownBy w' (some R) := by
  have hB := bad_any w R false l ⟨_, h, .inr ⟨b, o, c, by rw [hn0], hlc, hc⟩⟩
  have hR := h.lt
  have h0 := h.c0
  obtain ⟨hil, hi20, hn1, hn2⟩ := digs_lt hd
  have hD := digits_any w B (.slice (some ⟨b, o, none⟩) n0 c) l 59 59 rfl (.inr ⟨b, o, c, by rw [hn0], hlc, hc⟩) hV (by omega)
  rw [hd] at hD
  have HF : Hid (RdrAt w R (.slice (some ⟨b, o, none⟩) n0 c) false) := h
  have HC : Hid (∀ j, j < l.length → w.cell? ⟨b, o + j, none⟩ = some (.int .u8 ((l.getD j 0).toNat : Int))) := hc
  have HN : Hid (n0 = l.length) := hn0
  have hin : i < n0 := by omega
  have hnc : n0 ≤ c := by omega
  clear h hc hn0 hd hV
  go_enter Tryd.func28, Tryd.ntmps28
  go_wp2_with fail
  refine hB.mono ?_
  rintro e w1 ⟨rfl, rfl⟩
  go_wp2_with fail
  refine hD.mono ?_
  rintro e w2 ⟨rfl, hb⟩
  have hr2 := HF.out.on hb hR
  have k0 := hr2.c0
  have f0 := hr2.f0
  have HR2 : Hid (RdrAt w2 R (.slice (some ⟨b, o, none⟩) n0 c) false) := hr2
  clear hr2 hB hD h0
  simp only [digsV]
  go_wp2
  all_goals
    go_ret
    refine ⟨rfl, ⟨_, HR2.out.set0 _, ?_⟩, grownBy_trans (grownBy_of_below hb) (grownBy_setCell _ _ _ _)⟩
    refine RdB.grown (RdB.on ?_ hb) HR2.out (grownBy_setCell _ _ _ _)
    have hn0 := HN.out
    exact RdB.drop (i + 1) (by omega) HC.out hlc _ _ _ (by omega) (by omega) (by omega)

set_option maxHeartbeats 400000 in
theorem number_bad (w : World) (R : Nat) (least : Int) (l : List UInt8) (h : Rdr w R true l) :
    Calls Tryd.prog 28 #[.pointer (some ⟨R, 0, none⟩), .int .i64 least] w fun e w' => e = .returned (.int .i64 0) ∧ w' = w := by
  have hB := bad_any w R true l h
  clear h
  go_enter Tryd.func28, Tryd.ntmps28
  go_wp2_with fail
  refine hB.mono ?_
  rintro e w1 ⟨rfl, rfl⟩
  go_wp2
  go_ret
  exact ⟨rfl, rfl⟩

set_option maxHeartbeats 400000 in
theorem number_none (w : World) (B R : Nat) (least : Int) (v : Value) (l : List UInt8) (h : RdrAt w R v false) (hv : RdB w v l) (hV : Vars B w) (hBR : B ≤ R) (hd : digs l 59 = none) :
    Calls Tryd.prog 28 #[.pointer (some ⟨R, 0, none⟩), .int .i64 least] w fun e w' => e = .returned (.int .i64 0) ∧ Rdr w' R true [] ∧ w.grownBy w' (some R) := by
  have hB := bad_any w R false l ⟨_, h, hv⟩
  have hR := h.lt
  have h0 := h.c0
  have hD := digits_any w B v l 59 59 rfl hv hV (by omega)
  rw [hd] at hD
  have HF : Hid (RdrAt w R v false) := h
  clear h hv hd hV
  go_enter Tryd.func28, Tryd.ntmps28
  go_wp2_with fail
  refine hB.mono ?_
  rintro e w1 ⟨rfl, rfl⟩
  go_wp2_with fail
  refine hD.mono ?_
  rintro e w2 ⟨rfl, hb⟩
  have hS := spoil_any w2 R v false (HF.out.on hb hR)
  clear hB hD h0
  simp only [digsV]
  go_wp2_with fail
  refine hS.mono ?_
  rintro e w3 ⟨rfl, hr, hg⟩
  clear hS
  go_wp2
  go_ret
  exact ⟨rfl, hr, grownBy_trans (grownBy_of_below hb) hg⟩

set_option maxHeartbeats 400000 in
theorem number_low (w : World) (B R : Nat) (least n : Int) (v : Value) (l : List UInt8) (i : Nat) (h : RdrAt w R v false) (hv : RdB w v l) (hV : Vars B w) (hBR : B ≤ R) (hd : digs l 59 = some (n, i)) (hn : n < least) :
    Calls Tryd.prog 28 #[.pointer (some ⟨R, 0, none⟩), .int .i64 least] w fun e w' => e = .returned (.int .i64 0) ∧ Rdr w' R true [] ∧ w.grownBy w' (some R) := by
  have hB := bad_any w R false l ⟨_, h, hv⟩
  have hR := h.lt
  have h0 := h.c0
  have hD := digits_any w B v l 59 59 rfl hv hV (by omega)
  rw [hd] at hD
  have HF : Hid (RdrAt w R v false) := h
  clear h hv hd hV
  go_enter Tryd.func28, Tryd.ntmps28
  go_wp2_with fail
  refine hB.mono ?_
  rintro e w1 ⟨rfl, rfl⟩
  go_wp2_with fail
  refine hD.mono ?_
  rintro e w2 ⟨rfl, hb⟩
  have hS := spoil_any w2 R v false (HF.out.on hb hR)
  clear hB hD h0
  simp only [digsV]
  go_wp2_with fail
  refine hS.mono ?_
  rintro e w3 ⟨rfl, hr, hg⟩
  clear hS
  go_wp2
  go_ret
  exact ⟨rfl, hr, grownBy_trans (grownBy_of_below hb) hg⟩

theorem number_any (w : World) (B R : Nat) (least : Int) (bad : Bool) (l : List UInt8) (h : Rdr w R bad l) (hV : Vars B w) (hBR : B ≤ R) :
    Calls Tryd.prog 28 #[.pointer (some ⟨R, 0, none⟩), .int .i64 least] w fun e w' => e = .returned (.int .i64 (numR least bad l).1) ∧ Rdr w' R (numR least bad l).2.1 (numR least bad l).2.2 ∧ w.grownBy w' (some R) := by
  cases bad with
  | true =>
    refine (number_bad w R least l h).mono ?_
    rintro e w' ⟨rfl, rfl⟩
    exact ⟨rfl, h, World.grownBy.refl _ _⟩
  | false =>
    obtain ⟨v, h, hv⟩ := h
    cases hd : digs l 59 with
    | none =>
      have e : numR least false l = (0, true, []) := by simp [numR, hd]
      rw [e]
      exact number_none w B R least v l h hv hV hBR hd
    | some p =>
      obtain ⟨n, i⟩ := p
      by_cases hn : n < least
      · have e : numR least false l = (0, true, []) := by simp [numR, hd, hn]
        rw [e]
        exact number_low w B R least n v l i h hv hV hBR hd hn
      · have e : numR least false l = (n, false, l.drop (i + 1)) := by simp [numR, hd, hn]
        rw [e]
        rcases hv with ⟨rfl, rfl⟩ | ⟨b, o, c, rfl, hlc, hc⟩
        · have := (digs_lt hd).1
          simp at this
        · exact number_yes w B R b o c _ least n l i h rfl hlc hc hV hBR hd (by omega)

set_option maxHeartbeats 400000 in
theorem rnum_any (w : World) (B R : Nat) (bad : Bool) (l : List UInt8) (h : Rdr w R bad l) (hV : Vars B w) (hBR : B ≤ R) :
    Calls Tryd.prog 15 #[.pointer (some ⟨R, 0, none⟩)] w fun e w' => e = .returned (.int .i64 (numR (-9223372036854775808) bad l).1) ∧ Rdr w' R (numR (-9223372036854775808) bad l).2.1 (numR (-9223372036854775808) bad l).2.2 ∧ w.grownBy w' (some R) := by
  have hN := number_any w B R (-9223372036854775808) bad l h hV hBR
  generalize numR (-9223372036854775808) bad l = r at *
  clear h hV
  go_enter Tryd.func15, Tryd.ntmps15
  go_wp2_with fail
  refine hN.mono ?_
  rintro e w1 ⟨rfl, hr, hg⟩
  clear hN
  go_wp2
  go_ret
  exact ⟨rfl, hr, hg⟩

set_option maxHeartbeats 400000 in
theorem rcount_any (w : World) (B R : Nat) (bad : Bool) (l : List UInt8) (h : Rdr w R bad l) (hV : Vars B w) (hBR : B ≤ R) :
    Calls Tryd.prog 17 #[.pointer (some ⟨R, 0, none⟩)] w fun e w' => e = .returned (.int .i64 (numR 0 bad l).1) ∧ Rdr w' R (numR 0 bad l).2.1 (numR 0 bad l).2.2 ∧ w.grownBy w' (some R) := by
  have hN := number_any w B R 0 bad l h hV hBR
  generalize numR 0 bad l = r at *
  clear h hV
  go_enter Tryd.func17, Tryd.ntmps17
  go_wp2_with fail
  refine hN.mono ?_
  rintro e w1 ⟨rfl, hr, hg⟩
  clear hN
  go_wp2
  go_ret
  exact ⟨rfl, hr, hg⟩

set_option maxHeartbeats 400000 in
theorem end_any (w : World) (R : Nat) (bad : Bool) (l : List UInt8) (h : Rdr w R bad l) :
    Calls Tryd.prog 23 #[.pointer (some ⟨R, 0, none⟩)] w fun e w' => e = .returned (.bool (!bad && l.isEmpty)) ∧ w' = w := by
  have hB := bad_any w R bad l h
  have hL := left_any w R bad l h
  clear h
  cases bad with
  | true =>
    go_enter Tryd.func23, Tryd.ntmps23
    go_wp2_with fail
    refine hB.mono ?_
    rintro e w1 ⟨rfl, rfl⟩
    go_wp2
    go_ret
    exact ⟨rfl, rfl⟩
  | false =>
    have e : l.isEmpty = ((l.length : Int) == 0) := by cases l <;> simp <;> omega
    rw [e]
    generalize l.length = n at *
    clear e
    go_enter Tryd.func23, Tryd.ntmps23
    go_wp2_with fail
    refine hB.mono ?_
    rintro e w1 ⟨rfl, rfl⟩
    go_wp2_with fail
    refine hL.mono ?_
    rintro e w2 ⟨rfl, rfl⟩
    clear hB hL
    go_wp2
    all_goals go_ret
    all_goals exact ⟨by simp [*], rfl⟩
end Go.Proofs.YtbdfhmffdnlbfaaDoor
