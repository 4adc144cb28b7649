/- The document's own reader (trivetref01) answers as the functions numR and strR say, for any bytes that can be read, where the library's table of powers of ten and its two errors' variables read as they were laid. -/
import Derived.Test.YtbdfhmffdnlbfaaDoorRefRead
namespace Go.Proofs.YtbdfhmffdnlbfaaDoor
open Go.RowKit Go.Lib

theorem digs_nil (c : UInt8) : digs [] c = none := digs_far (by simp)

set_option maxHeartbeats 400000 in
theorem rfnum_no (w : World) (B R : Nat) (bad : Bool) (l : List UInt8) (h : Ref w R bad l) (hll : l.length ≤ 140737488355328) (hV : Vars B w) (hBR : B ≤ R) (hd : digs l 59 = none) :
    Calls Tryd.prog 16 #[.pointer (some ⟨R, 0, none⟩)] w fun e w' => e = .returned (.int .i64 0) ∧ Ref w' R true [] ∧ w.grownBy w' (some R) := by
  have hW := word_any w B R bad l 59 59 rfl h hll hV hBR
  rw [hd] at hW
  clear h hd hV
  go_enter Tryd.func16, Tryd.ntmps16
  go_wp2_with fail
  refine hW.mono ?_
  rintro e w2 ⟨rfl, hr2, hg2⟩
  obtain ⟨v2, hr2, _⟩ := hr2
  have hF := fail_any w2 R v2 bad hr2
  clear hW hr2
  simp only [wordV]
  go_wp2_with fail
  refine hF.mono ?_
  rintro e w3 ⟨rfl, hr3, hg3⟩
  clear hF
  go_wp2
  go_ret
  exact ⟨rfl, hr3, grownBy_trans hg2 hg3⟩

set_option maxHeartbeats 400000 in
theorem rfnum_yes (w : World) (B R : Nat) (bad : Bool) (l : List UInt8) (n : Int) (i : Nat) (h : Ref w R bad l) (hll : l.length ≤ 140737488355328) (hV : Vars B w) (hBR : B ≤ R) (hd : digs l 59 = some (n, i)) :
    Calls Tryd.prog 16 #[.pointer (some ⟨R, 0, none⟩)] w fun e w' => e = .returned (.int .i64 n) ∧ Ref w' R bad (l.drop (i + 1)) ∧ w.grownBy w' (some R) := by
  have hW := word_any w B R bad l 59 59 rfl h hll hV hBR
  rw [hd] at hW
  clear h hd hV
  go_enter Tryd.func16, Tryd.ntmps16
  go_wp2_with fail
  refine hW.mono ?_
  rintro e w2 ⟨rfl, hr2, hg2⟩
  clear hW
  simp only [wordV, wordL] at hr2 ⊢
  go_wp2
  go_ret
  exact ⟨rfl, hr2, hg2⟩

/-- A bad reader has nothing left. -/
def StOk (bad : Bool) (l : List UInt8) : Prop := bad = true → l = []

theorem rfnum_any (w : World) (B R : Nat) (bad : Bool) (l : List UInt8) (h : Ref w R bad l) (hs : StOk bad l) (hll : l.length ≤ 140737488355328) (hV : Vars B w) (hBR : B ≤ R) :
    Calls Tryd.prog 16 #[.pointer (some ⟨R, 0, none⟩)] w fun e w' => e = .returned (.int .i64 (numR (-9223372036854775808) bad l).1) ∧ Ref w' R (numR (-9223372036854775808) bad l).2.1 (numR (-9223372036854775808) bad l).2.2 ∧ w.grownBy w' (some R) := by
  cases bad with
  | true =>
    have := hs rfl
    subst this
    exact rfnum_no w B R true [] h hll hV hBR (digs_nil _)
  | false =>
    cases hd : digs l 59 with
    | none =>
      have e : numR (-9223372036854775808) false l = (0, true, []) := by simp [numR, hd]
      rw [e]
      exact rfnum_no w B R false l h hll hV hBR hd
    | some p =>
      obtain ⟨n, i⟩ := p
      have hb := digs_lt hd
      have e : numR (-9223372036854775808) false l = (n, false, l.drop (i + 1)) := by
        simp only [numR, hd, Bool.false_eq_true, if_false]
        rw [if_neg (by omega)]
      rw [e]
      exact rfnum_yes w B R false l n i h hll hV hBR hd

set_option maxHeartbeats 400000 in
theorem rfcount_any (w : World) (B R : Nat) (bad : Bool) (l : List UInt8) (h : Ref w R bad l) (hs : StOk bad l) (hll : l.length ≤ 140737488355328) (hV : Vars B w) (hBR : B ≤ R) :
    Calls Tryd.prog 18 #[.pointer (some ⟨R, 0, none⟩)] w fun e w' => e = .returned (.int .i64 (numR 0 bad l).1) ∧ Ref w' R (numR 0 bad l).2.1 (numR 0 bad l).2.2 ∧ w.grownBy w' (some R) := by
  have hN := rfnum_any w B R bad l h hs hll hV hBR
  have key : (0 ≤ (numR (-9223372036854775808) bad l).1 ∧ numR 0 bad l = numR (-9223372036854775808) bad l) ∨ ((numR (-9223372036854775808) bad l).1 < 0 ∧ numR 0 bad l = (0, true, [])) := by
    cases bad with
    | true => exact .inl ⟨by simp [numR], by simp [numR]⟩
    | false =>
      cases hd : digs l 59 with
      | none => exact .inl ⟨by simp [numR, hd], by simp [numR, hd]⟩
      | some p =>
        obtain ⟨n, i⟩ := p
        have hb := digs_lt hd
        have h1 : ¬ n < -9223372036854775808 := by omega
        by_cases h0 : n < 0
        · exact .inr ⟨by simp [numR, hd, h1, h0], by simp [numR, hd, h0]⟩
        · exact .inl ⟨by simp [numR, hd, h1]; omega, by simp [numR, hd, h1, h0]⟩
  generalize numR (-9223372036854775808) bad l = q at *
  obtain ⟨n, bd, r⟩ := q
  clear h hV
  rcases key with ⟨h0, e⟩ | ⟨h0, e⟩
  · rw [e]
    simp only at h0
    go_enter Tryd.func18, Tryd.ntmps18
    go_wp2_with fail
    refine hN.mono ?_
    rintro e' w2 ⟨rfl, hr2, hg2⟩
    clear hN e
    go_wp2
    go_ret
    exact ⟨rfl, hr2, hg2⟩
  · rw [e]
    simp only at h0
    go_enter Tryd.func18, Tryd.ntmps18
    go_wp2_with fail
    refine hN.mono ?_
    rintro e' w2 ⟨rfl, hr2, hg2⟩
    obtain ⟨v2, hr2, _⟩ := hr2
    have hF := fail_any w2 R v2 bd hr2
    clear hN e hr2
    go_wp2_with fail
    refine hF.mono ?_
    rintro e w3 ⟨rfl, hr3, hg3⟩
    clear hF
    go_wp2
    go_ret
    exact ⟨rfl, hr3, grownBy_trans hg2 hg3⟩

set_option maxHeartbeats 400000 in
theorem rfstr_no (w : World) (B R : Nat) (bad : Bool) (l : List UInt8) (h : Ref w R bad l) (hll : l.length ≤ 140737488355328) (hV : Vars B w) (hBR : B ≤ R) (hd : digs l 58 = none) :
    Calls Tryd.prog 20 #[.pointer (some ⟨R, 0, none⟩)] w fun e w' => e = .returned (.string ⟨#[]⟩) ∧ Ref w' R true [] ∧ w.grownBy w' (some R) := by
  have hW := word_any w B R bad l 58 58 rfl h hll hV hBR
  rw [hd] at hW
  clear h hd hV
  go_enter Tryd.func20, Tryd.ntmps20
  go_wp2_with fail
  refine hW.mono ?_
  rintro e w2 ⟨rfl, hr2, hg2⟩
  obtain ⟨v2, hr2, _⟩ := hr2
  have hF := fail_any w2 R v2 bad hr2
  clear hW hr2
  simp only [wordV]
  go_wp2_with fail
  refine hF.mono ?_
  rintro e w3 ⟨rfl, hr3, hg3⟩
  clear hF
  go_wp2
  go_ret
  exact ⟨rfl, hr3, grownBy_trans hg2 hg3⟩

set_option maxHeartbeats 1000000 in
set_option maxRecDepth 100000 in
theorem rfstr_some (w : World) (B R : Nat) (l : List UInt8) (n : Int) (i : Nat) (h : Ref w R false l) (hll : l.length ≤ 140737488355328) (hV : Vars B w) (hBR : B ≤ R) (hd : digs l 58 = some (n, i)) :
    Calls Tryd.prog 20 #[.pointer (some ⟨R, 0, none⟩)] w fun e w' => e = .returned (.string ⟨(strR false l).1.toArray⟩) ∧ Ref w' R (strR false l).2.1 (strR false l).2.2 ∧ w.grownBy w' (some R) := by
  have hW := word_any w B R false l 58 58 rfl h hll hV hBR
  rw [hd] at hW
  obtain ⟨hil, hi20, hm1, hm2⟩ := digs_lt hd
  have eS : strR false l = if n < 0 ∨ ((l.drop (i + 1)).length : Int) ≤ n ∨ (l.drop (i + 1)).getD n.toNat 0 ≠ 44 then ([], true, []) else ((l.drop (i + 1)).take n.toNat, false, (l.drop (i + 1)).drop (n.toNat + 1)) := by
    simp only [strR, hd, Bool.false_eq_true, if_false]
  have hdl : (l.drop (i + 1)).length ≤ 140737488355328 := by simp; omega
  simp only [wordV, wordL] at hW
  generalize l.drop (i + 1) = d at *
  have HE : Hid (strR false l = if n < 0 ∨ (d.length : Int) ≤ n ∨ d.getD n.toNat 0 ≠ 44 then ([], true, []) else (d.take n.toNat, false, d.drop (n.toNat + 1))) := eS
  clear h hd hV eS hil hi20
  go_enter Tryd.func20, Tryd.ntmps20
  go_wp2_with fail
  refine hW.mono ?_
  rintro e w2 ⟨rfl, ⟨v2, hr2, hv2⟩, hg2⟩
  clear hW
  have hF := fail_any w2 R v2 false hr2
  by_cases h1 : n < 0
  · have e : strR false l = ([], true, []) := by rw [HE.out, if_pos (.inl h1)]
    have HQ : Hid (strR false l = ([], true, [])) := e
    clear e
    go_wp2_with fail
    refine hF.mono ?_
    rintro e w3 ⟨rfl, hr3, hg3⟩
    clear hF hr2
    go_wp2
    go_ret
    rw [HQ.out]
    exact ⟨rfl, hr3, grownBy_trans hg2 hg3⟩
  obtain ⟨m, rfl⟩ := Int.eq_ofNat_of_zero_le (show 0 ≤ n by omega)
  simp only [Int.toNat_natCast] at HE
  have k0 := hr2.c0
  have f0 := hr2.f0
  have HR2 : Hid (RefAt w2 R v2 false) := hr2
  clear hr2
  by_cases h2 : (d.length : Int) ≤ (m : Int)
  · have HQ : Hid (strR false l = ([], true, [])) := by show _ = _; rw [HE.out, if_pos (.inr (.inl h2))]
    obtain ⟨a, cp, rfl⟩ : ∃ a cp, v2 = .slice a d.length cp := by
      rcases hv2 with ⟨rfl, rfl⟩ | ⟨b, o, cp, rfl, _⟩
      · exact ⟨_, _, rfl⟩
      · exact ⟨_, _, rfl⟩
    go_wp2_with fail
    refine hF.mono ?_
    rintro e w3 ⟨rfl, hr3, hg3⟩
    clear hF
    go_wp2
    go_ret
    rw [HQ.out]
    exact ⟨rfl, hr3, grownBy_trans hg2 hg3⟩
  rcases hv2 with ⟨rfl, rfl⟩ | ⟨b, o, cp, rfl, hlc, hc⟩
  · simp at h2
  have hmd : m < d.length := by omega
  have i1 : (m : Int) < (d.length : Int) := by omega
  have hcm := hc m hmd
  have hT := conv_any (RdB.take m (by omega) hc hlc)
  have HC : Hid (∀ j, j < d.length → w2.cell? ⟨b, o + j, none⟩ = some (.int .u8 ((d.getD j 0).toNat : Int))) := hc
  clear hc
  by_cases h3 : d.getD m 0 = 44
  · have e : strR false l = (d.take m, false, d.drop (m + 1)) := by
      rw [HE.out, if_neg (fun h => h.elim h1 fun h => h.elim h2 fun h => h h3)]
    have HQ : Hid (strR false l = (d.take m, false, d.drop (m + 1))) := e
    rw [h3] at hcm
    have hcm' : w2.cell? ⟨b, o + m, none⟩ = some (.int .u8 44) := hcm
    obtain ⟨T, eT⟩ : ∃ T : ByteArray, T = ⟨(d.take m).toArray⟩ := ⟨_, rfl⟩
    rw [← eT] at hT
    have HT : Hid (T = ⟨(d.take m).toArray⟩) := eT
    clear eT e hcm hF h3
    go_wp2
    all_goals
      go_ret
      rw [HQ.out]
      refine ⟨congrArg (fun x => Ending.returned (Value.string x)) HT.out, ⟨_, HR2.out.set0 _, ?_⟩, grownBy_trans hg2 (grownBy_setCell _ _ _ _)⟩
      refine RdB.apart ?_ HR2.out (grownBy_setCell _ _ _ _)
      exact RdB.drop (m + 1) (by omega) HC.out hlc _ _ _ (by omega) (by omega) (by omega)
  · have e : strR false l = ([], true, []) := by rw [HE.out, if_pos (.inr (.inr h3))]
    have HQ : Hid (strR false l = ([], true, [])) := e
    have hne : (((d.getD m 0).toNat : Int) != 44) = true := by
      rw [bne_iff_ne]
      intro e
      exact h3 (UInt8.toNat_inj.1 (show _ = (44 : UInt8).toNat by simpa using (by omega : (d.getD m 0).toNat = 44)))
    generalize ((d.getD m 0).toNat : Int) = z at *
    clear e hT h3
    go_wp2_with fail
    refine hF.mono ?_
    rintro e w3 ⟨rfl, hr3, hg3⟩
    clear hF
    go_wp2
    go_ret
    rw [HQ.out]
    exact ⟨rfl, hr3, grownBy_trans hg2 hg3⟩

theorem rfstr_any (w : World) (B R : Nat) (bad : Bool) (l : List UInt8) (h : Ref w R bad l) (hs : StOk bad l) (hll : l.length ≤ 140737488355328) (hV : Vars B w) (hBR : B ≤ R) :
    Calls Tryd.prog 20 #[.pointer (some ⟨R, 0, none⟩)] w fun e w' => e = .returned (.string ⟨(strR bad l).1.toArray⟩) ∧ Ref w' R (strR bad l).2.1 (strR bad l).2.2 ∧ w.grownBy w' (some R) := by
  cases bad with
  | true =>
    have := hs rfl
    subst this
    exact rfstr_no w B R true [] h hll hV hBR (digs_nil _)
  | false =>
    cases hd : digs l 58 with
    | none =>
      have e : strR false l = ([], true, []) := by simp [strR, hd]
      rw [e]
      exact rfstr_no w B R false l h hll hV hBR hd
    | some p =>
      obtain ⟨n, i⟩ := p
      exact rfstr_some w B R l n i h hll hV hBR hd
end Go.Proofs.YtbdfhmffdnlbfaaDoor
