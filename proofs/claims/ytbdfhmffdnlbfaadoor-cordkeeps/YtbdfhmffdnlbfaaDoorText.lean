/- What the reader's Str answers, and what it leaves of the reader, for any bytes that can be read, where the library's table of powers of ten and its two errors' variables read as they were laid. -/
import Derived.Test.YtbdfhmffdnlbfaaDoorNumber
namespace Go.Proofs.YtbdfhmffdnlbfaaDoor
open Go.RowKit Go.Lib

/-- A text is read: the answer, whether the reader is bad then, what is left. -/
def strR (bad : Bool) (l : List UInt8) : List UInt8 × Bool × List UInt8 :=
  if bad then ([], true, l) else
  match digs l 58 with
  | some (n, i) =>
    if n < 0 ∨ ((l.drop (i + 1)).length : Int) ≤ n ∨ (l.drop (i + 1)).getD n.toNat 0 ≠ 44 then ([], true, [])
    else ((l.drop (i + 1)).take n.toNat, false, (l.drop (i + 1)).drop (n.toNat + 1))
  | none => ([], true, [])

set_option maxHeartbeats 400000 in
theorem str_bad (w : World) (R : Nat) (l : List UInt8) (h : Rdr w R true l) :
    Calls Tryd.prog 19 #[.pointer (some ⟨R, 0, none⟩)] w fun e w' => e = .returned (.string ⟨#[]⟩) ∧ w' = w := by
  have hB := bad_any w R true l h
  clear h
  go_enter Tryd.func19, Tryd.ntmps19
  go_wp2_with fail
  refine hB.mono ?_
  rintro e w1 ⟨rfl, rfl⟩
  go_wp2
  go_ret
  exact ⟨rfl, rfl⟩

set_option maxHeartbeats 400000 in
theorem str_none (w : World) (B R : Nat) (v : Value) (l : List UInt8) (h : RdrAt w R v false) (hv : RdB w v l) (hV : Vars B w) (hBR : B ≤ R) (hd : digs l 58 = none) :
    Calls Tryd.prog 19 #[.pointer (some ⟨R, 0, none⟩)] w fun e w' => e = .returned (.string ⟨#[]⟩) ∧ Rdr w' R true [] ∧ w.grownBy w' (some R) := by
  have hB := bad_any w R false l ⟨_, h, hv⟩
  have hR := h.lt
  have h0 := h.c0
  have hD := digits_any w B v l 58 58 rfl hv hV (by omega)
  rw [hd] at hD
  have HF : Hid (RdrAt w R v false) := h
  clear h hv hd hV
  go_enter Tryd.func19, Tryd.ntmps19
  go_wp2_with fail
  refine hB.mono ?_
  rintro e w1 ⟨rfl, rfl⟩
  go_wp2_with fail
  refine hD.mono ?_
  rintro e w2 ⟨rfl, hb⟩
  have hS := spoil_any w2 R v false (HF.out.on hb hR)
  clear hB hD h0
  simp only [digsV]
  go_wp2_with fail
  refine hS.mono ?_
  rintro e w3 ⟨rfl, hr, hg⟩
  clear hS
  go_wp2
  go_ret
  exact ⟨rfl, hr, grownBy_trans (grownBy_of_below hb) hg⟩

set_option maxHeartbeats 400000 in
theorem str_neg (w : World) (B R : Nat) (n : Int) (v : Value) (l : List UInt8) (i : Nat) (h : RdrAt w R v false) (hv : RdB w v l) (hV : Vars B w) (hBR : B ≤ R) (hd : digs l 58 = some (n, i)) (hn : n < 0) :
    Calls Tryd.prog 19 #[.pointer (some ⟨R, 0, none⟩)] w fun e w' => e = .returned (.string ⟨#[]⟩) ∧ Rdr w' R true [] ∧ w.grownBy w' (some R) := by
  have hB := bad_any w R false l ⟨_, h, hv⟩
  have hR := h.lt
  have h0 := h.c0
  have hD := digits_any w B v l 58 58 rfl hv hV (by omega)
  rw [hd] at hD
  have HF : Hid (RdrAt w R v false) := h
  clear h hv hd hV
  go_enter Tryd.func19, Tryd.ntmps19
  go_wp2_with fail
  refine hB.mono ?_
  rintro e w1 ⟨rfl, rfl⟩
  go_wp2_with fail
  refine hD.mono ?_
  rintro e w2 ⟨rfl, hb⟩
  have hS := spoil_any w2 R v false (HF.out.on hb hR)
  clear hB hD h0
  simp only [digsV]
  go_wp2_with fail
  refine hS.mono ?_
  rintro e w3 ⟨rfl, hr, hg⟩
  clear hS
  go_wp2
  go_ret
  exact ⟨rfl, hr, grownBy_trans (grownBy_of_below hb) hg⟩

set_option maxHeartbeats 400000 in
theorem str_long (w : World) (B R b o c n0 : Nat) (n : Int) (l : List UInt8) (i : Nat) (h : RdrAt w R (.slice (some ⟨b, o, none⟩) n0 c) false) (hn0 : n0 = l.length) (hv : RdB w (.slice (some ⟨b, o, none⟩) n0 c) l) (hV : Vars B w) (hBR : B ≤ R) (hd : digs l 58 = some (n, i)) (hn : 0 ≤ n) (hn2 : (l.length : Int) - (i + 1) ≤ n) :
    Calls Tryd.prog 19 #[.pointer (some ⟨R, 0, none⟩)] w fun e w' => e = .returned (.string ⟨#[]⟩) ∧ Rdr w' R true [] ∧ w.grownBy w' (some R) := by
  have hB := bad_any w R false l ⟨_, h, hv⟩
  have hR := h.lt
  have h0 := h.c0
  obtain ⟨hil, hi20, hm1, hm2⟩ := digs_lt hd
  have hD := digits_any w B _ l 58 58 rfl hv hV (by omega)
  rw [hd] at hD
  have HF : Hid (RdrAt w R (.slice (some ⟨b, o, none⟩) n0 c) false) := h
  rw [← hn0] at hn2 hil
  clear h hv hd hV hn0
  go_enter Tryd.func19, Tryd.ntmps19
  go_wp2_with fail
  refine hB.mono ?_
  rintro e w1 ⟨rfl, rfl⟩
  go_wp2_with fail
  refine hD.mono ?_
  rintro e w2 ⟨rfl, hb⟩
  have hS := spoil_any w2 R _ false (HF.out.on hb hR)
  have k0 := (HF.out.on hb hR).c0
  clear hB hD h0
  simp only [digsV]
  go_wp2_with fail
  refine hS.mono ?_
  rintro e w3 ⟨rfl, hr, hg⟩
  clear hS
  go_wp2
  go_ret
  exact ⟨rfl, hr, grownBy_trans (grownBy_of_below hb) hg⟩

set_option maxHeartbeats 400000 in
theorem str_comma (w : World) (B R b o c n0 m : Nat) (l : List UInt8) (i : Nat) (h : RdrAt w R (.slice (some ⟨b, o, none⟩) n0 c) false) (hn0 : n0 = l.length) (hlc : l.length ≤ c) (hc : ∀ j, j < l.length → w.cell? ⟨b, o + j, none⟩ = some (.int .u8 ((l.getD j 0).toNat : Int)))
    (hV : Vars B w) (hBR : B ≤ R) (hd : digs l 58 = some ((m : Int), i)) (hm : i + 1 + m < l.length) (hll : l.length ≤ 140737488355328) (hx : l.getD (i + 1 + m) 0 ≠ 44) :
    Calls Tryd.prog 19 #[.pointer (some ⟨R, 0, none⟩)] w fun e w' => e = .returned (.string ⟨#[]⟩) ∧ Rdr w' R true [] ∧ w.grownBy w' (some R) := by
  have hv : RdB w (.slice (some ⟨b, o, none⟩) n0 c) l := .inr ⟨b, o, c, by rw [hn0], hlc, hc⟩
  have hB := bad_any w R false l ⟨_, h, hv⟩
  have hR := h.lt
  have h0 := h.c0
  obtain ⟨hil, hi20, hm1, hm2⟩ := digs_lt hd
  have hD := digits_any w B _ l 58 58 rfl hv hV (by omega)
  rw [hd] at hD
  have HF : Hid (RdrAt w R (.slice (some ⟨b, o, none⟩) n0 c) false) := h
  have hcx := hc (i + 1 + m) hm
  have hne : (((l.getD (i + 1 + m) 0).toNat : Int) != 44) = true := by
    rw [bne_iff_ne]
    intro e
    exact hx (UInt8.toNat_inj.1 (show _ = (44 : UInt8).toNat by simpa using (by omega : (l.getD (i + 1 + m) 0).toNat = 44)))
  generalize ((l.getD (i + 1 + m) 0).toNat : Int) = z at *
  have hlt : w.cell? ⟨b, o + (i + 1 + m), none⟩ = some (.int .u8 z) := hcx
  have hbl := World.block_lt_of_cell? w _ hlt
  have hm3 : i + 1 + m < n0 := by omega
  have hm4 : n0 ≤ 140737488355328 := by omega
  clear h hv hd hV hn0 hc hx hcx
  go_enter Tryd.func19, Tryd.ntmps19
  go_wp2_with fail
  refine hB.mono ?_
  rintro e w1 ⟨rfl, rfl⟩
  go_wp2_with fail
  refine hD.mono ?_
  rintro e w2 ⟨rfl, hb⟩
  have hS := spoil_any w2 R _ false (HF.out.on hb hR)
  have k0 := (HF.out.on hb hR).c0
  have k1 : w2.cell? ⟨b, o + (i + 1 + m), none⟩ = some (.int .u8 z) := by rw [hb.cell (p := ⟨b, o + (i + 1 + m), none⟩) hbl]; exact hlt
  clear hB hD h0 hlt
  simp only [digsV]
  go_wp2_with fail
  refine hS.mono ?_
  rintro e w3 ⟨rfl, hr, hg⟩
  clear hS
  go_wp2
  go_ret
  exact ⟨rfl, hr, grownBy_trans (grownBy_of_below hb) hg⟩

set_option maxHeartbeats 400000 in
theorem str_yes (w : World) (B R b o c n0 m : Nat) (l : List UInt8) (i : Nat) (h : RdrAt w R (.slice (some ⟨b, o, none⟩) n0 c) false) (hn0 : n0 = l.length) (hlc : l.length ≤ c) (hc : ∀ j, j < l.length → w.cell? ⟨b, o + j, none⟩ = some (.int .u8 ((l.getD j 0).toNat : Int)))
    (hV : Vars B w) (hBR : B ≤ R) (hd : digs l 58 = some ((m : Int), i)) (hm : i + 1 + m < l.length) (hll : l.length ≤ 140737488355328) (hx : l.getD (i + 1 + m) 0 = 44) :
    Calls Tryd.prog 19 #[.pointer (some ⟨R, 0, none⟩)] w fun e w' => e = .returned (.string ⟨((l.drop (i + 1)).take m).toArray⟩) ∧ Rdr w' R false (l.drop (i + 1 + m + 1)) ∧ w.grownBy w' (some R) := by
  have hv : RdB w (.slice (some ⟨b, o, none⟩) n0 c) l := .inr ⟨b, o, c, by rw [hn0], hlc, hc⟩
  have hB := bad_any w R false l ⟨_, h, hv⟩
  have hR := h.lt
  have h0 := h.c0
  obtain ⟨hil, hi20, hm1, hm2⟩ := digs_lt hd
  have hD := digits_any w B _ l 58 58 rfl hv hV (by omega)
  rw [hd] at hD
  have HF : Hid (RdrAt w R (.slice (some ⟨b, o, none⟩) n0 c) false) := h
  have HN : Hid (n0 = l.length) := hn0
  have HC : Hid (∀ j, j < l.length → w.cell? ⟨b, o + j, none⟩ = some (.int .u8 ((l.getD j 0).toNat : Int))) := hc
  have hlt : w.cell? ⟨b, o + (i + 1 + m), none⟩ = some (.int .u8 44) := by rw [hc (i + 1 + m) hm, hx]; rfl
  have hbl := World.block_lt_of_cell? w _ hlt
  have hm3 : i + 1 + m < n0 := by omega
  have hm4 : n0 ≤ 140737488355328 := by omega
  have hnc : n0 ≤ c := by omega
  have hcne : ¬ c = i + 1 := by omega
  have hT := RdB.take (w := w) (b := b) (o := o + (i + 1)) (c := c - (i + 1)) (l := l.drop (i + 1)) m (by simp; omega) (fun j hj => by
    have hj' : i + 1 + j < l.length := by simp at hj; omega
    rw [Nat.add_assoc, hc (i + 1 + j) hj']
    simp only [List.getD_eq_getElem?_getD, List.getElem?_drop]) (by simp; omega)
  clear h hv hd hV hn0 hc hx
  go_enter Tryd.func19, Tryd.ntmps19
  go_wp2_with fail
  refine hB.mono ?_
  rintro e w1 ⟨rfl, rfl⟩
  go_wp2_with fail
  refine hD.mono ?_
  rintro e w2 ⟨rfl, hb⟩
  have hr2 := HF.out.on hb hR
  have k0 := hr2.c0
  have f0 := hr2.f0
  have HR2 : Hid (RdrAt w2 R (.slice (some ⟨b, o, none⟩) n0 c) false) := hr2
  have k1 : w2.cell? ⟨b, o + (i + 1 + m), none⟩ = some (.int .u8 44) := by rw [hb.cell (p := ⟨b, o + (i + 1 + m), none⟩) hbl]; exact hlt
  have hcv := conv_any (hT.on hb)
  clear hB hD h0 hlt hr2 hT
  obtain ⟨T, eT⟩ : ∃ T : ByteArray, T = ⟨((l.drop (i + 1)).take m).toArray⟩ := ⟨_, rfl⟩
  rw [← eT] at hcv
  have HT : Hid (T = ⟨((l.drop (i + 1)).take m).toArray⟩) := eT
  clear eT
  simp only [digsV]
  go_wp2
  all_goals
    go_ret
    refine ⟨congrArg (fun x => Ending.returned (Value.string x)) HT.out, ⟨_, HR2.out.set0 _, ?_⟩, grownBy_trans (grownBy_of_below hb) (grownBy_setCell _ _ _ _)⟩
    refine RdB.grown (RdB.on ?_ hb) HR2.out (grownBy_setCell _ _ _ _)
    have hn0 := HN.out
    exact RdB.drop (i + 1 + m + 1) (by omega) HC.out hlc _ _ _ (by omega) (by omega) (by omega)

theorem rstr_any (w : World) (B R : Nat) (bad : Bool) (l : List UInt8) (h : Rdr w R bad l) (hll : l.length ≤ 140737488355328) (hV : Vars B w) (hBR : B ≤ R) :
    Calls Tryd.prog 19 #[.pointer (some ⟨R, 0, none⟩)] w fun e w' => e = .returned (.string ⟨(strR bad l).1.toArray⟩) ∧ Rdr w' R (strR bad l).2.1 (strR bad l).2.2 ∧ w.grownBy w' (some R) := by
  cases bad with
  | true =>
    refine (str_bad w R l h).mono ?_
    rintro e w' ⟨rfl, rfl⟩
    exact ⟨rfl, h, World.grownBy.refl _ _⟩
  | false =>
    obtain ⟨v, h, hv⟩ := h
    cases hd : digs l 58 with
    | none =>
      have e : strR false l = ([], true, []) := by simp [strR, hd]
      rw [e]
      exact str_none w B R v l h hv hV hBR hd
    | some p =>
      obtain ⟨n, i⟩ := p
      obtain ⟨hil, hi20, hm1, hm2⟩ := digs_lt hd
      rcases hv with ⟨rfl, rfl⟩ | ⟨b, o, c, rfl, hlc, hc⟩
      · simp at hil
      by_cases h1 : n < 0
      · have e : strR false l = ([], true, []) := by simp [strR, hd, h1]
        rw [e]
        exact str_neg w B R n _ l i h (.inr ⟨b, o, c, rfl, hlc, hc⟩) hV hBR hd h1
      obtain ⟨m, rfl⟩ := Int.eq_ofNat_of_zero_le (show 0 ≤ n by omega)
      have hdl : (l.drop (i + 1)).length = l.length - (i + 1) := by simp
      by_cases h2 : ((l.drop (i + 1)).length : Int) ≤ (m : Int)
      · have e : strR false l = ([], true, []) := by simp only [strR, hd, h2, true_or, or_true, if_true, Bool.false_eq_true, if_false]
        rw [e]
        exact str_long w B R b o c _ (m : Int) l i h rfl (.inr ⟨b, o, c, rfl, hlc, hc⟩) hV hBR hd (by omega) (by omega)
      have hg : (l.drop (i + 1)).getD m 0 = l.getD (i + 1 + m) 0 := by simp only [List.getD_eq_getElem?_getD, List.getElem?_drop]
      by_cases h3 : l.getD (i + 1 + m) 0 = 44
      · have e : strR false l = ((l.drop (i + 1)).take m, false, l.drop (i + 1 + m + 1)) := by
          simp only [strR, hd, Bool.false_eq_true, if_false, Int.toNat_natCast, hg]
          rw [if_neg (fun h => h.elim h1 fun h => h.elim h2 fun h => h h3), List.drop_drop]
          rfl
        rw [e]
        exact str_yes w B R b o c _ m l i h rfl hlc hc hV hBR hd (by omega) hll h3
      · have e : strR false l = ([], true, []) := by simp only [strR, hd, Int.toNat_natCast, hg, ne_eq, h3, not_false_eq_true, or_true, if_true, Bool.false_eq_true, if_false]
        rw [e]
        exact str_comma w B R b o c _ m l i h rfl hlc hc hV hBR hd (by omega) hll h3
end Go.Proofs.YtbdfhmffdnlbfaaDoor
