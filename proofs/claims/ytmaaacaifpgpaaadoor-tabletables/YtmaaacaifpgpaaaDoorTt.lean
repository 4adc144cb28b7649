
/- table's reader: the program's table. Conditions: those that each row states. -/
import Derived.Test.YtmaaacaifpgpaaaDoorTs
namespace Go.Proofs.YtmaaacaifpgpaaaDoor
open Go.RowKit Go.Lib
set_option maxRecDepth 100000
set_option linter.unusedSimpArgs false

theorem Cr.same {w w' : World} {b : Nat} {s : List UInt8} (h : Cr w b s) (hb : w'.heap[b]? = w.heap[b]?) : Cr w' b s := by
  refine ⟨?_, ?_⟩
  · have := h.c0; unfold World.cell? at this ⊢; simp only [hb]; exact this
  · have := h.f0; unfold World.frozen? at this ⊢; simp only [hb]; exact this
theorem Cr.lenAt {w : World} {b : Nat} {s : List UInt8} (h : Cr w b s) : lenAt w b = s.length := by
  unfold Proofs.YtmaaacaifpgpaaaDoor.lenAt
  rw [h.c0]
  rfl
theorem Cr.new (w : World) (s : List UInt8) (t : TypeId) : Cr (w.alloc (.cells #[str s] t)) w.heap.size s :=
  ⟨by simp [World.cell?_alloc_new], by simp⟩
/-- How the program's table stands at the head of its loop. -/
structure CT (w w' : World) (b bi : Nat) (r s : List UInt8) (v : Value) (L : List Pr) : Prop where
  r : Cr w' b r
  i : Cr w' bi s
  o : OwnP w' (bi + 1) v L
  f : Alb w.heap.size w w' b
  s : bi + 1 ≤ w'.heap.size
theorem CT.alb {w w1 w2 : World} {b bi : Nat} {r s s' : List UInt8} {v : Value} {L : List Pr} (h : CT w w1 b bi r s v L) (hb : b < bi) (hw : w.heap.size ≤ bi) (ha : Alb w1.heap.size w1 w2 bi) (hr : Cr w2 bi s') : CT w w2 b bi r s' v L :=
  ⟨h.r.same (ha.block b (by have := h.s; omega) (by omega)), hr, h.o.alb ha (by omega), ⟨ha.os.trans h.f.os, ha.tape.trans h.f.tape, ha.output.trans h.f.output, Nat.le_trans h.f.size ha.size, fun k hk hk2 => (ha.block k (by have := h.s; omega) (by omega)).trans (h.f.block k hk hk2)⟩, Nat.le_trans h.s ha.size⟩
theorem CT.fr {w w1 w2 : World} {b bi : Nat} {r s : List UInt8} {v : Value} {L : List Pr} (h : CT w w1 b bi r s v L) (hw : w.heap.size ≤ bi) (ha : Alb w1.heap.size w1 w2 bi) : Alb w.heap.size w w2 b :=
  ⟨ha.os.trans h.f.os, ha.tape.trans h.f.tape, ha.output.trans h.f.output, Nat.le_trans h.f.size ha.size, fun k hk hk2 => (ha.block k (by have := h.s; omega) (by omega)).trans (h.f.block k hk hk2)⟩
theorem CT.low {w w1 w2 : World} {b bi : Nat} {r s : List UInt8} {v v' : Value} {L L' : List Pr} (h : CT w w1 b bi r s v L) (hb : b < bi) (hw : w.heap.size ≤ bi) (ha : Below (bi + 1) w1 w2) (ho : OwnP w2 (bi + 1) v' L') : CT w w2 b bi r s v' L' :=
  ⟨h.r.on ha (by omega), h.i.on ha (by omega), ho, h.f.trans (.below (ha.mono (by omega))), Nat.le_trans h.s ha.size⟩
theorem fldC_nil {k : Nat} {acc : List Pr} : fldC k [] acc = some acc := by
  cases k <;> simp [fldC]
theorem fldC_step {k : Nat} {s : List UInt8} {acc : List Pr} (hs : s ≠ []) (hk : s.length ≤ k) :
    (16 ≤ acc.length → fldC k s acc = none) ∧ (acc.length < 16 → (cfield s = none → fldC k s acc = none) ∧ (∀ p r, cfield s = some (p, r) → fldC k s acc = fldC (k - 1) r (acc ++ [p]) ∧ r.length < s.length)) := by
  cases k with
  | zero => exact absurd (List.length_eq_zero_iff.1 (Nat.le_zero.1 hk)) hs
  | succ k =>
    have e : fldC (k + 1) s acc = if s = [] then some acc else if 16 ≤ acc.length then none else match cfield s with
        | none => none
        | some (p, r) => fldC k r (acc ++ [p]) := rfl
    rw [e, if_neg hs]
    refine ⟨fun h => by rw [if_pos h], fun h => ?_⟩
    rw [if_neg (by omega)]
    refine ⟨fun hc => by rw [hc], fun p r hc => ?_⟩
    rw [hc]
    exact ⟨by simp only [Nat.add_sub_cancel], cfield_left hs hc⟩
theorem ctab_none {s t r : List UInt8} (h4 : 4 ≤ s.length) (hc : cutP (s.drop 4) (numL (s.take 4)) = some (t, r)) (ho : okO (tabR t.length (t, false) []) = false) : ctab s = none := by
  unfold ctab
  rw [if_neg (by omega), hc]
  simp only
  unfold tabO
  rw [ho]
  rfl
theorem ctab_some {s t r : List UInt8} {M : List Pr} (h4 : 4 ≤ s.length) (hc : cutP (s.drop 4) (numL (s.take 4)) = some (t, r)) (ho : tabR t.length (t, false) [] = (M, false)) (hv : validL M = true) : ctab s = some (M, r) := by
  unfold ctab
  rw [if_neg (by omega), hc]
  simp only
  unfold tabO
  rw [ho, if_pos (by unfold okO; simp [hv])]
  rfl
set_option maxHeartbeats 4000000 in
theorem ctable_any (w : World) (b : Nat) (s : List UInt8) (hc : Cr w b s) (hb : b < w.heap.size) (hs : s.length ≤ 140737488355328) :
    Calls Tryd.prog 30 #[.pointer (some ⟨b, 0, none⟩)] w fun e w' =>
      Alb w.heap.size w w' b ∧ ((∃ v L r, ctab s = some (L, r) ∧ e = .returned v ∧ OwnP w' w.heap.size v L ∧ Cr w' b r) ∨ (ctab s = none ∧ e = .panicked (gup 11))) := by
  have N := cnum_any w b 4 s hc hb hs (by omega)
  obtain ⟨gu, hg⟩ : ∃ gu, gup 11 = gu := ⟨_, rfl⟩
  have I := fun w => insist_no w 11
  have CF := fun w b s h1 h2 h3 => cfield_any w b s h1 h2 h3
  rw [hg] at N I CF ⊢
  have HS : Hid (s.length ≤ 140737488355328) := hs
  clear hc hs
  go_enter Tryd.func30, Tryd.ntmps30
  go_wp2_with fail
  refine N.mono ?_
  rintro e w1 ⟨hA, ⟨h4, rfl, hc⟩ | ⟨h4, rfl, -⟩⟩
  rotate_left
  · exact ⟨rfl, hA, .inr ⟨by unfold ctab; rw [if_pos (by omega)], rfl⟩⟩
  have C := cut_any w1 b (numL (s.take 4)) (s.drop 4) hc (by have := HS.out; rw [List.length_drop]; omega)
  rw [hg] at C
  have HX : Hid (cutP (s.drop 4) (numL (s.take 4)) = if numL (s.take 4) ≤ (s.drop 4).length then some ((s.drop 4).take (numL (s.take 4)), (s.drop 4).drop (numL (s.take 4))) else none) := rfl
  have HN : Hid (∀ t r, cutP (s.drop 4) (numL (s.take 4)) = some (t, r) → okO (tabR t.length (t, false) []) = false → ctab s = none) := fun t r => ctab_none h4
  have HY : Hid (∀ t r M, cutP (s.drop 4) (numL (s.take 4)) = some (t, r) → tabR t.length (t, false) [] = (M, false) → validL M = true → ctab s = some (M, r)) := fun t r M => ctab_some h4
  have HZ : Hid (cutP (s.drop 4) (numL (s.take 4)) = none → ctab s = none) := fun h => by show _ = _; unfold ctab; rw [if_neg (by omega), h]
  have HL : Hid ((s.drop 4).length ≤ 140737488355328) := by have := HS.out; show _ ≤ _; rw [List.length_drop]; omega
  clear N h4 hg
  generalize cutP (s.drop 4) (numL (s.take 4)) = cp at *
  generalize numL (s.take 4) = n at *
  generalize s.drop 4 = s4 at *
  go_wp2_with fail
  refine C.mono ?_
  rintro e w2 ⟨b2, ⟨h2, rfl, hc2⟩ | ⟨h2, rfl, -⟩⟩
  rotate_left
  · exact ⟨rfl, hA.trans (.but b2), .inr ⟨HZ.out (by rw [HX.out, if_neg (by omega)]), rfl⟩⟩
  have hcp : cp = some (s4.take n, s4.drop n) := by rw [HX.out, if_pos h2]
  have ht : (s4.take n).length ≤ 140737488355328 := by have := HL.out; rw [List.length_take]; omega
  have HN := HN.out _ _ hcp
  have HY := fun M => HY.out _ _ M hcp
  have SAME := tab_same (s4.take n).length (s4.take n) [] [] (Nat.le_refl _) (List.Perm.refl _) List.Pairwise.nil (by simp)
  clear C HX HZ hcp h2 HL HS hc
  generalize s4.take n = t at *
  generalize s4.drop n = r at *
  have HSAME : Hid ((fldC t.length t [] = none → okO (tabR t.length (t, false) []) = false) ∧ (∀ A M, fldC t.length t [] = some A → M.Perm A → M.Pairwise (fun x y => lessP y x = false) →
      (validL M = true → tabR t.length (t, false) [] = (M, false)) ∧ (validL M = false → okO (tabR t.length (t, false) []) = false))) := SAME
  have HF0 : ∃ F, fldC t.length t [] = F := ⟨_, rfl⟩
  obtain ⟨F, hF⟩ := HF0
  have HEND : Hid ((F = none → ctab s = none) ∧ (∀ A M, F = some A → M.Perm A → M.Pairwise (fun x y => lessP y x = false) → (validL M = true → ctab s = some (M, r)) ∧ (validL M = false → ctab s = none))) := by
    refine ⟨fun h => HN (HSAME.out.1 (by rw [hF]; exact h)), fun A M h h2 h3 => ?_⟩
    have := HSAME.out.2 A M (by rw [hF]; exact h) h2 h3
    exact ⟨fun hv => HY M (this.1 hv) hv, fun hv => HN (this.2 hv)⟩
  have HK : ∃ k, t.length = k := ⟨_, rfl⟩
  obtain ⟨k0, hk0⟩ := HK
  have HF : Hid (fldC k0 t [] = F ∧ t.length ≤ k0) := ⟨by rw [← hk0]; exact hF, by omega⟩
  obtain ⟨bi, hbi⟩ : ∃ bi, w2.heap.size = bi := ⟨_, rfl⟩
  have hwb : w.heap.size ≤ bi := by have := hA.size; have := b2.size; omega
  have hD : CT w (w2.alloc (.cells #[str t] 63)) b bi r t (.slice none 0 0) [] := by
    refine ⟨hc2.on (below_new w2 _) (by omega), ?_, World.ownsRow_nil _ _ _ _, (hA.trans (.but b2)).trans (.below ((below_new w2 _).mono (by omega))), by simp; omega⟩
    have := Cr.new w2 t 63
    rw [hbi] at this
    exact this
  have hbb : b < bi := by omega
  clear SAME HSAME hF HN HY hk0 hA b2 hc2
  go_wp2_with fail
  clear hbi
  generalize (w2.alloc (.cells #[str t] 63)) = wA at *
  go_loopw [4] (fun v wr => ∃ k s' acc, CT w wr b bi r s' v acc ∧ Hid (fldC k s' acc = F ∧ s'.length ≤ k) ∧ acc.length ≤ 16 ∧ s'.length ≤ 140737488355328) (fun _ wr => lenAt wr bi)
  case atStart => exact ⟨k0, t, [], hD, HF, by simp, ht⟩
  case round =>
    clear hD HF ht
    obtain ⟨k, s', acc, hd, hf, h16, hl'⟩ := hrel
    have c0 := hd.i.c0
    by_cases hs : s' = []
    · subst hs
      have hFs : Hid (F = some acc) := by show _ = _; rw [← hf.out.1, fldC_nil]
      have SO := sort_any wr (bi + 1) u4 acc hd.o (by omega)
      go_wp2_with fail
      refine SO.mono ?_
      rintro e w4 ⟨rfl, M, hperm, hsort, hoM, bM, nM⟩
      have hE := HEND.out.2 acc M hFs.out hperm hsort
      have VV := valid7 w4 u4 M hoM.rd
      have d4 := hd.low hbb hwb bM hoM
      clear SO hd bM nM hsort hperm hFs c0 hf
      go_wp2_with fail
      refine VV.mono ?_
      rintro e w5 ⟨rfl, b5⟩
      have d5 := d4.low hbb hwb (b5.mono d4.s) (d4.o.up b5)
      clear VV d4 b5 hoM
      cases hv : validL M with
      | true =>
        have hE := hE.1 hv
        go_wp2_with (first | (go_at_call 49; refine (insist_ok _ _).mono ?_; rintro e w' ⟨rfl, rfl⟩))
        go_ret
        exact ⟨d5.f, .inl ⟨_, _, _, hE, rfl, d5.o.low (by omega), d5.r⟩⟩
      | false =>
        have hE := hE.2 hv
        go_wp2_with fail
        refine (I _).mono ?_
        rintro e w6 ⟨rfl, rfl⟩
        exact ⟨rfl, d5.f, .inr ⟨hE, rfl⟩⟩
    · have hne : s'.isEmpty = false := by cases s' <;> simp at *
      obtain ⟨ad, cap, hu4⟩ := hd.o.rd.shape
      have hST := fldC_step (acc := acc) hs hf.out.2
      have HO : OwnP wr (bi + 1) u4 acc := hd.o
      by_cases hm : 16 ≤ acc.length
      · have hE := HEND.out.1 (by rw [← hf.out.1]; exact hST.1 hm)
        have hmz : decide ((acc.length : Int) < 16) = false := by simp; omega
        subst hu4
        go_wp2_with fail
        refine (I _).mono ?_
        rintro e w6 ⟨rfl, rfl⟩
        exact ⟨rfl, hd.f, .inr ⟨hE, rfl⟩⟩
      · have hST := hST.2 (by omega)
        have hmz : decide ((acc.length : Int) < 16) = true := by simp; omega
        have FI := CF wr bi s' hd.i hd.s hl'
        have HST : Hid ((cfield s' = none → ctab s = none) ∧ ∀ p r', cfield s' = some (p, r') → fldC (k - 1) r' (acc ++ [p]) = F ∧ r'.length < s'.length ∧ s'.length ≤ k) := ⟨fun h => HEND.out.1 (by rw [← hf.out.1]; exact hST.1 h), fun p r' h => by
          obtain ⟨h1, h2⟩ := hST.2 p r' h
          exact ⟨by rw [← h1]; exact hf.out.1, h2, hf.out.2⟩⟩
        have hlen := hd.i.lenAt
        clear hST hf
        subst hu4
        go_wp2_with (first | (go_at_call 49; refine (insist_ok _ _).mono ?_; rintro e w' ⟨rfl, rfl⟩))
        refine FI.mono ?_
        rintro e w4 ⟨a4, ⟨p, r', hcf, rfl, i4⟩ | ⟨hcf, rfl⟩⟩
        · obtain ⟨hF1, hF2, hF3⟩ := HST.out.2 p r' hcf
          have HF1 : Hid (fldC (k - 1) r' (acc ++ [p]) = F ∧ r'.length ≤ k - 1) := ⟨hF1, by omega⟩
          have d4 := hd.alb hbb hwb a4 i4
          clear FI hd c0 HO HST hcf hF1 hF3 a4 i4
          unfold Pr.v
          go_wp2_with (at_builtin; refine wpl_appP rfl (.tmp 17) (.tmp 19) rfl (bi + 1) _ acc p w4 rfl d4.o rfl (by omega) d4.s ?_)
          intro v9 w9 o9 b9 _
          have d9 := d4.low hbb hwb b9 o9
          clear d4
          go_wp2_with fail
          go_roundw
          case rel => exact ⟨k - 1, r', acc ++ [p], d9, HF1, by rw [List.length_append, List.length_singleton]; omega, by omega⟩
          case measure =>
            rw [d9.i.lenAt, hlen]
            exact hF2
        · exact ⟨rfl, hd.fr hwb a4, .inr ⟨HST.out.1 hcf, rfl⟩⟩
end Go.Proofs.YtmaaacaifpgpaaaDoor
