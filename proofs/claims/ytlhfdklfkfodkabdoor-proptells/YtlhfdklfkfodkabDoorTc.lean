/- Whatever two lists, trivetlaw07.PropTells answers true, where the library's tables read as they were laid. -/
import Derived.Test.YtlhfdklfkfodkabDoorMta
import Derived.BigQuiet
namespace Go.Proofs.YtlhfdklfkfodkabDoor
open Go.RowKit Go.Lib Ieee
set_option linter.unusedSimpArgs false

set_option maxRecDepth 8000 in
set_option maxHeartbeats 4000000 in
theorem tells_walk (w : World) (v u : Value) (l m : List Pr) (h : RdP w v l) (h' : RdP w u m) (hl : ∀ q ∈ l, FitV q.val) (hm : ∀ q ∈ m, FitV q.val) (hl63 : l.length ≤ 9223372036854775806) (hm63 : m.length ≤ 9223372036854775806) (ht : Tab w.heap.size w) (hv : Ff.Vars w) (hP : Ff.Pow w) :
    Calls Tryd.prog 3 #[v, u] w fun e w' => e = .returned (.bool true) ∧ Below w.heap.size w w' := by
  obtain ⟨a1, c1, rfl⟩ := h.shape
  obtain ⟨a2, c2, rfl⟩ := h'.shape
  have HW := wakes7 w ht
  have HL : Hid (RdP w (.slice a1 l.length c1) l) := h
  have HM : Hid (RdP w (.slice a2 m.length c2) m) := h'
  have HT : Hid (Tab w.heap.size w) := ht
  have HVr : Hid (Ff.Vars w) := hv
  have HPw : Hid (Ff.Pow w) := hP
  have HFl : Hid (∀ q ∈ l, FitV q.val) := hl
  have HFm : Hid (∀ q ∈ m, FitV q.val) := hm
  clear h h' ht hv hP hl hm
  go_enter Tryd.func3, Tryd.ntmps3
  go_wp2_with fail
  refine HW.mono ?_
  rintro e w1 ⟨rfl, b1⟩
  clear HW
  go_wp2_with fail
  refine (long7 w1 _ l (HL.out.on b1) hl63).mono ?_
  rintro e w2 ⟨⟨r1, rfl⟩, hb2⟩
  have b2 := b1.trans (hb2.mono b1.size)
  clear hb2 b1
  cases r1 with
  | true =>
    go_wp2
    go_ret
    exact ⟨rfl, b2⟩
  | false =>
  go_wp2_with fail
  refine (long7 w2 _ m (HM.out.on b2) hm63).mono ?_
  rintro e w3 ⟨⟨r2, rfl⟩, hb3⟩
  have b3 := b2.trans (hb3.mono b2.size)
  clear hb3 b2
  cases r2 with
  | true =>
    go_wp2
    go_ret
    exact ⟨rfl, b3⟩
  | false =>
  go_wp2_with fail
  refine (encode7v w3 _ l (HL.out.on b3) HFl.out ((HT.out.on b3).mono b3.size) (HVr.out.on b3) (HPw.out.on b3)).mono ?_
  rintro e w4 ⟨hE1, hb4⟩
  have b4 := b3.trans (hb4.mono b3.size)
  rcases hE1 with ⟨_, rfl⟩ | ⟨hvl, va, rfl, hoa⟩
  · go_wp2_with fail
    refine (encode7v w4 _ m (HM.out.on b4) HFm.out ((HT.out.on b4).mono b4.size) (HVr.out.on b4) (HPw.out.on b4)).mono ?_
    rintro e w5 ⟨hE2, hb5⟩
    have b5 := b4.trans (hb5.mono b4.size)
    rcases hE2 with ⟨_, rfl⟩ | ⟨_, vb, rfl, _⟩
    · go_upto_region 7 with fail
      go_quiet (fail)
      go_wp2
      go_ret
      exact ⟨rfl, below_drewN b5 _⟩
    · go_upto_region 7 with fail
      go_quiet (fail)
      go_wp2
      go_ret
      exact ⟨rfl, below_drewN b5 _⟩
  · go_wp2_with fail
    refine (encode7v w4 _ m (HM.out.on b4) HFm.out ((HT.out.on b4).mono b4.size) (HVr.out.on b4) (HPw.out.on b4)).mono ?_
    rintro e w5 ⟨hE2, hb5⟩
    have b5 := b4.trans (hb5.mono b4.size)
    rcases hE2 with ⟨_, rfl⟩ | ⟨hvm, vb, rfl, hob⟩
    · go_upto_region 7 with fail
      go_quiet (fail)
      go_wp2
      go_ret
      exact ⟨rfl, below_drewN b5 _⟩
    · have hx5 : RdB w5 va (encQ txV l) := hoa.rd.on hb5
      have hy5 : RdB w5 vb (encQ txV m) := hob.rd
      have hl5 := HL.out.on b5
      have hm5 := HM.out.on b5
      have hq : (encQ txV l == encQ txV m) = sameL l m := by
        rw [Bool.eq_iff_iff, beq_iff_eq, sameL_eq]
        exact ⟨encQ_inj l m (fun q hq => ⟨(valid_all hvl).2 q hq, HFl.out q hq⟩) (fun q hq => ⟨(valid_all hvm).2 q hq, HFm.out q hq⟩), fun e => by rw [e]⟩
      have HA := fun (W : World) (k1 : RdP W (.slice a1 l.length c1) l) (k2 : RdP W (.slice a2 m.length c2) m) => all7 W _ _ l m k1 k2 hl63
      generalize encQ txV l = X at *
      generalize encQ txV m = Y at *
      clear hoa hob hb4 hb5 b3 b4 hvl hvm HFl HFm HPw HVr HT HL HM
      cases hs : sameL l m with
      | true =>
        rw [hs] at hq
        simp only [hs] at HA
        go_upto_region 7 with fail
        refine wp_region_held (S := fun W => RdB W va X ∧ RdB W vb Y ∧ RdP W (.slice a1 l.length c1) l ∧ RdP W (.slice a2 m.length c2) m) hmix ?_
        show wpAnyH _ _ _ _ _ _ _ _ w5.drew
        have hS : (fun W : World => RdB W va X ∧ RdB W vb Y ∧ RdP W (.slice a1 l.length c1) l ∧ RdP W (.slice a2 m.length c2) m) w5.drew := ⟨hx5.on (Below.refl _ w5).drew, hy5.on (Below.refl _ w5).drew, hl5.on (Below.refl _ w5).drew, hm5.on (Below.refl _ w5).drew⟩
        have b6 : Below w.heap.size w w5.drew := b5.drew
        clear hx5 hy5 hl5 hm5 b5
        generalize w5.drew = w6 at *
        refine wpAnyH_take (i := 0) (v := .int .i64 0) rfl (by kernel_rfl) (by kernel_rfl) (by kernel_rfl) (fun _ _ _ h => h) (.inl ⟨by rfl, fun W' hW' => ?_⟩) hS ?_
        · go_simp
        simp only [Act.put, List.getElem_toArray, List.getElem_cons_succ, List.getElem_cons_zero, List.setIfInBounds_toArray, List.set_cons_succ, List.set_cons_zero]
        refine wpAnyH_take (i := 1) (v := .bool false) rfl (by kernel_rfl) (by kernel_rfl) (by kernel_rfl) (fun _ _ _ h => h) (.inl ⟨by rfl, fun W' hW' => ?_⟩) hS ?_
        · go_simp
        simp only [Act.put, List.getElem_toArray, List.getElem_cons_succ, List.getElem_cons_zero, List.setIfInBounds_toArray, List.set_cons_succ, List.set_cons_zero]
        refine wpAnyH_take (i := 2) (v := .bool false) rfl (by kernel_rfl) (by kernel_rfl) (by kernel_rfl) (fun _ _ _ h => h) (.inl ⟨by rfl, fun W' hW' => ?_⟩) hS ?_
        · go_simp
        simp only [Act.put, List.getElem_toArray, List.getElem_cons_succ, List.getElem_cons_zero, List.setIfInBounds_toArray, List.set_cons_succ, List.set_cons_zero]
        refine wpAnyH_take (i := 3) (v := .int .i64 0) rfl (by kernel_rfl) (by kernel_rfl) (by kernel_rfl) (fun _ _ _ h => h) (.inl ⟨by rfl, fun W' hW' => ?_⟩) hS ?_
        · go_simp
        simp only [Act.put, List.getElem_toArray, List.getElem_cons_succ, List.getElem_cons_zero, List.setIfInBounds_toArray, List.set_cons_succ, List.set_cons_zero]
        refine wpAnyH_take (i := 4) (v := .bool false) rfl (by kernel_rfl) (by kernel_rfl) (by kernel_rfl) (fun _ _ _ h => h) (.inl ⟨by rfl, fun W' hW' => ?_⟩) hS ?_
        · go_simp
        simp only [Act.put, List.getElem_toArray, List.getElem_cons_succ, List.getElem_cons_zero, List.setIfInBounds_toArray, List.set_cons_succ, List.set_cons_zero]
        refine wpAnyH_take (i := 5) (v := .bool false) rfl (by kernel_rfl) (by kernel_rfl) (by kernel_rfl) (fun _ _ _ h => h) (.inl ⟨by rfl, fun W' hW' => ?_⟩) hS ?_
        · go_simp
        simp only [Act.put, List.getElem_toArray, List.getElem_cons_succ, List.getElem_cons_zero, List.setIfInBounds_toArray, List.set_cons_succ, List.set_cons_zero]
        refine wpAnyH_take (i := 6) (v := .bool false) rfl (by kernel_rfl) (by kernel_rfl) (by kernel_rfl) (fun _ _ _ h => h) (.inl ⟨by rfl, fun W' hW' => ?_⟩) hS ?_
        · go_simp
        simp only [Act.put, List.getElem_toArray, List.getElem_cons_succ, List.getElem_cons_zero, List.setIfInBounds_toArray, List.set_cons_succ, List.set_cons_zero]
        refine wpAnyH_take (i := 7) (v := va) rfl (by kernel_rfl) (by kernel_rfl) (by kernel_rfl) (fun _ _ _ h => h) (.inl ⟨by rfl, fun W' hW' => ?_⟩) hS ?_
        · go_simp
        simp only [Act.put, List.getElem_toArray, List.getElem_cons_succ, List.getElem_cons_zero, List.setIfInBounds_toArray, List.set_cons_succ, List.set_cons_zero]
        refine wpAnyH_take (i := 8) (v := .string ⟨X.toArray⟩) rfl (by kernel_rfl) (by kernel_rfl) (by kernel_rfl) (fun _ _ _ h => h) (.inl ⟨by rfl, fun W' hW' => ?_⟩) hS ?_
        · have k9 := conv_any hW'.1
          go_simp
        simp only [Act.put, List.getElem_toArray, List.getElem_cons_succ, List.getElem_cons_zero, List.setIfInBounds_toArray, List.set_cons_succ, List.set_cons_zero]
        refine wpAnyH_take (i := 9) (v := vb) rfl (by kernel_rfl) (by kernel_rfl) (by kernel_rfl) (fun _ _ _ h => h) (.inl ⟨by rfl, fun W' hW' => ?_⟩) hS ?_
        · go_simp
        simp only [Act.put, List.getElem_toArray, List.getElem_cons_succ, List.getElem_cons_zero, List.setIfInBounds_toArray, List.set_cons_succ, List.set_cons_zero]
        refine wpAnyH_take (i := 10) (v := .string ⟨Y.toArray⟩) rfl (by kernel_rfl) (by kernel_rfl) (by kernel_rfl) (fun _ _ _ h => h) (.inl ⟨by rfl, fun W' hW' => ?_⟩) hS ?_
        · have k9 := conv_any hW'.2.1
          go_simp
        simp only [Act.put, List.getElem_toArray, List.getElem_cons_succ, List.getElem_cons_zero, List.setIfInBounds_toArray, List.set_cons_succ, List.set_cons_zero]
        refine wpAnyH_take (i := 11) (v := .bool true) rfl (by kernel_rfl) (by kernel_rfl) (by kernel_rfl) (fun _ _ _ h => h) (.inl ⟨by rfl, fun W' hW' => ?_⟩) hS ?_
        · go_simp
          (first | done | (simpa using hq) | skip)
        simp only [Act.put, List.getElem_toArray, List.getElem_cons_succ, List.getElem_cons_zero, List.setIfInBounds_toArray, List.set_cons_succ, List.set_cons_zero]
        refine wpAnyH_take (i := 12) (v := .slice a1 l.length c1) rfl (by kernel_rfl) (by kernel_rfl) (by kernel_rfl) (fun _ _ _ h => h) (.inl ⟨by rfl, fun W' hW' => ?_⟩) hS ?_
        · go_simp
        simp only [Act.put, List.getElem_toArray, List.getElem_cons_succ, List.getElem_cons_zero, List.setIfInBounds_toArray, List.set_cons_succ, List.set_cons_zero]
        refine wpAnyH_take (i := 13) (v := .slice a2 m.length c2) rfl (by kernel_rfl) (by kernel_rfl) (by kernel_rfl) (fun _ _ _ h => h) (.inl ⟨by rfl, fun W' hW' => ?_⟩) hS ?_
        · go_simp
        simp only [Act.put, List.getElem_toArray, List.getElem_cons_succ, List.getElem_cons_zero, List.setIfInBounds_toArray, List.set_cons_succ, List.set_cons_zero]
        refine wpAnyH_one (i := 14) (by kernel_rfl) rfl (by rfl) (fun K hK => ?_)
        go_simp
        refine (HA _ hS.2.2.1 hS.2.2.2).mono ?_
        rintro e w7 ⟨rfl, hb7⟩
        have hS7 : (fun W : World => RdB W va X ∧ RdB W vb Y ∧ RdP W (.slice a1 l.length c1) l ∧ RdP W (.slice a2 m.length c2) m) w7 := ⟨hS.1.on hb7, hS.2.1.on hb7, hS.2.2.1.on hb7, hS.2.2.2.on hb7⟩
        have b7 := b6.trans (hb7.mono b6.size)
        show K _ _
        refine hK _ _ hS7 ?_
        clear hK K
        refine wpAnyH_take (i := 15) (v := .bool true) rfl (by kernel_rfl) (by kernel_rfl) (by kernel_rfl) (fun _ _ _ h => h) (.inl ⟨by rfl, fun W' hW' => ?_⟩) hS7 ?_
        · go_simp
        simp only [Act.put, List.getElem_toArray, List.getElem_cons_succ, List.getElem_cons_zero, List.setIfInBounds_toArray, List.set_cons_succ, List.set_cons_zero]
        refine wpAnyH_take (i := 16) (v := .bool true) rfl (by kernel_rfl) (by kernel_rfl) (by kernel_rfl) (fun _ _ _ h => h) (.inl ⟨by rfl, fun W' hW' => ?_⟩) hS7 ?_
        · go_simp
        simp only [Act.put, List.getElem_toArray, List.getElem_cons_succ, List.getElem_cons_zero, List.setIfInBounds_toArray, List.set_cons_succ, List.set_cons_zero]
        refine wpAnyH_take (i := 17) (v := .bool true) rfl (by kernel_rfl) (by kernel_rfl) (by kernel_rfl) (fun _ _ _ h => h) (.inl ⟨by rfl, fun W' hW' => ?_⟩) hS7 ?_
        · go_simp
        simp only [Act.put, List.getElem_toArray, List.getElem_cons_succ, List.getElem_cons_zero, List.setIfInBounds_toArray, List.set_cons_succ, List.set_cons_zero]
        refine wpAnyH_done (by kernel_rfl) ?_ _
        go_wp2
        go_ret
        exact ⟨rfl, b7⟩
      | false =>
        rw [hs] at hq
        simp only [hs] at HA
        go_upto_region 7 with fail
        refine wp_region_held (S := fun W => RdB W va X ∧ RdB W vb Y ∧ RdP W (.slice a1 l.length c1) l ∧ RdP W (.slice a2 m.length c2) m) hmix ?_
        show wpAnyH _ _ _ _ _ _ _ _ w5.drew
        have hS : (fun W : World => RdB W va X ∧ RdB W vb Y ∧ RdP W (.slice a1 l.length c1) l ∧ RdP W (.slice a2 m.length c2) m) w5.drew := ⟨hx5.on (Below.refl _ w5).drew, hy5.on (Below.refl _ w5).drew, hl5.on (Below.refl _ w5).drew, hm5.on (Below.refl _ w5).drew⟩
        have b6 : Below w.heap.size w w5.drew := b5.drew
        clear hx5 hy5 hl5 hm5 b5
        generalize w5.drew = w6 at *
        refine wpAnyH_take (i := 0) (v := .int .i64 0) rfl (by kernel_rfl) (by kernel_rfl) (by kernel_rfl) (fun _ _ _ h => h) (.inl ⟨by rfl, fun W' hW' => ?_⟩) hS ?_
        · go_simp
        simp only [Act.put, List.getElem_toArray, List.getElem_cons_succ, List.getElem_cons_zero, List.setIfInBounds_toArray, List.set_cons_succ, List.set_cons_zero]
        refine wpAnyH_take (i := 1) (v := .bool false) rfl (by kernel_rfl) (by kernel_rfl) (by kernel_rfl) (fun _ _ _ h => h) (.inl ⟨by rfl, fun W' hW' => ?_⟩) hS ?_
        · go_simp
        simp only [Act.put, List.getElem_toArray, List.getElem_cons_succ, List.getElem_cons_zero, List.setIfInBounds_toArray, List.set_cons_succ, List.set_cons_zero]
        refine wpAnyH_take (i := 2) (v := .bool false) rfl (by kernel_rfl) (by kernel_rfl) (by kernel_rfl) (fun _ _ _ h => h) (.inl ⟨by rfl, fun W' hW' => ?_⟩) hS ?_
        · go_simp
        simp only [Act.put, List.getElem_toArray, List.getElem_cons_succ, List.getElem_cons_zero, List.setIfInBounds_toArray, List.set_cons_succ, List.set_cons_zero]
        refine wpAnyH_take (i := 3) (v := .int .i64 0) rfl (by kernel_rfl) (by kernel_rfl) (by kernel_rfl) (fun _ _ _ h => h) (.inl ⟨by rfl, fun W' hW' => ?_⟩) hS ?_
        · go_simp
        simp only [Act.put, List.getElem_toArray, List.getElem_cons_succ, List.getElem_cons_zero, List.setIfInBounds_toArray, List.set_cons_succ, List.set_cons_zero]
        refine wpAnyH_take (i := 4) (v := .bool false) rfl (by kernel_rfl) (by kernel_rfl) (by kernel_rfl) (fun _ _ _ h => h) (.inl ⟨by rfl, fun W' hW' => ?_⟩) hS ?_
        · go_simp
        simp only [Act.put, List.getElem_toArray, List.getElem_cons_succ, List.getElem_cons_zero, List.setIfInBounds_toArray, List.set_cons_succ, List.set_cons_zero]
        refine wpAnyH_take (i := 5) (v := .bool false) rfl (by kernel_rfl) (by kernel_rfl) (by kernel_rfl) (fun _ _ _ h => h) (.inl ⟨by rfl, fun W' hW' => ?_⟩) hS ?_
        · go_simp
        simp only [Act.put, List.getElem_toArray, List.getElem_cons_succ, List.getElem_cons_zero, List.setIfInBounds_toArray, List.set_cons_succ, List.set_cons_zero]
        refine wpAnyH_take (i := 6) (v := .bool false) rfl (by kernel_rfl) (by kernel_rfl) (by kernel_rfl) (fun _ _ _ h => h) (.inl ⟨by rfl, fun W' hW' => ?_⟩) hS ?_
        · go_simp
        simp only [Act.put, List.getElem_toArray, List.getElem_cons_succ, List.getElem_cons_zero, List.setIfInBounds_toArray, List.set_cons_succ, List.set_cons_zero]
        refine wpAnyH_take (i := 7) (v := va) rfl (by kernel_rfl) (by kernel_rfl) (by kernel_rfl) (fun _ _ _ h => h) (.inl ⟨by rfl, fun W' hW' => ?_⟩) hS ?_
        · go_simp
        simp only [Act.put, List.getElem_toArray, List.getElem_cons_succ, List.getElem_cons_zero, List.setIfInBounds_toArray, List.set_cons_succ, List.set_cons_zero]
        refine wpAnyH_take (i := 8) (v := .string ⟨X.toArray⟩) rfl (by kernel_rfl) (by kernel_rfl) (by kernel_rfl) (fun _ _ _ h => h) (.inl ⟨by rfl, fun W' hW' => ?_⟩) hS ?_
        · have k9 := conv_any hW'.1
          go_simp
        simp only [Act.put, List.getElem_toArray, List.getElem_cons_succ, List.getElem_cons_zero, List.setIfInBounds_toArray, List.set_cons_succ, List.set_cons_zero]
        refine wpAnyH_take (i := 9) (v := vb) rfl (by kernel_rfl) (by kernel_rfl) (by kernel_rfl) (fun _ _ _ h => h) (.inl ⟨by rfl, fun W' hW' => ?_⟩) hS ?_
        · go_simp
        simp only [Act.put, List.getElem_toArray, List.getElem_cons_succ, List.getElem_cons_zero, List.setIfInBounds_toArray, List.set_cons_succ, List.set_cons_zero]
        refine wpAnyH_take (i := 10) (v := .string ⟨Y.toArray⟩) rfl (by kernel_rfl) (by kernel_rfl) (by kernel_rfl) (fun _ _ _ h => h) (.inl ⟨by rfl, fun W' hW' => ?_⟩) hS ?_
        · have k9 := conv_any hW'.2.1
          go_simp
        simp only [Act.put, List.getElem_toArray, List.getElem_cons_succ, List.getElem_cons_zero, List.setIfInBounds_toArray, List.set_cons_succ, List.set_cons_zero]
        refine wpAnyH_take (i := 11) (v := .bool false) rfl (by kernel_rfl) (by kernel_rfl) (by kernel_rfl) (fun _ _ _ h => h) (.inl ⟨by rfl, fun W' hW' => ?_⟩) hS ?_
        · go_simp
          (first | done | (simpa using hq) | skip)
        simp only [Act.put, List.getElem_toArray, List.getElem_cons_succ, List.getElem_cons_zero, List.setIfInBounds_toArray, List.set_cons_succ, List.set_cons_zero]
        refine wpAnyH_take (i := 12) (v := .slice a1 l.length c1) rfl (by kernel_rfl) (by kernel_rfl) (by kernel_rfl) (fun _ _ _ h => h) (.inl ⟨by rfl, fun W' hW' => ?_⟩) hS ?_
        · go_simp
        simp only [Act.put, List.getElem_toArray, List.getElem_cons_succ, List.getElem_cons_zero, List.setIfInBounds_toArray, List.set_cons_succ, List.set_cons_zero]
        refine wpAnyH_take (i := 13) (v := .slice a2 m.length c2) rfl (by kernel_rfl) (by kernel_rfl) (by kernel_rfl) (fun _ _ _ h => h) (.inl ⟨by rfl, fun W' hW' => ?_⟩) hS ?_
        · go_simp
        simp only [Act.put, List.getElem_toArray, List.getElem_cons_succ, List.getElem_cons_zero, List.setIfInBounds_toArray, List.set_cons_succ, List.set_cons_zero]
        refine wpAnyH_one (i := 14) (by kernel_rfl) rfl (by rfl) (fun K hK => ?_)
        go_simp
        refine (HA _ hS.2.2.1 hS.2.2.2).mono ?_
        rintro e w7 ⟨rfl, hb7⟩
        have hS7 : (fun W : World => RdB W va X ∧ RdB W vb Y ∧ RdP W (.slice a1 l.length c1) l ∧ RdP W (.slice a2 m.length c2) m) w7 := ⟨hS.1.on hb7, hS.2.1.on hb7, hS.2.2.1.on hb7, hS.2.2.2.on hb7⟩
        have b7 := b6.trans (hb7.mono b6.size)
        show K _ _
        refine hK _ _ hS7 ?_
        clear hK K
        refine wpAnyH_take (i := 15) (v := .bool true) rfl (by kernel_rfl) (by kernel_rfl) (by kernel_rfl) (fun _ _ _ h => h) (.inl ⟨by rfl, fun W' hW' => ?_⟩) hS7 ?_
        · go_simp
        simp only [Act.put, List.getElem_toArray, List.getElem_cons_succ, List.getElem_cons_zero, List.setIfInBounds_toArray, List.set_cons_succ, List.set_cons_zero]
        refine wpAnyH_take (i := 16) (v := .bool true) rfl (by kernel_rfl) (by kernel_rfl) (by kernel_rfl) (fun _ _ _ h => h) (.inl ⟨by rfl, fun W' hW' => ?_⟩) hS7 ?_
        · go_simp
        simp only [Act.put, List.getElem_toArray, List.getElem_cons_succ, List.getElem_cons_zero, List.setIfInBounds_toArray, List.set_cons_succ, List.set_cons_zero]
        refine wpAnyH_take (i := 17) (v := .bool true) rfl (by kernel_rfl) (by kernel_rfl) (by kernel_rfl) (fun _ _ _ h => h) (.inl ⟨by rfl, fun W' hW' => ?_⟩) hS7 ?_
        · go_simp
        simp only [Act.put, List.getElem_toArray, List.getElem_cons_succ, List.getElem_cons_zero, List.setIfInBounds_toArray, List.set_cons_succ, List.set_cons_zero]
        refine wpAnyH_done (by kernel_rfl) ?_ _
        go_wp2
        go_ret
        exact ⟨rfl, b7⟩
end Go.Proofs.YtlhfdklfkfodkabDoor
