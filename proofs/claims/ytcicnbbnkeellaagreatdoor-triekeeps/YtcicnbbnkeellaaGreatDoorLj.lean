/- The law TrieKeeps walked: it answers true of any list of texts and any text. Conditions: Vars, what the library's tables hold when the call begins, and texts of a length that Go knows. -/
import Derived.Test.YtcicnbbnkeellaaGreatDoorLk
namespace Go.Proofs.YtcicnbbnkeellaaGreatDoor
open Go.RowKit Go.Lib
set_option maxRecDepth 100000

/-- The three tries of the law. -/
def St3 (w0 W : World) (Y : Nat → Prop) (t N : Nat) (l : List Pr) (q o : Nat) : Prop := StR w0 Y W t N l q 30 l ∧ PT W Y o 0 []
theorem St3.on {w0 W w' : World} {Y : Nat → Prop} {t N q o : Nat} {l : List Pr} (h : St3 w0 W Y t N l q o) (hb : Below W.heap.size W w') : St3 w0 w' Y t N l q o := ⟨h.1.on hb, h.2.below hb⟩

set_option maxHeartbeats 4000000 in
theorem keeps_law (w : World) (hv : To.Vars w) (vp : Value) (ps : List (List UInt8)) (s : List UInt8) (hp : To.RdV w vp (ps.map str)) (hpl : ∀ x ∈ ps, x.length ≤ maxLen) :
    Calls Tryz.prog 5 #[vp, str s] w fun e w' => e = .returned (.bool true) ∧ Below w.heap.size w w' := by
  have hwk := wakes_any w hv
  obtain ⟨ap, cp, rfl⟩ := hp.len
  rw [List.length_map] at hp ⊢
  obtain ⟨n, hnn⟩ : ∃ n, ps.length = n := ⟨_, rfl⟩
  rw [hnn] at hp ⊢
  have HN : Hid (ps.length = n) := hnn
  have HP : Hid (To.RdV w (.slice ap n cp) (ps.map str)) := hp
  have HL : Hid (∀ k, (ps.getD k []).length ≤ 9223372036854775807) := fun k => getD_len hpl k
  have HV : Hid (To.Vars w) := hv
  clear hp hpl hnn hv
  simp only [str]
  by_cases hA : 60 < n
  · have hAz : (60 : Int) < (n : Int) := by omega
    go_enter Tryz.func5, Tryz.ntmps5
    go_wp2_with (go_at_call 8; refine hwk.mono ?_; rintro e w1 ⟨rfl, hb1⟩)
    go_ret
    exact ⟨rfl, hb1⟩
  have hAz : ¬ (60 : Int) < (n : Int) := by omega
  go_enter Tryz.func5, Tryz.ntmps5
  go_wp2_with fail
  refine hwk.mono ?_
  rintro e w1 ⟨rfl, hb1⟩
  have hnew := new_st (K := fun _ => False) hb1 (fun b h => h.elim)
  clear hwk
  go_wp2_with fail
  refine hnew.mono ?_
  rintro e w2 ⟨rfl, h2, _⟩
  obtain ⟨t, ht⟩ : ∃ t, w1.heap.size + 2 = t := ⟨_, rfl⟩
  rw [ht] at h2 ⊢
  have h3 := h2.boxed
  have hnew2 := h3.new
  obtain ⟨q, hq⟩ : ∃ q, w2.heap.size = q := ⟨_, rfl⟩
  rw [World.size_alloc, hq] at hnew2
  clear hnew hb1 ht h2 h3
  go_wp2_with fail
  clear hq
  refine hnew2.mono ?_
  rintro e w3 ⟨rfl, Y, hY, h3⟩
  obtain ⟨o, ho⟩ : ∃ o, q + 1 + 2 = o := ⟨_, rfl⟩
  rw [ho] at hY ⊢
  have H3 : Hid (St3 w w3 Y t 0 [] q o) := ⟨h3, hY⟩
  clear h3 hY hnew2 ho
  go_wp2_with fail
  go_loopg [8, 9, 25] n (fun gg _ _ s26 wr => ∃ kk : Nat, kk ≤ n ∧ n - kk ≤ gg ∧ s26 = .int .i64 kk ∧ Hid (St3 w wr Y t (8 * kk) (adds ps idx kk) q o))
  case atStart => exact ⟨0, Nat.zero_le _, by omega, rfl, H3.out⟩
  case round =>
    obtain ⟨kk, hkk, hg, rfl, HS⟩ := hrel
    clear H3
    by_cases hlt : kk < n
    · have hltz : (kk : Int) < (n : Int) := by omega
      obtain ⟨b, of, rfl, hc⟩ := txt_at HP.out HS.out.1.below (k := kk) (by rw [HN.out]; exact hlt)
      have ha := HS.out.1.add HV.out (ps.getD kk []) (HL.out kk) (idx kk) (by omega)
      obtain ⟨pt, hpt⟩ : ∃ pt, ps.getD kk [] = pt := ⟨_, rfl⟩
      rw [hpt] at ha hc
      have HPT : Hid (ps.getD kk [] = pt) := hpt
      simp only [str, idx] at ha
      clear hpt
      go_wp2_with fail
      refine ha.mono ?_
      rintro e w4 ⟨rfl, h4, k4⟩
      have hr := h4.radd (by have := HS.out.1.facts.2.2; exact this) pt (idx kk)
      have HY4 : Hid (PT w4 Y o 0 []) := HS.out.2.on (fun b hb => k4.keep b hb)
      simp only [str, idx] at hr
      clear ha h4 k4 hc HS
      go_wp2_with fail
      refine hr.mono ?_
      rintro e w5 ⟨rfl, h5, k5⟩
      have H5 : Hid (St3 w w5 Y t (8 * (kk + 1)) (adds ps idx (kk + 1)) q o) := by
        refine ⟨?_, HY4.out.on (fun b hb => k5.keep b hb)⟩
        show StR _ _ _ _ _ (addR (adds ps idx kk) (ps.getD kk []) (idx kk)) _ _ (addR (adds ps idx kk) (ps.getD kk []) (idx kk))
        rw [HPT.out]
        exact h5
      clear hr h5 k5 HY4 HPT
      go_wp2
      go_roundg (n - (kk + 1))
      case measure => omega
      case rel => exact ⟨kk + 1, by omega, by omega, by go_num, H5.out⟩
    · have hltz : ¬ (kk : Int) < (n : Int) := by omega
      obtain rfl : kk = n := by omega
      clear hg hkk
      obtain ⟨L, hL⟩ : ∃ L, adds ps idx kk = L := ⟨_, rfl⟩
      rw [hL] at HS
      clear hL
      have hf := HS.out.1.one.find HV.out s
      obtain ⟨wb, hwb⟩ : ∃ wb, wb = wr := ⟨_, rfl⟩
      subst hwb
      simp only [str] at hf
      go_wp2_with fail
      refine hf.mono ?_
      rintro e w6 ⟨v6, rfl, ho6, hb6⟩
      obtain ⟨a6, c6, rfl, _⟩ := ho6.len
      obtain ⟨n6, hn6⟩ : ∃ n6, (ints (findP L s)).length = n6 := ⟨_, rfl⟩
      have hn6b : n6 ≤ 1000 := by
        have h9 := To.fold_len L s L.length
        rw [List.take_length] at h9
        have h8 := HS.out.1.facts.2.2
        rw [← hn6]
        unfold ints
        rw [List.length_map]
        unfold findP
        omega
      rw [hn6] at ho6 ⊢
      have HW6 : Hid (Wr 3 wb.heap.size w6 a6 n6 1) := wr_of ho6
      have HB6 : Hid (Below wb.heap.size wb w6) := hb6
      clear hf ho6 hb6 hn6
      go_wp2_with fail
      go_loopg [11, 44] n6 (fun gg _ s44 wx => ∃ i : Nat, i ≤ n6 ∧ n6 - i ≤ gg ∧ s44 = .int .i64 i ∧ Hid (Wr 3 wb.heap.size wx a6 n6 1) ∧ Hid (Below wb.heap.size wb wx))
      case atStart => exact ⟨0, Nat.zero_le _, by omega, rfl, HW6.out, HB6.out⟩
      case round =>
        obtain ⟨i, hi, hgi, rfl, HW, HB⟩ := hrel
        clear HW6 HB6
        by_cases hli : i < n6
        · have hliz : (i : Int) < (n6 : Int) := by omega
          obtain ⟨g, u, rfl, hge, cg, fg⟩ := HW.out.cell (i := i) (by omega) (by omega)
          have HW2 : Hid (Wr 3 wb.heap.size (wr.setCell ⟨g, i, none⟩ (.int .i64 (-7))) (some ⟨g, 0, none⟩) n6 1) := HW.out.set
          have HB2 : Hid (Below wb.heap.size wb (wr.setCell ⟨g, i, none⟩ (.int .i64 (-7)))) := HB.out.setCell (p := ⟨g, i, none⟩) hge _
          clear HW HB
          go_wp2
          go_roundg (n6 - (i + 1))
          case measure => omega
          case rel => exact ⟨i + 1, by omega, by omega, by go_num, HW2.out, HB2.out⟩
        · have hliz : ¬ (i : Int) < (n6 : Int) := by omega
          have HS7 : Hid (St3 w wr Y t (8 * kk) L q o) := HS.out.on HB.out
          obtain ⟨wd, hwd⟩ : ∃ wd, wd = wr := ⟨_, rfl⟩
          subst hwd
          have hal := HS7.out.1.one.all
          clear HW HB HS
          go_wp2_with fail
          refine hal.mono ?_
          rintro e w8 ⟨v8, rfl, ho8, hb8⟩
          obtain ⟨a8, c8, rfl⟩ := ho8.len
          obtain ⟨n8, hn8⟩ : ∃ n8, L.length = n8 := ⟨_, rfl⟩
          have hn8b : n8 ≤ 64 := by rw [← hn8]; exact HS7.out.1.facts.2.2
          have HN8 : Hid (L.length = n8) := hn8
          have HW8 : Hid (Wr 41 wd.heap.size w8 a8 n8 2) := by
            have h9 := wr_of ho8
            rw [hn8] at h9
            exact h9
          have HB8 : Hid (Below wd.heap.size wd w8) := hb8
          rw [hn8]
          clear hal ho8 hb8 hn8
          go_wp2_with fail
          go_loopg [13, 55] n8 (fun gg _ s55 wx => ∃ i : Nat, i ≤ n8 ∧ n8 - i ≤ gg ∧ s55 = .int .i64 i ∧ Hid (Wr 41 wd.heap.size wx a8 n8 2) ∧ Hid (Below wd.heap.size wd wx))
          case atStart => exact ⟨0, Nat.zero_le _, by omega, rfl, HW8.out, HB8.out⟩
          case round =>
            obtain ⟨j, hj, hgj, rfl, HW, HB⟩ := hrel
            clear HW8 HB8
            by_cases hlj : j < n8
            · have hljz : (j : Int) < (n8 : Int) := by omega
              obtain ⟨g, u, rfl, hge, cg, fg⟩ := HW.out.cell (i := j * 2) (by omega) (by omega)
              obtain ⟨g', u', hg', _, cg', fg'⟩ := HW.out.cell (i := j * 2 + 1) (by omega) (by omega)
              injection hg' with hg'
              injection hg' with hg'
              subst hg'
              have HW2 : Hid (∀ u1 u2, Wr 41 wd.heap.size ((wr.setCell ⟨g, j * 2, none⟩ u1).setCell ⟨g, j * 2 + 1, none⟩ u2) (some ⟨g, 0, none⟩) n8 2) := fun u1 u2 => HW.out.set.set
              have HB2 : Hid (∀ u1 u2, Below wd.heap.size wd ((wr.setCell ⟨g, j * 2, none⟩ u1).setCell ⟨g, j * 2 + 1, none⟩ u2)) := fun u1 u2 => (HB.out.setCell (p := ⟨g, j * 2, none⟩) hge _).setCell (p := ⟨g, j * 2 + 1, none⟩) hge _
              clear HW HB
              go_wp2
              go_roundg (n8 - (j + 1))
              case measure => omega
              case rel => exact ⟨j + 1, by omega, by omega, by go_num, HW2.out _ _, HB2.out _ _⟩
            · have hljz : ¬ (j : Int) < (n8 : Int) := by omega
              have HS9 : Hid (St3 w wr Y t (8 * kk) L q o) := HS7.out.on HB.out
              clear HW HB HS7
              go_upto_region 24 with fail
              have HX : Hid (∃ ai ci, wr.cell? ⟨q, 1, none⟩ = some (.slice ai n8 ci)) := by
                obtain ⟨X, v1, v2, h1, h2, _⟩ := HS9.out.1.tr
                obtain ⟨ai, ci, e1, _⟩ := h2.is.len
                refine ⟨ai, ci, ?_⟩
                rw [h2.c1, e1]
                unfold To.ints
                rw [List.length_map, HN8.out]
              obtain ⟨ai, ci, hx⟩ := HX.out
              have hql : q < wr.heap.size := World.block_lt_of_cell? wr _ hx
              have hmix : Tryz.prog.follows .mixedOrders = true := by kernel_rfl
              refine wp_region_held (S := fun W' => W'.cell? ⟨q, 1, none⟩ = some (.slice ai n8 ci)) hmix ?_
              show wpAnyH _ _ _ _ _ _ _ _ wr.drew
              have hS : wr.drew.cell? ⟨q, 1, none⟩ = some (.slice ai n8 ci) := hx
              have HSA : Hid (St3 w wr.drew Y t (8 * kk) L q o) := HS9.out.on (Below.refl _ _).drew
              have hqA : q < wr.drew.heap.size := hql
              clear HX hx HS9 hql
              refine wpAnyH_take (i := 0) (v := .pointer (some ⟨t, 0, none⟩)) rfl (by kernel_rfl) (by kernel_rfl) (by kernel_rfl) (fun _ _ _ h => h) (.inl ⟨by rfl, fun W' hW' => ?_⟩) hS ?_
              · go_simp
              simp only [Act.put, List.getElem_toArray, List.getElem_cons_zero, List.setIfInBounds_toArray, List.set_cons_succ, List.set_cons_zero]
              refine wpAnyH_take (i := 1) (v := .string ⟨s.toArray⟩) rfl (by kernel_rfl) (by kernel_rfl) (by kernel_rfl) (fun _ _ _ h => h) (.inl ⟨by rfl, fun W' hW' => ?_⟩) hS ?_
              · go_simp
              simp only [Act.put, List.getElem_toArray, List.getElem_cons_succ, List.getElem_cons_zero, List.setIfInBounds_toArray, List.set_cons_succ, List.set_cons_zero]
              refine wpAnyH_take (i := 3) (v := .pointer (some ⟨q, 0, none⟩)) rfl (by kernel_rfl) (by kernel_rfl) (by kernel_rfl) (fun _ _ _ h => h) (.inl ⟨by rfl, fun W' hW' => ?_⟩) hS ?_
              · go_simp
              simp only [Act.put, List.getElem_toArray, List.getElem_cons_succ, List.getElem_cons_zero, List.setIfInBounds_toArray, List.set_cons_succ, List.set_cons_zero]
              refine wpAnyH_take (i := 4) (v := .string ⟨s.toArray⟩) rfl (by kernel_rfl) (by kernel_rfl) (by kernel_rfl) (fun _ _ _ h => h) (.inl ⟨by rfl, fun W' hW' => ?_⟩) hS ?_
              · go_simp
              simp only [Act.put, List.getElem_toArray, List.getElem_cons_succ, List.getElem_cons_zero, List.setIfInBounds_toArray, List.set_cons_succ, List.set_cons_zero]
              have hf := HSA.out.1.one.find HV.out s
              simp only [str] at hf
              refine wpAnyH_one (i := 2) (by kernel_rfl) rfl (by rfl) (fun K hK => ?_)
              go_simp
              refine hf.mono ?_
              rintro e wB ⟨vB, rfl, hoB, hbB⟩
              have hS2 : wB.cell? ⟨q, 1, none⟩ = some (.slice ai n8 ci) := ((hbB).cell (p := ⟨q, 1, none⟩) hqA).trans hS
              refine hK _ _ hS2 ?_
              clear hK K
              have HSB : Hid (St3 w wB Y t (8 * kk) L q o) := HSA.out.on hbB
              have HRB : Hid (To.RdV wB vB (ints (findP L s))) := hoB.rd
              have hqB : q < wB.heap.size := Nat.lt_of_lt_of_le hqA hbB.size
              clear hS HSA hf hoB hbB hqA
              have hS := hS2
              clear hS2
              try simp only [Act.put, List.getElem_toArray, List.getElem_cons_succ, List.getElem_cons_zero, List.setIfInBounds_toArray, List.set_cons_succ, List.set_cons_zero]
              have hf := HSB.out.1.rfind HSB.out.1.facts.2.2 HSB.out.1.facts.1 s
              simp only [str] at hf
              refine wpAnyH_one (i := 5) (by kernel_rfl) rfl (by rfl) (fun K hK => ?_)
              go_simp
              refine hf.mono ?_
              rintro e wC ⟨vC, rfl, hoC, hbC⟩
              have hS2 : wC.cell? ⟨q, 1, none⟩ = some (.slice ai n8 ci) := ((hbC).cell (p := ⟨q, 1, none⟩) hqB).trans hS
              refine hK _ _ hS2 ?_
              clear hK K
              have HSC : Hid (St3 w wC Y t (8 * kk) L q o) := HSB.out.on hbC
              have HRC : Hid (To.RdV wC vC (ints (findP L s))) := hoC.rd
              have HRD : Hid (To.RdV wC vB (ints (findP L s))) := HRB.out.on hbC
              have hqC : q < wC.heap.size := Nat.lt_of_lt_of_le hqB hbC.size
              clear hS HSB HRB hf hoC hbC hqB
              have hS := hS2
              clear hS2
              try simp only [Act.put, List.getElem_toArray, List.getElem_cons_succ, List.getElem_cons_zero, List.setIfInBounds_toArray, List.set_cons_succ, List.set_cons_zero]
              have hfl : (findP L s).length ≤ 1000 := by
                have h9 := To.fold_len L s L.length
                rw [List.take_length] at h9
                have h8 := HSC.out.1.facts.2.2
                unfold findP
                omega
              have hsa := To.same_any wC vB vC (findP L s) (findP L s) HRD.out HRC.out hfl
              rw [decide_eq_true rfl] at hsa
              refine wpAnyH_one (i := 6) (by kernel_rfl) rfl (by rfl) (fun K hK => ?_)
              go_simp
              refine hsa.mono ?_
              rintro e wD ⟨rfl, dd, rfl⟩
              have hS2 : (wC.drewN dd).cell? ⟨q, 1, none⟩ = some (.slice ai n8 ci) := ((To.below_drawn wC dd).cell (p := ⟨q, 1, none⟩) hqC).trans hS
              refine hK _ _ hS2 ?_
              clear hK K
              have HSD : Hid (St3 w (wC.drewN dd) Y t (8 * kk) L q o) := HSC.out.on (To.below_drawn _ _)
              have hqD : q < (wC.drewN dd).heap.size := hqC
              clear hS HSC HRC HRD hsa hfl hqC
              have hS := hS2
              clear hS2
              try simp only [Act.put, List.getElem_toArray, List.getElem_cons_succ, List.getElem_cons_zero, List.setIfInBounds_toArray, List.set_cons_succ, List.set_cons_zero]
              refine wpAnyH_take (i := 7) (v := .bool true) rfl (by kernel_rfl) (by kernel_rfl) (by kernel_rfl) (fun _ _ _ h => h) (.inl ⟨by rfl, fun W' hW' => ?_⟩) hS ?_
              · go_simp
              simp only [Act.put, List.getElem_toArray, List.getElem_cons_succ, List.getElem_cons_zero, List.setIfInBounds_toArray, List.set_cons_succ, List.set_cons_zero]
              refine wpAnyH_take (i := 8) (v := .pointer (some ⟨t, 0, none⟩)) rfl (by kernel_rfl) (by kernel_rfl) (by kernel_rfl) (fun _ _ _ h => h) (.inl ⟨by rfl, fun W' hW' => ?_⟩) hS ?_
              · go_simp
              simp only [Act.put, List.getElem_toArray, List.getElem_cons_succ, List.getElem_cons_zero, List.setIfInBounds_toArray, List.set_cons_succ, List.set_cons_zero]
              refine wpAnyH_take (i := 11) (v := .pointer (some ⟨q, 0, none⟩)) rfl (by kernel_rfl) (by kernel_rfl) (by kernel_rfl) (fun _ _ _ h => h) (.inl ⟨by rfl, fun W' hW' => ?_⟩) hS ?_
              · go_simp
              simp only [Act.put, List.getElem_toArray, List.getElem_cons_succ, List.getElem_cons_zero, List.setIfInBounds_toArray, List.set_cons_succ, List.set_cons_zero]
              refine wpAnyH_take (i := 12) (v := .pointer (some ⟨q, 0, none⟩)) rfl (by kernel_rfl) (by kernel_rfl) (by kernel_rfl) (fun _ _ _ h => h) (.inl ⟨by rfl, fun W' hW' => ?_⟩) hS ?_
              · go_simp
              simp only [Act.put, List.getElem_toArray, List.getElem_cons_succ, List.getElem_cons_zero, List.setIfInBounds_toArray, List.set_cons_succ, List.set_cons_zero]
              refine wpAnyH_take (i := 13) (v := .pointer (some ⟨q, 1, none⟩)) rfl (by kernel_rfl) (by kernel_rfl) (by kernel_rfl) (fun _ _ _ h => h) (.inl ⟨by rfl, fun W' hW' => ?_⟩) hS ?_
              · go_simp
              simp only [Act.put, List.getElem_toArray, List.getElem_cons_succ, List.getElem_cons_zero, List.setIfInBounds_toArray, List.set_cons_succ, List.set_cons_zero]
              refine wpAnyH_take (i := 14) (v := .slice ai n8 ci) rfl (by kernel_rfl) (by kernel_rfl) (by kernel_rfl) (fun _ _ _ h => h) (.inl ⟨by rfl, fun W' hW' => ?_⟩) hS ?_
              · go_simp
              simp only [Act.put, List.getElem_toArray, List.getElem_cons_succ, List.getElem_cons_zero, List.setIfInBounds_toArray, List.set_cons_succ, List.set_cons_zero]
              refine wpAnyH_take (i := 15) (v := .int .i64 n8) rfl (by kernel_rfl) (by kernel_rfl) (by kernel_rfl) (fun _ _ _ h => h) (.inl ⟨by rfl, fun W' hW' => ?_⟩) hS ?_
              · go_simp
              simp only [Act.put, List.getElem_toArray, List.getElem_cons_succ, List.getElem_cons_zero, List.setIfInBounds_toArray, List.set_cons_succ, List.set_cons_zero]
              have hal := HSD.out.1.one.all
              refine wpAnyH_one (i := 9) (by kernel_rfl) rfl (by rfl) (fun K hK => ?_)
              go_simp
              refine hal.mono ?_
              rintro e wE ⟨vE, rfl, hoE, hbE⟩
              have hS2 : wE.cell? ⟨q, 1, none⟩ = some (.slice ai n8 ci) := ((hbE).cell (p := ⟨q, 1, none⟩) hqD).trans hS
              refine hK _ _ hS2 ?_
              clear hK K
              have HSE : Hid (St3 w wE Y t (8 * kk) L q o) := HSD.out.on hbE
              have hqE : q < wE.heap.size := Nat.lt_of_lt_of_le hqD hbE.size
              obtain ⟨aE, cE, rfl⟩ := hoE.len
              rw [HN8.out]
              clear hS HSD hal hoE hbE hqD
              have hS := hS2
              clear hS2
              try simp only [Act.put, List.getElem_toArray, List.getElem_cons_succ, List.getElem_cons_zero, List.setIfInBounds_toArray, List.set_cons_succ, List.set_cons_zero]
              refine wpAnyH_take (i := 10) (v := .int .i64 n8) rfl (by kernel_rfl) (by kernel_rfl) (by kernel_rfl) (fun _ _ _ h => h) (.inl ⟨by rfl, fun W' hW' => ?_⟩) hS ?_
              · go_simp
              simp only [Act.put, List.getElem_toArray, List.getElem_cons_succ, List.getElem_cons_zero, List.setIfInBounds_toArray, List.set_cons_succ, List.set_cons_zero]
              refine wpAnyH_take (i := 16) (v := .bool true) rfl (by kernel_rfl) (by kernel_rfl) (by kernel_rfl) (fun _ _ _ h => h) (.inl ⟨by rfl, fun W' hW' => ?_⟩) hS ?_
              · go_simp
              simp only [Act.put, List.getElem_toArray, List.getElem_cons_succ, List.getElem_cons_zero, List.setIfInBounds_toArray, List.set_cons_succ, List.set_cons_zero]
              refine wpAnyH_take (i := 17) (v := .bool true) rfl (by kernel_rfl) (by kernel_rfl) (by kernel_rfl) (fun _ _ _ h => h) (.inl ⟨by rfl, fun W' hW' => ?_⟩) hS ?_
              · go_simp
              simp only [Act.put, List.getElem_toArray, List.getElem_cons_succ, List.getElem_cons_zero, List.setIfInBounds_toArray, List.set_cons_succ, List.set_cons_zero]
              refine wpAnyH_take (i := 18) (v := .bool true) rfl (by kernel_rfl) (by kernel_rfl) (by kernel_rfl) (fun _ _ _ h => h) (.inl ⟨by rfl, fun W' hW' => ?_⟩) hS ?_
              · go_simp
              simp only [Act.put, List.getElem_toArray, List.getElem_cons_succ, List.getElem_cons_zero, List.setIfInBounds_toArray, List.set_cons_succ, List.set_cons_zero]
              refine wpAnyH_take (i := 19) (v := .pointer (some ⟨o, 0, none⟩)) rfl (by kernel_rfl) (by kernel_rfl) (by kernel_rfl) (fun _ _ _ h => h) (.inl ⟨by rfl, fun W' hW' => ?_⟩) hS ?_
              · go_simp
              simp only [Act.put, List.getElem_toArray, List.getElem_cons_succ, List.getElem_cons_zero, List.setIfInBounds_toArray, List.set_cons_succ, List.set_cons_zero]
              have hle := len_any wE Y o 0 [] HSE.out.2
              refine wpAnyH_one (i := 20) (by kernel_rfl) rfl (by rfl) (fun K hK => ?_)
              go_simp
              refine hle.mono ?_
              rintro e wF ⟨rfl, hbF⟩
              have hS2 : wF.cell? ⟨q, 1, none⟩ = some (.slice ai n8 ci) := ((hbF).cell (p := ⟨q, 1, none⟩) hqE).trans hS
              refine hK _ _ hS2 ?_
              clear hK K
              have HSF : Hid (St3 w wF Y t (8 * kk) L q o) := HSE.out.on hbF
              have hqF : q < wF.heap.size := Nat.lt_of_lt_of_le hqE hbF.size
              clear hS HSE hle hbF hqE
              have hS := hS2
              clear hS2
              try simp only [Act.put, List.getElem_toArray, List.getElem_cons_succ, List.getElem_cons_zero, List.setIfInBounds_toArray, List.set_cons_succ, List.set_cons_zero]
              refine wpAnyH_take (i := 21) (v := .bool true) rfl (by kernel_rfl) (by kernel_rfl) (by kernel_rfl) (fun _ _ _ h => h) (.inl ⟨by rfl, fun W' hW' => ?_⟩) hS ?_
              · go_simp
              simp only [Act.put, List.getElem_toArray, List.getElem_cons_succ, List.getElem_cons_zero, List.setIfInBounds_toArray, List.set_cons_succ, List.set_cons_zero]
              refine wpAnyH_take (i := 22) (v := .bool true) rfl (by kernel_rfl) (by kernel_rfl) (by kernel_rfl) (fun _ _ _ h => h) (.inl ⟨by rfl, fun W' hW' => ?_⟩) hS ?_
              · go_simp
              simp only [Act.put, List.getElem_toArray, List.getElem_cons_succ, List.getElem_cons_zero, List.setIfInBounds_toArray, List.set_cons_succ, List.set_cons_zero]
              refine wpAnyH_take (i := 23) (v := .bool true) rfl (by kernel_rfl) (by kernel_rfl) (by kernel_rfl) (fun _ _ _ h => h) (.inl ⟨by rfl, fun W' hW' => ?_⟩) hS ?_
              · go_simp
              simp only [Act.put, List.getElem_toArray, List.getElem_cons_succ, List.getElem_cons_zero, List.setIfInBounds_toArray, List.set_cons_succ, List.set_cons_zero]
              refine wpAnyH_take (i := 24) (v := .pointer (some ⟨o, 0, none⟩)) rfl (by kernel_rfl) (by kernel_rfl) (by kernel_rfl) (fun _ _ _ h => h) (.inl ⟨by rfl, fun W' hW' => ?_⟩) hS ?_
              · go_simp
              simp only [Act.put, List.getElem_toArray, List.getElem_cons_succ, List.getElem_cons_zero, List.setIfInBounds_toArray, List.set_cons_succ, List.set_cons_zero]
              refine wpAnyH_take (i := 25) (v := .string ⟨s.toArray⟩) rfl (by kernel_rfl) (by kernel_rfl) (by kernel_rfl) (fun _ _ _ h => h) (.inl ⟨by rfl, fun W' hW' => ?_⟩) hS ?_
              · go_simp
              simp only [Act.put, List.getElem_toArray, List.getElem_cons_succ, List.getElem_cons_zero, List.setIfInBounds_toArray, List.set_cons_succ, List.set_cons_zero]
              have hf := find_any wF Y o 0 [] HSF.out.2 (HSF.out.1.one.vars HV.out) s
              simp only [str] at hf
              refine wpAnyH_one (i := 26) (by kernel_rfl) rfl (by rfl) (fun K hK => ?_)
              go_simp
              refine hf.mono ?_
              rintro e wG ⟨vG, rfl, hoG, hbG⟩
              have hS2 : wG.cell? ⟨q, 1, none⟩ = some (.slice ai n8 ci) := ((hbG).cell (p := ⟨q, 1, none⟩) hqF).trans hS
              refine hK _ _ hS2 ?_
              clear hK K
              have HBG : Hid (Below w.heap.size w wG) := nxt HSF.out.1.below hbG
              obtain ⟨aG, cG, rfl, _⟩ := hoG.len
              have hg0 : (ints (findP [] s)).length = 0 := rfl
              rw [hg0]
              clear hS HSF hf hoG hbG hqF hg0
              have hS := hS2
              clear hS2
              try simp only [Act.put, List.getElem_toArray, List.getElem_cons_succ, List.getElem_cons_zero, List.setIfInBounds_toArray, List.set_cons_succ, List.set_cons_zero]
              refine wpAnyH_take (i := 27) (v := .int .i64 0) rfl (by kernel_rfl) (by kernel_rfl) (by kernel_rfl) (fun _ _ _ h => h) (.inl ⟨by rfl, fun W' hW' => ?_⟩) hS ?_
              · go_simp
              simp only [Act.put, List.getElem_toArray, List.getElem_cons_succ, List.getElem_cons_zero, List.setIfInBounds_toArray, List.set_cons_succ, List.set_cons_zero]
              refine wpAnyH_take (i := 28) (v := .bool true) rfl (by kernel_rfl) (by kernel_rfl) (by kernel_rfl) (fun _ _ _ h => h) (.inl ⟨by rfl, fun W' hW' => ?_⟩) hS ?_
              · go_simp
              simp only [Act.put, List.getElem_toArray, List.getElem_cons_succ, List.getElem_cons_zero, List.setIfInBounds_toArray, List.set_cons_succ, List.set_cons_zero]
              refine wpAnyH_take (i := 29) (v := .bool true) rfl (by kernel_rfl) (by kernel_rfl) (by kernel_rfl) (fun _ _ _ h => h) (.inl ⟨by rfl, fun W' hW' => ?_⟩) hS ?_
              · go_simp
              simp only [Act.put, List.getElem_toArray, List.getElem_cons_succ, List.getElem_cons_zero, List.setIfInBounds_toArray, List.set_cons_succ, List.set_cons_zero]
              refine wpAnyH_one (i := 30) (by kernel_rfl) rfl (by rfl) (fun K hK => ?_)
              go_simp
              refine hK _ _ hS ?_
              clear hK K
              refine wpAnyH_done (by kernel_rfl) ?_ _
              go_wp2
              go_ret
              exact ⟨rfl, HBG.out⟩
end Go.Proofs.YtcicnbbnkeellaaGreatDoor
