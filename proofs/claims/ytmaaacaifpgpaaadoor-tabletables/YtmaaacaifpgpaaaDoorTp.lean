
/- The document's Reader.Table. Conditions: those that each row states. -/
import Derived.Test.YtmaaacaifpgpaaaDoorTn
namespace Go.Proofs.YtmaaacaifpgpaaaDoor
open Go.RowKit Go.Lib
set_option maxRecDepth 100000
set_option linter.unusedSimpArgs false

/-- What is asked of what the loop leaves. -/
structure TR (R : List Pr × Bool) (k : Nat) (s : List UInt8) (L : List Pr) : Prop where
  h : tabR k (s, false) L = R
  l : s.length ≤ k
  n : L.length ≤ 17
  f : ∀ q ∈ L, Fits q
theorem out_ok {out : List Pr × Rs} {t : List UInt8} {st1 : Rs} {R : List Pr × Bool} {L : List Pr} (HO : out = match tabO t with
    | none => ([], (st1.1, true))
    | some L => (L, st1)) (HT : tabO t = if okO R = true then some R.1 else none) (hR : R = (L, false)) (hv : validL L = true) : out = (L, st1) := by
  subst hR
  have e : okO (L, false) = true := by unfold okO; simp [hv]
  rw [HO, HT, if_pos e]
theorem out_bad {out : List Pr × Rs} {t : List UInt8} {st1 : Rs} {R : List Pr × Bool} (HO : out = match tabO t with
    | none => ([], (st1.1, true))
    | some L => (L, st1)) (HT : tabO t = if okO R = true then some R.1 else none) (hR : okO R = false) : out = ([], (st1.1, true)) := by
  rw [HO, HT, hR]
  rfl
theorem tab_nil {R : List Pr × Bool} {k : Nat} {L : List Pr} (h : tabR k ([], false) L = R) : R = (L, false) := by
  cases k <;> simpa [tabR] using h.symm
theorem tab_step {R : List Pr × Bool} {k : Nat} {s : List UInt8} {L : List Pr} (h : TR R k s L) (hs : s ≠ []) :
    ((fldR (s, false)).2.2 = true ∨ hasN L (fldR (s, false)).1.name = true → R = (L, true)) ∧ ((fldR (s, false)).2.2 = false → hasN L (fldR (s, false)).1.name = false → (16 < L.length → R = (L, false)) ∧ (L.length ≤ 16 → (fldR (s, false)).2.1.length < s.length ∧ TR R (k - 1) (fldR (s, false)).2.1 (insP (fldR (s, false)).1 L))) := by
  obtain ⟨h, hl, hn, hf⟩ := h
  have hlt := fldR_left hs
  have hff := fldR_fits (s, false)
  cases k with
  | zero => exact absurd (List.length_eq_zero_iff.1 (Nat.le_zero.1 hl)) hs
  | succ k =>
    unfold tabR at h
    rw [if_neg (by simp [hs])] at h
    refine ⟨fun hb => ?_, fun h1 h2 => ⟨fun h3 => ?_, fun h3 => ⟨hlt, ?_⟩⟩⟩
    · rw [if_pos hb] at h
      exact h.symm
    · rw [if_neg (by simp [h1, h2]), if_pos h3] at h
      exact h.symm
    · rw [if_neg (by simp [h1, h2]), if_neg (by omega)] at h
      refine ⟨?_, by simp only [Nat.add_sub_cancel]; omega, by rw [insP_len]; omega, fun q hq => ?_⟩
      · have e : ((fldR (s, false)).2.1, false) = (fldR (s, false)).2 := Prod.ext rfl h1.symm
        rw [Nat.add_sub_cancel, e]
        exact h
      · rcases List.mem_cons.1 ((insP_perm _ L).mem_iff.1 hq) with rfl | hq
        · exact hff
        · exact hf q hq
theorem OwnP.albB {w w' : World} {B H b : Nat} {v : Value} {l : List Pr} (h : OwnP w B v l) (hv : ∀ k, v.ownBlock = some k → k < H) (hb : Alb H w w' b) (hB : b < B) : OwnP w' B v l := by
  obtain ⟨hl, h⟩ := h
  refine ⟨hl, ?_⟩
  rcases h with h | ⟨g, cap, cur, rfl, hg, hc, h⟩
  · exact .inl h
  · exact .inr ⟨g, cap, cur, rfl, hg, by rw [hb.block g (hv g rfl) (by omega)]; exact hc, h⟩
/-- How the document's Table stands while a field is laid into its place. -/
structure DP (w w' : World) (b bi pb : Nat) (st1 st : Rs) (v : Value) (L : List Pr) (p : Pr) : Prop where
  t : DT w w' b bi st1 st v L
  k : Blk w' pb (prA p) 51
  v : ∀ k, v.ownBlock = some k → k < pb + 1
theorem DP.alb {w w1 w2 : World} {b bi pb : Nat} {st1 st st' : Rs} {v : Value} {L : List Pr} {p : Pr} (h : DP w w1 b bi pb st1 st v L p) (hb : b < bi) (hw : w.heap.size ≤ bi) (hp : bi + 1 ≤ pb) (ha : Alb (pb + 1) w1 w2 bi) (hr : RdS w2 bi st') : DP w w2 b bi pb st1 st' v L p :=
  ⟨⟨h.t.r.on (ha.block b (by omega) (by omega)), hr, h.t.o.albB h.v ha (by omega), ⟨ha.os.trans h.t.f.os, ha.tape.trans h.t.f.tape, ha.output.trans h.t.f.output, Nat.le_trans h.t.f.size ha.size, fun k hk hk2 => (ha.block k (by omega) (by omega)).trans (h.t.f.block k hk hk2)⟩, Nat.le_trans h.t.s ha.size⟩, ⟨(ha.block pb (by omega) (by omega)).trans h.k.h⟩, h.v⟩
theorem DP.low {w w1 w2 : World} {b bi pb : Nat} {st1 st : Rs} {v : Value} {L : List Pr} {p : Pr} (h : DP w w1 b bi pb st1 st v L p) (hb : b < bi) (hw : w.heap.size ≤ bi) (hp : bi + 1 ≤ pb) (ha : Below (pb + 1) w1 w2) : DP w w2 b bi pb st1 st v L p :=
  h.alb hb hw hp (.below ha) (h.t.i.below ha (by omega))
theorem DP.alloc {w w1 : World} {b bi pb : Nat} {st1 st : Rs} {v : Value} {L : List Pr} {p : Pr} (h : DP w w1 b bi pb st1 st v L p) (hb : b < bi) (hw : w.heap.size ≤ bi) (hp : bi + 1 ≤ pb) (o : Obj) : DP w (w1.alloc o) b bi pb st1 st v L p :=
  h.low hb hw hp ((below_new w1 o).mono (by have := h.k.lt; omega))
set_option maxHeartbeats 4000000 in
theorem rtable_any (w : World) (b : Nat) (st : Rs) (hr : RdS w b st) (hb : b < w.heap.size) :
    Calls Tryd.prog 31 #[.pointer (some ⟨b, 0, none⟩)] w fun e w' => ∃ v, e = .returned v ∧ OwnP w' w.heap.size v (rtab st).1 ∧ RdS w' b (rtab st).2 ∧ Alb w.heap.size w w' b := by
  have T := longR_any w b st hr
  have HO : Hid (rtab st = match tabO (longR st).1 with
    | none => ([], ((longR st).2.1, true))
    | some L => (L, (longR st).2)) := rfl
  generalize rtab st = out at *
  generalize longR st = lr at *
  obtain ⟨t, st1⟩ := lr
  obtain ⟨bi, hbi⟩ : ∃ bi, w.heap.size = bi := ⟨_, rfl⟩
  obtain ⟨R, hR⟩ : ∃ R, tabR t.length (t, false) [] = R := ⟨_, rfl⟩
  have HR : TR R t.length t [] := ⟨hR, Nat.le_refl _, by simp, fun q hq => nomatch hq⟩
  have HT : Hid (tabO t = if okO R = true then some R.1 else none) := by show _ = _; unfold tabO; rw [hR]
  clear hr hR
  go_enter Tryd.func31, Tryd.ntmps31
  go_wp2_with fail
  refine T.mono ?_
  rintro e w1 ⟨rfl, h1, b1⟩
  clear T
  have hD : DT w (w1.alloc (.cells #[str t, .bool false] 67)) b bi st1 (t, false) (.slice none 0 0) [] := by
    have hs1 : w1.heap.size = bi := by rw [b1.size, hbi]
    refine ⟨Rd.below h1 (below_new w1 _) (by omega), ?_, World.ownsRow_nil _ _ _ _, (Alb.but b1).trans (.below (by rw [hbi, ← hs1]; exact below_new w1 _)), by simp; omega⟩
    have := Rd.new w1 t false 67
    rw [hs1] at this
    exact this
  have hs1 : w1.heap.size = bi := by rw [b1.size, hbi]
  have HB : Hid (w.heap.size = bi) := hbi
  clear h1 b1 hbi
  go_wp2_with fail
  generalize (w1.alloc (.cells #[str t, .bool false] 67)) = wA at *
  go_loopw [4] (fun v wr => ∃ k s L, DT w wr b bi st1 (s, false) v L ∧ TR R k s L) (fun _ wr => lenAt wr bi)
  case atStart => exact ⟨_, _, _, hD, HR⟩
  case round =>
    obtain ⟨k, s, L, hd, htr⟩ := hrel
    have c0 := hd.i.c0
    have c1 := hd.i.c1
    by_cases hs : s = []
    · subst hs
      have hRL := tab_nil htr.h
      have V := fun w (h : RdP w u4 L) => rvalid7 w u4 L h htr.f (by have := htr.n; omega)
      go_wp2_with fail
      refine (V _ hd.o.rd).mono ?_
      rintro e w9 ⟨rfl, b9⟩
      have hbw : b < wr.heap.size := by have := hd.s; have := HB.out; omega
      have r9 := hd.r.below b9 hbw
      have r1 := r9.c1
      have rf := r9.f1
      clear c0 c1
      cases hv : validL L with
      | true =>
        go_wp2_with fail
        go_ret
        rw [out_ok HO.out HT.out hRL hv]
        exact ⟨_, rfl, (hd.o.up b9).low (by have := HB.out; omega), r9, hd.f.trans (.below (b9.mono hd.f.size))⟩
      | false =>
        go_wp2_with fail
        go_ret
        rw [out_bad HO.out HT.out (no_okO (.inr (by rw [hRL]; exact hv)))]
        exact ⟨_, rfl, World.ownsRow_nil _ _ _ _, rd_set _ _ _ _ r9, (hd.f.trans (.below (b9.mono hd.f.size))).trans (.but (But.set _ _ _ _))⟩
    · have hne : s.isEmpty = false := by cases s <;> simp at *
      have hbw : b < wr.heap.size := by have := hd.s; have := HB.out; omega
      have hiw : bi < wr.heap.size := hd.s
      have hbi : b < bi := by have := HB.out; omega
      have hwb : w.heap.size ≤ bi := by have := HB.out; omega
      have S := shortR_any wr bi (s, false) hd.i
      have V := fun w h1 h2 => rvalue_any w bi (shortR (s, false)).2 h1 h2
      have STEP := tab_step htr hs
      have HF : Hid (fldR (s, false) = (⟨⟨(shortR (s, false)).1.toArray⟩, (vaR (shortR (s, false)).2).1⟩, (vaR (shortR (s, false)).2).2)) := rfl
      have HLn := htr.n
      have HFI : Hid (∀ q ∈ L, Fits q) := htr.f
      have HLen := hd.i.lenAt
      clear htr hD HR
      generalize shortR (s, false) = sr at *
      obtain ⟨nm, sa⟩ := sr
      generalize vaR sa = vr at *
      obtain ⟨va, sb⟩ := vr
      obtain ⟨p, hp⟩ : ∃ p : Pr, (⟨⟨nm.toArray⟩, va⟩ : Pr) = p := ⟨_, rfl⟩
      rw [HF.out, hp] at STEP
      clear HF
      have HSTEP : Hid ((sb.2 = true ∨ hasN L p.name = true → R = (L, true)) ∧ (sb.2 = false → hasN L p.name = false → (16 < L.length → R = (L, false)) ∧ (L.length ≤ 16 → sb.1.length < s.length ∧ TR R (k - 1) sb.1 (insP p L)))) := STEP
      have HP : Hid ((⟨⟨nm.toArray⟩, va⟩ : Pr) = p) := hp
      clear STEP hp
      go_wp2_with fail
      refine S.mono ?_
      rintro e w2 ⟨rfl, i2, f2⟩
      have d2 := hd.alb hbi hwb (.but f2) i2
      clear hd S c0 c1
      go_wp2_with fail
      have kP := Blk.new w2 #[Value.string { data := nm.toArray }, Value.int IntKind.i64 0, Value.int IntKind.i64 0, Value.string { data := #[] }, Value.float FloatKind.f64 0] 51
      have b3 := below_new w2 (.cells #[Value.string { data := nm.toArray }, Value.int IntKind.i64 0, Value.int IntKind.i64 0, Value.string { data := #[] }, Value.float FloatKind.f64 0] 51)
      obtain ⟨pb, hpb⟩ : ∃ pb, w2.heap.size = pb := ⟨_, rfl⟩
      have hpi : bi + 1 ≤ pb := by have := d2.s; omega
      have d3 := d2.low hbi hwb (b3.mono d2.s) (d2.o.up b3)
      rw [hpb] at kP
      have hOB2 : ∀ k, u4.ownBlock = some k → k < pb := fun k hk => by
        have := (World.ownsRow.lt d2.o k hk).2
        omega
      have hOB : ∀ k, u4.ownBlock = some k → k < pb + 1 := fun k hk => Nat.lt_succ_of_lt (hOB2 k hk)
      simp only [hpb]
      clear d2 i2 f2 b3 hpb hiw hbw
      generalize (w2.alloc (Obj.cells #[Value.string { data := nm.toArray }, Value.int IntKind.i64 0, Value.int IntKind.i64 0, Value.string { data := #[] }, Value.float FloatKind.f64 0] 51)) = w3 at *
      have V3 := V w3 (by have := d3.s; omega) d3.i
      clear V
      obtain ⟨vk, vn, vt, vr⟩ := va
      unfold Val.v at V3
      refine V3.mono ?_
      rintro e w4 ⟨rfl, i4, a4⟩
      have kP4 := kP.alb a4 (by omega)
      have d4 := d3.alb hbi hwb a4 i4
      clear V3 d3 kP i4 a4
      go_wp2_with (refine wpl_putAt rfl (.tmp 33) (.tmp 32) rfl pb 1 _ rfl rfl kP4 (by kernel_rfl) (by simp) (by simp [Value.oneCell']) ?_)
      intro w5 kP5 g5 s5
      have k5 : Blk w5 pb (prA p) 51 := by rw [← HP.out]; exact kP5
      have d5 : DP w w5 b bi pb st1 sb u4 L p := by
        have b5 : Below pb w4 w5 := (Below.refl pb w4).grown g5 (by have := kP4.lt; omega) (fun k hk => by injection hk with hk; omega)
        exact ⟨⟨d4.r.below b5 (by omega), d4.i.below b5 (by omega), d4.o.albB hOB2 (.below (b := bi) b5) (by omega), d4.f.trans (.below (b5.mono (by omega))), by have := d4.s; omega⟩, k5, hOB⟩
      clear k5 kP5 g5 s5 d4 kP4 HP hOB hOB2
      obtain ⟨n, hn⟩ : ∃ n, L.length = n := ⟨_, rfl⟩
      obtain ⟨ad, cap, hu4, hcells⟩ : ∃ ad cap, u4 = .slice ad n cap ∧ (0 < n → ∃ g o, ad = some ⟨g, o, none⟩ ∧ g < pb + 1 ∧ g ≠ bi ∧ ∀ i (h : i < L.length), PrAt w5 g (o + i * 5) L[i]) := by
        obtain ⟨hl, ho⟩ := d5.t.o
        rcases ho with ⟨rfl, h0⟩ | ⟨g, c, cur, rfl, hg, hc, hx⟩
        · exact ⟨none, 0, by rw [← hn, h0], fun h => by omega⟩
        · refine ⟨_, c, by rw [hn], fun _ => ⟨g, 0, rfl, d5.v g rfl, by omega, ?_⟩⟩
          rcases d5.t.o.rd with ⟨⟨a, c', e⟩, h0⟩ | ⟨b', o', c', e, _, hP⟩
          · subst h0
            exact fun i h => absurd h (by simp)
          · injection e with e1
            injection e1 with e1
            injection e1 with e1 e2
            subst e1
            rw [← e2] at hP
            exact hP
      subst hu4
      have HN : Hid (L.length = n) := hn
      have HC : Hid (0 < n → ∃ g o, ad = some ⟨g, o, none⟩ ∧ g < pb + 1 ∧ g ≠ bi ∧ ∀ i (h : i < L.length), PrAt w5 g (o + i * 5) L[i]) := hcells
      have HW5 : Hid (∀ W (g o : Nat) (p : Pr), Alb (pb + 1) w5 W bi → g < pb + 1 → g ≠ bi → PrAt w5 g o p → PrAt W g o p) := fun W g o p ha hg hg2 hP => by
        have key : ∀ j, W.cell? ⟨g, j, none⟩ = w5.cell? ⟨g, j, none⟩ := fun j => by unfold World.cell?; simp only [ha.block g hg hg2]
        unfold PrAt
        simp only [key]
        exact hP
      have h17 : n ≤ 17 := by omega
      clear hn hcells HLn
      go_wp2_with fail
      go_loopw [36] (fun i wr => ∃ j : Nat, j ≤ n ∧ i = .int .i64 j ∧ Alb (pb + 1) w5 wr bi ∧ DP w wr b bi pb st1 (sb.1, sb.2 || hasN (L.take j) p.name) (.slice ad n cap) L p) (fun i _ => n - (RowKit.intOf i).toNat)
      case atStart => exact ⟨0, Nat.zero_le _, rfl, Alb.refl _ _ _, by simpa [hasN] using d5⟩
      case round =>
        clear d5
        obtain ⟨j, hj, rfl, ha, d6⟩ := hrel
        by_cases hlt : j < n
        · have hjl : j < L.length := by have := HN.out; omega
          obtain ⟨g, o, rfl, hg, hgi, hP⟩ := HC.out (by omega)
          obtain ⟨c0, c1, c2, c3, c4⟩ := HW5.out _ g _ _ ha hg hgi (hP j hjl)
          have HH : Hid (hasN (L.take (j + 1)) p.name = (hasN (L.take j) p.name || L[j].name.toList == p.name.toList)) := hasN_snoc _ _ _ hjl
          clear hP
          generalize L[j] = x at *
          generalize hasN (L.take j) p.name = hs at *
          have hjz : (j : Int) < (n : Int) := by omega
          go_upto_region 9 with fail
          have d7 := d6.alloc hbi hwb hpi (.cells (prA x) 51)
          have a7 : Alb (pb + 1) w5 (wr.alloc (.cells (prA x) 51)) bi := ha.trans (.below ((below_new wr _).mono (by have := d6.k.lt; omega)))
          have kX := Blk.new wr (prA x) 51
          have e0 := kX.cell 0
          have e1 := d7.k.cell 0
          have f1 := d7.t.i.f1
          have f0 := d7.t.i.c1
          obtain ⟨xb, hxb⟩ : ∃ xb, wr.heap.size = xb := ⟨_, rfl⟩
          simp only [hxb, List.getElem?_toArray, List.getElem?_cons_zero] at e0 e1 ⊢
          clear kX hxb d6 ha c0 c1 c2 c3 c4
          have hP0 : ∀ W st', Alb (pb + 1) (wr.alloc (.cells (prA x) 51)) W bi → RdS W bi st' → DP w W b bi pb st1 st' (.slice (some ⟨g, o, none⟩) n cap) L p := fun W st' h1 h2 => d7.alb hbi hwb hpi h1 h2
          generalize (wr.alloc (.cells (prA x) 51)) = wx at *
          cases heq : (x.name.toList == p.name.toList) with
          | true =>
            go_wp2
            go_roundw
            case rel =>
              have h9 := rd_set wx bi _ _ d7.t.i
              refine ⟨j + 1, by omega, by go_num, a7.trans (.but (But.set _ _ _ _)), ?_⟩
              rw [HH.out, heq, Bool.or_true, Bool.or_true]
              exact hP0 _ _ (.but (But.set _ _ _ _)) h9
            case measure => simp [RowKit.intOf]; omega
          | false =>
            go_wp2
            go_roundw
            case rel =>
              refine ⟨j + 1, by omega, by go_num, a7, ?_⟩
              rw [HH.out, heq, Bool.or_false]
              exact d7
            case measure => simp [RowKit.intOf]; omega
        · have hjn : j = n := by omega
          subst hjn
          have hall : L.take j = L := by rw [← HN.out]; exact List.take_length
          rw [hall] at d6
          have c1 := d6.t.i.c1
          cases hbad : (sb.2 || hasN L p.name) with
          | true =>
            rw [hbad] at c1 d6
            have hRL := HSTEP.out.1 (by simpa using hbad)
            have r9 := d6.t.r
            have r1 := r9.c1
            have rf := r9.f1
            go_wp2_with fail
            go_ret
            rw [out_bad HO.out HT.out (no_okO (.inl (by rw [hRL])))]
            exact ⟨_, rfl, World.ownsRow_nil _ _ _ _, rd_set _ _ _ _ r9, d6.t.f.trans (.but (But.set _ _ _ _))⟩
          | false =>
            rw [hbad] at c1 d6
            simp only [Bool.or_eq_false_iff] at hbad
            have HS2 := HSTEP.out.2 hbad.1 hbad.2
            by_cases h16 : 16 < j
            · have hRL := HS2.1 (by rw [HN.out]; exact h16)
              have hv : validL L = false := no_many (by rw [HN.out]; exact h16)
              have VV := fun w (h : RdP w (.slice ad j cap) L) => rvalid7 w (.slice ad j cap) L h HFI.out (by have := HN.out; omega)
              rw [hv] at VV
              have h16z : (16 : Int) < (j : Int) := by omega
              go_wp2_with fail
              refine (VV _ d6.t.o.rd).mono ?_
              rintro e w9 ⟨rfl, b9⟩
              have hbw : b < wr.heap.size := by have := d6.t.s; omega
              have r9 := d6.t.r.below b9 hbw
              have r1 := r9.c1
              have rf := r9.f1
              clear c1
              go_wp2_with fail
              go_ret
              rw [out_bad HO.out HT.out (no_okO (.inr (by rw [hRL]; exact hv)))]
              exact ⟨_, rfl, World.ownsRow_nil _ _ _ _, rd_set _ _ _ _ r9, (d6.t.f.trans (.below (b9.mono d6.t.f.size))).trans (.but (But.set _ _ _ _))⟩
            · obtain ⟨hshort, hTR⟩ := HS2.2 (by rw [HN.out]; omega)
              have HTR : Hid (sb.1.length < s.length ∧ TR R (k - 1) sb.1 (insP p L)) := ⟨hshort, hTR⟩
              have h16z : ¬ ((16 : Int) < (j : Int)) := by omega
              clear HS2 hshort hTR HSTEP hall hlt
              have ha : Alb (pb + 1) w5 wr bi := by assumption
              have d7 : DP w wr b bi pb st1 (sb.1, false) (.slice ad j cap) L p := d6
              clear d6
              obtain ⟨wq, hwq⟩ : ∃ wq, wq = wr := ⟨_, rfl⟩
              rw [← hwq] at ha d7 c1 ⊢
              clear hwq
              go_wp2_with fail
              go_loopw [8, 9, 60] (fun m la i wr => ∃ q : Nat, q ≤ j ∧ i = .int .i64 q ∧ la = .bool (insT p (L.take q)).2 ∧ OwnP wr (pb + 1) m (insT p (L.take q)).1 ∧ Alb (pb + 1) w5 wr bi ∧ DP w wr b bi pb st1 (sb.1, false) (.slice ad j cap) L p) (fun _ _ i _ => j - (RowKit.intOf i).toNat)
              case atStart => exact ⟨0, Nat.zero_le _, rfl, rfl, World.ownsRow_nil _ _ _ _, ha, d7⟩
              case round =>
                clear ha d7 c1
                obtain ⟨q, hq, rfl, rfl, om, ha, d8⟩ := hrel
                have hsz : pb + 1 ≤ wr.heap.size := by have := d8.k.lt; omega
                have hml := insT_len p L q (by have := HN.out; omega)
                by_cases hlt : q < j
                · have hql : q < L.length := by have := HN.out; omega
                  obtain ⟨g, o, rfl, hg, hgi, hP⟩ := HC.out (by omega)
                  obtain ⟨c0, c1, c2, c3, c4⟩ := HW5.out _ g _ _ ha hg hgi (hP q hql)
                  have HH : Hid (insT p (L.take (q + 1)) = stepI p (insT p (L.take q)) L[q]) := insT_snoc _ _ _ hql
                  clear hP
                  generalize L[q] = x at *
                  generalize insT p (L.take q) = ms at *
                  obtain ⟨M, la⟩ := ms
                  have hqz : (q : Int) < (j : Int) := by omega
                  go_upto_region 18 with fail
                  have d9 := d8.alloc hbi hwb hpi (.cells (prA x) 51)
                  have o9 := om.up (below_new wr (.cells (prA x) 51))
                  have a9 : Alb (pb + 1) w5 (wr.alloc (.cells (prA x) 51)) bi := ha.trans (.below ((below_new wr _).mono hsz))
                  have kX := Blk.new wr (prA x) 51
                  have hne : u8.ownBlock ≠ some wr.heap.size := fun e => by
                    have := (World.ownsRow.lt om _ e).2
                    omega
                  have hsx : pb + 1 ≤ (wr.alloc (.cells (prA x) 51)).heap.size := by simp; omega
                  have hlx : wr.heap.size < (wr.alloc (.cells (prA x) 51)).heap.size := by simp
                  obtain ⟨xb, hxb⟩ : ∃ xb, wr.heap.size = xb := ⟨_, rfl⟩
                  rw [hxb] at kX hne hlx
                  simp only [hxb]
                  have hP0 : ∀ W, Below (pb + 1) (wr.alloc (.cells (prA x) 51)) W → Alb (pb + 1) w5 W bi ∧ DP w W b bi pb st1 (sb.1, false) (.slice (some ⟨g, o, none⟩) j cap) L p := fun W h => ⟨a9.trans (.below h), d9.low hbi hwb hpi h⟩
                  have e0 := kX.cell 0
                  have e1 := kX.cell 1
                  have e2 := kX.cell 2
                  have e3 := kX.cell 3
                  have e4 := kX.cell 4
                  have p0 := d9.k.cell 0
                  have p1 := d9.k.cell 1
                  have p2 := d9.k.cell 2
                  have p3 := d9.k.cell 3
                  have p4 := d9.k.cell 4
                  simp only [List.getElem?_toArray, List.getElem?_cons_zero, List.getElem?_cons_succ] at e0 e1 e2 e3 e4 p0 p1 p2 p3 p4
                  have hml : M.length ≤ 40 := by
                    have : M.length ≤ 2 * q := hml
                    omega
                  have HM : Hid (stepI p (M, la) x = if la = false ∧ lessP p x = true then (M ++ [p] ++ [x], true) else (M ++ [x], la)) := rfl
                  have HK : Hid (Blk (wr.alloc (.cells (prA x) 51)) xb (prA x) 51) := kX
                  clear c0 c1 c2 c3 c4 d8 om ha hsz kX hxb d9 a9
                  generalize (wr.alloc (.cells (prA x) 51)) = wx at *
                  cases la with
                  | true =>
                    go_wp2_with (at_builtin; refine wpl_appP rfl (.tmp 77) (.tmp 79) rfl (pb + 1) _ M x wx rfl o9 rfl (by omega) hsx ?_)
                    intro v9 w9 o10 b10 _
                    clear e0 e1 e2 e3 e4 p0 p1 p2 p3 p4 o9
                    go_wp2_with fail
                    go_roundw
                    case rel =>
                      obtain ⟨h1, h2⟩ := hP0 _ b10
                      have hE := HM.out
                      rw [if_neg (by simp)] at hE
                      refine ⟨q + 1, by omega, by go_num, ?_, ?_, h1, h2⟩
                      · rw [HH.out, hE]
                      · rw [HH.out, hE]; exact o10
                    case measure => simp [RowKit.intOf]; omega
                  | false =>
                    cases hles : lessP p x with
                    | false =>
                      have hls : Op.bytesLess p.name.toList x.name.toList = false := hles
                      go_wp2_with (at_builtin; refine wpl_appP rfl (.tmp 77) (.tmp 79) rfl (pb + 1) _ M x wx rfl o9 rfl (by omega) hsx ?_)
                      intro v9 w9 o10 b10 _
                      clear e0 e1 e2 e3 e4 p0 p1 p2 p3 p4 o9
                      go_wp2_with fail
                      go_roundw
                      case rel =>
                        obtain ⟨h1, h2⟩ := hP0 _ b10
                        have hE := HM.out
                        rw [if_neg (by simp [hles])] at hE
                        refine ⟨q + 1, by omega, by go_num, ?_, ?_, h1, h2⟩
                        · rw [HH.out, hE]
                        · rw [HH.out, hE]; exact o10
                      case measure => simp [RowKit.intOf]; omega
                    | true =>
                      have hls : Op.bytesLess p.name.toList x.name.toList = true := hles
                      go_wp2_with (at_builtin; refine wpl_appP rfl (.tmp 73) (.tmp 75) rfl (pb + 1) _ M p wx rfl o9 rfl (by omega) hsx ?_)
                      intro v9 w9 o10 b10 n10
                      have kX : Blk w9 xb (prA x) 51 := ⟨by first | exact n10 _ _ _ _ (.inr (.inr hne)) HK.out.h | exact n10 _ _ _ _ _ (.inr (.inr hne)) HK.out.h⟩
                      clear e0 e1 e2 e3 e4 p0 p1 p2 p3 p4 o9
                      have e0 := kX.cell 0
                      have e1 := kX.cell 1
                      have e2 := kX.cell 2
                      have e3 := kX.cell 3
                      have e4 := kX.cell 4
                      simp only [List.getElem?_toArray, List.getElem?_cons_zero, List.getElem?_cons_succ] at e0 e1 e2 e3 e4
                      have hs9 := Nat.le_trans hsx b10.size
                      have hm1 : (M ++ [p]).length ≤ 80000 := by rw [List.length_append, List.length_singleton]; omega
                      clear kX n10 hne HK
                      go_wp2_with (at_builtin; refine wpl_appP rfl (.tmp 77) (.tmp 79) rfl (pb + 1) _ (M ++ [p]) x w9 rfl o10 rfl (by omega) hs9 ?_)
                      intro v11 w11 o11 b11 _
                      clear e0 e1 e2 e3 e4 o10
                      go_wp2_with fail
                      go_roundw
                      case rel =>
                        obtain ⟨h1, h2⟩ := hP0 _ (b10.trans b11)
                        have hE : stepI p (M, false) x = (M ++ [p, x], true) := by unfold stepI; simp [hles]
                        refine ⟨q + 1, by omega, by go_num, ?_, ?_, h1, h2⟩
                        · rw [HH.out, hE]
                        · rw [HH.out, hE]; simpa using o11
                      case measure => simp [RowKit.intOf]; omega
                · have hqj : q = j := by omega
                  subst hqj
                  have hall : L.take q = L := by rw [← HN.out]; exact List.take_length
                  rw [hall] at om hml
                  have HF : Hid (finI p (insT p L) = insP p L) := fin_insT p L
                  simp only [hall]
                  have hml : (insT p L).1.length ≤ 40 := by omega
                  generalize insT p L = ms at *
                  obtain ⟨M, la⟩ := ms
                  have hLen := HLen
                  clear HLen
                  cases la with
                  | true =>
                    go_wp2_with fail
                    go_roundw
                    case rel =>
                      have e : insP p L = M := by rw [← HF.out]; rfl
                      exact ⟨k - 1, sb.1, insP p L, ⟨d8.t.r, d8.t.i, by rw [e]; exact om.low (by omega), d8.t.f, d8.t.s⟩, HTR.out.2⟩
                    case measure =>
                      rw [d8.t.i.lenAt, hLen]
                      exact HTR.out.1
                  | false =>
                    have p0 := d8.k.cell 0
                    have p1 := d8.k.cell 1
                    have p2 := d8.k.cell 2
                    have p3 := d8.k.cell 3
                    have p4 := d8.k.cell 4
                    simp only [List.getElem?_toArray, List.getElem?_cons_zero, List.getElem?_cons_succ] at p0 p1 p2 p3 p4
                    have hml : M.length ≤ 40 := hml
                    go_wp2_with (at_builtin; refine wpl_appP rfl (.tmp 84) (.tmp 86) rfl (pb + 1) _ M p wr rfl om rfl (by omega) hsz ?_)
                    intro v9 w9 o10 b10 _
                    have d10 := d8.low hbi hwb hpi b10
                    clear p0 p1 p2 p3 p4 om d8 ha
                    go_wp2_with fail
                    go_roundw
                    case rel =>
                      have e : insP p L = M ++ [p] := by rw [← HF.out]; rfl
                      exact ⟨k - 1, sb.1, insP p L, ⟨d10.t.r, d10.t.i, by rw [e]; exact o10.low (by omega), d10.t.f, d10.t.s⟩, HTR.out.2⟩
                    case measure =>
                      rw [d10.t.i.lenAt, hLen]
                      exact HTR.out.1
end Go.Proofs.YtmaaacaifpgpaaaDoor
