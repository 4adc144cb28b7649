/- The document's Encode of any method. Conditions: those that each row states. -/
import Derived.Test.YtmaaacaifpgpaaaGreatDoorMethDe
namespace Go.Proofs.YtmaaacaifpgpaaaGreatDoor
open Go.RowKit Go.Lib
set_option maxRecDepth 100000
set_option linter.unusedSimpArgs false

set_option maxHeartbeats 16000000 in
theorem rencode_any (w : World) (ca cb : Int) (vn vt vp : Value) (ns : List Int) (ts : List (List UInt8)) (ps : List Pr) (hm : RdM w w.heap.size vn vt vp ns ts ps) (hfit : ∀ q ∈ ps, Fits q) :
    Calls Tryz.prog 9 #[.agg (mtA ca cb vn vt vp)] w fun e w' => EcP w' w.heap.size (payP ca cb ns ts ps) e ∧ Below w.heap.size w w' := by
  obtain ⟨a, ha⟩ : ∃ a, w.heap.size = a := ⟨_, rfl⟩
  have F := fun w => rform_any w ca cb
  obtain ⟨W1, hW1⟩ : ∃ W1, w.alloc (Obj.cells (mtA ca cb vn vt vp) 26) = W1 := ⟨_, rfl⟩
  have B1 : Below a w W1 := by rw [← hW1, ← ha]; exact below_new w _
  have K1 : Blk W1 a (mtA ca cb vn vt vp) 26 := by rw [← hW1, ← ha]; exact Blk.new w _ _
  have HM : Hid (RdM w a vn vt vp ns ts ps) := by rw [← ha]; exact hm
  have HFI : Hid (∀ q ∈ ps, Fits q) := hfit
  obtain ⟨na, nc, e1⟩ := hm.n.shape
  obtain ⟨ta, tc, e2⟩ := hm.t.shape
  obtain ⟨pa, pc, e3⟩ := hm.p.shape
  subst e1 e2 e3
  have HP : Hid (payP ca cb ns ts ps = if (formL ca cb mL).2 = true then
    (partsP (formL ca cb mL).1 ⟨beN 2 ca.toNat ++ beN 2 cb.toNat, ns, ts, ps⟩).bind fun q => if q.ns = [] ∧ q.ts = [] ∧ q.ps = [] then some q.out else none
  else none) := rfl
  have FS := @form_some ca cb
  have HL8 : Hid (∀ c ∈ (formL ca cb mL).1, c ∈ ([111, 98, 104, 108, 76, 115, 83, 84] : List UInt8)) := letters ca cb
  have HON : Hid (∀ k (h : k < (formL ca cb mL).1.length), (formL ca cb mL).1[k] = 84 → (84 : UInt8) ∉ (formL ca cb mL).1.drop (k + 1)) := once ca cb
  generalize payP ca cb ns ts ps = PP at *
  rw [ha]
  have HSZ : Hid (ns.length + ts.length + ps.length ≤ 4000000000000000000) := HM.out.sz
  clear hm hfit
  generalize (formL ca cb mL).1 = f at *
  generalize (formL ca cb mL).2 = ok at *
  have c0 := K1.cell 0
  have c1 := K1.cell 1
  simp only [List.getElem?_toArray, List.getElem?_cons_zero, List.getElem?_cons_succ] at c0 c1
  cases ok with
  | false =>
    go_enter Tryz.func9, Tryz.ntmps9
    go_upto_region 1 with fail
    clear hW1 ha
    go_wp2_with (go_at_call 7; refine (F _).mono ?_; rintro e W2 ⟨rfl, hb2⟩)
    have B2 : Below a w W2 := B1.trans (hb2.mono (Nat.le_of_lt K1.lt))
    refine bodyPost_ret (v := .tuple #[.slice none 0 0, .int .i64 1]) (by simp [results, Tryz.results9, go_sem]) rfl ?_
    exact ⟨EcP.no (by rw [HP.out]; rfl), B2⟩
  | true =>
  go_enter Tryz.func9, Tryz.ntmps9
  go_upto_region 1 with fail
  clear hW1 ha
  go_upto_region 4 with (go_at_call 7; refine (F _).mono ?_; rintro e W2 ⟨rfl, hb2⟩)
  have K2 : Blk W2 a (mtA ca cb _ _ _) 26 := K1.on hb2
  have B2 : Below a w W2 := B1.trans (hb2.mono (Nat.le_of_lt K1.lt))
  clear c0 c1 K1 B1 hb2 F
  obtain ⟨f1, f2, f3, f4, f5⟩ := FS (by trivial)
  obtain ⟨na', rfl⟩ : ∃ n : Nat, ca = (n : Int) := ⟨ca.toNat, by omega⟩
  obtain ⟨nb', rfl⟩ : ∃ n : Nat, cb = (n : Int) := ⟨cb.toNat, by omega⟩
  have HP : Hid (PP = (partsP f ⟨beN 2 na' ++ beN 2 nb', ns, ts, ps⟩).bind fun q => if q.ns = [] ∧ q.ts = [] ∧ q.ps = [] then some q.out else none) := HP.out
  have hwa : IntKind.u64.wrap (na' : Int) = (na' : Int) := by rw [IntKind.wrap_u64]; omega
  have hwb : IntKind.u64.wrap (nb' : Int) = (nb' : Int) := by rw [IntKind.wrap_u64]; omega
  clear FS f1 f3
  refine wp_region_held (S := fun W => Blk W a (mtA na' nb' (Value.slice na ns.length nc) (Value.slice ta ts.length tc) (Value.slice pa ps.length pc)) 26) hmix ?_
  show wpAnyH _ _ _ _ _ _ _ _ (World.drew _)
  have kd : Blk W2.drew a (mtA na' nb' (Value.slice na ns.length nc) (Value.slice ta ts.length tc) (Value.slice pa ps.length pc)) 26 := ⟨K2.h⟩
  have Bd : Below a w W2.drew := B2.drew
  clear K2 B2
  generalize W2.drew = Wd at *
  refine tks [0, 1, 2, 4, 5, 6] [.pointer (some ⟨a, 0, none⟩), .int .i64 na', .int .u64 na', .pointer (some ⟨a, 1, none⟩), .int .i64 nb', .int .u64 nb'] 3 ?_ kd ?_
  · simp only [tkY, tkf]
    refine ⟨.yes ?_, .yes ?_, .yes ?_, .yes ?_, .yes ?_, .yes ?_, trivial⟩
    all_goals
      intro W' hW'
      have c0 := hW'.cell 0
      have c1 := hW'.cell 1
      simp only [List.getElem?_toArray, List.getElem?_cons_zero, List.getElem?_cons_succ] at c0 c1
      go_simp
      try (first | rw [hwa] | rw [hwb])
  simp only [tkA, tkf]
  have sd := kd.lt
  refine ak 3 (fun K hK => ?_)
  go_wp2_with (go_at_call 19; refine (bigN_any Wd (a + 1) _ [] 2 na' (by omega) (Own.nil _ _) sd (by simp)).mono ?_; rintro e W4 ⟨o4, rfl, ho4, hb4⟩)
  have k4 := kd.below hb4.b (Nat.lt_succ_self a)
  have B4 : Below a w W4 := Bd.trans (hb4.b.mono (by omega))
  refine hK _ _ k4 ?_
  clear hK K sd kd Bd hb4
  refine ak 7 (fun K hK => ?_)
  have s4 := k4.lt
  go_wp2_with (go_at_call 19; refine (bigN_any W4 (a + 1) _ _ 2 nb' (by omega) ho4 s4 (by simp [beN_len])).mono ?_; rintro e W5 ⟨o5, rfl, ho5, hb5⟩)
  have k5 := k4.below hb5.b (Nat.lt_succ_self a)
  have B5 : Below a w W5 := B4.trans (hb5.b.mono (by omega))
  refine hK _ _ k5 ?_
  clear hK K s4 k4 B4 hb5 ho4
  refine ak 8 (fun K hK => ?_)
  go_wp2_with fail
  refine hK _ _ k5 ?_
  clear hK K
  refine wpAnyH_done (by kernel_rfl) ?_ _
  have HQ0 : Hid (Enq f ns ts ps 0 0 0 false ⟨beN 2 na' ++ beN 2 nb', ns, ts, ps⟩) := ⟨rfl, rfl, rfl, Nat.zero_le _, Nat.zero_le _, (fun h => by cases h), (by simp [beN_len])⟩
  have ho5 : Own W5 (a + 1) o5 (⟨beN 2 na' ++ beN 2 nb', ns, ts, ps⟩ : Wq).out := by
    rw [List.nil_append] at ho5
    exact ho5
  clear hwa hwb
  generalize (⟨beN 2 na' ++ beN 2 nb', ns, ts, ps⟩ : Wq) = q0 at *
  obtain ⟨MT, hMT⟩ : ∃ MT, mtA na' nb' (Value.slice na ns.length nc) (Value.slice ta ts.length tc) (Value.slice pa ps.length pc) = MT := ⟨_, rfl⟩
  have HMT : Hid (mtA na' nb' (Value.slice na ns.length nc) (Value.slice ta ts.length tc) (Value.slice pa ps.length pc) = MT) := hMT
  rw [hMT] at k5
  clear hMT
  go_wp2_with fail
  go_loopw [6, 7, 8, 9, 10] (fun u x y z i wr => ∃ (k nn nt : Nat) (tb : Bool) (q : Wq), k ≤ f.length ∧ i = .int .i64 (k : Int) ∧ x = .int .i64 (nn : Int) ∧ y = .int .i64 (nt : Int) ∧ z = .bool tb ∧ Hid (Enq f ns ts ps k nn nt tb q) ∧ Hid (partsP f q0 = partsP (f.drop k) q) ∧ Own wr (a + 1) u q.out ∧ Blk wr a MT 26 ∧ Below a w wr) (fun _ _ _ _ i _ => f.length - (RowKit.intOf i).toNat)
  case atStart => exact ⟨0, 0, 0, false, q0, Nat.zero_le _, rfl, rfl, rfl, rfl, HQ0, rfl, ho5, k5, B5⟩
  case round =>
    clear HQ0 B5 k5 ho5
    obtain ⟨k, nn, nt, tb, q, hk, rfl, rfl, rfl, rfl, HQ, HB, ho, kM, hB⟩ := hrel
    have c2 := kM.cell 2
    have c3 := kM.cell 3
    have c4 := kM.cell 4
    rw [← HMT.out] at c2 c3 c4
    simp only [List.getElem?_toArray, List.getElem?_cons_zero, List.getElem?_cons_succ] at c2 c3 c4
    have swr := kM.lt
    by_cases hlt : k < f.length
    · have gk := get_str f k
      have hgk : f.getD k 0 = f[k] := by simp [List.getD_eq_getElem?_getD, hlt]
      rw [hgk] at gk
      have hkz : (k : Int) < (f.length : Int) := by omega
      have HE : Hid (partsP f q0 = (partP f[k].toNat q).bind (partsP (f.drop (k + 1)))) := partsP_get hlt HB.out
      have HNO : Hid (partP f[k].toNat q = none → PP = none) := fun h => by rw [HP.out, HE.out, h]; rfl
      have HYE : Hid (∀ q', partP f[k].toNat q = some q' → partsP f q0 = partsP (f.drop (k + 1)) q') := fun q' h => by rw [HE.out, h]; rfl
      have HLE : Hid (q.out.length ≤ 40100) := by have := HQ.out.l; show _ ≤ _; omega
      have HMr : Hid (RdM wr a (Value.slice na ns.length nc) (Value.slice ta ts.length tc) (Value.slice pa ps.length pc) ns ts ps) := HM.out.on hB
      have HF84 : Hid (f[k] = 84 → tb = false) := fun h => HQ.out.fresh hlt h
      have HO84 : Hid (f[k] = 84 → (84 : UInt8) ∉ f.drop (k + 1)) := fun h => HON.out k hlt h
      have hmem : f[k] ∈ ([111, 98, 104, 108, 76, 115, 83, 84] : List UInt8) := HL8.out _ (List.getElem_mem _)
      have hnl := HQ.out.ln
      have htl := HQ.out.lt
      have SZ := fun w => size_any w f[k].toNat
      clear hgk HB HE HP HL8 HON
      generalize f[k] = y at *
      have hcase : (sz y.toNat = 1 ∨ sz y.toNat = 2 ∨ sz y.toNat = 4 ∨ sz y.toNat = 8) ∨ y = 115 ∨ y = 83 ∨ y = 84 := by
        simp only [List.mem_cons, List.not_mem_nil, or_false] at hmem
        rcases hmem with rfl | rfl | rfl | rfl | rfl | rfl | rfl | rfl
        · exact .inl (.inl rfl)
        · exact .inl (.inl rfl)
        · exact .inl (.inr (.inl rfl))
        · exact .inl (.inr (.inr (.inl rfl)))
        · exact .inl (.inr (.inr (.inr rfl)))
        · exact .inr (.inl rfl)
        · exact .inr (.inr (.inl rfl))
        · exact .inr (.inr (.inr rfl))
      clear hmem
      rcases hcase with (hz | hz | hz | hz) | hz | hz | hz
      · have hz0 : sz y.toNat ≠ 0 := by omega
        rw [hz] at SZ
        clear HF84 HO84
        by_cases hn : nn < ns.length
        · have hnz : ¬ ((ns.length : Int) ≤ (nn : Int)) := by omega
          obtain ⟨g, o, c, hv, hg, hcell⟩ := HMr.out.n.at nn hn
          injection hv with hv1 hv2 hv3
          subst hv1 hv3
          have HN1 : Hid (fitN ns[nn] 1 = false → PP = none) := fun h => HNO.out (HQ.out.num_bad hz0 hn (by rw [hz]; exact h))
          have HN2 : Hid (fitN ns[nn] 1 = true → ∃ q', partP y.toNat q = some q' ∧ q'.out = q.out ++ beN 1 ns[nn].toNat ∧ Enq f ns ts ps (k + 1) (nn + 1) nt tb q') := fun h => by
            have := HQ.out.num hz0 hn (by rw [hz]; exact h)
            rwa [hz] at this
          have HX : Hid (ns[nn] < 9223372036854775808) := HMr.out.ln _ (List.getElem_mem _)
          clear HNO HQ HMr
          generalize ns[nn] = n at *
          have HNL : Hid (nn < ns.length) := hn
          clear hn
          by_cases hneg : n < 0
          · have hnone := HN1.out (by unfold fitN; simp; omega)
            have g1 : decide (n < 0) = true := by simpa using hneg
            go_wp2_with (go_at_call 20; refine (SZ _).mono ?_; rintro e w7 ⟨rfl, rfl⟩)
            refine bodyPost_ret (v := .tuple #[.slice none 0 0, .int .i64 1]) (by simp [results, Tryz.results9, go_sem]) rfl ?_
            exact ⟨EcP.no hnone, hB⟩
          · have g1 : decide (n < 0) = false := by simpa using hneg
            by_cases hbig : 256 ≤ n
            · have hnone := HN1.out (by unfold fitN; simp; omega)
              have g2 : decide ((256 : Int) ≤ n) = true := by simpa using hbig
              go_wp2_with (go_at_call 20; refine (SZ _).mono ?_; rintro e w7 ⟨rfl, rfl⟩)
              refine bodyPost_ret (v := .tuple #[.slice none 0 0, .int .i64 1]) (by simp [results, Tryz.results9, go_sem]) rfl ?_
              exact ⟨EcP.no hnone, hB⟩
            · obtain ⟨n, rfl⟩ : ∃ n' : Nat, n = (n' : Int) := ⟨n.toNat, by omega⟩
              have g2 : decide ((256 : Int) ≤ (n : Int)) = false := by simpa using hbig
              obtain ⟨q', hq1, hq2, hq3⟩ := HN2.out (by unfold fitN; simp only [Bool.and_eq_true, decide_eq_true_eq]; omega)
              have HB7 : Hid (partsP f q0 = partsP (f.drop (k + 1)) q') := HYE.out q' hq1
              have HQ7 : Hid (Enq f ns ts ps (k + 1) (nn + 1) nt tb q') := hq3
              have HO7 : Hid (q'.out = q.out ++ beN 1 n) := hq2
              have hu : IntKind.u64.wrap (n : Int) = (n : Int) := by have := HX.out; rw [IntKind.wrap_u64]; omega
              have P := bigN_any wr (a + 1) u6 q.out 1 n (by decide) ho swr (by have := HLE.out; omega)
              have hnn : nn + 1 ≤ 4000000000000000000 := by have := HSZ.out; have := HNL.out; omega
              clear hq1 hq2 hq3 HN1 HN2 HX hbig hneg
              go_wp2_with (first | (go_at_call 20; refine (SZ _).mono ?_; rintro e w7 ⟨rfl, rfl⟩) | (go_at_call 19; refine P.mono ?_; rintro e w7 ⟨v7, rfl, ho7, hb7⟩))
              rw [← HO7.out] at ho7
              have k7 := kM.below hb7.b (Nat.lt_succ_self a)
              have B7 := hB.trans (hb7.b.mono (Nat.le_succ a))
              clear P ho kM hB hb7 HO7
              go_wp2_with fail
              go_roundw
              case rel => exact ⟨k + 1, nn + 1, nt, tb, q', by omega, by go_num, by go_num, rfl, rfl, HQ7, HB7, ho7, k7, B7⟩
              case measure => simp [RowKit.intOf]; omega
        · have hnz : (ns.length : Int) ≤ (nn : Int) := by omega
          have hnone := HNO.out (HQ.out.num_no hz0 (by omega))
          clear HNO HQ HYE
          go_wp2_with (go_at_call 20; refine (SZ _).mono ?_; rintro e w7 ⟨rfl, rfl⟩)
          refine bodyPost_ret (v := .tuple #[.slice none 0 0, .int .i64 1]) (by simp [results, Tryz.results9, go_sem]) rfl ?_
          exact ⟨EcP.no hnone, hB⟩
      · have hz0 : sz y.toNat ≠ 0 := by omega
        rw [hz] at SZ
        clear HF84 HO84
        by_cases hn : nn < ns.length
        · have hnz : ¬ ((ns.length : Int) ≤ (nn : Int)) := by omega
          obtain ⟨g, o, c, hv, hg, hcell⟩ := HMr.out.n.at nn hn
          injection hv with hv1 hv2 hv3
          subst hv1 hv3
          have HN1 : Hid (fitN ns[nn] 2 = false → PP = none) := fun h => HNO.out (HQ.out.num_bad hz0 hn (by rw [hz]; exact h))
          have HN2 : Hid (fitN ns[nn] 2 = true → ∃ q', partP y.toNat q = some q' ∧ q'.out = q.out ++ beN 2 ns[nn].toNat ∧ Enq f ns ts ps (k + 1) (nn + 1) nt tb q') := fun h => by
            have := HQ.out.num hz0 hn (by rw [hz]; exact h)
            rwa [hz] at this
          have HX : Hid (ns[nn] < 9223372036854775808) := HMr.out.ln _ (List.getElem_mem _)
          clear HNO HQ HMr
          generalize ns[nn] = n at *
          have HNL : Hid (nn < ns.length) := hn
          clear hn
          by_cases hneg : n < 0
          · have hnone := HN1.out (by unfold fitN; simp; omega)
            have g1 : decide (n < 0) = true := by simpa using hneg
            go_wp2_with (go_at_call 20; refine (SZ _).mono ?_; rintro e w7 ⟨rfl, rfl⟩)
            refine bodyPost_ret (v := .tuple #[.slice none 0 0, .int .i64 1]) (by simp [results, Tryz.results9, go_sem]) rfl ?_
            exact ⟨EcP.no hnone, hB⟩
          · have g1 : decide (n < 0) = false := by simpa using hneg
            by_cases hbig : 65536 ≤ n
            · have hnone := HN1.out (by unfold fitN; simp; omega)
              have g2 : decide ((65536 : Int) ≤ n) = true := by simpa using hbig
              go_wp2_with (go_at_call 20; refine (SZ _).mono ?_; rintro e w7 ⟨rfl, rfl⟩)
              refine bodyPost_ret (v := .tuple #[.slice none 0 0, .int .i64 1]) (by simp [results, Tryz.results9, go_sem]) rfl ?_
              exact ⟨EcP.no hnone, hB⟩
            · obtain ⟨n, rfl⟩ : ∃ n' : Nat, n = (n' : Int) := ⟨n.toNat, by omega⟩
              have g2 : decide ((65536 : Int) ≤ (n : Int)) = false := by simpa using hbig
              obtain ⟨q', hq1, hq2, hq3⟩ := HN2.out (by unfold fitN; simp only [Bool.and_eq_true, decide_eq_true_eq]; omega)
              have HB7 : Hid (partsP f q0 = partsP (f.drop (k + 1)) q') := HYE.out q' hq1
              have HQ7 : Hid (Enq f ns ts ps (k + 1) (nn + 1) nt tb q') := hq3
              have HO7 : Hid (q'.out = q.out ++ beN 2 n) := hq2
              have hu : IntKind.u64.wrap (n : Int) = (n : Int) := by have := HX.out; rw [IntKind.wrap_u64]; omega
              have P := bigN_any wr (a + 1) u6 q.out 2 n (by decide) ho swr (by have := HLE.out; omega)
              have hnn : nn + 1 ≤ 4000000000000000000 := by have := HSZ.out; have := HNL.out; omega
              clear hq1 hq2 hq3 HN1 HN2 HX hbig hneg
              go_wp2_with (first | (go_at_call 20; refine (SZ _).mono ?_; rintro e w7 ⟨rfl, rfl⟩) | (go_at_call 19; refine P.mono ?_; rintro e w7 ⟨v7, rfl, ho7, hb7⟩))
              rw [← HO7.out] at ho7
              have k7 := kM.below hb7.b (Nat.lt_succ_self a)
              have B7 := hB.trans (hb7.b.mono (Nat.le_succ a))
              clear P ho kM hB hb7 HO7
              go_wp2_with fail
              go_roundw
              case rel => exact ⟨k + 1, nn + 1, nt, tb, q', by omega, by go_num, by go_num, rfl, rfl, HQ7, HB7, ho7, k7, B7⟩
              case measure => simp [RowKit.intOf]; omega
        · have hnz : (ns.length : Int) ≤ (nn : Int) := by omega
          have hnone := HNO.out (HQ.out.num_no hz0 (by omega))
          clear HNO HQ HYE
          go_wp2_with (go_at_call 20; refine (SZ _).mono ?_; rintro e w7 ⟨rfl, rfl⟩)
          refine bodyPost_ret (v := .tuple #[.slice none 0 0, .int .i64 1]) (by simp [results, Tryz.results9, go_sem]) rfl ?_
          exact ⟨EcP.no hnone, hB⟩
      · have hz0 : sz y.toNat ≠ 0 := by omega
        rw [hz] at SZ
        clear HF84 HO84
        by_cases hn : nn < ns.length
        · have hnz : ¬ ((ns.length : Int) ≤ (nn : Int)) := by omega
          obtain ⟨g, o, c, hv, hg, hcell⟩ := HMr.out.n.at nn hn
          injection hv with hv1 hv2 hv3
          subst hv1 hv3
          have HN1 : Hid (fitN ns[nn] 4 = false → PP = none) := fun h => HNO.out (HQ.out.num_bad hz0 hn (by rw [hz]; exact h))
          have HN2 : Hid (fitN ns[nn] 4 = true → ∃ q', partP y.toNat q = some q' ∧ q'.out = q.out ++ beN 4 ns[nn].toNat ∧ Enq f ns ts ps (k + 1) (nn + 1) nt tb q') := fun h => by
            have := HQ.out.num hz0 hn (by rw [hz]; exact h)
            rwa [hz] at this
          have HX : Hid (ns[nn] < 9223372036854775808) := HMr.out.ln _ (List.getElem_mem _)
          clear HNO HQ HMr
          generalize ns[nn] = n at *
          have HNL : Hid (nn < ns.length) := hn
          clear hn
          by_cases hneg : n < 0
          · have hnone := HN1.out (by unfold fitN; simp; omega)
            have g1 : decide (n < 0) = true := by simpa using hneg
            go_wp2_with (go_at_call 20; refine (SZ _).mono ?_; rintro e w7 ⟨rfl, rfl⟩)
            refine bodyPost_ret (v := .tuple #[.slice none 0 0, .int .i64 1]) (by simp [results, Tryz.results9, go_sem]) rfl ?_
            exact ⟨EcP.no hnone, hB⟩
          · have g1 : decide (n < 0) = false := by simpa using hneg
            by_cases hbig : 4294967296 ≤ n
            · have hnone := HN1.out (by unfold fitN; simp; omega)
              have g2 : decide ((4294967296 : Int) ≤ n) = true := by simpa using hbig
              go_wp2_with (go_at_call 20; refine (SZ _).mono ?_; rintro e w7 ⟨rfl, rfl⟩)
              refine bodyPost_ret (v := .tuple #[.slice none 0 0, .int .i64 1]) (by simp [results, Tryz.results9, go_sem]) rfl ?_
              exact ⟨EcP.no hnone, hB⟩
            · obtain ⟨n, rfl⟩ : ∃ n' : Nat, n = (n' : Int) := ⟨n.toNat, by omega⟩
              have g2 : decide ((4294967296 : Int) ≤ (n : Int)) = false := by simpa using hbig
              obtain ⟨q', hq1, hq2, hq3⟩ := HN2.out (by unfold fitN; simp only [Bool.and_eq_true, decide_eq_true_eq]; omega)
              have HB7 : Hid (partsP f q0 = partsP (f.drop (k + 1)) q') := HYE.out q' hq1
              have HQ7 : Hid (Enq f ns ts ps (k + 1) (nn + 1) nt tb q') := hq3
              have HO7 : Hid (q'.out = q.out ++ beN 4 n) := hq2
              have hu : IntKind.u64.wrap (n : Int) = (n : Int) := by have := HX.out; rw [IntKind.wrap_u64]; omega
              have P := bigN_any wr (a + 1) u6 q.out 4 n (by decide) ho swr (by have := HLE.out; omega)
              have hnn : nn + 1 ≤ 4000000000000000000 := by have := HSZ.out; have := HNL.out; omega
              clear hq1 hq2 hq3 HN1 HN2 HX hbig hneg
              go_wp2_with (first | (go_at_call 20; refine (SZ _).mono ?_; rintro e w7 ⟨rfl, rfl⟩) | (go_at_call 19; refine P.mono ?_; rintro e w7 ⟨v7, rfl, ho7, hb7⟩))
              rw [← HO7.out] at ho7
              have k7 := kM.below hb7.b (Nat.lt_succ_self a)
              have B7 := hB.trans (hb7.b.mono (Nat.le_succ a))
              clear P ho kM hB hb7 HO7
              go_wp2_with fail
              go_roundw
              case rel => exact ⟨k + 1, nn + 1, nt, tb, q', by omega, by go_num, by go_num, rfl, rfl, HQ7, HB7, ho7, k7, B7⟩
              case measure => simp [RowKit.intOf]; omega
        · have hnz : (ns.length : Int) ≤ (nn : Int) := by omega
          have hnone := HNO.out (HQ.out.num_no hz0 (by omega))
          clear HNO HQ HYE
          go_wp2_with (go_at_call 20; refine (SZ _).mono ?_; rintro e w7 ⟨rfl, rfl⟩)
          refine bodyPost_ret (v := .tuple #[.slice none 0 0, .int .i64 1]) (by simp [results, Tryz.results9, go_sem]) rfl ?_
          exact ⟨EcP.no hnone, hB⟩
      · have hz0 : sz y.toNat ≠ 0 := by omega
        rw [hz] at SZ
        clear HF84 HO84
        by_cases hn : nn < ns.length
        · have hnz : ¬ ((ns.length : Int) ≤ (nn : Int)) := by omega
          obtain ⟨g, o, c, hv, hg, hcell⟩ := HMr.out.n.at nn hn
          injection hv with hv1 hv2 hv3
          subst hv1 hv3
          have HN1 : Hid (fitN ns[nn] 8 = false → PP = none) := fun h => HNO.out (HQ.out.num_bad hz0 hn (by rw [hz]; exact h))
          have HN2 : Hid (fitN ns[nn] 8 = true → ∃ q', partP y.toNat q = some q' ∧ q'.out = q.out ++ beN 8 ns[nn].toNat ∧ Enq f ns ts ps (k + 1) (nn + 1) nt tb q') := fun h => by
            have := HQ.out.num hz0 hn (by rw [hz]; exact h)
            rwa [hz] at this
          have HX : Hid (ns[nn] < 9223372036854775808) := HMr.out.ln _ (List.getElem_mem _)
          clear HNO HQ HMr
          generalize ns[nn] = n at *
          have HNL : Hid (nn < ns.length) := hn
          clear hn
          by_cases hneg : n < 0
          · have hnone := HN1.out (by unfold fitN; simp; omega)
            have g1 : decide (n < 0) = true := by simpa using hneg
            go_wp2_with (go_at_call 20; refine (SZ _).mono ?_; rintro e w7 ⟨rfl, rfl⟩)
            refine bodyPost_ret (v := .tuple #[.slice none 0 0, .int .i64 1]) (by simp [results, Tryz.results9, go_sem]) rfl ?_
            exact ⟨EcP.no hnone, hB⟩
          · have g1 : decide (n < 0) = false := by simpa using hneg
            by_cases hbig : 18446744073709551616 ≤ n
            · exact absurd HX.out (by omega)
            · obtain ⟨n, rfl⟩ : ∃ n' : Nat, n = (n' : Int) := ⟨n.toNat, by omega⟩
              obtain ⟨q', hq1, hq2, hq3⟩ := HN2.out (by unfold fitN; simp only [Bool.and_eq_true, decide_eq_true_eq]; omega)
              have HB7 : Hid (partsP f q0 = partsP (f.drop (k + 1)) q') := HYE.out q' hq1
              have HQ7 : Hid (Enq f ns ts ps (k + 1) (nn + 1) nt tb q') := hq3
              have HO7 : Hid (q'.out = q.out ++ beN 8 n) := hq2
              have hu : IntKind.u64.wrap (n : Int) = (n : Int) := by have := HX.out; rw [IntKind.wrap_u64]; omega
              have P := bigN_any wr (a + 1) u6 q.out 8 n (by decide) ho swr (by have := HLE.out; omega)
              have hnn : nn + 1 ≤ 4000000000000000000 := by have := HSZ.out; have := HNL.out; omega
              clear hq1 hq2 hq3 HN1 HN2 HX hbig hneg
              go_wp2_with (first | (go_at_call 20; refine (SZ _).mono ?_; rintro e w7 ⟨rfl, rfl⟩) | (go_at_call 19; refine P.mono ?_; rintro e w7 ⟨v7, rfl, ho7, hb7⟩))
              rw [← HO7.out] at ho7
              have k7 := kM.below hb7.b (Nat.lt_succ_self a)
              have B7 := hB.trans (hb7.b.mono (Nat.le_succ a))
              clear P ho kM hB hb7 HO7
              go_wp2_with fail
              go_roundw
              case rel => exact ⟨k + 1, nn + 1, nt, tb, q', by omega, by go_num, by go_num, rfl, rfl, HQ7, HB7, ho7, k7, B7⟩
              case measure => simp [RowKit.intOf]; omega
        · have hnz : (ns.length : Int) ≤ (nn : Int) := by omega
          have hnone := HNO.out (HQ.out.num_no hz0 (by omega))
          clear HNO HQ HYE
          go_wp2_with (go_at_call 20; refine (SZ _).mono ?_; rintro e w7 ⟨rfl, rfl⟩)
          refine bodyPost_ret (v := .tuple #[.slice none 0 0, .int .i64 1]) (by simp [results, Tryz.results9, go_sem]) rfl ?_
          exact ⟨EcP.no hnone, hB⟩
      · subst hz
        have SZ : ∀ w, Calls Tryz.prog 20 #[.int .u8 115] w fun e w' => e = .returned (.int .i64 0) ∧ w' = w := SZ
        have HNO : Hid (partP 115 q = none → PP = none) := HNO.out
        have HYE : Hid (∀ q', partP 115 q = some q' → partsP f q0 = partsP (f.drop (k + 1)) q') := HYE.out
        clear HF84 HO84
        by_cases hn : nt < ts.length
        · have hnz : ¬ ((ts.length : Int) ≤ (nt : Int)) := by omega
          obtain ⟨g, o, c, hv, hg, hcell⟩ := HMr.out.t.at nt hn
          injection hv with hv1 hv2 hv3
          subst hv1 hv3
          have HN1 : Hid ((1024 < ts[nt].length ∨ 115 = 115 ∧ 255 < ts[nt].length) → PP = none) := fun h => HNO.out (HQ.out.txt_bad (.inl rfl) hn h)
          have HN2 : Hid (ts[nt].length ≤ 255 → ∃ q', partP 115 q = some q' ∧ q'.out = q.out ++ shortL ts[nt] ∧ Enq f ns ts ps (k + 1) nn (nt + 1) tb q') := fun h => HQ.out.txt_s hn h
          clear HNO HQ HMr
          generalize ts[nt] = s at *
          have HNL : Hid (nt < ts.length) := hn
          clear hn
          by_cases h1 : 1024 < s.length
          · have g1 : (1024 : Int) < (s.length : Int) := by omega
            have hnone := HN1.out (.inl h1)
            clear HN1 HN2 HYE ho h1
            go_wp2_with (go_at_call 20; refine (SZ _).mono ?_; rintro e w7 ⟨rfl, rfl⟩)
            refine bodyPost_ret (v := .tuple #[.slice none 0 0, .int .i64 1]) (by simp [results, Tryz.results9, go_sem]) rfl ?_
            exact ⟨EcP.no hnone, hB⟩
          have g1 : ¬ (1024 : Int) < (s.length : Int) := by omega
          by_cases h2 : 255 < s.length
          · have g2 : (255 : Int) < (s.length : Int) := by omega
            have hnone := HN1.out (.inr ⟨rfl, h2⟩)
            clear HN1 HN2 HYE ho h1 h2
            go_wp2_with (go_at_call 20; refine (SZ _).mono ?_; rintro e w7 ⟨rfl, rfl⟩)
            refine bodyPost_ret (v := .tuple #[.slice none 0 0, .int .i64 1]) (by simp [results, Tryz.results9, go_sem]) rfl ?_
            exact ⟨EcP.no hnone, hB⟩
          have g2 : ¬ (255 : Int) < (s.length : Int) := by omega
          have u8n : IntKind.u8.wrap (s.length : Int) = ((UInt8.ofNat s.length).toNat : Int) := by
            rw [IntKind.wrap_u8]
            simp only [UInt8.toNat_ofNat']
            omega
          have HCV : Hid ((s.length : Int) = ((UInt8.ofNat s.length).toNat : Int)) := by
            show _ = _
            simp only [UInt8.toNat_ofNat']
            omega
          have HCN : Hid (beN 1 s.length = [UInt8.ofNat s.length]) := beN_one _
          generalize UInt8.ofNat s.length = cN at *
          obtain ⟨q', hq1, hq2, hq3⟩ := HN2.out (by omega)
          have HB7 : Hid (partsP f q0 = partsP (f.drop (k + 1)) q') := HYE.out q' hq1
          have HQ7 : Hid (Enq f ns ts ps (k + 1) nn (nt + 1) tb q') := hq3
          have HO7 : Hid (q'.out = q.out ++ shortL s) := hq2
          have hnn : nt + 1 ≤ 4000000000000000000 := by have := HSZ.out; have := HNL.out; omega
          have HLS : Hid (s.length ≤ 255) := by show _ ≤ _; omega
          clear hq1 hq2 hq3 HN1 HN2 HYE h1
          go_wp2_with (first | (go_at_call 20; refine (SZ _).mono ?_; rintro e w7 ⟨rfl, rfl⟩) | (at_builtin; refine wpl_app1 rfl (.tmp 117) (.tmp 121) rfl (a + 1) u6 q.out _ cN _ (by first | rfl | exact HCV.out) rfl ho rfl (by have := HLE.out; omega) swr ?_))
          intro v7 w7 ho7 hb7
          have hs8 := hb7.size
          have hs8 : a + 1 ≤ w7.heap.size := Nat.le_trans swr hs8
          go_wp2_with (at_builtin; refine wpl_appS rfl (.tmp 128) (.tmp 129) rfl (a + 1) _ _ w7 ⟨s.toArray⟩ rfl ho7 rfl (by rw [List.length_append, List.length_singleton, List.size_toByteArray_arr]; have := HLE.out; have := HLS.out; omega) hs8 ?_)
          intro v8 w8 ho8 hb8
          have hb78 := hb7.trans hb8
          have k8 := kM.below hb78.b (Nat.lt_succ_self a)
          have B8 := hB.trans (hb78.b.mono (Nat.le_succ a))
          have ho8 : Own w8 (a + 1) v8 q'.out := by
            rw [HO7.out]
            unfold shortL
            rw [HCN.out]
            first
              | exact ho8
              | (rw [← List.append_assoc]; exact ho8)
          clear ho ho7 kM hB hb7 hb8 hb78 HO7
          go_wp2_with fail
          go_roundw
          case rel => exact ⟨k + 1, nn, nt + 1, tb, q', by omega, by go_num, rfl, by go_num, rfl, HQ7, HB7, ho8, k8, B8⟩
          case measure => simp [RowKit.intOf]; omega
        · have hnz : (ts.length : Int) ≤ (nt : Int) := by omega
          have hnone := HNO.out (HQ.out.txt_no (.inl rfl) (by omega))
          clear HNO HQ HYE
          go_wp2_with (go_at_call 20; refine (SZ _).mono ?_; rintro e w7 ⟨rfl, rfl⟩)
          refine bodyPost_ret (v := .tuple #[.slice none 0 0, .int .i64 1]) (by simp [results, Tryz.results9, go_sem]) rfl ?_
          exact ⟨EcP.no hnone, hB⟩
      · subst hz
        have SZ : ∀ w, Calls Tryz.prog 20 #[.int .u8 83] w fun e w' => e = .returned (.int .i64 0) ∧ w' = w := SZ
        have HNO : Hid (partP 83 q = none → PP = none) := HNO.out
        have HYE : Hid (∀ q', partP 83 q = some q' → partsP f q0 = partsP (f.drop (k + 1)) q') := HYE.out
        clear HF84 HO84
        by_cases hn : nt < ts.length
        · have hnz : ¬ ((ts.length : Int) ≤ (nt : Int)) := by omega
          obtain ⟨g, o, c, hv, hg, hcell⟩ := HMr.out.t.at nt hn
          injection hv with hv1 hv2 hv3
          subst hv1 hv3
          have HN1 : Hid ((1024 < ts[nt].length ∨ 83 = 115 ∧ 255 < ts[nt].length) → PP = none) := fun h => HNO.out (HQ.out.txt_bad (.inr rfl) hn h)
          have HN2 : Hid (ts[nt].length ≤ 1024 → ∃ q', partP 83 q = some q' ∧ q'.out = q.out ++ longL ts[nt] ∧ Enq f ns ts ps (k + 1) nn (nt + 1) tb q') := fun h => HQ.out.txt_l hn h
          clear HNO HQ HMr
          generalize ts[nt] = s at *
          have HNL : Hid (nt < ts.length) := hn
          clear hn
          by_cases h1 : 1024 < s.length
          · have g1 : (1024 : Int) < (s.length : Int) := by omega
            have hnone := HN1.out (.inl h1)
            clear HN1 HN2 HYE ho h1
            go_wp2_with (go_at_call 20; refine (SZ _).mono ?_; rintro e w7 ⟨rfl, rfl⟩)
            refine bodyPost_ret (v := .tuple #[.slice none 0 0, .int .i64 1]) (by simp [results, Tryz.results9, go_sem]) rfl ?_
            exact ⟨EcP.no hnone, hB⟩
          have g1 : ¬ (1024 : Int) < (s.length : Int) := by omega
          have uwt : IntKind.u64.wrap (s.length : Int) = (s.length : Int) := by rw [IntKind.wrap_u64]; omega
          obtain ⟨q', hq1, hq2, hq3⟩ := HN2.out (by omega)
          have HB7 : Hid (partsP f q0 = partsP (f.drop (k + 1)) q') := HYE.out q' hq1
          have HQ7 : Hid (Enq f ns ts ps (k + 1) nn (nt + 1) tb q') := hq3
          have HO7 : Hid (q'.out = q.out ++ longL s) := hq2
          have hnn : nt + 1 ≤ 4000000000000000000 := by have := HSZ.out; have := HNL.out; omega
          have HLS : Hid (s.length ≤ 1024) := by show _ ≤ _; omega
          clear hq1 hq2 hq3 HN1 HN2 HYE h1
          have P := bigN_any wr (a + 1) u6 q.out 4 s.length (by decide) ho swr (by have := HLE.out; omega)
          go_upto_region 34 with (first | (go_at_call 20; refine (SZ _).mono ?_; rintro e w7 ⟨rfl, rfl⟩) | (go_at_call 19; refine P.mono ?_; rintro e w7 ⟨v7, rfl, ho7, hb7⟩))
          clear P
          have hs8 := hb7.size
          have hs8 : a + 1 ≤ w7.heap.size := Nat.le_trans swr hs8
          go_wp2_with (at_builtin; refine wpl_appS rfl (.tmp 128) (.tmp 129) rfl (a + 1) _ _ w7 ⟨s.toArray⟩ rfl ho7 rfl (by rw [List.length_append, beN_len, List.size_toByteArray_arr]; have := HLE.out; have := HLS.out; omega) hs8 ?_)
          intro v8 w8 ho8 hb8
          have hb78 := hb7.trans hb8
          have k8 := kM.below hb78.b (Nat.lt_succ_self a)
          have B8 := hB.trans (hb78.b.mono (Nat.le_succ a))
          have ho8 : Own w8 (a + 1) v8 q'.out := by
            rw [HO7.out]
            unfold longL
            first
              | exact ho8
              | (rw [← List.append_assoc]; exact ho8)
          clear ho ho7 kM hB hb7 hb8 hb78 HO7
          go_wp2_with fail
          go_roundw
          case rel => exact ⟨k + 1, nn, nt + 1, tb, q', by omega, by go_num, rfl, by go_num, rfl, HQ7, HB7, ho8, k8, B8⟩
          case measure => simp [RowKit.intOf]; omega
        · have hnz : (ts.length : Int) ≤ (nt : Int) := by omega
          have hnone := HNO.out (HQ.out.txt_no (.inr rfl) (by omega))
          clear HNO HQ HYE
          go_wp2_with (go_at_call 20; refine (SZ _).mono ?_; rintro e w7 ⟨rfl, rfl⟩)
          refine bodyPost_ret (v := .tuple #[.slice none 0 0, .int .i64 1]) (by simp [results, Tryz.results9, go_sem]) rfl ?_
          exact ⟨EcP.no hnone, hB⟩
      · subst hz
        have SZ : ∀ w, Calls Tryz.prog 20 #[.int .u8 84] w fun e w' => e = .returned (.int .i64 0) ∧ w' = w := SZ
        obtain rfl : tb = false := HF84.out rfl
        have HNO : Hid (partP 84 q = none → PP = none) := HNO.out
        have HYE : Hid (∀ q', partP 84 q = some q' → partsP f q0 = partsP (f.drop (k + 1)) q') := HYE.out
        have P := rput_any wr u6 (Value.slice pa ps.length pc) q.out ps (.inl ho.rd) (by have := HLE.out; omega) HMr.out.p.rd HFI.out (by have := HSZ.out; omega)
        cases hv : validL ps with
        | false =>
          have hnone := HNO.out (HQ.out.tab_no hv)
          have P : Calls Tryz.prog 21 #[u6, Value.slice pa ps.length pc] wr fun e w' => ∃ v', e = .returned (.tuple #[v', .int .i64 36]) ∧ Below wr.heap.size wr w' := P.mono (by
            rintro e w' ⟨v', h1, h2, h3⟩
            refine ⟨v', ?_, h3⟩
            rw [h1]
            unfold putE
            rw [hv]
            rfl)
          clear HNO HYE HQ HMr hv
          go_wp2_with (first | (go_at_call 20; refine (SZ _).mono ?_; rintro e w7 ⟨rfl, rfl⟩) | (go_at_call 21; refine P.mono ?_; rintro e w7 ⟨v7, rfl, hb7⟩))
          refine bodyPost_ret (v := .tuple #[.slice none 0 0, .int .i64 1]) (by simp [results, Tryz.results9, go_sem]) rfl ?_
          exact ⟨EcP.no hnone, hB.trans (hb7.mono (by omega))⟩
        | true =>
          have P : Calls Tryz.prog 21 #[u6, Value.slice pa ps.length pc] wr fun e w' => ∃ v', e = .returned (.tuple #[v', .int .i64 0]) ∧ Own w' wr.heap.size v' (q.out ++ tabL ps) ∧ Below wr.heap.size wr w' := P.mono (by
            rintro e w' ⟨v', h1, h2, h3⟩
            unfold putL putE at *
            rw [hv] at *
            exact ⟨v', h1, h2, h3⟩)
          obtain ⟨q', hq1, hq2, hq3⟩ := HQ.out.tab hv HMr.out.lp (HO84.out rfl)
          have HB7 : Hid (partsP f q0 = partsP (f.drop (k + 1)) q') := HYE.out q' hq1
          have HQ7 : Hid (Enq f ns ts ps (k + 1) nn nt true q') := hq3
          have HO7 : Hid (q'.out = q.out ++ tabL ps) := hq2
          clear hq1 hq2 hq3 HNO HYE HQ HMr hv
          go_wp2_with (first | (go_at_call 20; refine (SZ _).mono ?_; rintro e w7 ⟨rfl, rfl⟩) | (go_at_call 21; refine P.mono ?_; rintro e w7 ⟨v7, rfl, ho7, hb7⟩))
          rw [← HO7.out] at ho7
          have k7 := kM.on hb7
          have B7 := hB.trans (hb7.mono (by omega))
          have ho7 : Own w7 (a + 1) v7 q'.out := Own.lower ho7 swr
          go_roundw
          case rel => exact ⟨k + 1, nn, nt, true, q', by omega, by go_num, rfl, rfl, rfl, HQ7, HB7, ho7, k7, B7⟩
          case measure => simp [RowKit.intOf]; omega
    · obtain rfl : k = f.length := by omega
      have HB2 : Hid (PP = if q.ns = [] ∧ q.ts = [] ∧ q.ps = [] then some q.out else none) := by
        show _ = _
        rw [HP.out, HB.out, List.drop_length]
        rfl
      have hkz : ¬ (f.length : Int) < (f.length : Int) := by omega
      have HD := HQ.out.done
      have HD : Hid ((q.ns = [] ∧ q.ts = [] ∧ q.ps = []) ↔ (ns.length ≤ nn ∧ ts.length ≤ nt ∧ (tb = true ∨ ps.length = 0))) := HD
      have hnl := HQ.out.ln
      have htl := HQ.out.lt
      have ho9 : Own wr a u6 q.out := Own.lower ho (Nat.le_succ a)
      clear HQ HB HP HL8 HON ho
      by_cases h1 : nn < ns.length
      · have g1 : (nn : Int) < (ns.length : Int) := by omega
        have hpp : PP = none := by rw [HB2.out]; exact if_neg (fun h => by have := (HD.out.1 h).1; omega)
        clear HB2 HD ho9
        go_wp2_with fail
        refine bodyPost_ret (v := .tuple #[.slice none 0 0, .int .i64 1]) (by simp [results, Tryz.results9, go_sem]) rfl ?_
        exact ⟨EcP.no (by first | exact hpp | rfl), hB⟩
      have g1 : ¬ (nn : Int) < (ns.length : Int) := by omega
      by_cases h2 : nt < ts.length
      · have g2 : (nt : Int) < (ts.length : Int) := by omega
        have hpp : PP = none := by rw [HB2.out]; exact if_neg (fun h => by have := (HD.out.1 h).2.1; omega)
        clear HB2 HD ho9
        go_wp2_with fail
        refine bodyPost_ret (v := .tuple #[.slice none 0 0, .int .i64 1]) (by simp [results, Tryz.results9, go_sem]) rfl ?_
        exact ⟨EcP.no (by first | exact hpp | rfl), hB⟩
      have g2 : ¬ (nt : Int) < (ts.length : Int) := by omega
      cases tb with
      | true =>
        have hpp : PP = some q.out := by rw [HB2.out]; exact if_pos (HD.out.2 ⟨by omega, by omega, .inl rfl⟩)
        clear HB2 HD
        go_wp2_with fail
        refine bodyPost_ret (v := .tuple #[u6, .int .i64 0]) (by simp [results, Tryz.results9, go_sem]) rfl ?_
        exact ⟨EcP.yes (by first | exact hpp | rfl) ho9, hB⟩
      | false =>
        by_cases h3 : ps.length = 0
        · have g3 : ¬ (0 : Int) < (ps.length : Int) := by omega
          have hpp : PP = some q.out := by rw [HB2.out]; exact if_pos (HD.out.2 ⟨by omega, by omega, .inr h3⟩)
          clear HB2 HD
          go_wp2_with fail
          refine bodyPost_ret (v := .tuple #[u6, .int .i64 0]) (by simp [results, Tryz.results9, go_sem]) rfl ?_
          exact ⟨EcP.yes (by first | exact hpp | rfl) ho9, hB⟩
        · have g3 : (0 : Int) < (ps.length : Int) := by omega
          have hpp : PP = none := by rw [HB2.out]; exact if_neg (fun h => by rcases (HD.out.1 h).2.2 with h | h; cases h; exact h3 h)
          clear HB2 HD ho9
          go_wp2_with fail
          refine bodyPost_ret (v := .tuple #[.slice none 0 0, .int .i64 1]) (by simp [results, Tryz.results9, go_sem]) rfl ?_
          exact ⟨EcP.no (by first | exact hpp | rfl), hB⟩
end Go.Proofs.YtmaaacaifpgpaaaGreatDoor
