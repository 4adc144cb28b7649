/- The law TrieFinds walked: it answers true of any two lists of texts. Conditions: Vars, what the library's tables hold when the call begins, and texts of a length that Go knows. -/
import Derived.Test.YtcicnbbnkeellaaGreatDoorLx
namespace Go.Proofs.YtcicnbbnkeellaaGreatDoor
open Go.RowKit Go.Lib
set_option maxRecDepth 100000

theorem rem5_eq (k : Nat) : (k : Int).tmod 5 = rem5 k := by
  unfold rem5
  rw [Int.tmod_eq_emod_of_nonneg (by omega)]
  omega

set_option maxHeartbeats 4000000 in
theorem finds_law (w : World) (hv : To.Vars w) (vp vn : Value) (ps ns : List (List UInt8)) (hp : To.RdV w vp (ps.map str)) (hn : To.RdV w vn (ns.map str)) (hpl : ∀ x ∈ ps, x.length ≤ maxLen) :
    Calls Tryz.prog 4 #[vp, vn] w fun e w' => e = .returned (.bool true) ∧ Below w.heap.size w w' := by
  have hwk := wakes_any w hv
  obtain ⟨ap, cp, rfl⟩ := hp.len
  obtain ⟨an, cn, rfl⟩ := hn.len
  rw [List.length_map] at hp hn ⊢
  rw [List.length_map]
  obtain ⟨n, hnn⟩ : ∃ n, ps.length = n := ⟨_, rfl⟩
  obtain ⟨m, hmm⟩ : ∃ m, ns.length = m := ⟨_, rfl⟩
  rw [hnn] at hp ⊢
  rw [hmm] at hn ⊢
  have HN : Hid (ps.length = n) := hnn
  have HM : Hid (ns.length = m) := hmm
  have HP : Hid (To.RdV w (.slice ap n cp) (ps.map str)) := hp
  have HNS : Hid (To.RdV w (.slice an m cn) (ns.map str)) := hn
  have HL : Hid (∀ k, (ps.getD k []).length ≤ 9223372036854775807) := fun k => getD_len hpl k
  have HV : Hid (To.Vars w) := hv
  clear hp hn hpl hnn hmm hv
  by_cases hA : 40 < n
  · have hAz : (40 : Int) < (n : Int) := by omega
    go_enter Tryz.func4, Tryz.ntmps4
    go_wp2_with (go_at_call 8; refine hwk.mono ?_; rintro e w1 ⟨rfl, hb1⟩)
    go_ret
    exact ⟨rfl, hb1⟩
  have hAz : ¬ (40 : Int) < (n : Int) := by omega
  by_cases hB : 40 < m
  · have hBz : (40 : Int) < (m : Int) := by omega
    go_enter Tryz.func4, Tryz.ntmps4
    go_wp2_with (go_at_call 8; refine hwk.mono ?_; rintro e w1 ⟨rfl, hb1⟩)
    go_ret
    exact ⟨rfl, hb1⟩
  have hBz : ¬ (40 : Int) < (m : Int) := by omega
  go_enter Tryz.func4, Tryz.ntmps4
  go_wp2_with fail
  refine hwk.mono ?_
  rintro e w1 ⟨rfl, hb1⟩
  have hnew := new_st (K := fun _ => False) hb1 (fun b h => h.elim)
  clear hwk
  go_wp2_with fail
  refine hnew.mono ?_
  rintro e w2 ⟨rfl, h2, _⟩
  obtain ⟨t, ht⟩ : ∃ t, w1.heap.size + 2 = t := ⟨_, rfl⟩
  rw [ht] at h2 ⊢
  have hnew2 := h2.new2
  clear hnew hb1 ht
  go_wp2_with fail
  refine hnew2.mono ?_
  rintro e w3 ⟨rfl, h3⟩
  obtain ⟨u, hu⟩ : ∃ u, w2.heap.size + 2 = u := ⟨_, rfl⟩
  rw [hu] at h3 ⊢
  have H3 : Hid (St2 w w3 t 0 [] u 0 []) := h3
  clear h2 h3 hnew2 hu
  go_wp2_with fail
  go_loopg [7, 8, 26] n (fun gg _ _ s26 wr => ∃ kk : Nat, kk ≤ n ∧ n - kk ≤ gg ∧ s26 = .int .i64 kk ∧ Hid (St2 w wr t (8 * kk) (adds ps rem5 kk) u 0 []))
  case atStart => exact ⟨0, Nat.zero_le _, by omega, rfl, H3.out⟩
  case round =>
    obtain ⟨kk, hkk, hg, rfl, HS⟩ := hrel
    clear H3
    by_cases hlt : kk < n
    · have hltz : (kk : Int) < (n : Int) := by omega
      obtain ⟨b, o, rfl, hc⟩ := txt_at HP.out HS.out.below (k := kk) (by rw [HN.out]; exact hlt)
      have ha := HS.out.add HV.out (ps.getD kk []) (HL.out kk) (rem5 kk) (by omega)
      have hrem := rem5_eq kk
      have hr1 : 0 ≤ rem5 kk ∧ rem5 kk < 5 := by unfold rem5; omega
      simp only [str] at ha
      generalize hx : (⟨(ps.getD kk []).toArray⟩ : ByteArray) = x at hc ha
      clear hx
      go_wp2_with fail
      refine ha.mono ?_
      rintro e w3 ⟨rfl, h3⟩
      have H3 : Hid (St2 w w3 t (8 * (kk + 1)) (adds ps rem5 (kk + 1)) u 0 []) := h3
      clear h3 ha hc HS
      go_wp2
      go_roundg (n - (kk + 1))
      case measure => omega
      case rel => exact ⟨kk + 1, by omega, by omega, by go_num, H3.out⟩
    · have hltz : ¬ (kk : Int) < (n : Int) := by omega
      obtain rfl : kk = n := by omega
      clear hg hkk
      go_wp2_with fail
      go_loopg [9] kk (fun gg s9 wy => ∃ (k : Nat) (lb : List Pr), k ≤ kk ∧ k ≤ gg ∧ s9 = .int .i64 ((k : Int) - 1) ∧ Hid (St2 w wy t (8 * kk) (adds ps rem5 kk) u (16 * (kk - k)) lb) ∧ Hid (Back ps kk k lb))
      case atStart => exact ⟨kk, [], Nat.le_refl _, Nat.le_refl _, rfl, by rw [Nat.sub_self]; exact HS.out, fun x => ⟨fun h => (by cases h), fun ⟨i, h1, h2, _⟩ => (by omega)⟩⟩
      case round =>
        obtain ⟨k, lb, hkk, hgk, rfl, HS2, HK⟩ := hrel
        clear HS
        cases k with
        | zero =>
          have hkz : ((0 : Nat) : Int) - 1 = -1 := by omega
          rw [hkz]
          have hlb := HK.out.all HS2.out.swap.facts.2.1 (by omega) HS2.out.facts.2.1
          subst hlb
          clear HK hkk hgk
          go_wp2_with fail
          go_loopg [11, 66] m (fun gg _ s66 wy => ∃ jj : Nat, jj ≤ m ∧ m - jj ≤ gg ∧ s66 = .int .i64 jj ∧ Hid (St2 w wy t (8 * kk) (adds ps rem5 kk) u (16 * (kk - 0)) (adds ps rem5 kk)))
          case atStart => exact ⟨0, Nat.zero_le _, by omega, rfl, HS2.out⟩
          case round =>
            obtain ⟨jj, hjj, hg, rfl, HS3⟩ := hrel
            clear HS2
            by_cases hlj : jj < m
            · have hljz : (jj : Int) < (m : Int) := by omega
              obtain ⟨b2, o2, rfl, hc2⟩ := txt_at HNS.out HS3.out.below (k := jj) (by rw [HM.out]; exact hlj)
              obtain ⟨s, hs⟩ : ∃ s, ns.getD jj [] = s := ⟨_, rfl⟩
              rw [hs] at hc2
              have hf := HS3.out.one.find HV.out s
              simp only [str] at hf
              have hfl : (findP (adds ps rem5 kk) s).length ≤ 64 := by
                have h9 := To.fold_len (adds ps rem5 kk) s (adds ps rem5 kk).length
                rw [List.take_length] at h9
                have h8 := adds_len ps rem5 kk
                unfold findP
                omega
              clear hs
              go_wp2_with fail
              refine hf.mono ?_
              rintro e w6 ⟨v6, rfl, ho6, hb6⟩
              have h6 := HS3.out.on hb6
              have hf2 := h6.swap.one.find HV.out s
              simp only [str] at hf2
              have HO6 : Hid (To.RdV w6 v6 (ints (findP (adds ps rem5 kk) s))) := ho6.rd
              clear hf HS3 ho6 hb6 hc2
              go_wp2_with fail
              refine hf2.mono ?_
              rintro e w7 ⟨v7, rfl, ho7, hb7⟩
              have hsa := To.same_any w7 v6 v7 (findP (adds ps rem5 kk) s) (findP (adds ps rem5 kk) s) (HO6.out.on hb7) ho7.rd (by omega)
              rw [decide_eq_true rfl] at hsa
              have HS7 : Hid (St2 w w7 t (8 * kk) (adds ps rem5 kk) u (16 * (kk - 0)) (adds ps rem5 kk)) := h6.on hb7
              clear hf2 h6 ho7 hb7 HO6
              go_wp2_with fail
              refine hsa.mono ?_
              rintro e w8 ⟨rfl, d8, rfl⟩
              have HS8 : Hid (St2 w (w7.drewN d8) t (8 * kk) (adds ps rem5 kk) u (16 * (kk - 0)) (adds ps rem5 kk)) := HS7.out.on (To.below_drawn _ _)
              clear hsa HS7
              go_wp2
              go_roundg (m - (jj + 1))
              case measure => omega
              case rel => exact ⟨jj + 1, by omega, by omega, by go_num, HS8.out⟩
            · have hljz : ¬ (jj : Int) < (m : Int) := by omega
              have hl1 := HS3.out.one.len
              go_wp2_with fail
              refine hl1.mono ?_
              rintro e w6 ⟨rfl, hb6⟩
              have h6 := HS3.out.on hb6
              have hl2 := h6.swap.one.len
              have HB6 : Hid (Below w.heap.size w w6) := h6.below
              clear hl1 HS3 hb6 h6
              go_wp2_with fail
              refine hl2.mono ?_
              rintro e w7 ⟨rfl, hb7⟩
              clear hl2
              go_wp2
              go_ret
              exact ⟨rfl, nxt HB6.out hb7⟩
        | succ k =>
          have hkz : ((k + 1 : Nat) : Int) - 1 = (k : Int) := by omega
          rw [hkz]
          have hk0 : (k : Int) ≥ 0 := by omega
          have hkn : (k : Int) < (kk : Int) := by omega
          obtain ⟨b, o, rfl, hc⟩ := txt_at HP.out HS2.out.below (k := k) (by rw [HN.out]; omega)
          have hrem := rem5_eq k
          have hr1 : 0 ≤ rem5 k ∧ rem5 k < 5 := by unfold rem5; omega
          have hlbl := HK.out.few HS2.out.swap.facts.2.1
          have h2 := HS2.out.swap
          have ha1 := h2.add HV.out (ps.getD k []) (HL.out k) 99 (by omega)
          simp only [str] at ha1
          have hcx : ∀ W, Below w.heap.size w W → W.cell? ⟨b, o + k, none⟩ = some (.string ⟨(ps.getD k []).toArray⟩) := fun W hb => by
            obtain ⟨b', o', e1, e2⟩ := txt_at HP.out hb (k := k) (by rw [HN.out]; omega)
            injection e1 with e1
            injection e1 with e1 e3
            subst e1 e3
            exact e2
          have HCX : Hid _ := hcx
          clear hcx
          go_wp2_with fail
          refine ha1.mono ?_
          rintro e w4 ⟨rfl, h4⟩
          have hc4 := HCX.out w4 h4.below
          have ha2 := h4.add HV.out (ps.getD k []) (HL.out k) (rem5 k) (by omega)
          simp only [str] at ha2
          clear ha1 h2 hc
          go_wp2_with fail
          refine ha2.mono ?_
          rintro e w5 ⟨rfl, h5⟩
          have hc5 := HCX.out w5 h5.below
          have ha3 := h5.drop (ps.getD k []) (HL.out k) 99
          simp only [str] at ha3
          have HK2 : Hid (Back ps kk k _) := HK.out.step (by omega) (by omega) h5.facts.2.1
          clear ha2 h4 hc4
          go_wp2_with fail
          refine ha3.mono ?_
          rintro e w6 ⟨rfl, h6⟩
          have HS6 : Hid (St2 w w6 t (8 * kk) (adds ps rem5 kk) u (16 * (kk - k)) ((addR (addR lb (ps.getD k []) 99) (ps.getD k []) (rem5 k)).erase (ps.getD k [], 99))) := by
            have h9 := h6.swap
            rw [show 16 * (kk - (k + 1)) + 8 + 8 = 16 * (kk - k) by omega] at h9
            exact h9
          clear ha3 h5 hc5 h6 HS2 HK
          go_wp2
          all_goals
            go_roundg k
            case measure => omega
            case rel => exact ⟨k, _, by omega, by omega, by go_num, HS6.out, HK2.out⟩
end Go.Proofs.YtcicnbbnkeellaaGreatDoor
