/- The law TrieUndoes walked: it answers true of any list of texts, any text and any number. Conditions: Vars, what the library's tables hold when the call begins, and texts of a length that Go knows. -/
import Derived.Test.YtcicnbbnkeellaaGreatDoorLg
import Derived.BigQuiet
namespace Go.Proofs.YtcicnbbnkeellaaGreatDoor
open Go.RowKit Go.Lib
set_option maxRecDepth 100000

set_option maxHeartbeats 4000000 in
theorem undoes_law (w : World) (hv : To.Vars w) (vp : Value) (ps : List (List UInt8)) (p : List UInt8) (z : Int) (hp : To.RdV w vp (ps.map str)) (hpl : ∀ x ∈ ps, x.length ≤ maxLen) (hpp : p.length ≤ maxLen) :
    Calls Tryz.prog 7 #[vp, str p, .int .i64 z] w fun e w' => e = .returned (.bool true) ∧ Below w.heap.size w w' := by
  have hwk := wakes_any w hv
  obtain ⟨ap, cp, rfl⟩ := hp.len
  rw [List.length_map] at hp ⊢
  obtain ⟨n, hnn⟩ : ∃ n, ps.length = n := ⟨_, rfl⟩
  rw [hnn] at hp ⊢
  have HN : Hid (ps.length = n) := hnn
  have HP : Hid (To.RdV w (.slice ap n cp) (ps.map str)) := hp
  have HL : Hid (∀ k, (ps.getD k []).length ≤ 9223372036854775807) := fun k => getD_len hpl k
  have HPP : Hid (p.length ≤ 9223372036854775807) := hpp
  have HV : Hid (To.Vars w) := hv
  clear hp hpl hnn hv hpp
  simp only [str]
  by_cases hA : 60 < n
  · have hAz : (60 : Int) < (n : Int) := by omega
    go_enter Tryz.func7, Tryz.ntmps7
    go_wp2_with (go_at_call 8; refine hwk.mono ?_; rintro e w1 ⟨rfl, hb1⟩)
    go_ret
    exact ⟨rfl, hb1⟩
  have hAz : ¬ (60 : Int) < (n : Int) := by omega
  go_enter Tryz.func7, Tryz.ntmps7
  go_wp2_with fail
  refine hwk.mono ?_
  rintro e w1 ⟨rfl, hb1⟩
  have hnew := new_st (K := fun _ => False) hb1 (fun b h => h.elim)
  clear hwk
  go_wp2_with fail
  refine hnew.mono ?_
  rintro e w2 ⟨rfl, h2, _⟩
  obtain ⟨t, ht⟩ : ∃ t, w1.heap.size + 2 = t := ⟨_, rfl⟩
  rw [ht] at h2 ⊢
  have H2 : Hid (St w (fun _ => False) w2 t 0 []) := h2
  clear h2 hnew hb1 ht
  go_wp2_with fail
  go_loopg [8, 9, 25] n (fun gg _ _ s26 wr => ∃ kk : Nat, kk ≤ n ∧ n - kk ≤ gg ∧ s26 = .int .i64 kk ∧ Hid (St w (fun _ => False) wr t (8 * kk) (adds ps idx kk)))
  case atStart => exact ⟨0, Nat.zero_le _, by omega, rfl, H2.out⟩
  case round =>
    obtain ⟨kk, hkk, hg, rfl, HS⟩ := hrel
    clear H2
    by_cases hlt : kk < n
    · have hltz : (kk : Int) < (n : Int) := by omega
      obtain ⟨b, o, rfl, hc⟩ := txt_at HP.out HS.out.below (k := kk) (by rw [HN.out]; exact hlt)
      have ha := HS.out.add HV.out (ps.getD kk []) (HL.out kk) (idx kk) (by omega)
      simp only [str, idx] at ha
      generalize hx : (⟨(ps.getD kk []).toArray⟩ : ByteArray) = x at hc ha
      clear hx
      go_wp2_with fail
      refine ha.mono ?_
      rintro e w3 ⟨rfl, h3, _⟩
      have H3 : Hid (St w (fun _ => False) w3 t (8 * (kk + 1)) (adds ps idx (kk + 1))) := h3
      clear h3 ha hc HS
      go_wp2
      go_roundg (n - (kk + 1))
      case measure => omega
      case rel => exact ⟨kk + 1, by omega, by omega, by go_num, H3.out⟩
    · have hltz : ¬ (kk : Int) < (n : Int) := by omega
      obtain rfl : kk = n := by omega
      clear hg hkk
      obtain ⟨L, hL⟩ : ∃ L, adds ps idx kk = L := ⟨_, rfl⟩
      have hLl : L.length ≤ 60 := by rw [← hL]; exact Nat.le_trans (adds_len ps idx kk) (by omega)
      rw [hL] at HS
      clear hL
      have hall := HS.out.all
      go_wp2_with fail
      refine hall.mono ?_
      rintro e w3 ⟨v0, rfl, ho3, hb3⟩
      have h3 : St w (fun b => v0.ownBlock = some b) w3 t (8 * kk) L := HS.out.watch hb3 (fun b hb => ho3.blk hb)
      have ha := h3.add HV.out p HPP.out z (by omega)
      have hwhy := addC_why (p := p) (z := z) (show L.length < 64 by omega) h3.few.1
      obtain ⟨a0, c0, rfl⟩ := ho3.len
      obtain ⟨m, hm⟩ : ∃ m, L.length = m := ⟨_, rfl⟩
      rw [hm] at ho3 h3 ha hLl ⊢
      have HML : Hid (L.length = m) := hm
      have HO3 : Hid (OwnPr w3 w.heap.size (.slice a0 m c0) L) := ho3.low HS.out.below.size
      simp only [str] at ha
      have HF : Hid _ := h3.few
      have HWHY : Hid _ := hwhy
      clear hall hb3 h3 HS hm ho3 hwhy
      obtain ⟨ec, hec⟩ : ∃ ec, addC L p z = ec := ⟨_, rfl⟩
      by_cases h0 : ec = 0
      · subst h0
        have hR : addR L p z = addP L (p, z) := by unfold addR; rw [if_pos hec]
        obtain ⟨hpat, hnot⟩ := HWHY.out.2 hec
        obtain ⟨u1, u2, u3, u4, u5⟩ := undo_facts HF.out.2.1 hpat hnot
        have u6 : (addP L (p, z)).length = m + 1 := by rw [addP_len, HML.out]
        rw [hec, hR] at ha
        go_wp2_with fail
        refine ha.mono ?_
        rintro e w4 ⟨rfl, h4, k4⟩
        have HO4 := HO3.out.kept k4
        have hb := h4.add HV.out p HPP.out z (by omega)
        rw [u1, u2] at hb
        simp only [str] at hb
        clear ha
        go_wp2_with fail
        refine hb.mono ?_
        rintro e w5 ⟨rfl, h5, k5⟩
        have HO5 := HO4.kept k5
        have hc := h5.len
        rw [u6] at hc
        clear hb h4 HO4
        go_wp2_with fail
        refine hc.mono ?_
        rintro e w6 ⟨rfl, hb6⟩
        have HO6 := HO5.up hb6
        have h6 := h5.on hb6
        have hd := h6.drop p HPP.out z
        rw [if_pos u3, u4] at hd
        simp only [str] at hd
        clear hc h5 HO5 hb6
        go_wp2_with fail
        refine hd.mono ?_
        rintro e w7 ⟨rfl, h7, k7⟩
        have HO7 := HO6.kept k7
        have hd := h7.drop p HPP.out z
        rw [if_neg hnot, u5] at hd
        simp only [str] at hd
        clear h6 HO6
        go_wp2_with fail
        refine hd.mono ?_
        rintro e w8 ⟨rfl, h8, k8⟩
        have HO8 : Hid (OwnPr w8 w.heap.size (.slice a0 m c0) L) := HO7.kept k8
        have ha2 := h8.all
        have H8 : Hid (St w (fun b => (Value.slice a0 m c0).ownBlock = some b) w8 t (8 * kk + 8 + 8) L) := h8
        clear hd h7 HO7 h8
        go_wp2_with fail
        refine ha2.mono ?_
        rintro e w9 ⟨v9, rfl, ho9, hb9⟩
        obtain ⟨a9, c9, rfl⟩ := ho9.len
        have HO9 : Hid (OwnPr w9 w8.heap.size (.slice a9 m c9) L) := by
          show OwnPr _ _ _ _
          rw [HML.out] at ho9
          exact ho9
        rw [HML.out]
        have HP8 : Hid (OwnPr w9 w.heap.size (.slice a0 m c0) L) := HO8.out.up hb9
        have H9 : Hid (St w (fun b => (Value.slice a0 m c0).ownBlock = some b) w9 t (8 * kk + 8 + 8) L) := H8.out.on hb9
        clear ha2 ho9 hb9 HO8 H8 u1 u2 u3 u4 u5 u6 hR hnot hpat hec
        go_wp2_with fail
        go_loopg [16, 106] m (fun gg _ s wx => ∃ j d : Nat, j ≤ m ∧ m - j ≤ gg ∧ s = .int .i64 j ∧ wx = w9.drewN d)
        case atStart => exact ⟨0, 0, Nat.zero_le _, by omega, rfl, rfl⟩
        case round =>
          obtain ⟨j, d, hj, hgj, rfl, rfl⟩ := hrel
          by_cases hlj : j < m
          · have hljz : (j : Int) < (m : Int) := by omega
            have hjL : j < L.length := by rw [HML.out]; exact hlj
            obtain ⟨b1, o1, rfl, x1, y1⟩ := pr_at HP8.out.rd hjL
            obtain ⟨b2, o2, rfl, x2, y2⟩ := pr_at HO9.out.rd hjL
            obtain ⟨xs, hxs⟩ : ∃ xs, (⟨L[j].1.toArray⟩ : ByteArray) = xs := ⟨_, rfl⟩
            obtain ⟨xz, hxz⟩ : ∃ xz, L[j].2 = xz := ⟨_, rfl⟩
            rw [hxs] at x1 x2
            rw [hxz] at y1 y2
            clear hxs hxz
            have f1 : ∀ d, (w9.drewN d).cell? ⟨b1, o1 + j * 2, none⟩ = some (.string xs) := fun d => x1
            have f2 : ∀ d, (w9.drewN d).cell? ⟨b1, o1 + j * 2 + 1, none⟩ = some (.int .i64 xz) := fun d => y1
            have f3 : ∀ d, (w9.drewN d).cell? ⟨b2, o2 + j * 2, none⟩ = some (.string xs) := fun d => x2
            have f4 : ∀ d, (w9.drewN d).cell? ⟨b2, o2 + j * 2 + 1, none⟩ = some (.int .i64 xz) := fun d => y2
            clear x1 x2 y1 y2
            have hge : decide ((m : Int) ≤ (j : Int)) = false := by simp; omega
            go_upto_region 27 with fail
            go_quiet (fail)
            go_wp2
            go_roundg (m - (j + 1))
            case measure => omega
            case rel => exact ⟨j + 1, _, by omega, by omega, by go_num, rfl⟩
          · have hljz : ¬ (j : Int) < (m : Int) := by omega
            have hle := (H9.out.on (To.below_drawn w9 d)).len
            have HB : Hid (Below w.heap.size w (w9.drewN d)) := (H9.out.on (To.below_drawn w9 d)).below
            rw [HML.out] at hle
            go_wp2_with fail
            refine hle.mono ?_
            rintro e w10 ⟨rfl, hb10⟩
            clear hle
            go_wp2
            go_ret
            exact ⟨rfl, nxt HB.out hb10⟩
      · have hR : addR L p z = L := addR_eq hec h0
        rw [hec, hR] at ha
        have h0z : (ec == 0) = false := by simpa using h0
        go_wp2_with fail
        refine ha.mono ?_
        rintro e w4 ⟨rfl, h4, k4⟩
        have HO4 : Hid (OwnPr w4 w.heap.size (.slice a0 m c0) L) := HO3.out.kept k4
        have H4 : Hid (St w (fun b => (Value.slice a0 m c0).ownBlock = some b) w4 t (8 * kk + 8) L) := h4
        clear ha h4 k4 HO3 hR
        have HEC : Hid (addC L p z = ec) := hec
        clear hec
        go_wp2_with fail
        have hbe : (ec != 0) = true := by simpa using h0
        rw [hbe]
        clear h0 h0z
        go_loopg [12, 14, 45] m (fun gg s12 _ s wx => ∃ (j : Nat) (r : Bool), j ≤ m ∧ m - j ≤ gg ∧ s = .int .i64 j ∧ s12 = .bool r ∧ Hid (decide ((p, z) ∈ L.take j) = r) ∧ Hid (Below w4.heap.size w4 wx))
        case atStart => exact ⟨0, false, Nat.zero_le _, by omega, rfl, rfl, by show decide _ = _; simp, Below.refl _ _⟩
        case round =>
          obtain ⟨j, r, hj, hgj, rfl, rfl, HR, HB⟩ := hrel
          by_cases hlj : j < m
          · have hljz : (j : Int) < (m : Int) := by omega
            have hjL : j < L.length := by rw [HML.out]; exact hlj
            obtain ⟨b1, o1, rfl, x1, y1⟩ := pr_at (HO4.out.up HB.out).rd hjL
            have HR2 : Hid (decide ((p, z) ∈ L.take (j + 1)) = (r || decide (L[j] = (p, z)))) := by
              show _ = _
              rw [← HR.out, List.take_succ_eq_append_getElem hjL, Bool.eq_iff_iff]
              simp only [Bool.or_eq_true, decide_eq_true_eq, List.mem_append, List.mem_singleton]
              rw [eq_comm (a := (p, z))]
            clear HR
            have x2 : (wr.alloc (.cells #[.string ⟨#[]⟩, .int .i64 0] 41)).cell? ⟨b1, o1 + j * 2, none⟩ = some (.string ⟨L[j].1.toArray⟩) := by rw [((Below.refl _ wr).alloc (Nat.le_refl _) _).cell (World.block_lt_of_cell? wr _ x1)]; exact x1
            have HBB : Hid (Below w4.heap.size w4 wr) := HB.out
            have hszw : Hid (w4.heap.size ≤ wr.heap.size) := HB.out.size
            clear HB
            cases r with
            | true =>
              go_wp2
              go_roundg (m - (j + 1))
              case measure => omega
              case rel => exact ⟨j + 1, true, by omega, by omega, by go_num, rfl, (by show _ = _; rw [HR2.out]; rfl), HBB.out.alloc hszw.out _⟩
            | false =>
              by_cases hs : L[j].1 = p
              · rw [hs] at x1 x2
                by_cases hz : L[j].2 = z
                · rw [hz] at y1
                  go_wp2
                  go_roundg (m - (j + 1))
                  case measure => omega
                  case rel => exact ⟨j + 1, true, by omega, by omega, by go_num, rfl, (by show _ = _; rw [HR2.out]; rw [decide_eq_true (Prod.ext hs hz)]; rfl), HBB.out.alloc hszw.out _⟩
                · have hz1 : (L[j].2 == z) = false := by simpa using hz
                  go_wp2
                  go_roundg (m - (j + 1))
                  case measure => omega
                  case rel => exact ⟨j + 1, false, by omega, by omega, by go_num, rfl, (by show _ = _; rw [HR2.out]; rw [decide_eq_false (fun e => hz (congrArg Prod.snd e))]; rfl), HBB.out.alloc hszw.out _⟩
              · go_wp2
                go_roundg (m - (j + 1))
                case measure => omega
                case rel => exact ⟨j + 1, false, by omega, by omega, by go_num, rfl, (by show _ = _; rw [HR2.out]; rw [decide_eq_false (fun e => hs (congrArg Prod.fst e))]; rfl), HBB.out.alloc hszw.out _⟩
          · have hljz : ¬ (j : Int) < (m : Int) := by omega
            have hae := (H4.out.on HB.out).all
            have HB4 : Hid (Below w.heap.size w wr) := (H4.out.on HB.out).below
            have HR3 : Hid (decide ((p, z) ∈ L) = r) := by
              have h9 := HR.out
              rw [List.take_of_length_le (by rw [HML.out]; omega)] at h9
              exact h9
            have hr9 : (ec == 32) = r := by
              have h9 := HWHY.out.1
              rw [HEC.out] at h9
              rw [← HR3.out, Bool.eq_iff_iff, beq_iff_eq, decide_eq_true_eq]
              exact h9
            go_wp2_with fail
            refine hae.mono ?_
            rintro e w5 ⟨v5, rfl, ho5, hb5⟩
            obtain ⟨a5, c5, rfl⟩ := ho5.len
            rw [HML.out]
            clear hae ho5
            go_wp2
            go_ret
            exact ⟨rfl, nxt HB4.out hb5⟩
end Go.Proofs.YtcicnbbnkeellaaGreatDoor
