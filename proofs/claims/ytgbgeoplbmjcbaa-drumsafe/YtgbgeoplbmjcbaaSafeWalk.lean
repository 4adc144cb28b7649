/- DrumSafe answers true at every input. -/
import Derived.Test.YtgbgeoplbmjcbaaSafeMath
namespace Go.Proofs.Ytgbgeoplbmjcbaa
open Go.RowKit Go.Lib
attribute [local go_sem ↓] Go.wp_at_zero Go.wp_at_succ

theorem RdI.len {w : World} {v : Value} {l : List UInt8} (h : RdI w v l) : ∃ a c, v = .slice a l.length c ∧ Hid (∀ k, k < l.length → ∃ b o, a = some ⟨b, o, none⟩ ∧ w.cell? ⟨b, o + k, none⟩ = some (.int .u8 ((l.getD k 0).toNat : Int))) := h
theorem getD_or1 (m : List UInt8) (k : Nat) (h : k < m.length) : (m.map or1).getD k 0 = or1 (m.getD k 0) := by
  simp [List.getElem?_eq_getElem h]

theorem range_take {w : World} {b : Nat} {l : List UInt8} (h : w.rangeAt b 0 (byteCells l)) (t : Nat) : w.rangeAt b 0 (byteCells (l.take t)) := fun j u hj => by
  refine h j u ?_
  have hjl := (List.getElem?_eq_some_iff.1 hj).1
  rw [byteCells_length, List.length_take] at hjl
  rw [← hj, byteCells, byteCells, List.map_take, List.getElem?_take_of_lt (by omega)]
theorem range_drop {w : World} {b : Nat} {l : List UInt8} (h : w.rangeAt b 0 (byteCells l)) (t : Nat) : w.rangeAt b t (byteCells (l.drop t)) := fun j u hj => by
  have := h (t + j) u (by rw [← hj, byteCells, byteCells, List.map_drop, List.getElem?_drop])
  rw [Nat.zero_add] at this
  exact this
theorem conv_drop {w : World} {b : Nat} {c : UInt8} (h : w.rangeAt b 0 (byteCells (fullB c))) (t : Nat) :
    (convert 37 9 (.slice (some (if 256 = t then ⟨b, 0, none⟩ else ⟨b, t, none⟩)) (256 - t) (256 - t))).run Try.prog w = .ok (.string ⟨((fullB c).drop t).toArray⟩) w := by
  have hl : ((fullB c).drop t).length = 256 - t := by rw [List.length_drop, fullB_length]
  by_cases e : 256 = t
  · rw [if_pos e]
    refine conv37 hl (fun j u hj => ?_)
    have hjl := (List.getElem?_eq_some_iff.1 hj).1
    rw [byteCells_length, hl] at hjl
    omega
  · rw [if_neg e]
    exact conv37 hl (range_drop h t)

set_option maxRecDepth 100000 in
set_option maxHeartbeats 4000000 in
theorem safe_any (w : World) (u v : Value) (l m : List UInt8) (p s : Int) (hu : RdI w u l) (hv : RdI w v m) (hp : -9223372036854775808 ≤ p) (hp' : p < 9223372036854775808) (hs : -9223372036854775808 ≤ s) (hs' : s < 9223372036854775808) :
    Calls Try.prog 4 #[u, v, .agg #[.int .i64 p, .int .i64 s]] w fun e w' => e = .returned (.bool true) ∧ Below w.heap.size w w' := by
  obtain ⟨ua, uc, rfl, HU⟩ := hu.len
  obtain ⟨va, vc, rfl, HV⟩ := hv.len
  clear hu hv
  have hw0 : ∃ w0, w0 = w.alloc (.cells #[.int .i64 p, .int .i64 s] 46) := ⟨_, rfl⟩
  obtain ⟨w0, hw0⟩ := hw0
  have hb0 : Below w.heap.size w w0 := by rw [hw0]; exact (Below.refl _ _).alloc (Nat.le_refl _) _
  have hK0 : w0.heap[w.heap.size]? = some (.cells #[.int .i64 p, .int .i64 s] 46 (0, 0)) := by rw [hw0]; exact heap_alloc_new w _
  have N8 : Calls Try.prog 8 #[] (w.alloc (.cells #[.int .i64 p, .int .i64 s] 46)) fun e w' => e = .returned (.bool true) ∧ Below w0.heap.size w0 w' := by rw [← hw0]; exact wakes_any w0
  clear hw0
  by_cases hl : l.length ≤ 30
  · by_cases hm : m.length ≤ 30
    · go_enter Try.func4, Try.ntmps4
      go_wp2_with (go_at_call 8; refine N8.mono ?_; rintro e w1 ⟨rfl, hb1⟩)
      clear N8
      refine (new0 w1 64 (by omega) (by omega)).mono ?_
      rintro e w2 ⟨X2, q, rfl, hd2, hb2, hX2⟩
      have HZ : Hid (∀ j, j < 64 → pageOf (List.replicate (64 * 256) 0) j = fullB 0) := fun j hj => zeros_page 64 j hj
      have HZl : Hid ((List.replicate (64 * 256) (0 : UInt8)).length = 64 * 256) := List.length_replicate
      generalize List.replicate (64 * 256) (0 : UInt8) = Z at *
      have b2 : Below w.heap.size w w2 := (hb0.trans (hb1.mono hb0.size)).trans (hb2.mono (Nat.le_trans hb0.size hb1.size))
      have hltK : w.heap.size < w0.heap.size := (Array.getElem?_eq_some_iff.1 hK0).1
      have hK2 : w2.heap[w.heap.size]? = some (.cells #[.int .i64 p, .int .i64 s] 46 (0, 0)) := (hb2.block _ (Nat.lt_of_lt_of_le hltK hb1.size)).trans ((hb1.block _ hltK).trans hK0)
      have hX : ∀ k, X2 k → w.heap.size + 1 ≤ k := fun k hk => Nat.le_trans (Nat.le_trans hltK hb1.size) (hX2 k hk)
      have b2' : w.heap.size + 1 ≤ w2.heap.size := Nat.le_trans (Nat.le_trans hltK hb1.size) hb2.size
      clear hb0 hK0 hb1 hb2 hX2 hltK
      have BK : ∃ w2', Hid (w2' = w2) := ⟨_, rfl⟩
      go_wp2_with fail
      go_loopw [36] (fun i wr => ∃ (k : Nat) (X : Nat → Prop), k ≤ l.length ∧ i = .int .i64 k ∧ Drum wr X q 64 (mkS Z (logK 0 l k) k false 0 0) ∧ (∀ k, X k → w.heap.size + 1 ≤ k) ∧ Below (w.heap.size + 1) w2 wr) (fun i _ => l.length - (RowKit.intOf i).toNat)
      case atStart => exact ⟨0, X2, Nat.zero_le _, rfl, hd2, hX, Below.refl _ _⟩
      case round =>
        clear hd2 hX
        obtain ⟨k, X, hk, rfl, hd, hX, hb⟩ := hrel
        by_cases hlt : k < l.length
        · obtain ⟨b, o, rfl, hc⟩ := HU.out k hlt
          have hblt := World.block_lt_of_cell? _ _ hc
          have hc' : wr.cell? ⟨b, o + k, none⟩ = some (.int .u8 ((l.getD k 0).toNat : Int)) := by
            rw [hb.cell (Nat.lt_succ_of_lt hblt), b2.cell hblt]; exact hc
          have N26 := full_d wr (l.getD k 0)
          have N12 : Hid (∀ w1, FullAt wr w1 (l.getD k 0) → Calls Try.prog 12 #[.pointer (some ⟨q, 0, none⟩), .int .i64 k, .slice (some ⟨wr.heap.size, 0, none⟩) 256 256] w1 fun e w' => ∃ X', e = .returned (.int .i64 0) ∧ Drum w' X' q 64 (mkS Z (logK 0 l (k + 1)) (k + 1) false 0 0) ∧ Step X X' wr w') := by
            intro w1 hf
            have := write0 wr w1 X q 64 Z (logK 0 l k) k 0 (l.getD k 0) k (by omega) (by rw [logK_length]; omega) (by omega) hd hf
            have e : logK 0 l k ++ [(k, fullB (l.getD k 0))] = logK 0 l (k + 1) := by rw [logK, Nat.zero_add]
            rw [e] at this
            exact this
          have hbs := Nat.le_trans b2' hb.size
          clear hd hc hblt
          generalize l.getD k 0 = c at *
          go_wp2_with (first | (go_at_call 26; refine N26.mono ?_; rintro e w4 ⟨rfl, hf4⟩) | (go_at_call 12; refine (N12.out _ (by assumption)).mono ?_; rintro e w5 ⟨X', rfl, hd5, hs5⟩))
          go_roundw
          case rel => exact ⟨k + 1, X', hlt, by go_num, hd5, hs5.above hX hbs, hb.trans (hs5.below hX hbs)⟩
          case measure => simp [RowKit.intOf]; omega
        · obtain rfl : k = l.length := by omega
          have HSP : Hid ((∀ i, i < l.length → pageOf (partAll (appAll Z (logK 0 l l.length)) p.toNat (logK 32 (m.map or1) m.length)) i = fullB (l.getD i 0)) ∧ (∀ i, i < m.length → pageOf (partAll (appAll Z (logK 0 l l.length)) p.toNat (logK 32 (m.map or1) m.length)) (32 + i) = (fullB (or1 (m.getD i 0))).take (keptAt p.toNat i) ++ (fullB 0).drop (keptAt p.toNat i)) ∧ (appAll Z (logK 0 l l.length)).length = 64 * 256) := by
            obtain ⟨g1, g2, g3⟩ := safe_pages Z HZl.out HZ.out l (m.map or1) hl (by simpa using hm) p.toNat
            rw [List.length_map] at g1 g2
            refine ⟨g1, fun i hi => ?_, g3⟩
            rw [g2 i hi, getD_or1 m i hi]
          have N15 := flush0 wr X q 64 Z (logK 0 l l.length) l.length 0 (by rw [logK_length]; omega) (by omega) hd
          have hbs := Nat.le_trans b2' hb.size
          clear hd
          generalize appAll Z (logK 0 l l.length) = F at *
          go_wp2_with (go_at_call 15; refine N15.mono ?_; rintro e w6 ⟨rfl, hd6, hs6⟩)
          have b6 := hb.trans (hs6.below hX hbs)
          clear N15 hs6 hb hbs HZ HZl
          go_loopw [53] (fun i wr => ∃ (k : Nat) (X : Nat → Prop), k ≤ m.length ∧ i = .int .i64 k ∧ Drum wr X q 64 (mkS F (logK 32 (m.map or1) k) (l.length + 1 + k) false 0 0) ∧ (∀ k, X k → w.heap.size + 1 ≤ k) ∧ Below (w.heap.size + 1) w2 wr) (fun i _ => m.length - (RowKit.intOf i).toNat)
          case atStart => exact ⟨0, X, Nat.zero_le _, rfl, hd6, hX, b6⟩
          case round =>
            clear hd6 hX b6
            obtain ⟨k, X, hk, rfl, hd, hX, hb⟩ := hrel
            by_cases hlt : k < m.length
            · obtain ⟨b, o, rfl, hc⟩ := HV.out k hlt
              have hblt := World.block_lt_of_cell? _ _ hc
              have hc' : wr.cell? ⟨b, o + k, none⟩ = some (.int .u8 ((m.getD k 0).toNat : Int)) := by
                rw [hb.cell (Nat.lt_succ_of_lt hblt), b2.cell hblt]; exact hc
              have N26 := full_d wr (or1 (m.getD k 0))
              have hor := or1_eq (m.getD k 0)
              have N12 : Hid (∀ w1, FullAt wr w1 (or1 (m.getD k 0)) → Calls Try.prog 12 #[.pointer (some ⟨q, 0, none⟩), .int .i64 (32 + (k : Int)), .slice (some ⟨wr.heap.size, 0, none⟩) 256 256] w1 fun e w' => ∃ X', e = .returned (.int .i64 0) ∧ Drum w' X' q 64 (mkS F (logK 32 (m.map or1) (k + 1)) (l.length + 1 + (k + 1)) false 0 0) ∧ Step X X' wr w') := by
                intro w1 hf
                have := write0 wr w1 X q 64 F (logK 32 (m.map or1) k) (l.length + 1 + k) 0 (or1 (m.getD k 0)) (32 + k) (by omega) (by rw [logK_length]; omega) (by omega) hd hf
                have e : logK 32 (m.map or1) k ++ [(32 + k, fullB (or1 (m.getD k 0)))] = logK 32 (m.map or1) (k + 1) := by rw [logK, getD_or1 m k hlt]
                rw [e, Int.natCast_add] at this
                exact this
              have hbs := Nat.le_trans b2' hb.size
              clear hd hc hblt
              generalize or1 (m.getD k 0) = c1 at *
              generalize m.getD k 0 = c at *
              go_wp2_with (first | (go_at_call 26; refine N26.mono ?_; rintro e w4 ⟨rfl, hf4⟩) | (go_at_call 12; refine (N12.out _ (by assumption)).mono ?_; rintro e w5 ⟨X', rfl, hd5, hs5⟩))
              go_roundw
              case rel => exact ⟨k + 1, X', hlt, by go_num, hd5, hs5.above hX hbs, hb.trans (hs5.below hX hbs)⟩
              case measure => simp [RowKit.intOf]; omega
            · obtain rfl : k = m.length := by omega
              have hKr : wr.heap[w.heap.size]? = some (.cells #[.int .i64 p, .int .i64 s] 46 (0, 0)) := (hb.block _ (Nat.lt_succ_self _)).trans hK2
              have cp : wr.cell? ⟨w.heap.size, 0, none⟩ = some (.int .i64 p) := by rw [cell_of_row _ _ _ _ _ _ hKr]; rfl
              have hbs := Nat.le_trans b2' hb.size
              have N19 := off0 wr X q 64 F (logK 32 (m.map or1) m.length) _ _ _ p hp hp' HSP.out.2.2 (logK_ok 32 64 _ _ (by omega)) (by rw [logK_length]; omega) hd
              clear hd
              go_wp2_with fail
              refine N19.mono ?_
              rintro e w7 ⟨rfl, hd7, hs7⟩
              clear N19 cp
              have b7 := hb.trans (hs7.below hX hbs)
              clear hs7
              have hK7 : w7.heap[w.heap.size]? = some (.cells #[.int .i64 p, .int .i64 s] 46 (0, 0)) := (b7.block _ (Nat.lt_succ_self _)).trans hK2
              have cs : w7.cell? ⟨w.heap.size, 1, none⟩ = some (.int .i64 s) := by rw [cell_of_row _ _ _ _ _ _ hK7]; rfl
              have N19 := off1 w7 X q 64 _ _ _ _ s hs hs' hd7
              clear hd7
              go_wp2_with fail
              refine N19.mono ?_
              rintro e w8 ⟨rfl, hd8, hs8⟩
              clear N19 cs
              have b8 := b7.trans (hs8.below hX (Nat.le_trans b2' b7.size))
              have N21 := on0 w8 X q 64 _ _ _ _ _ _ hd8
              clear hd8 hs8 b7 hK7 hKr hb
              generalize partAll F p.toNat (logK 32 (m.map or1) m.length) = G at *
              go_wp2_with fail
              refine N21.mono ?_
              rintro e w9 ⟨rfl, hd9, hs9⟩
              have b9 := b8.trans (hs9.below hX (Nat.le_trans b2' b8.size))
              clear N21 hs9 b8
              have HD9 : Hid (Drum w9 X q 64 (mkS G [] (l.length + 1 + m.length) false 0 0)) := hd9
              have HB9 : Hid (Below w.heap.size w w9) := b2.trans (b9.mono (Nat.le_succ _))
              clear hd9 b9 hbs hX hK2 b2'
              have HCU : Hid (∀ k, k < l.length → ∃ b o, ua = some ⟨b, o, none⟩ ∧ w9.cell? ⟨b, o + k, none⟩ = some (.int .u8 ((l.getD k 0).toNat : Int))) := by
                intro k hk
                obtain ⟨b, o, e, hc⟩ := HU.out k hk
                exact ⟨b, o, e, by rw [HB9.out.cell (World.block_lt_of_cell? _ _ hc)]; exact hc⟩
              have HCV : Hid (∀ k, k < m.length → ∃ b o, va = some ⟨b, o, none⟩ ∧ w9.cell? ⟨b, o + k, none⟩ = some (.int .u8 ((m.getD k 0).toNat : Int))) := by
                intro k hk
                obtain ⟨b, o, e, hc⟩ := HV.out k hk
                exact ⟨b, o, e, by rw [HB9.out.cell (World.block_lt_of_cell? _ _ hc)]; exact hc⟩
              clear HU HV b2
              go_wp2_with fail
              go_loopw [80] (fun i wr => ∃ k : Nat, k ≤ l.length ∧ i = .int .i64 k ∧ Hid (Below w9.heap.size w9 wr)) (fun i _ => l.length - (RowKit.intOf i).toNat)
              case atStart => exact ⟨0, Nat.zero_le _, rfl, Below.refl _ _⟩
              case round =>
                obtain ⟨k, hk, rfl, hbk⟩ := hrel
                by_cases hlt : k < l.length
                · obtain ⟨b, o, rfl, hc⟩ := HCU.out k hlt
                  have hc' : wr.cell? ⟨b, o + k, none⟩ = some (.int .u8 ((l.getD k 0).toNat : Int)) := by rw [hbk.out.cell (World.block_lt_of_cell? _ _ hc)]; exact hc
                  have N17 := read0 wr X q 64 _ k (by omega) rfl (HD9.out.below hbk.out)
                  have eP : pageOf (mkS G [] (l.length + 1 + m.length) false 0 0).P k = fullB (l.getD k 0) := HSP.out.1 k hlt
                  rw [eP] at N17
                  clear eP hc
                  generalize l.getD k 0 = cj at *
                  go_wp2_with fail
                  refine N17.mono ?_
                  rintro e w10 ⟨rfl, hp10⟩
                  clear N17 hc'
                  have rb := range_of_block hp10.block
                  have HK : Hid (Below w9.heap.size w9 w10) := hbk.out.trans (hp10.below.mono hbk.out.size)
                  generalize wr.heap.size = BY at *
                  clear hp10 hbk
                  have HY : Hid (∀ w', Hid (Below w10.heap.size w10 w') → (convert 37 9 (.slice (some ⟨BY, 0, none⟩) 256 256)).run Try.prog w' = .ok (.string ⟨(fullB cj).toArray⟩) w') := fun w' h => conv37 (fullB_length cj) (range_below rb h.out)
                  have NC : Calls Try.prog 26 #[.int .u8 (cj.toNat : Int)] w10.drew fun e w' => e = .returned (.slice (some ⟨w10.heap.size, 0, none⟩) 256 256) ∧ (convert 37 9 (.slice (some ⟨BY, 0, none⟩) 256 256)).run Try.prog w' = .ok (.string ⟨(fullB cj).toArray⟩) w' ∧ (convert 37 9 (.slice (some ⟨w10.heap.size, 0, none⟩) 256 256)).run Try.prog w' = .ok (.string ⟨(fullB cj).toArray⟩) w' ∧ Hid (Below w10.heap.size w10 w') := by
                    refine (full_d w10.drew cj).mono ?_
                    rintro e w' ⟨rfl, hf⟩
                    have hb := Below.undrew hf.below
                    exact ⟨rfl, HY.out w' hb, conv37 (fullB_length cj) (range_of_block hf.block), hb⟩
                  have hy0 := HY.out w10.drew (Below.refl _ w10).drew
                  clear HY rb
                  have ex : ∃ T : ByteArray, T = ⟨(fullB cj).toArray⟩ := ⟨_, rfl⟩
                  obtain ⟨T, hT⟩ := ex
                  rw [← hT] at NC hy0
                  clear hT
                  go_wp2_with fail
                  go_cut [100] (fun s w' => s = .bool false ∧ Hid (Below w10.heap.size w10 w'))
                  case first =>
                    refine wp_region_noPanic ?_
                    go_region_held (fun w' => (convert 37 9 (.slice (some ⟨BY, 0, none⟩) 256 256)).run Try.prog w' = .ok (.string T) w') (assumption) (first | (go_at_call 26; with_reducible refine NC.mono ?_; rintro e w11 ⟨rfl, g1, g3, g4⟩))
                    all_goals refine NoPanic.normal ?_
                    all_goals go_wp2_with fail
                    all_goals go_meet
                    all_goals exact ⟨rfl, g4⟩
                  case rest =>
                    obtain ⟨rfl, hb10⟩ := hcut
                    clear NC hy0
                    go_wp2_with fail
                    go_roundw
                    case rel => exact ⟨k + 1, hlt, by go_num, HK.out.trans (hb10.out.mono HK.out.size)⟩
                    case measure => simp [RowKit.intOf]; omega
                · clear HCU
                  go_upto_region 31 with fail
                  go_cut [17] (fun s w' => s = .int .i64 (p.toNat : Int) ∧ w' = wr)
                  case first =>
                    by_cases hp0 : p < 0
                    · go_wp2_with fail
                      go_meet
                      exact ⟨int_eq (by omega), rfl⟩
                    · go_wp2_with fail
                      go_meet
                      exact ⟨int_eq (by omega), rfl⟩
                  case rest =>
                    obtain ⟨rfl, rfl⟩ := hcut
                    have hPK : p.toNat < 9223372036854775808 := by omega
                    generalize p.toNat = K at *
                    have HB0 : Hid (Below w9.heap.size w9 wc) := hbk
                    clear hbk hk hlt
                    go_wp2_with fail
                    go_loopw [17, 106] (fun x i wr => ∃ k : Nat, k ≤ m.length ∧ x = .int .i64 ((K - k * 256 : Nat) : Int) ∧ i = .int .i64 k ∧ Hid (Below w9.heap.size w9 wr)) (fun _ i _ => m.length - (RowKit.intOf i).toNat)
                    case atStart => exact ⟨0, Nat.zero_le _, int_eq (by omega), rfl, HB0⟩
                    case round =>
                      obtain ⟨k, hk, rfl, rfl, hbk⟩ := hrel
                      by_cases hlt : k < m.length
                      · obtain ⟨b, o, rfl, hc⟩ := HCV.out k hlt
                        have hc' : wr.cell? ⟨b, o + k, none⟩ = some (.int .u8 ((m.getD k 0).toNat : Int)) := by rw [hbk.out.cell (World.block_lt_of_cell? _ _ hc)]; exact hc
                        have N17 := read0 wr X q 64 _ (32 + k) (by omega) rfl (HD9.out.below hbk.out)
                        have eP : pageOf (mkS G [] (l.length + 1 + m.length) false 0 0).P (32 + k) = (fullB (or1 (m.getD k 0))).take (keptAt K k) ++ (fullB 0).drop (keptAt K k) := HSP.out.2.1 k hlt
                        rw [eP, Int.natCast_add] at N17
                        have N17 : Calls Try.prog 17 #[.pointer (some ⟨q, 0, none⟩), .int .i64 (32 + (k : Int))] wr fun e w' => e = .returned (.tuple #[.slice (some ⟨wr.heap.size, 0, none⟩) 256 256, .int .i64 0]) ∧ PageAt wr w' ((fullB (or1 (m.getD k 0))).take (keptAt K k) ++ (fullB 0).drop (keptAt K k)) := N17
                        have hor := or1_eq (m.getD k 0)
                        clear eP hc
                        generalize or1 (m.getD k 0) = c1 at *
                        generalize m.getD k 0 = c at *
                        go_upto_region 36 with (go_at_call 17; refine N17.mono ?_; rintro e w10 ⟨rfl, hp10⟩)
                        clear N17 hc'
                        have hKd : Hid ((K - k * 256 : Nat) - keptAt K k = K - (k + 1) * 256) := by show _ = _; unfold keptAt; omega
                        have hKt : keptAt K k ≤ K - k * 256 := Nat.min_le_left _ _
                        have hT := keptAt_le K k
                        go_cut [22] (fun s w' => s = .int .i64 (keptAt K k : Int) ∧ w' = w10)
                        case first =>
                          by_cases hmin : K - k * 256 ≤ 256
                          · go_wp2_with fail
                            all_goals go_meet
                            all_goals exact ⟨int_eq (by unfold keptAt; omega), rfl⟩
                          · go_wp2_with fail
                            all_goals go_meet
                            all_goals exact ⟨int_eq (by unfold keptAt; omega), rfl⟩
                        case rest =>
                          obtain ⟨rfl, rfl⟩ := hcut
                          have rb := range_of_block hp10.block
                          have HK : Hid (Below w9.heap.size w9 wc) := hbk.out.trans (hp10.below.mono hbk.out.size)
                          generalize wr.heap.size = BY at *
                          clear hp10 hbk
                          generalize keptAt K k = t at *
                          have hAl : ((fullB c1).take t).length = t := by rw [List.length_take, fullB_length]; omega
                          have hDl : ((fullB 0).drop t).length = 256 - t := by rw [List.length_drop, fullB_length]
                          have hADl : ((fullB c1).take t ++ (fullB 0).drop t).length = 256 := by rw [List.length_append, hAl, hDl]; omega
                          have HY : Hid (∀ w', Hid (Below wc.heap.size wc w') → (convert 37 9 (.slice (some ⟨BY, 0, none⟩) 256 256)).run Try.prog w' = .ok (.string ⟨((fullB c1).take t ++ (fullB 0).drop t).toArray⟩) w') := fun w' h => conv37 hADl (range_below rb h.out)
                          have NC : Calls Try.prog 26 #[.int .u8 (c1.toNat : Int)] wc.drew fun e w' => e = .returned (.slice (some ⟨wc.heap.size, 0, none⟩) 256 256) ∧ (convert 37 9 (.slice (some ⟨BY, 0, none⟩) 256 256)).run Try.prog w' = .ok (.string ⟨((fullB c1).take t ++ (fullB 0).drop t).toArray⟩) w' ∧ (convert 37 9 (.slice (some ⟨wc.heap.size, 0, none⟩) t 256)).run Try.prog w' = .ok (.string ⟨((fullB c1).take t).toArray⟩) w' ∧ Hid (Below wc.heap.size wc w') ∧ Hid (w'.rangeAt wc.heap.size 0 (byteCells (fullB c1))) := by
                            refine (full_d wc.drew c1).mono ?_
                            rintro e w' ⟨rfl, hf⟩
                            have hb := Below.undrew hf.below
                            have hr := range_of_block hf.block
                            exact ⟨rfl, HY.out w' hb, conv37 hAl (range_take hr t), hb, hr⟩
                          have N0 : Hid (∀ w1, Hid (Below wc.heap.size wc w1) → Hid (w1.rangeAt wc.heap.size 0 (byteCells (fullB c1))) → Calls Try.prog 26 #[.int .u8 0] w1 fun e w' => e = .returned (.slice (some ⟨w1.heap.size, 0, none⟩) 256 256) ∧ (convert 37 9 (.slice (some ⟨BY, 0, none⟩) 256 256)).run Try.prog w' = .ok (.string ⟨((fullB c1).take t ++ (fullB 0).drop t).toArray⟩) w' ∧ (convert 37 9 (.slice (some ⟨wc.heap.size, 0, none⟩) t 256)).run Try.prog w' = .ok (.string ⟨((fullB c1).take t).toArray⟩) w' ∧ (convert 37 9 (.slice (some (if 256 = t then ⟨w1.heap.size, 0, none⟩ else ⟨w1.heap.size, t, none⟩)) (256 - t) (256 - t))).run Try.prog w' = .ok (.string ⟨((fullB 0).drop t).toArray⟩) w' ∧ Hid (Below wc.heap.size wc w')) := by
                            intro w1 h1 h2
                            refine (full_d w1 0).mono ?_
                            rintro e w' ⟨rfl, hf⟩
                            have hb : Below wc.heap.size wc w' := h1.out.trans (hf.below.mono h1.out.size)
                            exact ⟨rfl, HY.out w' hb, conv37 hAl (range_take (range_below h2.out hf.below) t), conv_drop (range_of_block hf.block) t, hb⟩
                          have hadd : ∀ W : World, (Op.stringOp .add ⟨((fullB c1).take t).toArray⟩ ⟨((fullB 0).drop t).toArray⟩).run Try.prog W = .ok (.string ⟨((fullB c1).take t ++ (fullB 0).drop t).toArray⟩) W := fun W => by
                            have hsum : (⟨((fullB c1).take t).toArray⟩ : ByteArray).size + (⟨((fullB 0).drop t).toArray⟩ : ByteArray).size = 256 := by
                              show ((fullB c1).take t).toArray.size + ((fullB 0).drop t).toArray.size = 256
                              rw [List.size_toArray, List.size_toArray, hAl, hDl]
                              omega
                            rw [← bytes_append]
                            exact run_string_add_sum W _ _ (by rw [hsum]; omega)
                          have hy0 := HY.out wc.drew (Below.refl _ wc).drew
                          clear HY rb hAl hDl hADl
                          generalize (⟨((fullB c1).take t ++ (fullB 0).drop t).toArray⟩ : ByteArray) = U at *
                          generalize (⟨((fullB c1).take t).toArray⟩ : ByteArray) = UA at *
                          generalize (⟨((fullB 0).drop t).toArray⟩ : ByteArray) = UD at *
                          have t0 : (0 : Int) ≤ (t : Int) := by omega
                          have t1 : (t : Int) ≤ 256 := by omega
                          go_wp2_with fail
                          go_cut [137] (fun s w' => s = .bool false ∧ Hid (Below wc.heap.size wc w'))
                          case first =>
                            by_cases h256 : 256 = t
                            · subst h256
                              simp only [if_true, Nat.sub_self] at N0
                              refine wp_region_noPanic ?_
                              go_region_held (fun w' => (convert 37 9 (.slice (some ⟨BY, 0, none⟩) 256 256)).run Try.prog w' = .ok (.string U) w') (assumption) (first | (go_at_call 26; with_reducible refine NC.mono ?_; rintro e w11 ⟨rfl, g1, g2, g3, g4⟩) | (go_at_call 26; with_reducible refine (N0.out _ (by assumption) (by assumption)).mono ?_; rintro e w12 ⟨rfl, g5, g6, g7, g8⟩))
                              all_goals refine NoPanic.normal ?_
                              all_goals go_wp2_with fail
                              all_goals go_meet
                              all_goals exact ⟨rfl, g8⟩
                            · simp only [if_neg h256] at N0
                              have h256' : ¬ t = 256 := fun h => h256 h.symm
                              refine wp_region_noPanic ?_
                              go_region_held (fun w' => (convert 37 9 (.slice (some ⟨BY, 0, none⟩) 256 256)).run Try.prog w' = .ok (.string U) w') (assumption) (first | (go_at_call 26; with_reducible refine NC.mono ?_; rintro e w11 ⟨rfl, g1, g2, g3, g4⟩) | (go_at_call 26; with_reducible refine (N0.out _ (by assumption) (by assumption)).mono ?_; rintro e w12 ⟨rfl, g5, g6, g7, g8⟩))
                              all_goals refine NoPanic.normal ?_
                              all_goals go_wp2_with fail
                              all_goals go_meet
                              all_goals exact ⟨rfl, g8⟩
                          case rest =>
                            obtain ⟨rfl, hb10⟩ := hcut
                            clear NC hy0 hadd N0
                            go_wp2_with fail
                            go_roundw
                            case rel => exact ⟨k + 1, hlt, int_eq (by rw [← hKd.out]; omega), by go_num, HK.out.trans (hb10.out.mono HK.out.size)⟩
                            case measure => simp [RowKit.intOf]; omega
                      · go_wp2_with fail
                        go_ret
                        exact ⟨rfl, HB9.out.trans (hbk.out.mono HB9.out.size)⟩
    · have hm' : (30 : Int) < (m.length : Int) := by omega
      go_enter Try.func4, Try.ntmps4
      go_wp2_with (go_at_call 8; refine N8.mono ?_; rintro e w1 ⟨rfl, hb1⟩)
      go_ret
      exact ⟨rfl, hb0.trans (hb1.mono hb0.size)⟩
  · have hl' : (30 : Int) < (l.length : Int) := by omega
    go_enter Try.func4, Try.ntmps4
    go_wp2_with (go_at_call 8; refine N8.mono ?_; rintro e w1 ⟨rfl, hb1⟩)
    go_ret
    exact ⟨rfl, hb0.trans (hb1.mono hb0.size)⟩
end Go.Proofs.Ytgbgeoplbmjcbaa
