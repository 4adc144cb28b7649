/- DrumKeeps answers true at every input. -/
import Derived.Test.YtgbgeoplbmjcbaaWakes
import Derived.Deep.RegionWith
import Derived.Deep.RegionHeld3
namespace Go.Proofs.Ytgbgeoplbmjcbaa
open Go.RowKit Go.Lib
attribute [local go_sem ↓] Go.wp_at_zero Go.wp_at_succ

theorem Raw.lt' {w : World} {X : Nat → Prop} {q n : Nat} {S : DS} (h : Drum w X q n S) : ∀ k, X k → k < w.heap.size := by
  obtain ⟨g, v, hr, _⟩ := h
  exact hr.lt
theorem step_set (w : World) (b i : Nat) (u : Value) : Step (fun k => k = b) (fun k => k = b) w (w.setCell ⟨b, i, none⟩ u) := Step.set (a := ⟨b, i, none⟩) (Step.refl (fun k => k = b) w) rfl u
/-- The page that was written last. -/
theorem page_put (S : DS) (n i : Nat) (l : List UInt8) (h : S.Ok n) (hi : i < n) (hl : l.length = 256) : pageOf (S.put i l).P i = l := by
  show pageOf (splice S.P (i * 256) l) i = l
  rw [pageOf_splice _ n _ _ _ h.len hi hi (by omega), if_pos rfl, List.drop_eq_nil_of_le (by rw [pageOf_length _ n _ h.len hi]; omega), List.append_nil]
/-- full beside a slice that is there: both as strings. -/
theorem full_cmp (w : World) (c : UInt8) (b n m : Nat) (l : List UInt8) (hl : l.length = n) (h : w.rangeAt b 0 (byteCells l)) :
    Calls Try.prog 26 #[.int .u8 (c.toNat : Int)] w fun e w' => e = .returned (.slice (some ⟨w.heap.size, 0, none⟩) 256 256) ∧
      (convert 37 9 (.slice (some ⟨b, 0, none⟩) n m)).run Try.prog w' = .ok (.string ⟨l.toArray⟩) w' ∧ (convert 37 9 (.slice (some ⟨w.heap.size, 0, none⟩) 256 256)).run Try.prog w' = .ok (.string ⟨(fullB c).toArray⟩) w' ∧ Hid (Below w.heap.size w w') := by
  refine (full_d w c).mono ?_
  rintro e w' ⟨rfl, hf⟩
  refine ⟨rfl, conv37 hl ?_, conv37 (fullB_length c) (range_of_block hf.block), hf.below⟩
  intro j u hj
  have := h j u hj
  rw [hf.below.cell (p := ⟨b, 0 + j, none⟩) (World.block_lt_of_cell? _ _ this)]
  exact this

theorem Below.undrew {B : Nat} {w w' : World} (h : Below B w.drew w') : Below B w w' := ⟨h.os, h.tape, h.output, h.size, h.block⟩
theorem full_cmpD (w : World) (c : UInt8) (b n m : Nat) (l : List UInt8) (hl : l.length = n) (h : w.rangeAt b 0 (byteCells l)) :
    Calls Try.prog 26 #[.int .u8 (c.toNat : Int)] w.drew fun e w' => e = .returned (.slice (some ⟨w.heap.size, 0, none⟩) 256 256) ∧
      (convert 37 9 (.slice (some ⟨b, 0, none⟩) n m)).run Try.prog w' = .ok (.string ⟨l.toArray⟩) w' ∧ (convert 37 9 (.slice (some ⟨w.heap.size, 0, none⟩) 256 256)).run Try.prog w' = .ok (.string ⟨(fullB c).toArray⟩) w' ∧ Hid (Below w.heap.size w w')  := by
  refine (full_cmp w.drew c b n m l hl h).mono ?_
  rintro e w' ⟨rfl, g1, g2, g3⟩
  exact ⟨rfl, g1, g2, Below.undrew g3.out⟩
theorem range_below {w w' : World} {b : Nat} {cs : List Value} (h : w.rangeAt b 0 cs) (hb : Below w.heap.size w w') : w'.rangeAt b 0 cs := fun j u hj => by
  have := h j u hj
  rw [hb.cell (p := ⟨b, 0 + j, none⟩) (World.block_lt_of_cell? _ _ this)]
  exact this

set_option maxRecDepth 100000 in
set_option maxHeartbeats 4000000 in
theorem keeps_any (w : World) (c : UInt8) (i : Int) : Calls Try.prog 6 #[.int .u8 (c.toNat : Int), .int .i64 i] w fun e w' => e = .returned (.bool true) ∧ Below w.heap.size w w' := by
  have N8 := wakes_any w
  by_cases hi0 : i < 0
  · go_enter Try.func6, Try.ntmps6
    go_wp2_with (go_at_call 8; refine N8.mono ?_; rintro e w1 ⟨rfl, hb1⟩)
    go_ret
    exact ⟨rfl, hb1⟩
  by_cases hi7 : 7 < i
  · go_enter Try.func6, Try.ntmps6
    go_wp2_with (go_at_call 8; refine N8.mono ?_; rintro e w1 ⟨rfl, hb1⟩)
    go_ret
    exact ⟨rfl, hb1⟩
  obtain ⟨a, rfl⟩ : ∃ a : Nat, i = a := ⟨i.toNat, by omega⟩
  have ha : a < 8 := by omega
  go_enter Try.func6, Try.ntmps6
  go_wp2_with (go_at_call 8; refine N8.mono ?_; rintro e w1 ⟨rfl, hb1⟩)
  clear N8
  refine (new0 w1 8 (by omega) (by omega)).mono ?_
  rintro e w2 ⟨X, q, rfl, hd, hb2, hX⟩
  go_wp2_with fail
  refine (new0 w2 8 (by omega) (by omega)).mono ?_
  rintro e w3 ⟨Y, r, rfl, ho, hb3, hY⟩
  have hd3 := hd.below hb3
  have hXY : ∀ k, Y k → ¬ X k := fun k hy hx => absurd (Raw.lt' hd k hx) (Nat.not_lt.2 (hY k hy))
  have b3 : Below w.heap.size w w3 := (hb1.trans (hb2.mono hb1.size)).trans (hb3.mono (Nat.le_trans hb1.size hb2.size))
  have hX' : ∀ k, X k → w.heap.size ≤ k := fun k hk => Nat.le_trans hb1.size (hX k hk)
  have hY' : ∀ k, Y k → w.heap.size ≤ k := fun k hk => Nat.le_trans (Nat.le_trans hb1.size hb2.size) (hY k hk)
  have HZ : Hid (pageOf (List.replicate (8 * 256) 0) a = fullB 0) := zeros_page 8 a ha
  clear hd hb1 hb2 hb3 hX hY
  generalize List.replicate (8 * 256) (0 : UInt8) = Z at *
  go_wp2_with fail
  refine (full_d w3 c).mono ?_
  rintro e w4 ⟨rfl, hf4⟩
  have hd4 := hd3.below hf4.below
  have ho4 := ho.below hf4.below
  have hn4 : ¬ X w3.heap.size := fun hx => absurd (Raw.lt' hd3 _ hx) (Nat.lt_irrefl _)
  have hny : ¬ Y w3.heap.size := fun hx => absurd (Raw.lt' ho _ hx) (Nat.lt_irrefl _)
  have hlt4 : w3.heap.size < w4.heap.size := by rw [hf4.eq]; simp
  have N12 := write_ok w4 X q 8 _ a _ (fullB c) ha rfl (by show 0 < 100000; omega) (by show 0 ≤ 1000000; omega) hd4 (fullB_length c) hf4.rd (fun k hk => by cases hk; exact hn4)
  have hput := page_put (mkS Z [] 0 false 0 0) 8 a (fullB c) (by obtain ⟨_, _, _, ok⟩ := hd3; exact ok) ha (fullB_length c)
  have e0 : ((mkS Z [] 0 false 0 0).put a (fullB c)).oper.2 = 0 := rfl
  rw [e0] at N12
  have hS : ∃ S : DS, S.down = false ∧ pageOf S.P a = fullB c ∧ ((mkS Z [] 0 false 0 0).put a (fullB c)).oper.1 = S := by
    rw [put_mk, oper_mk0]
    refine ⟨_, rfl, ?_, rfl⟩
    rw [put_mk] at hput
    exact hput
  obtain ⟨S, hS1, hS2, hS3⟩ := hS
  rw [hS3] at N12
  clear hS3 e0 hput hd3 ho hd4
  have hS1 : Hid (S.down = false) := hS1
  have hS2 : Hid (pageOf S.P a = fullB c) := hS2
  have b4 := b3.trans (hf4.below.mono b3.size)
  have hbb4 := hf4.block
  go_wp2_with fail
  refine N12.mono ?_
  rintro e w5 ⟨X5, rfl, hd5, hs5⟩
  have hbb : ∃ C : Array Value, C.size = 256 ∧ w5.heap[w3.heap.size]? = some (.cells C 5 (0, 0)) := ⟨_, by simp [byteCells_length, fullB_length], (hs5.block _ hlt4 hn4).trans hbb4⟩
  have ho5 := ho4.on hs5 hXY
  have hn5 : ¬ X5 w3.heap.size := fun hx => (hs5.grow _ hx).elim hn4 (fun h => absurd hlt4 (Nat.not_lt.2 h))
  have hXY5 : ∀ k, Y k → ¬ X5 k := fun k hy hx => (hs5.grow _ hx).elim (hXY k hy) (fun h => absurd (Raw.lt' ho4 k hy) (Nat.not_lt.2 h))
  have b5 := b4.trans (hs5.below hX' b4.size)
  have hX5 := hs5.above hX' b4.size
  have hb35 : w.heap.size ≤ w3.heap.size := b3.size
  generalize w3.heap.size = B at *
  clear N12 hs5 ho4 hbb4 hn4 hlt4 hXY hX' b3 b4 hf4
  go_wp2_with fail
  go_loopw [34] (fun i wr => ∃ k : Nat, k ≤ 256 ∧ i = .int .i64 k ∧ (∃ C : Array Value, C.size = 256 ∧ wr.heap[B]? = some (.cells C 5 (0, 0))) ∧ Drum wr X5 q 8 S ∧ Drum wr Y r 8 (mkS Z [] 0 false 0 0) ∧ Below w.heap.size w wr) (fun i _ => 256 - (RowKit.intOf i).toNat)
  case atStart => exact ⟨0, by omega, rfl, hbb, hd5, ho5, b5⟩
  case round =>
    clear hbb hd5 ho5 b5
    obtain ⟨k, hk, rfl, ⟨C, hC, hbb⟩, hdr, hor, hbr⟩ := hrel
    by_cases hlt : k < 256
    · have hc : wr.cell? ⟨B, k, none⟩ = some (C[k]'(by omega)) := by rw [cell_of_row _ _ _ _ _ _ hbb]; simp [hC, hlt]
      have hz := frozen_of_row wr B k _ _ hbb
      have HN : Hid (∀ u, (∃ C : Array Value, C.size = 256 ∧ (wr.setCell ⟨B, k, none⟩ u).heap[B]? = some (.cells C 5 (0, 0))) ∧ Drum (wr.setCell ⟨B, k, none⟩ u) X5 q 8 S ∧ Drum (wr.setCell ⟨B, k, none⟩ u) Y r 8 (mkS Z [] 0 false 0 0) ∧ Below w.heap.size w (wr.setCell ⟨B, k, none⟩ u)) := fun u =>
        ⟨⟨_, by simpa using hC, heap_setCell_same _ _ _ _ _ _ hbb⟩, hdr.on (step_set wr B k u) (fun j hj e => hn5 (e ▸ hj)), hor.on (step_set wr B k u) (fun j hj e => hny (e ▸ hj)), hbr.setCell hb35 u⟩
      clear hbb hdr hor hbr
      go_wp2
      go_roundw
      case rel => exact ⟨k + 1, by omega, by go_num, HN.out _⟩
      case measure => simp [RowKit.intOf]; omega
    · clear hbb hC
      have N17 := read0 wr X5 q 8 S a ha hS1.out hdr
      rw [hS2.out] at N17
      go_wp2_with (go_at_call 17; refine N17.mono ?_; rintro e w7 ⟨rfl, hp7⟩)
      have hd7 := hdr.below hp7.below
      have ho7 := hor.below hp7.below
      have b7 := hbr.trans (hp7.below.mono hbr.size)
      have hbx := hp7.block
      have hnx : ¬ X5 wr.heap.size := fun hx => absurd (Raw.lt' hdr _ hx) (Nat.lt_irrefl _)
      have hny : ¬ Y wr.heap.size := fun hx => absurd (Raw.lt' hor _ hx) (Nat.lt_irrefl _)
      have hltx : wr.heap.size < w7.heap.size := by rw [hp7.eq]; simp
      have hbx0 : w.heap.size ≤ wr.heap.size := hbr.size
      generalize wr.heap.size = B2 at *
      clear N17 hdr hor hbr hp7
      have N26 := full_cmpD w7 c B2 256 256 (fullB c) (fullB_length c) (range_of_block hbx)
      have hcv : (convert 37 9 (.slice (some ⟨B2, 0, none⟩) 256 256)).run Try.prog w7.drew = .ok (.string ⟨(fullB c).toArray⟩) w7.drew := conv37 (fullB_length c) (range_of_block hbx)
      have HB : Hid (w7.heap[B2]? = some (.cells (byteCells (fullB c)).toArray 60 (0, 0))) := hbx
      have HD7 : Hid (Drum w7 X5 q 8 S) := hd7
      have HO7 : Hid (Drum w7 Y r 8 (mkS Z [] 0 false 0 0)) := ho7
      have HB7 : Hid (Below w.heap.size w w7) := b7
      clear hbx hd7 ho7 b7
      go_cut [58] (fun s w' => s = .bool false ∧ Hid (Below w7.heap.size w7 w'))
      case first =>
        have ex : ∃ T : ByteArray, T = ⟨(fullB c).toArray⟩ := ⟨_, rfl⟩
        obtain ⟨T, hT⟩ := ex
        rw [← hT] at N26 hcv
        clear hT
        go_region_with (first | (go_at_call 26; refine N26.mono ?_; rintro e w8 ⟨rfl, g1, g2, g3⟩))
        all_goals go_wp2_with fail
        all_goals go_meet
        all_goals exact ⟨rfl, g3⟩
      case rest =>
        obtain ⟨rfl, hb8⟩ := hcut
        clear N26 hcv
        have hbx : ∃ C : Array Value, C.size = 256 ∧ wc.heap[B2]? = some (.cells C 60 (0, 0)) := ⟨_, by simp [byteCells_length, fullB_length], (hb8.out.block _ hltx).trans HB.out⟩
        have hd8 := HD7.out.below hb8.out
        have ho8 := HO7.out.below hb8.out
        have b8 := HB7.out.trans (hb8.out.mono HB7.out.size)
        clear hb8 HD7 HO7 HB7 HB hltx
        go_wp2_with fail
        go_loopw [61] (fun i wr => ∃ k : Nat, k ≤ 256 ∧ i = .int .i64 k ∧ (∃ C : Array Value, C.size = 256 ∧ wr.heap[B2]? = some (.cells C 60 (0, 0))) ∧ Drum wr X5 q 8 S ∧ Drum wr Y r 8 (mkS Z [] 0 false 0 0) ∧ Below w.heap.size w wr) (fun i _ => 256 - (RowKit.intOf i).toNat)
        case atStart => exact ⟨0, by omega, rfl, hbx, hd8, ho8, b8⟩
        case round =>
          clear hbx hd8 ho8 b8
          obtain ⟨k, hk, rfl, ⟨C, hC, hbb⟩, hdr, hor, hbr⟩ := hrel
          by_cases hlt : k < 256
          · have hc : wr.cell? ⟨B2, k, none⟩ = some (C[k]'(by omega)) := by rw [cell_of_row _ _ _ _ _ _ hbb]; simp [hC, hlt]
            have hz := frozen_of_row wr B2 k _ _ hbb
            have HN : Hid (∀ u, (∃ C : Array Value, C.size = 256 ∧ (wr.setCell ⟨B2, k, none⟩ u).heap[B2]? = some (.cells C 60 (0, 0))) ∧ Drum (wr.setCell ⟨B2, k, none⟩ u) X5 q 8 S ∧ Drum (wr.setCell ⟨B2, k, none⟩ u) Y r 8 (mkS Z [] 0 false 0 0) ∧ Below w.heap.size w (wr.setCell ⟨B2, k, none⟩ u)) := fun u =>
              ⟨⟨_, by simpa using hC, heap_setCell_same _ _ _ _ _ _ hbb⟩, hdr.on (step_set wr B2 k u) (fun j hj e => hnx (e ▸ hj)), hor.on (step_set wr B2 k u) (fun j hj e => hny (e ▸ hj)), hbr.setCell hbx0 u⟩
            clear hbb hdr hor hbr
            go_wp2
            go_roundw
            case rel => exact ⟨k + 1, by omega, by go_num, HN.out _⟩
            case measure => simp [RowKit.intOf]; omega
          · clear hbb hC
            have N17 := read0 wr X5 q 8 S a ha hS1.out hdr
            rw [hS2.out] at N17
            go_wp2_with fail
            refine N17.mono ?_
            rintro e w9 ⟨rfl, hp9⟩
            clear N17
            have N17 := read0 w9 Y r 8 _ a ha rfl (hor.below hp9.below)
            go_wp2_with fail
            refine N17.mono ?_
            rintro e w10 ⟨rfl, hp10⟩
            have b10 := (hbr.trans (hp9.below.mono hbr.size)).trans (hp10.below.mono (Nat.le_trans hbr.size hp9.below.size))
            have ho10 := (hor.below hp9.below).below hp10.below
            have ry : w10.rangeAt wr.heap.size 0 (byteCells (fullB c)) := range_below (range_of_block hp9.block) hp10.below
            have rz : w10.rangeAt w9.heap.size 0 (byteCells (fullB 0)) := by
              have := range_of_block hp10.block
              have e : pageOf (mkS Z [] 0 false 0 0).P a = fullB 0 := HZ.out
              rw [e] at this
              exact this
            generalize wr.heap.size = BY at *
            generalize w9.heap.size = BZ at *
            clear N17 hp9 hp10 hor hdr hbr
            have HY : Hid (∀ w', Hid (Below w10.heap.size w10 w') → (convert 37 9 (.slice (some ⟨BY, 0, none⟩) 256 256)).run Try.prog w' = .ok (.string ⟨(fullB c).toArray⟩) w') := fun w' h => conv37 (fullB_length c) (range_below ry h.out)
            have HZ0 : Hid (∀ w', Hid (Below w10.heap.size w10 w') → (convert 37 9 (.slice (some ⟨BZ, 0, none⟩) 256 256)).run Try.prog w' = .ok (.string ⟨(fullB 0).toArray⟩) w') := fun w' h => conv37 (fullB_length 0) (range_below rz h.out)
            have NC : Calls Try.prog 26 #[.int .u8 (c.toNat : Int)] w10.drew fun e w' => e = .returned (.slice (some ⟨w10.heap.size, 0, none⟩) 256 256) ∧ (convert 37 9 (.slice (some ⟨BY, 0, none⟩) 256 256)).run Try.prog w' = .ok (.string ⟨(fullB c).toArray⟩) w' ∧ (convert 37 9 (.slice (some ⟨BZ, 0, none⟩) 256 256)).run Try.prog w' = .ok (.string ⟨(fullB 0).toArray⟩) w' ∧ (convert 37 9 (.slice (some ⟨w10.heap.size, 0, none⟩) 256 256)).run Try.prog w' = .ok (.string ⟨(fullB c).toArray⟩) w' ∧ Hid (Below w10.heap.size w10 w') := by
              refine (full_d w10.drew c).mono ?_
              rintro e w' ⟨rfl, hf⟩
              have hb := Below.undrew hf.below
              exact ⟨rfl, HY.out w' hb, HZ0.out w' hb, conv37 (fullB_length c) (range_of_block hf.block), hb⟩
            have N0 : Hid (∀ w1, Hid (Below w10.heap.size w10 w1) → Calls Try.prog 26 #[.int .u8 0] w1 fun e w' => e = .returned (.slice (some ⟨w1.heap.size, 0, none⟩) 256 256) ∧ (convert 37 9 (.slice (some ⟨BY, 0, none⟩) 256 256)).run Try.prog w' = .ok (.string ⟨(fullB c).toArray⟩) w' ∧ (convert 37 9 (.slice (some ⟨BZ, 0, none⟩) 256 256)).run Try.prog w' = .ok (.string ⟨(fullB 0).toArray⟩) w' ∧ (convert 37 9 (.slice (some ⟨w1.heap.size, 0, none⟩) 256 256)).run Try.prog w' = .ok (.string ⟨(fullB 0).toArray⟩) w' ∧ Hid (Below w10.heap.size w10 w')) := by
              intro w1 h1
              refine (full_d w1 0).mono ?_
              rintro e w' ⟨rfl, hf⟩
              have hb : Below w10.heap.size w10 w' := h1.out.trans (hf.below.mono h1.out.size)
              exact ⟨rfl, HY.out w' hb, HZ0.out w' hb, conv37 (fullB_length 0) (range_of_block hf.block), hb⟩
            have N24 : Hid (∀ w1, Hid (Below w10.heap.size w10 w1) → Calls Try.prog 24 #[.pointer (some ⟨r, 0, none⟩)] w1 fun e w' => e = .returned (.int .i64 0) ∧ w' = w1) := fun w1 h1 => ops_any w1 Y r 8 _ (ho10.below h1.out)
            have hy0 := HY.out w10.drew (Below.refl _ w10).drew
            have hz0 := HZ0.out w10.drew (Below.refl _ w10).drew
            have B10 : Hid (Below w.heap.size w w10) := b10
            clear HY HZ0 ry rz b10 ho10
            have ex : ∃ T : ByteArray, T = ⟨(fullB c).toArray⟩ := ⟨_, rfl⟩
            obtain ⟨T, hT⟩ := ex
            have ex : ∃ U : ByteArray, U = ⟨(fullB 0).toArray⟩ := ⟨_, rfl⟩
            obtain ⟨U, hU⟩ := ex
            rw [← hT] at NC hy0 N0
            rw [← hU] at NC N0 hz0
            clear hT hU
            go_wp2_with fail
            refine wp_region_noPanic ?_
            go_region_held (fun w' => (convert 37 9 (.slice (some ⟨BY, 0, none⟩) 256 256)).run Try.prog w' = .ok (.string T) w' ∧ (convert 37 9 (.slice (some ⟨BZ, 0, none⟩) 256 256)).run Try.prog w' = .ok (.string U) w') (constructor <;> assumption) (first | (go_at_call 26; with_reducible refine NC.mono ?_; rintro e w11 ⟨rfl, g1, g2, g3, g4⟩) | (go_at_call 26; with_reducible refine (N0.out _ (by assumption)).mono ?_; rintro e w12 ⟨rfl, g5, g6, g7, g8⟩) | (go_at_call 24; refine (N24.out _ (by assumption)).mono ?_; rintro e w13 ⟨rfl, rfl⟩))
            all_goals refine NoPanic.normal ?_
            go_wp2_with fail
            go_ret
            exact ⟨rfl, B10.out.trans (g8.out.mono B10.out.size)⟩
theorem keeps_byte (w : World) (z i : Int) (h0 : 0 ≤ z) (h1 : z < 256) : Calls Try.prog 6 #[.int .u8 z, .int .i64 i] w fun e w' => e = .returned (.bool true) ∧ Below w.heap.size w w' := by
  have := keeps_any w (UInt8.ofNat z.toNat) i
  have e : ((UInt8.ofNat z.toNat).toNat : Int) = z := by rw [UInt8.toNat_ofNat']; omega
  rw [e] at this
  exact this
end Go.Proofs.Ytgbgeoplbmjcbaa
