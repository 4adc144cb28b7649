/- DrumLast answers true at every input. -/
import Derived.Test.YtgbgeoplbmjcbaaKeepsWalk
import Derived.Laws.BitsAllLaws
import Derived.Laws.BitsLemmas
namespace Go.Proofs.Ytgbgeoplbmjcbaa
open Go.RowKit Go.Lib
attribute [local go_sem ↓] Go.wp_at_zero Go.wp_at_succ

theorem and7 (x : Int) : ∃ a : Nat, a < 8 ∧ bits .and .i64 x 7 = (a : Int) := by
  have h : (BitVec.ofInt 64 x &&& BitVec.ofInt 64 7).toNat ≤ 7 := by
    rw [BitVec.toNat_and]
    exact Nat.and_le_right
  refine ⟨(BitVec.ofInt 64 x &&& BitVec.ofInt 64 7).toNat, by omega, ?_⟩
  show IntKind.i64.wrap ((BitVec.ofInt 64 x &&& BitVec.ofInt 64 7).toNat : Int) = _
  generalize (BitVec.ofInt 64 x &&& BitVec.ofInt 64 7).toNat = t at *
  rw [IntKind.wrap_i64]
  omega
theorem wrap8 (x : Int) : ∃ c : UInt8, IntKind.u8.wrap x = (c.toNat : Int) := by
  refine ⟨UInt8.ofNat (x % 256).toNat, ?_⟩
  rw [UInt8.toNat_ofNat', IntKind.wrap_u8']
  omega

/-- A slice of pairs of ints that came in. -/
def RdW (w : World) (v : Value) (n : Nat) : Prop := ∃ (a : Option Addr) (c : Nat), v = .slice a n c ∧ ∀ k, k < n → ∃ (b o : Nat) (x y : Int), a = some ⟨b, o, none⟩ ∧ w.cell? ⟨b, o + k * 2, none⟩ = some (.int .i64 x) ∧ w.cell? ⟨b, o + k * 2 + 1, none⟩ = some (.int .i64 y)

/-- A drum on which nothing is armed, and what its pages are. -/
def LastInv (k : Nat) (S : DS) (l : List UInt8) : Prop := S.down = false ∧ S.armed = 0 ∧ S.W.length ≤ k ∧ S.ops ≤ 2 * k ∧ l.length = 8 ∧ ∀ j, j < 8 → pageOf S.P j = fullB (l.getD j 0)
theorem last_put (k : Nat) (S : DS) (l : List UInt8) (h : LastInv k S l) (ok : S.Ok 8) (a : Nat) (ha : a < 8) (c : UInt8) :
    (S.put a (fullB c)).oper.2 = 0 ∧ ∃ S', (S.put a (fullB c)).oper.1 = S' ∧ S'.down = false ∧ S'.armed = 0 ∧ S'.W.length ≤ k + 1 ∧ S'.ops ≤ 2 * k + 1 ∧ (l.set a c).length = 8 ∧ ∀ j, j < 8 → pageOf S'.P j = fullB ((l.set a c).getD j 0) := by
  obtain ⟨h1, h2, h3, h4, h5, h6⟩ := h
  have e : (S.put a (fullB c)).oper = ({ S.put a (fullB c) with ops := S.ops + 1 }, 0) := by
    unfold DS.oper
    rw [if_pos (show (S.put a (fullB c)).armed = 0 from h2)]
    rfl
  rw [e]
  refine ⟨rfl, _, rfl, h1, h2, ?_, ?_, by simp [h5], fun j hj => ?_⟩
  · show (S.W ++ [_]).length ≤ _
    rw [List.length_append, List.length_singleton]
    omega
  · show S.ops + 1 ≤ _
    omega
  · show pageOf (splice S.P (a * 256) (fullB c)) j = _
    rw [pageOf_splice _ 8 _ _ _ ok.len ha hj (full_le c)]
    by_cases ej : j = a
    · subst ej
      rw [if_pos rfl, List.drop_eq_nil_of_le (by rw [pageOf_length _ 8 _ ok.len ha, fullB_length]; exact Nat.le_refl _), List.append_nil]
      congr 1
      rw [List.getD_eq_getElem?_getD, List.getElem?_set_self (by omega)]
      rfl
    · rw [if_neg ej, h6 j hj]
      congr 1
      rw [List.getD_eq_getElem?_getD, List.getD_eq_getElem?_getD, List.getElem?_set_ne (Ne.symm ej)]
theorem last_flush (S : DS) (h1 : S.down = false) (h2 : S.armed = 0) : S.flush = ({ S with ops := S.ops + 1, W := [] }, 0) := by
  unfold DS.flush DS.oper
  rw [if_neg (by simp [h1]), if_pos h2]

set_option maxRecDepth 100000 in
set_option maxHeartbeats 4000000 in
theorem last_any (w : World) (v : Value) (m : Nat) (f : Int) (hv : RdW w v m) :
    Calls Try.prog 7 #[v, .int .i64 f] w fun e w' => e = .returned (.bool true) ∧ Below w.heap.size w w' := by
  have N8 := wakes_any w
  obtain ⟨va, vc, rfl, hc⟩ := hv
  have HC : Hid (∀ k, k < m → ∃ (b o : Nat) (x y : Int), va = some ⟨b, o, none⟩ ∧ w.cell? ⟨b, o + k * 2, none⟩ = some (.int .i64 x) ∧ w.cell? ⟨b, o + k * 2 + 1, none⟩ = some (.int .i64 y)) := hc
  clear hc
  by_cases hm : m ≤ 60
  · go_enter Try.func7, Try.ntmps7
    go_wp2_with (go_at_call 8; refine N8.mono ?_; rintro e w1 ⟨rfl, hb1⟩)
    clear N8
    refine (new0 w1 8 (by omega) (by omega)).mono ?_
    rintro e w2 ⟨X2, q, rfl, hd2, hb2, hX2⟩
    have HZ : Hid (∀ j, j < 8 → pageOf (List.replicate (8 * 256) 0) j = fullB 0) := fun j hj => zeros_page 8 j hj
    generalize List.replicate (8 * 256) (0 : UInt8) = Z at *
    go_wp2_with fail
    have hw3 : ∃ w3, w3 = w2.alloc (.cells #[.int .u8 0, .int .u8 0, .int .u8 0, .int .u8 0, .int .u8 0, .int .u8 0, .int .u8 0, .int .u8 0] 52) := ⟨_, rfl⟩
    obtain ⟨w3, hw3⟩ := hw3
    rw [← hw3]
    have hb3 : Below w2.heap.size w2 w3 := by rw [hw3]; exact (Below.refl _ _).alloc (Nat.le_refl _) _
    have hwb : w3.heap[w2.heap.size]? = some (.cells (byteCells (List.replicate 8 0)).toArray 52 (0, 0)) := by rw [hw3]; exact heap_alloc_new w2 _
    have hI : ∃ S l, Drum w3 X2 q 8 S ∧ LastInv 0 S l ∧ w3.heap[w2.heap.size]? = some (.cells (byteCells l).toArray 52 (0, 0)) := by
      refine ⟨_, List.replicate 8 0, hd2.below hb3, ⟨rfl, rfl, Nat.le_refl _, Nat.le_refl _, rfl, fun j hj => ?_⟩, hwb⟩
      have e : (List.replicate 8 (0 : UInt8)).getD j 0 = 0 := by rw [List.getD_eq_getElem?_getD, List.getElem?_replicate, if_pos hj]; rfl
      rw [e]
      exact HZ.out j hj
    have hnx : ¬ X2 w2.heap.size := fun hx => absurd (Raw.lt' hd2 _ hx) (Nat.lt_irrefl _)
    have b3 : Below w.heap.size w w3 := (hb1.trans (hb2.mono hb1.size)).trans (hb3.mono (Nat.le_trans hb1.size hb2.size))
    have hX : ∀ k, X2 k → w.heap.size ≤ k := fun k hk => Nat.le_trans hb1.size (hX2 k hk)
    have hB : w.heap.size ≤ w2.heap.size := Nat.le_trans hb1.size hb2.size
    generalize w2.heap.size = B at *
    clear hw3 hb3 hwb HZ hd2 hb1 hb2 hX2
    go_loopw [21] (fun i wr => ∃ (k : Nat) (X : Nat → Prop) (S : DS) (l : List UInt8), k ≤ m ∧ i = .int .i64 k ∧ Drum wr X q 8 S ∧ LastInv k S l ∧ wr.heap[B]? = some (.cells (byteCells l).toArray 52 (0, 0)) ∧ ¬ X B ∧ (∀ k, X k → w.heap.size ≤ k) ∧ Below w.heap.size w wr) (fun i _ => m - (RowKit.intOf i).toNat)
    case atStart =>
      obtain ⟨S, l, h1, h2, h3⟩ := hI
      exact ⟨0, X2, S, l, Nat.zero_le _, rfl, h1, h2, h3, hnx, hX, b3⟩
    case round =>
      clear hI hnx hX b3
      obtain ⟨k, X, S, l, hk, rfl, hd, hi, hwb, hnx, hX, hb⟩ := hrel
      by_cases hlt : k < m
      · obtain ⟨b, o, x, y, rfl, hcx, hcy⟩ := HC.out k hlt
        have hcx' : wr.cell? ⟨b, o + k * 2, none⟩ = some (.int .i64 x) := by rw [hb.cell (World.block_lt_of_cell? _ _ hcx)]; exact hcx
        have hcy' : wr.cell? ⟨b, o + k * 2 + 1, none⟩ = some (.int .i64 y) := by rw [hb.cell (World.block_lt_of_cell? _ _ hcy)]; exact hcy
        obtain ⟨a, ha, hax⟩ := and7 x
        obtain ⟨c, hcw⟩ := wrap8 y
        clear hcx hcy
        have HD : Hid (Drum wr X q 8 S) := hd
        have HI : Hid (LastInv k S l) := hi
        have HWB : Hid (wr.heap[B]? = some (.cells (byteCells l).toArray 52 (0, 0))) := hwb
        have HX : Hid (∀ k, X k → w.heap.size ≤ k) := hX
        have HB : Hid (Below w.heap.size w wr) := hb
        have HNX : Hid (¬ X B) := hnx
        clear hd hi hwb hX hb hnx
        go_wp2_with fail
        have hw4 : ∃ w4, w4 = wr.alloc (.cells #[.int .i64 x, .int .i64 y] 46) := ⟨_, rfl⟩
        obtain ⟨w4, hw4⟩ := hw4
        rw [← hw4]
        have hb4 : Below wr.heap.size wr w4 := by rw [hw4]; exact (Below.refl _ _).alloc (Nat.le_refl _) _
        have hV4 : w4.heap[wr.heap.size]? = some (.cells #[.int .i64 x, .int .i64 y] 46 (0, 0)) := by rw [hw4]; exact heap_alloc_new wr _
        have hVlt : wr.heap.size < w4.heap.size := by rw [hw4]; simp
        have hVX : ¬ X wr.heap.size := fun hx => absurd (Raw.lt' HD.out _ hx) (Nat.lt_irrefl _)
        have hBlt : B < wr.heap.size := (Array.getElem?_eq_some_iff.1 HWB.out).1
        clear hw4
        refine (full_d w4 c).mono ?_
        rintro e w5 ⟨rfl, hf5⟩
        have N12 := write_full w4 w5 X q 8 S c a ha HI.out.1 (by have := HI.out.2.2.1; omega) (by have := HI.out.2.2.2.1; omega) (HD.out.below hb4) hf5
        obtain ⟨e0, S', eS, hp⟩ := last_put k S l HI.out (by obtain ⟨_, _, _, ok⟩ := HD.out; exact ok) a ha c
        rw [e0, eS] at N12
        have HP : Hid (S'.down = false ∧ S'.armed = 0 ∧ S'.W.length ≤ k + 1 ∧ S'.ops ≤ 2 * k + 1 ∧ (l.set a c).length = 8 ∧ ∀ j, j < 8 → pageOf S'.P j = fullB ((l.set a c).getD j 0)) := hp
        have hl8 : l.length = 8 := HI.out.2.2.2.2.1
        clear e0 eS hp hf5 HI
        go_wp2_with fail
        refine N12.mono ?_
        rintro e w6 ⟨X', rfl, hd6, hs6⟩
        clear N12
        have hV6 : w6.heap[wr.heap.size]? = some (.cells #[.int .i64 x, .int .i64 y] 46 (0, 0)) := (hs6.block _ hVlt hVX).trans hV4
        have hB6 : w6.heap[B]? = some (.cells (byteCells l).toArray 52 (0, 0)) := (hs6.block _ (Nat.lt_trans hBlt hVlt) HNX.out).trans ((hb4.block _ hBlt).trans HWB.out)
        have hBX : ¬ X' B := fun hx => (hs6.grow _ hx).elim HNX.out (fun h => absurd (Nat.lt_trans hBlt hVlt) (Nat.not_lt.2 h))
        have b6 : Below w.heap.size w w6 := (HB.out.trans (hb4.mono HB.out.size)).trans (hs6.below HX.out (Nat.le_trans HB.out.size hb4.size))
        have hX6 := hs6.above HX.out (Nat.le_trans HB.out.size hb4.size)
        have hcy : w6.cell? ⟨wr.heap.size, 1, none⟩ = some (.int .i64 y) := by rw [cell_of_row _ _ _ _ _ _ hV6]; rfl
        have hcB : w6.cell? ⟨B, a, none⟩ = some (.int .u8 ((l.getD a 0).toNat : Int)) := by rw [cell_of_row _ _ _ _ _ _ hB6]; simp [byteCells, List.getElem?_eq_getElem (show a < l.length by omega)]
        have hfB : w6.frozen? ⟨B, a, none⟩ = false := frozen_of_row _ _ _ _ _ hB6
        have a0 : (0 : Int) ≤ (a : Int) := by omega
        have a8 : (a : Int) < 8 := by omega
        have HW7 : Hid (∀ w7, w7 = w6.setCell ⟨B, a, none⟩ (.int .u8 (c.toNat : Int)) → Drum w7 X' q 8 S' ∧ w7.heap[B]? = some (.cells (byteCells (l.set a c)).toArray 52 (0, 0)) ∧ Below w.heap.size w w7) := by
          rintro w7 rfl
          refine ⟨hd6.on (step_set w6 B a _) (fun j hj e => hBX (e ▸ hj)), ?_, b6.setCell hB _⟩
          rw [heap_setCell_same _ _ _ _ _ _ hB6]
          congr 2
          apply Array.ext'
          simp [byteCells, List.map_set]
        have HBX : Hid (¬ X' B) := hBX
        have HX6 : Hid (∀ k, X' k → w.heap.size ≤ k) := hX6
        clear hd6 hs6 hV6 hB6 b6 hX6 hBX hb4 hV4 hVlt hVX hBlt hcx' hcy' HD HWB HX HB HNX
        generalize wr.heap.size = V at *
        go_upto_region 14 with fail
        have hw7 : ∃ w7, w7 = w6.setCell ⟨B, a, none⟩ (.int .u8 (c.toNat : Int)) := ⟨_, rfl⟩
        obtain ⟨w7, hw7⟩ := hw7
        rw [← hw7]
        obtain ⟨hd7, hB7, b7⟩ := HW7.out w7 hw7
        clear HW7 hw7 hcB hcy hfB
        have N15 := flush_any w7 X' q 8 S' (by have := HP.out.2.2.1; omega) (by have := HP.out.2.2.2.1; omega) hd7
        rw [last_flush S' HP.out.1 HP.out.2.1] at N15
        have HD7 : Hid (Drum w7 X' q 8 S') := hd7
        have HB7 : Hid (w7.heap[B]? = some (.cells (byteCells (l.set a c)).toArray 52 (0, 0))) := hB7
        have HBel : Hid (Below w.heap.size w w7) := b7
        clear hd7 hB7 b7
        go_cut [51] (fun s w' => s = .bool false ∧ Hid (∃ S2, Drum w' X' q 8 S2 ∧ LastInv (k + 1) S2 (l.set a c) ∧ w'.heap[B]? = some (.cells (byteCells (l.set a c)).toArray 52 (0, 0)) ∧ Below w.heap.size w w'))
        case first =>
          by_cases hEq : bits .and .i64 f 3 = bits .and .i64 (k : Int) 3
          · go_wp2_with (go_at_call 15; refine N15.mono ?_; rintro e w8 ⟨rfl, hd8, hs8⟩)
            go_meet
            refine ⟨rfl, _, hd8, ?_, (hs8.block _ (Array.getElem?_eq_some_iff.1 HB7.out).1 HBX.out).trans HB7.out, HBel.out.trans (hs8.below HX6.out HBel.out.size)⟩
            obtain ⟨p1, p2, p3, p4, p5, p6⟩ := HP.out
            exact ⟨p1, p2, Nat.zero_le _, by show S'.ops + 1 ≤ _; omega, p5, p6⟩
          · go_wp2_with fail
            go_meet
            obtain ⟨p1, p2, p3, p4, p5, p6⟩ := HP.out
            exact ⟨rfl, S', HD7.out, ⟨p1, p2, p3, by omega, p5, p6⟩, HB7.out, HBel.out⟩
        case rest =>
          obtain ⟨rfl, hcut⟩ := hcut
          obtain ⟨S2, hd8, hi8, hB8, b8⟩ := hcut.out
          have HD8 : Hid (Drum wc X' q 8 S2) := hd8
          have HI8 : Hid (LastInv (k + 1) S2 (l.set a c)) := hi8
          have HB8 : Hid (wc.heap[B]? = some (.cells (byteCells (l.set a c)).toArray 52 (0, 0))) := hB8
          have HE8 : Hid (Below w.heap.size w wc) := b8
          clear hcut hd8 hi8 hB8 b8 N15 HD7 HB7 HBel HP
          generalize l.set a c = l' at *
          go_wp2_with fail
          go_loopw [10] (fun i wr2 => ∃ j : Nat, j ≤ 8 ∧ i = .int .i64 j ∧ Hid (Below wc.heap.size wc wr2)) (fun i _ => 8 - (RowKit.intOf i).toNat)
          case atStart => exact ⟨0, by omega, rfl, Below.refl _ _⟩
          case round =>
            obtain ⟨j, hj, rfl, hbj⟩ := hrel
            by_cases hlt8 : j < 8
            · have N17 := read0 wr X' q 8 S2 j hlt8 HI8.out.1 (HD8.out.below hbj.out)
              rw [HI8.out.2.2.2.2.2 j hlt8] at N17
              have hl8' : l'.length = 8 := HI8.out.2.2.2.2.1
              have hBr : wr.heap[B]? = some (.cells (byteCells l').toArray 52 (0, 0)) := (hbj.out.block _ (Array.getElem?_eq_some_iff.1 HB8.out).1).trans HB8.out
              go_wp2_with fail
              refine N17.mono ?_
              rintro e w9 ⟨rfl, hp9⟩
              clear N17
              have hB9 : w9.heap[B]? = some (.cells (byteCells l').toArray 52 (0, 0)) := (hp9.below.block _ (Array.getElem?_eq_some_iff.1 hBr).1).trans hBr
              have hc9 : w9.cell? ⟨B, j, none⟩ = some (.int .u8 ((l'.getD j 0).toNat : Int)) := by rw [cell_of_row _ _ _ _ _ _ hB9]; simp [byteCells, List.getElem?_eq_getElem (show j < l'.length by omega)]
              have rb := range_of_block hp9.block
              have HK9 : Hid (Below wc.heap.size wc w9) := hbj.out.trans (hp9.below.mono hbj.out.size)
              generalize wr.heap.size = BY at *
              clear hp9 hBr hbj hB9
              generalize l'.getD j 0 = cj at *
              have HY : Hid (∀ w', Hid (Below w9.heap.size w9 w') → (convert 37 9 (.slice (some ⟨BY, 0, none⟩) 256 256)).run Try.prog w' = .ok (.string ⟨(fullB cj).toArray⟩) w' ∧ w'.cell? ⟨B, j, none⟩ = some (.int .u8 (cj.toNat : Int))) := fun w' h => ⟨conv37 (fullB_length cj) (range_below rb h.out), by rw [h.out.cell (World.block_lt_of_cell? _ _ hc9)]; exact hc9⟩
              have NC : Calls Try.prog 26 #[.int .u8 (cj.toNat : Int)] w9.drew fun e w' => e = .returned (.slice (some ⟨w9.heap.size, 0, none⟩) 256 256) ∧ (convert 37 9 (.slice (some ⟨BY, 0, none⟩) 256 256)).run Try.prog w' = .ok (.string ⟨(fullB cj).toArray⟩) w' ∧ w'.cell? ⟨B, j, none⟩ = some (.int .u8 (cj.toNat : Int)) ∧ (convert 37 9 (.slice (some ⟨w9.heap.size, 0, none⟩) 256 256)).run Try.prog w' = .ok (.string ⟨(fullB cj).toArray⟩) w' ∧ Hid (Below w9.heap.size w9 w') := by
                refine (full_d w9.drew cj).mono ?_
                rintro e w' ⟨rfl, hf⟩
                have hb := Below.undrew hf.below
                exact ⟨rfl, (HY.out w' hb).1, (HY.out w' hb).2, conv37 (fullB_length cj) (range_of_block hf.block), hb⟩
              obtain ⟨hy0, hc0⟩ := HY.out w9.drew (Below.refl _ w9).drew
              have j0 : (0 : Int) ≤ (j : Int) := by omega
              have j8 : (j : Int) < 8 := by omega
              clear HY rb hc9
              have ex : ∃ T : ByteArray, T = ⟨(fullB cj).toArray⟩ := ⟨_, rfl⟩
              obtain ⟨T, hT⟩ := ex
              rw [← hT] at NC hy0
              clear hT
              go_wp2_with fail
              go_cut [73] (fun s w' => s = .bool false ∧ Hid (Below w9.heap.size w9 w'))
              case first =>
                refine wp_region_noPanic ?_
                go_region_held (fun w' => (convert 37 9 (.slice (some ⟨BY, 0, none⟩) 256 256)).run Try.prog w' = .ok (.string T) w' ∧ w'.cell? ⟨B, j, none⟩ = some (.int .u8 (cj.toNat : Int))) (constructor <;> assumption) (first | (go_at_call 26; with_reducible refine NC.mono ?_; rintro e w11 ⟨rfl, g1, g2, g3, g4⟩))
                all_goals refine NoPanic.normal ?_
                all_goals go_wp2_with fail
                all_goals go_meet
                all_goals exact ⟨rfl, g4⟩
              case rest =>
                obtain ⟨rfl, hb10⟩ := hcut
                clear NC hy0 hc0
                go_wp2_with fail
                go_roundw
                case rel => exact ⟨j + 1, by omega, by go_num, HK9.out.trans (hb10.out.mono HK9.out.size)⟩
                case measure => simp [RowKit.intOf]; omega
            · go_wp2_with fail
              go_roundw
              case rel =>
                exact ⟨k + 1, X', S2, l', hlt, by go_num, HD8.out.below hbj.out, HI8.out, (hbj.out.block _ (Array.getElem?_eq_some_iff.1 HB8.out).1).trans HB8.out, HBX.out, HX6.out, HE8.out.trans (hbj.out.mono HE8.out.size)⟩
              case measure => simp [RowKit.intOf]; omega
      · have N11 := pages_any wr X q 8 S hd
        clear HC
        go_wp2_with (go_at_call 11; refine N11.mono ?_; rintro e w4 ⟨rfl, rfl⟩)
        go_ret
        exact ⟨rfl, hb⟩
  · have hm' : (60 : Int) < (m : Int) := by omega
    go_enter Try.func7, Try.ntmps7
    go_wp2_with (go_at_call 8; refine N8.mono ?_; rintro e w1 ⟨rfl, hb1⟩)
    go_ret
    exact ⟨rfl, hb1⟩
end Go.Proofs.Ytgbgeoplbmjcbaa
