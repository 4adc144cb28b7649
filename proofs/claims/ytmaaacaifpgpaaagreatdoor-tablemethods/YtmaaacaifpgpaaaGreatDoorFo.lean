
/- table.Form. Conditions: those that each row states. -/
import Derived.Test.YtmaaacaifpgpaaaGreatDoorNu
namespace Go.Proofs.YtmaaacaifpgpaaaGreatDoor
open Go.RowKit Go.Lib
set_option maxRecDepth 100000
set_option linter.unusedSimpArgs false

/-- The table of methods: class, number, form. -/
def mL : List (Nat × Nat × List UInt8) := [(10, 10, [111, 111, 84, 83, 83]), (10, 11, [84, 115, 83, 115]), (10, 30, [104, 108, 104]), (10, 31, [104, 108, 104]), (10, 40, [115, 115, 98]), (10, 41, [115]), (10, 50, [104, 115, 104, 104]), (10, 51, []), (20, 10, [115]), (20, 11, [83]), (20, 40, [104, 115, 104, 104]), (20, 41, []), (50, 10, [104, 115, 98, 84]), (50, 11, [115, 108, 108]), (50, 20, [104, 115, 115, 115, 98, 84]), (50, 21, []), (60, 10, [108, 104, 98]), (60, 11, []), (60, 20, [104, 115, 115, 98, 84]), (60, 21, [115]), (60, 40, [104, 115, 115, 98]), (60, 60, [115, 76, 98, 115, 115]), (60, 70, [104, 115, 98]), (60, 71, [76, 98, 115, 115, 108]), (60, 72, [115]), (60, 80, [76, 98]), (60, 90, [76, 98]), (60, 120, [76, 98]), (85, 10, [98]), (85, 11, []), (90, 10, []), (90, 11, []), (90, 20, []), (90, 21, []), (90, 30, []), (90, 31, [])]
theorem mL_len : mL.length = 36 := rfl
def mCells : List (Nat × Nat × List UInt8) → List Value
  | [] => []
  | x :: l => .int .i64 (x.1 : Int) :: .int .i64 (x.2.1 : Int) :: str x.2.2 :: mCells l
/-- The variable that holds the table. -/
structure Mv (w : World) : Prop where
  h : ∃ t fr, w.heap[0]? = some (.cells (mCells mL).toArray t fr)
def formL (a b : Int) : List (Nat × Nat × List UInt8) → List UInt8 × Bool
  | [] => ([], false)
  | x :: l => if (x.1 : Int) = a ∧ (x.2.1 : Int) = b then (x.2.2, true) else formL a b l
theorem Mv.on {w w' : World} (h : Mv w) (hb : Below w.heap.size w w') : Mv w' := by
  obtain ⟨t, fr, h⟩ := h.h
  exact ⟨t, fr, by rw [hb.block _ (Array.getElem?_eq_some_iff.1 h).1]; exact h⟩
def rowV (x : Nat × Nat × List UInt8) : Value := .agg #[.int .i64 (x.1 : Int), .int .i64 (x.2.1 : Int), str x.2.2]
theorem mx0 : ∀ w, (Instr.index 47 (.agg (mCells mL).toArray) (.int .i64 0)).run Tryz.prog w = .ok (rowV (mL[0]'(by decide))) w := by intro w; kernel_rfl
theorem mx1 : ∀ w, (Instr.index 47 (.agg (mCells mL).toArray) (.int .i64 1)).run Tryz.prog w = .ok (rowV (mL[1]'(by decide))) w := by intro w; kernel_rfl
theorem mx2 : ∀ w, (Instr.index 47 (.agg (mCells mL).toArray) (.int .i64 2)).run Tryz.prog w = .ok (rowV (mL[2]'(by decide))) w := by intro w; kernel_rfl
theorem mx3 : ∀ w, (Instr.index 47 (.agg (mCells mL).toArray) (.int .i64 3)).run Tryz.prog w = .ok (rowV (mL[3]'(by decide))) w := by intro w; kernel_rfl
theorem mx4 : ∀ w, (Instr.index 47 (.agg (mCells mL).toArray) (.int .i64 4)).run Tryz.prog w = .ok (rowV (mL[4]'(by decide))) w := by intro w; kernel_rfl
theorem mx5 : ∀ w, (Instr.index 47 (.agg (mCells mL).toArray) (.int .i64 5)).run Tryz.prog w = .ok (rowV (mL[5]'(by decide))) w := by intro w; kernel_rfl
theorem mx6 : ∀ w, (Instr.index 47 (.agg (mCells mL).toArray) (.int .i64 6)).run Tryz.prog w = .ok (rowV (mL[6]'(by decide))) w := by intro w; kernel_rfl
theorem mx7 : ∀ w, (Instr.index 47 (.agg (mCells mL).toArray) (.int .i64 7)).run Tryz.prog w = .ok (rowV (mL[7]'(by decide))) w := by intro w; kernel_rfl
theorem mx8 : ∀ w, (Instr.index 47 (.agg (mCells mL).toArray) (.int .i64 8)).run Tryz.prog w = .ok (rowV (mL[8]'(by decide))) w := by intro w; kernel_rfl
theorem mx9 : ∀ w, (Instr.index 47 (.agg (mCells mL).toArray) (.int .i64 9)).run Tryz.prog w = .ok (rowV (mL[9]'(by decide))) w := by intro w; kernel_rfl
theorem mx10 : ∀ w, (Instr.index 47 (.agg (mCells mL).toArray) (.int .i64 10)).run Tryz.prog w = .ok (rowV (mL[10]'(by decide))) w := by intro w; kernel_rfl
theorem mx11 : ∀ w, (Instr.index 47 (.agg (mCells mL).toArray) (.int .i64 11)).run Tryz.prog w = .ok (rowV (mL[11]'(by decide))) w := by intro w; kernel_rfl
theorem mx12 : ∀ w, (Instr.index 47 (.agg (mCells mL).toArray) (.int .i64 12)).run Tryz.prog w = .ok (rowV (mL[12]'(by decide))) w := by intro w; kernel_rfl
theorem mx13 : ∀ w, (Instr.index 47 (.agg (mCells mL).toArray) (.int .i64 13)).run Tryz.prog w = .ok (rowV (mL[13]'(by decide))) w := by intro w; kernel_rfl
theorem mx14 : ∀ w, (Instr.index 47 (.agg (mCells mL).toArray) (.int .i64 14)).run Tryz.prog w = .ok (rowV (mL[14]'(by decide))) w := by intro w; kernel_rfl
theorem mx15 : ∀ w, (Instr.index 47 (.agg (mCells mL).toArray) (.int .i64 15)).run Tryz.prog w = .ok (rowV (mL[15]'(by decide))) w := by intro w; kernel_rfl
theorem mx16 : ∀ w, (Instr.index 47 (.agg (mCells mL).toArray) (.int .i64 16)).run Tryz.prog w = .ok (rowV (mL[16]'(by decide))) w := by intro w; kernel_rfl
theorem mx17 : ∀ w, (Instr.index 47 (.agg (mCells mL).toArray) (.int .i64 17)).run Tryz.prog w = .ok (rowV (mL[17]'(by decide))) w := by intro w; kernel_rfl
theorem mx18 : ∀ w, (Instr.index 47 (.agg (mCells mL).toArray) (.int .i64 18)).run Tryz.prog w = .ok (rowV (mL[18]'(by decide))) w := by intro w; kernel_rfl
theorem mx19 : ∀ w, (Instr.index 47 (.agg (mCells mL).toArray) (.int .i64 19)).run Tryz.prog w = .ok (rowV (mL[19]'(by decide))) w := by intro w; kernel_rfl
theorem mx20 : ∀ w, (Instr.index 47 (.agg (mCells mL).toArray) (.int .i64 20)).run Tryz.prog w = .ok (rowV (mL[20]'(by decide))) w := by intro w; kernel_rfl
theorem mx21 : ∀ w, (Instr.index 47 (.agg (mCells mL).toArray) (.int .i64 21)).run Tryz.prog w = .ok (rowV (mL[21]'(by decide))) w := by intro w; kernel_rfl
theorem mx22 : ∀ w, (Instr.index 47 (.agg (mCells mL).toArray) (.int .i64 22)).run Tryz.prog w = .ok (rowV (mL[22]'(by decide))) w := by intro w; kernel_rfl
theorem mx23 : ∀ w, (Instr.index 47 (.agg (mCells mL).toArray) (.int .i64 23)).run Tryz.prog w = .ok (rowV (mL[23]'(by decide))) w := by intro w; kernel_rfl
theorem mx24 : ∀ w, (Instr.index 47 (.agg (mCells mL).toArray) (.int .i64 24)).run Tryz.prog w = .ok (rowV (mL[24]'(by decide))) w := by intro w; kernel_rfl
theorem mx25 : ∀ w, (Instr.index 47 (.agg (mCells mL).toArray) (.int .i64 25)).run Tryz.prog w = .ok (rowV (mL[25]'(by decide))) w := by intro w; kernel_rfl
theorem mx26 : ∀ w, (Instr.index 47 (.agg (mCells mL).toArray) (.int .i64 26)).run Tryz.prog w = .ok (rowV (mL[26]'(by decide))) w := by intro w; kernel_rfl
theorem mx27 : ∀ w, (Instr.index 47 (.agg (mCells mL).toArray) (.int .i64 27)).run Tryz.prog w = .ok (rowV (mL[27]'(by decide))) w := by intro w; kernel_rfl
theorem mx28 : ∀ w, (Instr.index 47 (.agg (mCells mL).toArray) (.int .i64 28)).run Tryz.prog w = .ok (rowV (mL[28]'(by decide))) w := by intro w; kernel_rfl
theorem mx29 : ∀ w, (Instr.index 47 (.agg (mCells mL).toArray) (.int .i64 29)).run Tryz.prog w = .ok (rowV (mL[29]'(by decide))) w := by intro w; kernel_rfl
theorem mx30 : ∀ w, (Instr.index 47 (.agg (mCells mL).toArray) (.int .i64 30)).run Tryz.prog w = .ok (rowV (mL[30]'(by decide))) w := by intro w; kernel_rfl
theorem mx31 : ∀ w, (Instr.index 47 (.agg (mCells mL).toArray) (.int .i64 31)).run Tryz.prog w = .ok (rowV (mL[31]'(by decide))) w := by intro w; kernel_rfl
theorem mx32 : ∀ w, (Instr.index 47 (.agg (mCells mL).toArray) (.int .i64 32)).run Tryz.prog w = .ok (rowV (mL[32]'(by decide))) w := by intro w; kernel_rfl
theorem mx33 : ∀ w, (Instr.index 47 (.agg (mCells mL).toArray) (.int .i64 33)).run Tryz.prog w = .ok (rowV (mL[33]'(by decide))) w := by intro w; kernel_rfl
theorem mx34 : ∀ w, (Instr.index 47 (.agg (mCells mL).toArray) (.int .i64 34)).run Tryz.prog w = .ok (rowV (mL[34]'(by decide))) w := by intro w; kernel_rfl
theorem mx35 : ∀ w, (Instr.index 47 (.agg (mCells mL).toArray) (.int .i64 35)).run Tryz.prog w = .ok (rowV (mL[35]'(by decide))) w := by intro w; kernel_rfl
theorem mx (k : Nat) (h : k < 36) (w : World) : (Instr.index 47 (.agg (mCells mL).toArray) (.int .i64 (k : Int))).run Tryz.prog w = .ok (rowV (mL[k]'(by rw [mL_len]; exact h))) w := by
  match k, h with
  | 0, _ => exact mx0 w
  | 1, _ => exact mx1 w
  | 2, _ => exact mx2 w
  | 3, _ => exact mx3 w
  | 4, _ => exact mx4 w
  | 5, _ => exact mx5 w
  | 6, _ => exact mx6 w
  | 7, _ => exact mx7 w
  | 8, _ => exact mx8 w
  | 9, _ => exact mx9 w
  | 10, _ => exact mx10 w
  | 11, _ => exact mx11 w
  | 12, _ => exact mx12 w
  | 13, _ => exact mx13 w
  | 14, _ => exact mx14 w
  | 15, _ => exact mx15 w
  | 16, _ => exact mx16 w
  | 17, _ => exact mx17 w
  | 18, _ => exact mx18 w
  | 19, _ => exact mx19 w
  | 20, _ => exact mx20 w
  | 21, _ => exact mx21 w
  | 22, _ => exact mx22 w
  | 23, _ => exact mx23 w
  | 24, _ => exact mx24 w
  | 25, _ => exact mx25 w
  | 26, _ => exact mx26 w
  | 27, _ => exact mx27 w
  | 28, _ => exact mx28 w
  | 29, _ => exact mx29 w
  | 30, _ => exact mx30 w
  | 31, _ => exact mx31 w
  | 32, _ => exact mx32 w
  | 33, _ => exact mx33 w
  | 34, _ => exact mx34 w
  | 35, _ => exact mx35 w
  | n + 36, h => exact absurd h (by omega)
theorem formL_step (a b : Int) (k : Nat) (h : k < mL.length) : formL a b (mL.drop k) = if (mL[k].1 : Int) = a ∧ (mL[k].2.1 : Int) = b then (mL[k].2.2, true) else formL a b (mL.drop (k + 1)) := by
  rw [List.drop_eq_getElem_cons h]
  rfl
set_option maxHeartbeats 1000000 in
theorem form_any (w : World) (a b : Int) (hv : Mv w) : Calls Tryz.prog 6 #[.int .i64 a, .int .i64 b] w fun e w' => e = .returned (.tuple #[str (formL a b mL).1, .bool (formL a b mL).2]) ∧ Below w.heap.size w w' := by
  obtain ⟨t, fr, hM⟩ := hv.h
  have hsz : (mCells mL).toArray.size = 108 := rfl
  have HX : Hid (∀ (k : Nat) (h : k < 36) (w : World), (Instr.index 47 (.agg (mCells mL).toArray) (.int .i64 (k : Int))).run Tryz.prog w = .ok (rowV (mL[k]'(by rw [mL_len]; exact h))) w) := mx
  have HS : Hid (∀ (k : Nat) (h : k < 36), formL a b (mL.drop k) = if ((mL[k]'(by rw [mL_len]; exact h)).1 : Int) = a ∧ ((mL[k]'(by rw [mL_len]; exact h)).2.1 : Int) = b then ((mL[k]'(by rw [mL_len]; exact h)).2.2, true) else formL a b (mL.drop (k + 1))) := fun k h => formL_step a b k (by rw [mL_len]; exact h)
  generalize (mCells mL).toArray = MC at *
  obtain ⟨R, hR⟩ : ∃ R, formL a b mL = R := ⟨_, rfl⟩
  have HR : Hid (formL a b (mL.drop 0) = R) := by show _ = _; rw [List.drop_zero]; exact hR
  rw [hR]
  have HE : Hid (formL a b (mL.drop 36) = ([], false)) := by show _ = _; rfl
  clear hR hv
  go_enter Tryz.func6, Tryz.ntmps6
  go_wp2_with (refine wpList_load_row rfl 47 (.global 0) rfl 0 rfl t MC fr _ hM Tryz.underlying47 rfl (by rw [hsz]; kernel_rfl) ?_)
  clear hM hsz
  go_wp2_with fail
  go_loopw [9] (fun i wr => ∃ k : Nat, k ≤ 36 ∧ i = .int .i64 k ∧ Below w.heap.size w wr ∧ Hid (formL a b (mL.drop k) = R)) (fun i _ => 36 - (RowKit.intOf i).toNat)
  case atStart => exact ⟨0, by omega, rfl, Below.refl _ _, HR⟩
  case round =>
    obtain ⟨k, hk, rfl, hbr, hf⟩ := hrel
    by_cases hlt : k < 36
    · have hx := HX.out k hlt
      have hs := HS.out k hlt
      rw [hf.out] at hs
      generalize mL[k]'(by rw [mL_len]; exact hlt) = x at *
      obtain ⟨c, d, f⟩ := x
      have hs : Hid (R = if (c : Int) = a ∧ (d : Int) = b then (f, true) else formL a b (mL.drop (k + 1))) := hs
      unfold rowV at hx
      dsimp only at hx
      clear hf
      have hkz : (k : Int) < 36 := by omega
      by_cases hc : (c : Int) = a
      · subst hc
        by_cases hd : (d : Int) = b
        · subst hd
          have hR2 : Hid (R = (f, true)) := by show _ = _; rw [hs.out, if_pos ⟨rfl, rfl⟩]
          go_wp2_with fail
          refine bodyPost_ret (v := .tuple #[str f, .bool true]) (by simp [results, Tryz.results6, go_sem]) rfl ?_
          first
            | exact ⟨rfl, hbr.alloc hbr.size _⟩
            | (rw [hR2.out]; exact ⟨rfl, hbr.alloc hbr.size _⟩)
        · have hf : Hid (formL (c : Int) b (mL.drop (k + 1)) = R) := by show _ = _; rw [hs.out, if_neg (fun h => hd h.2)]
          have hdz : ((d : Int) == b) = false := by simpa using hd
          go_wp2_with fail
          go_roundw
          case rel => exact ⟨k + 1, by omega, by go_num, hbr.alloc hbr.size _, hf⟩
          case measure => simp [RowKit.intOf]; omega
      · have hf : Hid (formL a b (mL.drop (k + 1)) = R) := by show _ = _; rw [hs.out, if_neg (fun h => hc h.1)]
        have hcz : ((c : Int) == a) = false := by simpa using hc
        go_wp2_with fail
        go_roundw
        case rel => exact ⟨k + 1, by omega, by go_num, hbr.alloc hbr.size _, hf⟩
        case measure => simp [RowKit.intOf]; omega
    · obtain rfl : k = 36 := by omega
      have hR2 : Hid (R = ([], false)) := by show _ = _; rw [← hf.out]; exact HE.out
      go_wp2_with fail
      refine bodyPost_ret (v := .tuple #[str [], .bool false]) (by simp [results, Tryz.results6, go_sem]) rfl ?_
      first
        | exact ⟨rfl, hbr⟩
        | (rw [hR2.out]; exact ⟨rfl, hbr⟩)
end Go.Proofs.YtmaaacaifpgpaaaGreatDoor
