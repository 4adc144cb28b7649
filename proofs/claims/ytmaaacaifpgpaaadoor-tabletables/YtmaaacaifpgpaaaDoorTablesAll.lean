/- table.Form. Conditions: those that each row states. table's writer: width, num. Conditions: those that each row states. table's writer: text. Conditions: those that each row states. table's writer: part, where the letter is a number's. Conditions: those that each row states. table.payload of one method. Conditions: those that each row states. table.Encode of one method. Conditions: those that each row states. trivetlaw15.wakes. Conditions: those that each row states. trivetref15.Take. Conditions: those that each row states. trivetlaw15.long. Conditions: those that each row states. trivetlaw15.TableTables. Conditions: those that each row states. How arguments that are properties are opened. What the row's variable gives to the walks. How an argument of bytes is opened. For every slice of properties, every slice of bytes and every text trivetlaw15.TableTables answers true and leaves its arguments as they were, where the listed variable reads as the program's text lays it (tied by the card). -/
import Derived.Test.YtmaaacaifpgpaaaDoorNu
import Derived.Test.YtmaaacaifpgpaaaDoorTi
import Derived.Test.YtmaaacaifpgpaaaDoorTd
import Derived.Test.YtmaaacaifpgpaaaDoorTu
import Derived.Test.YtmaaacaifpgpaaaDoorTp
import Derived.Test.YtmaaacaifpgpaaaDoorRows
import Derived.Deep.Slices
import Derived.ProofKit
import Derived.OpenShut
import Derived.ShutString
import Derived.ChangeOld
import Derived.SizedLaws
import Derived.Lib.LaidU8
import Derived.Lib.LaidTab
import Derived.Lay
import Derived.MakeChecks
import Derived.Test.YtmaaacaifpgpaaaDoorCards
import Derived.Test.YtmaaacaifpgpaaaDoorTie
namespace Go.Proofs.YtmaaacaifpgpaaaDoor
open Go.RowKit Go.Lib
set_option maxRecDepth 100000
set_option linter.unusedSimpArgs false

/-- The table of methods: class, number, form. -/
def mL : List (Nat × Nat × List UInt8) := [(10, 10, [111, 111, 84, 83, 83]), (10, 11, [84, 115, 83, 115]), (10, 30, [104, 108, 104]), (10, 31, [104, 108, 104]), (10, 40, [115, 115, 98]), (10, 41, [115]), (10, 50, [104, 115, 104, 104]), (10, 51, []), (20, 10, [115]), (20, 11, [83]), (20, 40, [104, 115, 104, 104]), (20, 41, []), (50, 10, [104, 115, 98, 84]), (50, 11, [115, 108, 108]), (50, 20, [104, 115, 115, 115, 98, 84]), (50, 21, []), (60, 10, [108, 104, 98]), (60, 11, []), (60, 20, [104, 115, 115, 98, 84]), (60, 21, [115]), (60, 40, [104, 115, 115, 98]), (60, 60, [115, 76, 98, 115, 115]), (60, 70, [104, 115, 98]), (60, 71, [76, 98, 115, 115, 108]), (60, 72, [115]), (60, 80, [76, 98]), (60, 90, [76, 98]), (60, 120, [76, 98]), (85, 10, [98]), (85, 11, []), (90, 10, []), (90, 11, []), (90, 20, []), (90, 21, []), (90, 30, []), (90, 31, [])]
theorem mL_len : mL.length = 36 := rfl
def mCells : List (Nat × Nat × List UInt8) → List Value
  | [] => []
  | x :: l => .int .i64 (x.1 : Int) :: .int .i64 (x.2.1 : Int) :: str x.2.2 :: mCells l
/-- The variable that holds the table. -/
structure Mv (w : World) : Prop where
  h : ∃ t fr, w.heap[1]? = some (.cells (mCells mL).toArray t fr)
def formL (a b : Int) : List (Nat × Nat × List UInt8) → List UInt8 × Bool
  | [] => ([], false)
  | x :: l => if (x.1 : Int) = a ∧ (x.2.1 : Int) = b then (x.2.2, true) else formL a b l
theorem Mv.on {w w' : World} (h : Mv w) (hb : Below w.heap.size w w') : Mv w' := by
  obtain ⟨t, fr, h⟩ := h.h
  exact ⟨t, fr, by rw [hb.block _ (Array.getElem?_eq_some_iff.1 h).1]; exact h⟩
def rowV (x : Nat × Nat × List UInt8) : Value := .agg #[.int .i64 (x.1 : Int), .int .i64 (x.2.1 : Int), str x.2.2]
theorem mx0 : ∀ w, (Instr.index 105 (.agg (mCells mL).toArray) (.int .i64 0)).run Tryd.prog w = .ok (rowV (mL[0]'(by decide))) w := by intro w; kernel_rfl
theorem mx1 : ∀ w, (Instr.index 105 (.agg (mCells mL).toArray) (.int .i64 1)).run Tryd.prog w = .ok (rowV (mL[1]'(by decide))) w := by intro w; kernel_rfl
theorem mx2 : ∀ w, (Instr.index 105 (.agg (mCells mL).toArray) (.int .i64 2)).run Tryd.prog w = .ok (rowV (mL[2]'(by decide))) w := by intro w; kernel_rfl
theorem mx3 : ∀ w, (Instr.index 105 (.agg (mCells mL).toArray) (.int .i64 3)).run Tryd.prog w = .ok (rowV (mL[3]'(by decide))) w := by intro w; kernel_rfl
theorem mx4 : ∀ w, (Instr.index 105 (.agg (mCells mL).toArray) (.int .i64 4)).run Tryd.prog w = .ok (rowV (mL[4]'(by decide))) w := by intro w; kernel_rfl
theorem mx5 : ∀ w, (Instr.index 105 (.agg (mCells mL).toArray) (.int .i64 5)).run Tryd.prog w = .ok (rowV (mL[5]'(by decide))) w := by intro w; kernel_rfl
theorem mx6 : ∀ w, (Instr.index 105 (.agg (mCells mL).toArray) (.int .i64 6)).run Tryd.prog w = .ok (rowV (mL[6]'(by decide))) w := by intro w; kernel_rfl
theorem mx7 : ∀ w, (Instr.index 105 (.agg (mCells mL).toArray) (.int .i64 7)).run Tryd.prog w = .ok (rowV (mL[7]'(by decide))) w := by intro w; kernel_rfl
theorem mx8 : ∀ w, (Instr.index 105 (.agg (mCells mL).toArray) (.int .i64 8)).run Tryd.prog w = .ok (rowV (mL[8]'(by decide))) w := by intro w; kernel_rfl
theorem mx9 : ∀ w, (Instr.index 105 (.agg (mCells mL).toArray) (.int .i64 9)).run Tryd.prog w = .ok (rowV (mL[9]'(by decide))) w := by intro w; kernel_rfl
theorem mx10 : ∀ w, (Instr.index 105 (.agg (mCells mL).toArray) (.int .i64 10)).run Tryd.prog w = .ok (rowV (mL[10]'(by decide))) w := by intro w; kernel_rfl
theorem mx11 : ∀ w, (Instr.index 105 (.agg (mCells mL).toArray) (.int .i64 11)).run Tryd.prog w = .ok (rowV (mL[11]'(by decide))) w := by intro w; kernel_rfl
theorem mx12 : ∀ w, (Instr.index 105 (.agg (mCells mL).toArray) (.int .i64 12)).run Tryd.prog w = .ok (rowV (mL[12]'(by decide))) w := by intro w; kernel_rfl
theorem mx13 : ∀ w, (Instr.index 105 (.agg (mCells mL).toArray) (.int .i64 13)).run Tryd.prog w = .ok (rowV (mL[13]'(by decide))) w := by intro w; kernel_rfl
theorem mx14 : ∀ w, (Instr.index 105 (.agg (mCells mL).toArray) (.int .i64 14)).run Tryd.prog w = .ok (rowV (mL[14]'(by decide))) w := by intro w; kernel_rfl
theorem mx15 : ∀ w, (Instr.index 105 (.agg (mCells mL).toArray) (.int .i64 15)).run Tryd.prog w = .ok (rowV (mL[15]'(by decide))) w := by intro w; kernel_rfl
theorem mx16 : ∀ w, (Instr.index 105 (.agg (mCells mL).toArray) (.int .i64 16)).run Tryd.prog w = .ok (rowV (mL[16]'(by decide))) w := by intro w; kernel_rfl
theorem mx17 : ∀ w, (Instr.index 105 (.agg (mCells mL).toArray) (.int .i64 17)).run Tryd.prog w = .ok (rowV (mL[17]'(by decide))) w := by intro w; kernel_rfl
theorem mx18 : ∀ w, (Instr.index 105 (.agg (mCells mL).toArray) (.int .i64 18)).run Tryd.prog w = .ok (rowV (mL[18]'(by decide))) w := by intro w; kernel_rfl
theorem mx19 : ∀ w, (Instr.index 105 (.agg (mCells mL).toArray) (.int .i64 19)).run Tryd.prog w = .ok (rowV (mL[19]'(by decide))) w := by intro w; kernel_rfl
theorem mx20 : ∀ w, (Instr.index 105 (.agg (mCells mL).toArray) (.int .i64 20)).run Tryd.prog w = .ok (rowV (mL[20]'(by decide))) w := by intro w; kernel_rfl
theorem mx21 : ∀ w, (Instr.index 105 (.agg (mCells mL).toArray) (.int .i64 21)).run Tryd.prog w = .ok (rowV (mL[21]'(by decide))) w := by intro w; kernel_rfl
theorem mx22 : ∀ w, (Instr.index 105 (.agg (mCells mL).toArray) (.int .i64 22)).run Tryd.prog w = .ok (rowV (mL[22]'(by decide))) w := by intro w; kernel_rfl
theorem mx23 : ∀ w, (Instr.index 105 (.agg (mCells mL).toArray) (.int .i64 23)).run Tryd.prog w = .ok (rowV (mL[23]'(by decide))) w := by intro w; kernel_rfl
theorem mx24 : ∀ w, (Instr.index 105 (.agg (mCells mL).toArray) (.int .i64 24)).run Tryd.prog w = .ok (rowV (mL[24]'(by decide))) w := by intro w; kernel_rfl
theorem mx25 : ∀ w, (Instr.index 105 (.agg (mCells mL).toArray) (.int .i64 25)).run Tryd.prog w = .ok (rowV (mL[25]'(by decide))) w := by intro w; kernel_rfl
theorem mx26 : ∀ w, (Instr.index 105 (.agg (mCells mL).toArray) (.int .i64 26)).run Tryd.prog w = .ok (rowV (mL[26]'(by decide))) w := by intro w; kernel_rfl
theorem mx27 : ∀ w, (Instr.index 105 (.agg (mCells mL).toArray) (.int .i64 27)).run Tryd.prog w = .ok (rowV (mL[27]'(by decide))) w := by intro w; kernel_rfl
theorem mx28 : ∀ w, (Instr.index 105 (.agg (mCells mL).toArray) (.int .i64 28)).run Tryd.prog w = .ok (rowV (mL[28]'(by decide))) w := by intro w; kernel_rfl
theorem mx29 : ∀ w, (Instr.index 105 (.agg (mCells mL).toArray) (.int .i64 29)).run Tryd.prog w = .ok (rowV (mL[29]'(by decide))) w := by intro w; kernel_rfl
theorem mx30 : ∀ w, (Instr.index 105 (.agg (mCells mL).toArray) (.int .i64 30)).run Tryd.prog w = .ok (rowV (mL[30]'(by decide))) w := by intro w; kernel_rfl
theorem mx31 : ∀ w, (Instr.index 105 (.agg (mCells mL).toArray) (.int .i64 31)).run Tryd.prog w = .ok (rowV (mL[31]'(by decide))) w := by intro w; kernel_rfl
theorem mx32 : ∀ w, (Instr.index 105 (.agg (mCells mL).toArray) (.int .i64 32)).run Tryd.prog w = .ok (rowV (mL[32]'(by decide))) w := by intro w; kernel_rfl
theorem mx33 : ∀ w, (Instr.index 105 (.agg (mCells mL).toArray) (.int .i64 33)).run Tryd.prog w = .ok (rowV (mL[33]'(by decide))) w := by intro w; kernel_rfl
theorem mx34 : ∀ w, (Instr.index 105 (.agg (mCells mL).toArray) (.int .i64 34)).run Tryd.prog w = .ok (rowV (mL[34]'(by decide))) w := by intro w; kernel_rfl
theorem mx35 : ∀ w, (Instr.index 105 (.agg (mCells mL).toArray) (.int .i64 35)).run Tryd.prog w = .ok (rowV (mL[35]'(by decide))) w := by intro w; kernel_rfl
theorem mx (k : Nat) (h : k < 36) (w : World) : (Instr.index 105 (.agg (mCells mL).toArray) (.int .i64 (k : Int))).run Tryd.prog w = .ok (rowV (mL[k]'(by rw [mL_len]; exact h))) w := by
  match k, h with
  | 0, _ => exact mx0 w
  | 1, _ => exact mx1 w
  | 2, _ => exact mx2 w
  | 3, _ => exact mx3 w
  | 4, _ => exact mx4 w
  | 5, _ => exact mx5 w
  | 6, _ => exact mx6 w
  | 7, _ => exact mx7 w
  | 8, _ => exact mx8 w
  | 9, _ => exact mx9 w
  | 10, _ => exact mx10 w
  | 11, _ => exact mx11 w
  | 12, _ => exact mx12 w
  | 13, _ => exact mx13 w
  | 14, _ => exact mx14 w
  | 15, _ => exact mx15 w
  | 16, _ => exact mx16 w
  | 17, _ => exact mx17 w
  | 18, _ => exact mx18 w
  | 19, _ => exact mx19 w
  | 20, _ => exact mx20 w
  | 21, _ => exact mx21 w
  | 22, _ => exact mx22 w
  | 23, _ => exact mx23 w
  | 24, _ => exact mx24 w
  | 25, _ => exact mx25 w
  | 26, _ => exact mx26 w
  | 27, _ => exact mx27 w
  | 28, _ => exact mx28 w
  | 29, _ => exact mx29 w
  | 30, _ => exact mx30 w
  | 31, _ => exact mx31 w
  | 32, _ => exact mx32 w
  | 33, _ => exact mx33 w
  | 34, _ => exact mx34 w
  | 35, _ => exact mx35 w
  | n + 36, h => exact absurd h (by omega)
theorem formL_step (a b : Int) (k : Nat) (h : k < mL.length) : formL a b (mL.drop k) = if (mL[k].1 : Int) = a ∧ (mL[k].2.1 : Int) = b then (mL[k].2.2, true) else formL a b (mL.drop (k + 1)) := by
  rw [List.drop_eq_getElem_cons h]
  rfl
set_option maxHeartbeats 1000000 in
theorem form_any (w : World) (a b : Int) (hv : Mv w) : Calls Tryd.prog 59 #[.int .i64 a, .int .i64 b] w fun e w' => e = .returned (.tuple #[str (formL a b mL).1, .bool (formL a b mL).2]) ∧ Below w.heap.size w w' := by
  obtain ⟨t, fr, hM⟩ := hv.h
  have hsz : (mCells mL).toArray.size = 108 := rfl
  have HX : Hid (∀ (k : Nat) (h : k < 36) (w : World), (Instr.index 105 (.agg (mCells mL).toArray) (.int .i64 (k : Int))).run Tryd.prog w = .ok (rowV (mL[k]'(by rw [mL_len]; exact h))) w) := mx
  have HS : Hid (∀ (k : Nat) (h : k < 36), formL a b (mL.drop k) = if ((mL[k]'(by rw [mL_len]; exact h)).1 : Int) = a ∧ ((mL[k]'(by rw [mL_len]; exact h)).2.1 : Int) = b then ((mL[k]'(by rw [mL_len]; exact h)).2.2, true) else formL a b (mL.drop (k + 1))) := fun k h => formL_step a b k (by rw [mL_len]; exact h)
  generalize (mCells mL).toArray = MC at *
  obtain ⟨R, hR⟩ : ∃ R, formL a b mL = R := ⟨_, rfl⟩
  have HR : Hid (formL a b (mL.drop 0) = R) := by show _ = _; rw [List.drop_zero]; exact hR
  rw [hR]
  have HE : Hid (formL a b (mL.drop 36) = ([], false)) := by show _ = _; rfl
  clear hR hv
  go_enter Tryd.func59, Tryd.ntmps59
  go_wp2_with (refine wpList_load_row rfl 105 (.global 1) rfl 1 rfl t MC fr _ hM Tryd.underlying105 rfl (by rw [hsz]; kernel_rfl) ?_)
  clear hM hsz
  go_wp2_with fail
  go_loopw [9] (fun i wr => ∃ k : Nat, k ≤ 36 ∧ i = .int .i64 k ∧ Below w.heap.size w wr ∧ Hid (formL a b (mL.drop k) = R)) (fun i _ => 36 - (RowKit.intOf i).toNat)
  case atStart => exact ⟨0, by omega, rfl, Below.refl _ _, HR⟩
  case round =>
    obtain ⟨k, hk, rfl, hbr, hf⟩ := hrel
    by_cases hlt : k < 36
    · have hx := HX.out k hlt
      have hs := HS.out k hlt
      rw [hf.out] at hs
      generalize mL[k]'(by rw [mL_len]; exact hlt) = x at *
      obtain ⟨c, d, f⟩ := x
      have hs : Hid (R = if (c : Int) = a ∧ (d : Int) = b then (f, true) else formL a b (mL.drop (k + 1))) := hs
      unfold rowV at hx
      dsimp only at hx
      clear hf
      have hkz : (k : Int) < 36 := by omega
      by_cases hc : (c : Int) = a
      · subst hc
        by_cases hd : (d : Int) = b
        · subst hd
          have hR2 : Hid (R = (f, true)) := by show _ = _; rw [hs.out, if_pos ⟨rfl, rfl⟩]
          go_wp2_with fail
          refine bodyPost_ret (v := .tuple #[str f, .bool true]) (by simp [results, Tryd.results59, go_sem]) rfl ?_
          first
            | exact ⟨rfl, hbr.alloc hbr.size _⟩
            | (rw [hR2.out]; exact ⟨rfl, hbr.alloc hbr.size _⟩)
        · have hf : Hid (formL (c : Int) b (mL.drop (k + 1)) = R) := by show _ = _; rw [hs.out, if_neg (fun h => hd h.2)]
          have hdz : ((d : Int) == b) = false := by simpa using hd
          go_wp2_with fail
          go_roundw
          case rel => exact ⟨k + 1, by omega, by go_num, hbr.alloc hbr.size _, hf⟩
          case measure => simp [RowKit.intOf]; omega
      · have hf : Hid (formL a b (mL.drop (k + 1)) = R) := by show _ = _; rw [hs.out, if_neg (fun h => hc h.1)]
        have hcz : ((c : Int) == a) = false := by simpa using hc
        go_wp2_with fail
        go_roundw
        case rel => exact ⟨k + 1, by omega, by go_num, hbr.alloc hbr.size _, hf⟩
        case measure => simp [RowKit.intOf]; omega
    · obtain rfl : k = 36 := by omega
      have hR2 : Hid (R = ([], false)) := by show _ = _; rw [← hf.out]; exact HE.out
      go_wp2_with fail
      refine bodyPost_ret (v := .tuple #[str [], .bool false]) (by simp [results, Tryd.results59, go_sem]) rfl ?_
      first
        | exact ⟨rfl, hbr⟩
        | (rw [hR2.out]; exact ⟨rfl, hbr⟩)
end Go.Proofs.YtmaaacaifpgpaaaDoor

namespace Go.Proofs.YtmaaacaifpgpaaaDoor
open Go.RowKit Go.Lib
set_option maxRecDepth 100000
set_option linter.unusedSimpArgs false

/-- Of how many bytes a letter's number is. -/
def wid (c : Nat) : Nat := if c = 104 then 2 else if c = 108 then 4 else if c = 76 then 8 else 1
theorem width_any (w : World) (c : Nat) : Calls Tryd.prog 79 #[.int .u8 (c : Int)] w fun e w' => e = .returned (.int .i64 (wid c : Nat)) ∧ w' = w := by
  by_cases h1 : c = 104
  · subst h1
    go_enter Tryd.func79, Tryd.ntmps79
    go_wp2
    go_ret
    exact ⟨rfl, rfl⟩
  by_cases h2 : c = 108
  · subst h2
    go_enter Tryd.func79, Tryd.ntmps79
    go_wp2
    go_ret
    exact ⟨rfl, rfl⟩
  by_cases h3 : c = 76
  · subst h3
    go_enter Tryd.func79, Tryd.ntmps79
    go_wp2
    go_ret
    exact ⟨rfl, rfl⟩
  have e : wid c = 1 := by unfold wid; rw [if_neg h1, if_neg h2, if_neg h3]
  rw [e]
  have b1 : ((c : Int) == 104) = false := by simp; omega
  have b2 : ((c : Int) == 108) = false := by simp; omega
  have b3 : ((c : Int) == 76) = false := by simp; omega
  clear h1 h2 h3 e
  go_enter Tryd.func79, Tryd.ntmps79
  go_wp2
  go_ret
  exact ⟨rfl, rfl⟩

/-- Numbers that can be read, in a block below b. -/
def RdN (w : World) (b : Nat) (v : Value) (l : List Int) : Prop :=
  ((∃ a c, v = .slice a 0 c) ∧ l = []) ∨ ∃ (g o c : Nat), v = .slice (some ⟨g, o, none⟩) l.length c ∧ l.length ≤ c ∧ g < b ∧ ∀ i (h : i < l.length), w.cell? ⟨g, o + i, none⟩ = some (.int .i64 l[i])
theorem RdN.on {w w' : World} {b : Nat} {v : Value} {l : List Int} (h : RdN w b v l) (hb : Below b w w') : RdN w' b v l := by
  rcases h with h | ⟨g, o, c, rfl, hc, hg, hx⟩
  · exact .inl h
  · exact .inr ⟨g, o, c, rfl, hc, hg, fun i hi => by rw [hb.cell hg]; exact hx i hi⟩
/-- Whether a number has room in so many bytes. -/
def fitN (n : Int) (k : Nat) : Bool := decide (0 ≤ n) && decide (n < 256 ^ k)
/-- The writer at its block. -/
abbrev wrA (o n t p : Value) : Array Value := #[o, n, t, p]
set_option maxHeartbeats 1000000 in
theorem wnum_no (w : World) (b k : Nat) (o t p : Value) (ad : Option Addr) (cp : Nat) (hw : Blk w b (wrA o (.slice ad 0 cp) t p) 90) :
    Calls Tryd.prog 80 #[.pointer (some ⟨b, 0, none⟩), .int .i64 (k : Int)] w fun e w' => e = .panicked (gup 1) ∧ w' = w := by
  obtain ⟨g, hg⟩ : ∃ g, gup 1 = g := ⟨_, rfl⟩
  have I := fun w => insist_no w 1
  rw [hg] at I ⊢
  have c1 := hw.cell 1
  simp only [List.getElem?_toArray, List.getElem?_cons_zero, List.getElem?_cons_succ] at c1
  clear hw
  go_enter Tryd.func80, Tryd.ntmps80
  go_wp2_with fail
  refine (I _).mono ?_
  rintro e w' ⟨rfl, rfl⟩
  exact ⟨rfl, rfl, rfl⟩
/-- What num answers of a number that is there. -/
def WnP (w w' : World) (b k : Nat) (o t p : Value) (n : Int) (rest : List Int) (e : Ending) : Prop :=
  w.grownBy w' (some b) ∧ w'.heap.size = w.heap.size ∧ ((fitN n k = true ∧ ∃ v', e = .returned (.int .u64 n) ∧ Blk w' b (wrA o v' t p) 90 ∧ RdN w' b v' rest) ∨ (fitN n k = false ∧ e = .panicked (gup 1)))
theorem rdN_rest {w w' : World} {b g q len cap : Nat} {rest : List Int} (hb : Below b w w') (hg : g < b) (hl : rest.length = len) (hc : len ≤ cap) (hx : ∀ i (h : i < rest.length), w.cell? ⟨g, q + i, none⟩ = some (.int .i64 rest[i])) : RdN w' b (.slice (some ⟨g, q, none⟩) len cap) rest := by
  subst hl
  exact (RdN.on (.inr ⟨g, q, cap, rfl, hc, hg, hx⟩) hb)
set_option maxHeartbeats 2000000 in
theorem wnum_neg (w : World) (b k : Nat) (o t p : Value) (g q cp len : Nat) (n : Int) (rest : List Int) (hw : Blk w b (wrA o (.slice (some ⟨g, q, none⟩) (len + 1) cp) t p) 90) (hn : w.cell? ⟨g, q, none⟩ = some (.int .i64 n)) (hc : len + 1 ≤ cp) (hneg : n < 0) :
    Calls Tryd.prog 80 #[.pointer (some ⟨b, 0, none⟩), .int .i64 (k : Int)] w fun e w' => WnP w w' b k o t p n rest e := by
  have hf : fitN n k = false := by unfold fitN; simp; omega
  obtain ⟨gu, hg⟩ : ∃ gu, gup 1 = gu := ⟨_, rfl⟩
  have I := fun w => insist_no w 1
  unfold WnP
  rw [hg] at I ⊢
  have c1 := hw.cell 1
  simp only [List.getElem?_toArray, List.getElem?_cons_zero, List.getElem?_cons_succ] at c1
  have hnz : ¬ (0 ≤ n) := by omega
  have HF : Hid (fitN n k = false) := hf
  clear hf hneg
  by_cases hcp : cp = 1
  · obtain rfl : len = 0 := by omega
    subst hcp
    go_enter Tryd.func80, Tryd.ntmps80
    go_wp2_with (first | (go_at_call 49; refine (insist_ok _ _).mono ?_; rintro e w' ⟨rfl, rfl⟩) | (refine wpl_set rfl (.tmp 26) (.tmp 24) rfl b 1 _ rfl rfl hw (by kernel_rfl) rfl rfl (by simp) ?_))
    intro W' kW gW sW
    go_wp2_with fail
    refine (I _).mono ?_
    rintro e w' ⟨rfl, rfl⟩
    exact ⟨rfl, gW, sW, .inr ⟨HF.out, rfl⟩⟩
  · have hcp2 : ¬ (cp = 1) := hcp
    go_enter Tryd.func80, Tryd.ntmps80
    go_wp2_with (first | (go_at_call 49; refine (insist_ok _ _).mono ?_; rintro e w' ⟨rfl, rfl⟩) | (refine wpl_set rfl (.tmp 26) (.tmp 24) rfl b 1 _ rfl rfl hw (by kernel_rfl) rfl rfl (by simp) ?_))
    intro W' kW gW sW
    go_wp2_with fail
    refine (I _).mono ?_
    rintro e w' ⟨rfl, rfl⟩
    exact ⟨rfl, gW, sW, .inr ⟨HF.out, rfl⟩⟩
theorem fitT_1 {m : Nat} (h : ((m : Int) / 256 == 0) = true) : fitN (m : Int) 1 = true := by
  have h1 : (m : Int) / 256 = 0 := by simpa using h
  unfold fitN
  have h2 : (m : Int) < 256 := by omega
  have e : ((256 : Int) ^ 1) = 256 := by decide
  rw [e]; simp; omega
theorem fitF_1 {m : Nat} (h : ((m : Int) / 256 == 0) = false) : fitN (m : Int) 1 = false := by
  have h1 : ¬ ((m : Int) / 256 = 0) := by simpa using h
  unfold fitN
  have e : ((256 : Int) ^ 1) = 256 := by decide
  rw [e]; simp; omega
set_option maxHeartbeats 2000000 in
theorem wnum_1 (w : World) (b : Nat) (o t p : Value) (g q cp len m : Nat) (rest : List Int) (hw : Blk w b (wrA o (.slice (some ⟨g, q, none⟩) (len + 1) cp) t p) 90) (hn : w.cell? ⟨g, q, none⟩ = some (.int .i64 (m : Int))) (hc : len + 1 ≤ cp) (hlt : m < 9223372036854775808) (hl : rest.length = len) (hgb : g < b) (hx : ∀ i (h : i < rest.length), w.cell? ⟨g, q + 1 + i, none⟩ = some (.int .i64 rest[i])) :
    Calls Tryd.prog 80 #[.pointer (some ⟨b, 0, none⟩), .int .i64 1] w fun e w' => WnP w w' b 1 o t p m rest e := by
  obtain ⟨gu, hg⟩ : ∃ gu, gup 1 = gu := ⟨_, rfl⟩
  have I := fun w => insist_no w 1
  unfold WnP
  rw [hg] at I ⊢
  have c1 := hw.cell 1
  simp only [List.getElem?_toArray, List.getElem?_cons_zero, List.getElem?_cons_succ] at c1
  have u1 : IntKind.u64.wrap (m : Int) = (m : Int) := by rw [IntKind.wrap_u64]; omega
  have HX : Hid (∀ i (h : i < rest.length), w.cell? ⟨g, q + 1 + i, none⟩ = some (.int .i64 rest[i])) := hx
  have HL : Hid (m < 9223372036854775808) := hlt
  have F0 := @fitF_1 m
  have F1 := @fitT_1 m
  clear hx hlt
  by_cases hcp : cp = 1
  · obtain rfl : len = 0 := by omega
    subst hcp
    go_enter Tryd.func80, Tryd.ntmps80
    go_wp2_with (first | (go_at_call 49; refine (insist_ok _ _).mono ?_; rintro e w' ⟨rfl, rfl⟩) | (refine wpl_set rfl (.tmp 26) (.tmp 24) rfl b 1 _ rfl rfl hw (by kernel_rfl) rfl rfl (by simp) ?_))
    intro W' kW gW sW
    go_wp2_with fail
    cases hd : ((m : Int) / 256 == 0)
    · refine (I _).mono ?_
      rintro e w' ⟨rfl, rfl⟩
      exact ⟨rfl, gW, sW, .inr ⟨F0 hd, rfl⟩⟩
    · refine (insist_ok _ _).mono ?_
      rintro e w' ⟨rfl, rfl⟩
      go_wp2_with fail
      go_ret
      exact ⟨gW, sW, .inl ⟨F1 hd, _, rfl, kW, .inl ⟨⟨_, _, rfl⟩, List.length_eq_zero_iff.mp hl⟩⟩⟩
  · have hcp2 : ¬ (cp = 1) := hcp
    go_enter Tryd.func80, Tryd.ntmps80
    go_wp2_with (first | (go_at_call 49; refine (insist_ok _ _).mono ?_; rintro e w' ⟨rfl, rfl⟩) | (refine wpl_set rfl (.tmp 26) (.tmp 24) rfl b 1 _ rfl rfl hw (by kernel_rfl) rfl rfl (by simp) ?_))
    intro W' kW gW sW
    go_wp2_with fail
    cases hd : ((m : Int) / 256 == 0)
    · refine (I _).mono ?_
      rintro e w' ⟨rfl, rfl⟩
      exact ⟨rfl, gW, sW, .inr ⟨F0 hd, rfl⟩⟩
    · refine (insist_ok _ _).mono ?_
      rintro e w' ⟨rfl, rfl⟩
      go_wp2_with fail
      go_ret
      exact ⟨gW, sW, .inl ⟨F1 hd, _, rfl, kW, rdN_rest ((Below.refl _ _).grown gW (Nat.le_of_lt hw.lt) (fun k hk => by cases hk; exact Nat.le_refl _)) hgb hl (by omega) HX.out⟩⟩
theorem fitT_2 {m : Nat} (h : ((m : Int) / 65536 == 0) = true) : fitN (m : Int) 2 = true := by
  have h1 : (m : Int) / 65536 = 0 := by simpa using h
  unfold fitN
  have h2 : (m : Int) < 65536 := by omega
  have e : ((256 : Int) ^ 2) = 65536 := by decide
  rw [e]; simp; omega
theorem fitF_2 {m : Nat} (h : ((m : Int) / 65536 == 0) = false) : fitN (m : Int) 2 = false := by
  have h1 : ¬ ((m : Int) / 65536 = 0) := by simpa using h
  unfold fitN
  have e : ((256 : Int) ^ 2) = 65536 := by decide
  rw [e]; simp; omega
set_option maxHeartbeats 2000000 in
theorem wnum_2 (w : World) (b : Nat) (o t p : Value) (g q cp len m : Nat) (rest : List Int) (hw : Blk w b (wrA o (.slice (some ⟨g, q, none⟩) (len + 1) cp) t p) 90) (hn : w.cell? ⟨g, q, none⟩ = some (.int .i64 (m : Int))) (hc : len + 1 ≤ cp) (hlt : m < 9223372036854775808) (hl : rest.length = len) (hgb : g < b) (hx : ∀ i (h : i < rest.length), w.cell? ⟨g, q + 1 + i, none⟩ = some (.int .i64 rest[i])) :
    Calls Tryd.prog 80 #[.pointer (some ⟨b, 0, none⟩), .int .i64 2] w fun e w' => WnP w w' b 2 o t p m rest e := by
  obtain ⟨gu, hg⟩ : ∃ gu, gup 1 = gu := ⟨_, rfl⟩
  have I := fun w => insist_no w 1
  unfold WnP
  rw [hg] at I ⊢
  have c1 := hw.cell 1
  simp only [List.getElem?_toArray, List.getElem?_cons_zero, List.getElem?_cons_succ] at c1
  have u1 : IntKind.u64.wrap (m : Int) = (m : Int) := by rw [IntKind.wrap_u64]; omega
  have HX : Hid (∀ i (h : i < rest.length), w.cell? ⟨g, q + 1 + i, none⟩ = some (.int .i64 rest[i])) := hx
  have HL : Hid (m < 9223372036854775808) := hlt
  have F0 := @fitF_2 m
  have F1 := @fitT_2 m
  clear hx hlt
  by_cases hcp : cp = 1
  · obtain rfl : len = 0 := by omega
    subst hcp
    go_enter Tryd.func80, Tryd.ntmps80
    go_wp2_with (first | (go_at_call 49; refine (insist_ok _ _).mono ?_; rintro e w' ⟨rfl, rfl⟩) | (refine wpl_set rfl (.tmp 26) (.tmp 24) rfl b 1 _ rfl rfl hw (by kernel_rfl) rfl rfl (by simp) ?_))
    intro W' kW gW sW
    go_wp2_with fail
    cases hd : ((m : Int) / 65536 == 0)
    · refine (I _).mono ?_
      rintro e w' ⟨rfl, rfl⟩
      exact ⟨rfl, gW, sW, .inr ⟨F0 hd, rfl⟩⟩
    · refine (insist_ok _ _).mono ?_
      rintro e w' ⟨rfl, rfl⟩
      go_wp2_with fail
      go_ret
      exact ⟨gW, sW, .inl ⟨F1 hd, _, rfl, kW, .inl ⟨⟨_, _, rfl⟩, List.length_eq_zero_iff.mp hl⟩⟩⟩
  · have hcp2 : ¬ (cp = 1) := hcp
    go_enter Tryd.func80, Tryd.ntmps80
    go_wp2_with (first | (go_at_call 49; refine (insist_ok _ _).mono ?_; rintro e w' ⟨rfl, rfl⟩) | (refine wpl_set rfl (.tmp 26) (.tmp 24) rfl b 1 _ rfl rfl hw (by kernel_rfl) rfl rfl (by simp) ?_))
    intro W' kW gW sW
    go_wp2_with fail
    cases hd : ((m : Int) / 65536 == 0)
    · refine (I _).mono ?_
      rintro e w' ⟨rfl, rfl⟩
      exact ⟨rfl, gW, sW, .inr ⟨F0 hd, rfl⟩⟩
    · refine (insist_ok _ _).mono ?_
      rintro e w' ⟨rfl, rfl⟩
      go_wp2_with fail
      go_ret
      exact ⟨gW, sW, .inl ⟨F1 hd, _, rfl, kW, rdN_rest ((Below.refl _ _).grown gW (Nat.le_of_lt hw.lt) (fun k hk => by cases hk; exact Nat.le_refl _)) hgb hl (by omega) HX.out⟩⟩
theorem fitT_4 {m : Nat} (h : ((m : Int) / 4294967296 == 0) = true) : fitN (m : Int) 4 = true := by
  have h1 : (m : Int) / 4294967296 = 0 := by simpa using h
  unfold fitN
  have h2 : (m : Int) < 4294967296 := by omega
  have e : ((256 : Int) ^ 4) = 4294967296 := by decide
  rw [e]; simp; omega
theorem fitF_4 {m : Nat} (h : ((m : Int) / 4294967296 == 0) = false) : fitN (m : Int) 4 = false := by
  have h1 : ¬ ((m : Int) / 4294967296 = 0) := by simpa using h
  unfold fitN
  have e : ((256 : Int) ^ 4) = 4294967296 := by decide
  rw [e]; simp; omega
set_option maxHeartbeats 2000000 in
theorem wnum_4 (w : World) (b : Nat) (o t p : Value) (g q cp len m : Nat) (rest : List Int) (hw : Blk w b (wrA o (.slice (some ⟨g, q, none⟩) (len + 1) cp) t p) 90) (hn : w.cell? ⟨g, q, none⟩ = some (.int .i64 (m : Int))) (hc : len + 1 ≤ cp) (hlt : m < 9223372036854775808) (hl : rest.length = len) (hgb : g < b) (hx : ∀ i (h : i < rest.length), w.cell? ⟨g, q + 1 + i, none⟩ = some (.int .i64 rest[i])) :
    Calls Tryd.prog 80 #[.pointer (some ⟨b, 0, none⟩), .int .i64 4] w fun e w' => WnP w w' b 4 o t p m rest e := by
  obtain ⟨gu, hg⟩ : ∃ gu, gup 1 = gu := ⟨_, rfl⟩
  have I := fun w => insist_no w 1
  unfold WnP
  rw [hg] at I ⊢
  have c1 := hw.cell 1
  simp only [List.getElem?_toArray, List.getElem?_cons_zero, List.getElem?_cons_succ] at c1
  have u1 : IntKind.u64.wrap (m : Int) = (m : Int) := by rw [IntKind.wrap_u64]; omega
  have HX : Hid (∀ i (h : i < rest.length), w.cell? ⟨g, q + 1 + i, none⟩ = some (.int .i64 rest[i])) := hx
  have HL : Hid (m < 9223372036854775808) := hlt
  have F0 := @fitF_4 m
  have F1 := @fitT_4 m
  clear hx hlt
  by_cases hcp : cp = 1
  · obtain rfl : len = 0 := by omega
    subst hcp
    go_enter Tryd.func80, Tryd.ntmps80
    go_wp2_with (first | (go_at_call 49; refine (insist_ok _ _).mono ?_; rintro e w' ⟨rfl, rfl⟩) | (refine wpl_set rfl (.tmp 26) (.tmp 24) rfl b 1 _ rfl rfl hw (by kernel_rfl) rfl rfl (by simp) ?_))
    intro W' kW gW sW
    go_wp2_with fail
    cases hd : ((m : Int) / 4294967296 == 0)
    · refine (I _).mono ?_
      rintro e w' ⟨rfl, rfl⟩
      exact ⟨rfl, gW, sW, .inr ⟨F0 hd, rfl⟩⟩
    · refine (insist_ok _ _).mono ?_
      rintro e w' ⟨rfl, rfl⟩
      go_wp2_with fail
      go_ret
      exact ⟨gW, sW, .inl ⟨F1 hd, _, rfl, kW, .inl ⟨⟨_, _, rfl⟩, List.length_eq_zero_iff.mp hl⟩⟩⟩
  · have hcp2 : ¬ (cp = 1) := hcp
    go_enter Tryd.func80, Tryd.ntmps80
    go_wp2_with (first | (go_at_call 49; refine (insist_ok _ _).mono ?_; rintro e w' ⟨rfl, rfl⟩) | (refine wpl_set rfl (.tmp 26) (.tmp 24) rfl b 1 _ rfl rfl hw (by kernel_rfl) rfl rfl (by simp) ?_))
    intro W' kW gW sW
    go_wp2_with fail
    cases hd : ((m : Int) / 4294967296 == 0)
    · refine (I _).mono ?_
      rintro e w' ⟨rfl, rfl⟩
      exact ⟨rfl, gW, sW, .inr ⟨F0 hd, rfl⟩⟩
    · refine (insist_ok _ _).mono ?_
      rintro e w' ⟨rfl, rfl⟩
      go_wp2_with fail
      go_ret
      exact ⟨gW, sW, .inl ⟨F1 hd, _, rfl, kW, rdN_rest ((Below.refl _ _).grown gW (Nat.le_of_lt hw.lt) (fun k hk => by cases hk; exact Nat.le_refl _)) hgb hl (by omega) HX.out⟩⟩
theorem fitT_8 {m : Nat} (h : ((m : Int) / 18446744073709551616 == 0) = true) : fitN (m : Int) 8 = true := by
  have h1 : (m : Int) / 18446744073709551616 = 0 := by simpa using h
  unfold fitN
  have h2 : (m : Int) < 18446744073709551616 := by omega
  have e : ((256 : Int) ^ 8) = 18446744073709551616 := by decide
  rw [e]; simp; omega
theorem fitF_8 {m : Nat} (h : ((m : Int) / 18446744073709551616 == 0) = false) : fitN (m : Int) 8 = false := by
  have h1 : ¬ ((m : Int) / 18446744073709551616 = 0) := by simpa using h
  unfold fitN
  have e : ((256 : Int) ^ 8) = 18446744073709551616 := by decide
  rw [e]; simp; omega
set_option maxHeartbeats 2000000 in
theorem wnum_8 (w : World) (b : Nat) (o t p : Value) (g q cp len m : Nat) (rest : List Int) (hw : Blk w b (wrA o (.slice (some ⟨g, q, none⟩) (len + 1) cp) t p) 90) (hn : w.cell? ⟨g, q, none⟩ = some (.int .i64 (m : Int))) (hc : len + 1 ≤ cp) (hlt : m < 9223372036854775808) (hl : rest.length = len) (hgb : g < b) (hx : ∀ i (h : i < rest.length), w.cell? ⟨g, q + 1 + i, none⟩ = some (.int .i64 rest[i])) :
    Calls Tryd.prog 80 #[.pointer (some ⟨b, 0, none⟩), .int .i64 8] w fun e w' => WnP w w' b 8 o t p m rest e := by
  obtain ⟨gu, hg⟩ : ∃ gu, gup 1 = gu := ⟨_, rfl⟩
  have I := fun w => insist_no w 1
  unfold WnP
  rw [hg] at I ⊢
  have c1 := hw.cell 1
  simp only [List.getElem?_toArray, List.getElem?_cons_zero, List.getElem?_cons_succ] at c1
  have u1 : IntKind.u64.wrap (m : Int) = (m : Int) := by rw [IntKind.wrap_u64]; omega
  have HX : Hid (∀ i (h : i < rest.length), w.cell? ⟨g, q + 1 + i, none⟩ = some (.int .i64 rest[i])) := hx
  have HL : Hid (m < 9223372036854775808) := hlt
  have F0 := @fitF_8 m
  have F1 := @fitT_8 m
  clear hx hlt
  by_cases hcp : cp = 1
  · obtain rfl : len = 0 := by omega
    subst hcp
    go_enter Tryd.func80, Tryd.ntmps80
    go_wp2_with (first | (go_at_call 49; refine (insist_ok _ _).mono ?_; rintro e w' ⟨rfl, rfl⟩) | (refine wpl_set rfl (.tmp 26) (.tmp 24) rfl b 1 _ rfl rfl hw (by kernel_rfl) rfl rfl (by simp) ?_))
    intro W' kW gW sW
    go_wp2_with fail
    cases hd : ((m : Int) / 18446744073709551616 == 0)
    · refine (I _).mono ?_
      rintro e w' ⟨rfl, rfl⟩
      exact ⟨rfl, gW, sW, .inr ⟨F0 hd, rfl⟩⟩
    · refine (insist_ok _ _).mono ?_
      rintro e w' ⟨rfl, rfl⟩
      go_wp2_with fail
      go_ret
      exact ⟨gW, sW, .inl ⟨F1 hd, _, rfl, kW, .inl ⟨⟨_, _, rfl⟩, List.length_eq_zero_iff.mp hl⟩⟩⟩
  · have hcp2 : ¬ (cp = 1) := hcp
    go_enter Tryd.func80, Tryd.ntmps80
    go_wp2_with (first | (go_at_call 49; refine (insist_ok _ _).mono ?_; rintro e w' ⟨rfl, rfl⟩) | (refine wpl_set rfl (.tmp 26) (.tmp 24) rfl b 1 _ rfl rfl hw (by kernel_rfl) rfl rfl (by simp) ?_))
    intro W' kW gW sW
    go_wp2_with fail
    cases hd : ((m : Int) / 18446744073709551616 == 0)
    · refine (I _).mono ?_
      rintro e w' ⟨rfl, rfl⟩
      exact ⟨rfl, gW, sW, .inr ⟨F0 hd, rfl⟩⟩
    · refine (insist_ok _ _).mono ?_
      rintro e w' ⟨rfl, rfl⟩
      go_wp2_with fail
      go_ret
      exact ⟨gW, sW, .inl ⟨F1 hd, _, rfl, kW, rdN_rest ((Below.refl _ _).grown gW (Nat.le_of_lt hw.lt) (fun k hk => by cases hk; exact Nat.le_refl _)) hgb hl (by omega) HX.out⟩⟩
/-- What num answers of any numbers. -/
def WnA (w w' : World) (b k : Nat) (o t p : Value) (ns : List Int) (e : Ending) : Prop :=
  (ns = [] ∧ e = .panicked (gup 1) ∧ w' = w) ∨ ∃ n rest, ns = n :: rest ∧ WnP w w' b k o t p n rest e
theorem wnum_any (w : World) (b k : Nat) (o v t p : Value) (ns : List Int) (hk : k = 1 ∨ k = 2 ∨ k = 4 ∨ k = 8) (hw : Blk w b (wrA o v t p) 90) (hv : RdN w b v ns) (hr : ∀ x ∈ ns, x < 9223372036854775808) :
    Calls Tryd.prog 80 #[.pointer (some ⟨b, 0, none⟩), .int .i64 (k : Int)] w fun e w' => WnA w w' b k o t p ns e := by
  rcases hv with ⟨⟨a, c, rfl⟩, rfl⟩ | ⟨g, q, cp, rfl, hc, hg, hx⟩
  · exact (wnum_no w b k o t p a c hw).mono (fun e w' h => .inl ⟨rfl, h⟩)
  · cases ns with
    | nil => exact (wnum_no w b k o t p _ cp hw).mono (fun e w' h => .inl ⟨rfl, h⟩)
    | cons n rest =>
      have hn : w.cell? ⟨g, q, none⟩ = some (.int .i64 n) := hx 0 (by simp)
      have hx1 : ∀ i (h : i < rest.length), w.cell? ⟨g, q + 1 + i, none⟩ = some (.int .i64 rest[i]) := fun i h => by
        have := hx (i + 1) (by simp; omega)
        simpa [Nat.add_assoc, Nat.add_comm 1 i] using this
      have hlt := hr n (by simp)
      simp only [List.length_cons] at hw hc
      have H : Calls Tryd.prog 80 #[.pointer (some ⟨b, 0, none⟩), .int .i64 (k : Int)] w fun e w' => WnP w w' b k o t p n rest e := by
        by_cases h0 : n < 0
        · exact wnum_neg w b k o t p g q cp rest.length n rest hw hn hc h0
        · obtain ⟨m, rfl⟩ : ∃ m : Nat, n = (m : Int) := ⟨n.toNat, by omega⟩
          have hm : m < 9223372036854775808 := by omega
          rcases hk with rfl | rfl | rfl | rfl
          · exact wnum_1 w b o t p g q cp rest.length m rest hw hn hc hm rfl hg hx1
          · exact wnum_2 w b o t p g q cp rest.length m rest hw hn hc hm rfl hg hx1
          · exact wnum_4 w b o t p g q cp rest.length m rest hw hn hc hm rfl hg hx1
          · exact wnum_8 w b o t p g q cp rest.length m rest hw hn hc hm rfl hg hx1
      exact H.mono (fun e w' h => .inr ⟨n, rest, rfl, h⟩)
end Go.Proofs.YtmaaacaifpgpaaaDoor

namespace Go.Proofs.YtmaaacaifpgpaaaDoor
open Go.RowKit Go.Lib
set_option maxRecDepth 100000
set_option linter.unusedSimpArgs false

/-- Texts that can be read, in a block below b. -/
def RdT (w : World) (b : Nat) (v : Value) (l : List (List UInt8)) : Prop :=
  ((∃ a c, v = .slice a 0 c) ∧ l = []) ∨ ∃ (g o c : Nat), v = .slice (some ⟨g, o, none⟩) l.length c ∧ l.length ≤ c ∧ g < b ∧ ∀ i (h : i < l.length), w.cell? ⟨g, o + i, none⟩ = some (str l[i])
theorem RdT.on {w w' : World} {b : Nat} {v : Value} {l : List (List UInt8)} (h : RdT w b v l) (hb : Below b w w') : RdT w' b v l := by
  rcases h with h | ⟨g, o, c, rfl, hc, hg, hx⟩
  · exact .inl h
  · exact .inr ⟨g, o, c, rfl, hc, hg, fun i hi => by rw [hb.cell hg]; exact hx i hi⟩
set_option maxHeartbeats 1000000 in
theorem wtext_no (w : World) (b k : Nat) (o n p : Value) (ad : Option Addr) (cp : Nat) (hw : Blk w b (wrA o n (.slice ad 0 cp) p) 90) :
    Calls Tryd.prog 78 #[.pointer (some ⟨b, 0, none⟩), .int .i64 (k : Int)] w fun e w' => e = .panicked (gup 1) ∧ w' = w := by
  obtain ⟨g, hg⟩ : ∃ g, gup 1 = g := ⟨_, rfl⟩
  have I := fun w => insist_no w 1
  rw [hg] at I ⊢
  have c2 := hw.cell 2
  simp only [List.getElem?_toArray, List.getElem?_cons_zero, List.getElem?_cons_succ] at c2
  clear hw
  go_enter Tryd.func78, Tryd.ntmps78
  go_wp2_with fail
  refine (I _).mono ?_
  rintro e w' ⟨rfl, rfl⟩
  exact ⟨rfl, rfl, rfl⟩
/-- What text answers of a text that is there. -/
def WtP (w w' : World) (b k : Nat) (o n p : Value) (s : List UInt8) (rest : List (List UInt8)) (e : Ending) : Prop :=
  w.grownBy w' (some b) ∧ w'.heap.size = w.heap.size ∧ ((s.length ≤ k ∧ ∃ v', e = .returned (str s) ∧ Blk w' b (wrA o n v' p) 90 ∧ RdT w' b v' rest) ∨ (k < s.length ∧ e = .panicked (gup 1)))
theorem rdT_rest {w w' : World} {b g q len cap : Nat} {rest : List (List UInt8)} (hb : Below b w w') (hg : g < b) (hl : rest.length = len) (hc : len ≤ cap) (hx : ∀ i (h : i < rest.length), w.cell? ⟨g, q + i, none⟩ = some (str rest[i])) : RdT w' b (.slice (some ⟨g, q, none⟩) len cap) rest := by
  subst hl
  exact (RdT.on (.inr ⟨g, q, cap, rfl, hc, hg, hx⟩) hb)
set_option maxHeartbeats 2000000 in
theorem wtext_is (w : World) (b k : Nat) (o n p : Value) (g q cp len : Nat) (s : List UInt8) (rest : List (List UInt8)) (hw : Blk w b (wrA o n (.slice (some ⟨g, q, none⟩) (len + 1) cp) p) 90) (hn : w.cell? ⟨g, q, none⟩ = some (str s)) (hc : len + 1 ≤ cp) (hl : rest.length = len) (hgb : g < b) (hx : ∀ i (h : i < rest.length), w.cell? ⟨g, q + 1 + i, none⟩ = some (str rest[i])) :
    Calls Tryd.prog 78 #[.pointer (some ⟨b, 0, none⟩), .int .i64 (k : Int)] w fun e w' => WtP w w' b k o n p s rest e := by
  obtain ⟨gu, hg⟩ : ∃ gu, gup 1 = gu := ⟨_, rfl⟩
  have I := fun w => insist_no w 1
  unfold WtP
  rw [hg] at I ⊢
  have c2 := hw.cell 2
  simp only [List.getElem?_toArray, List.getElem?_cons_zero, List.getElem?_cons_succ] at c2
  have HX : Hid (∀ i (h : i < rest.length), w.cell? ⟨g, q + 1 + i, none⟩ = some (str rest[i])) := hx
  clear hx
  by_cases hcp : cp = 1
  · obtain rfl : len = 0 := by omega
    subst hcp
    go_enter Tryd.func78, Tryd.ntmps78
    go_wp2_with (first | (go_at_call 49; refine (insist_ok _ _).mono ?_; rintro e w' ⟨rfl, rfl⟩) | (refine wpl_set rfl (.tmp 26) (.tmp 24) rfl b 2 _ rfl rfl hw (by kernel_rfl) rfl rfl (by simp) ?_))
    intro W' kW gW sW
    go_wp2_with fail
    cases hd : decide (s.length ≤ k)
    · refine (I _).mono ?_
      rintro e w' ⟨rfl, rfl⟩
      exact ⟨rfl, gW, sW, .inr ⟨by have := of_decide_eq_false hd; omega, rfl⟩⟩
    · refine (insist_ok _ _).mono ?_
      rintro e w' ⟨rfl, rfl⟩
      go_wp2_with fail
      go_ret
      exact ⟨gW, sW, .inl ⟨of_decide_eq_true hd, _, rfl, kW, .inl ⟨⟨_, _, rfl⟩, List.length_eq_zero_iff.mp hl⟩⟩⟩
  · have hcp2 : ¬ (cp = 1) := hcp
    go_enter Tryd.func78, Tryd.ntmps78
    go_wp2_with (first | (go_at_call 49; refine (insist_ok _ _).mono ?_; rintro e w' ⟨rfl, rfl⟩) | (refine wpl_set rfl (.tmp 26) (.tmp 24) rfl b 2 _ rfl rfl hw (by kernel_rfl) rfl rfl (by simp) ?_))
    intro W' kW gW sW
    go_wp2_with fail
    cases hd : decide (s.length ≤ k)
    · refine (I _).mono ?_
      rintro e w' ⟨rfl, rfl⟩
      exact ⟨rfl, gW, sW, .inr ⟨by have := of_decide_eq_false hd; omega, rfl⟩⟩
    · refine (insist_ok _ _).mono ?_
      rintro e w' ⟨rfl, rfl⟩
      go_wp2_with fail
      go_ret
      exact ⟨gW, sW, .inl ⟨of_decide_eq_true hd, _, rfl, kW, rdT_rest ((Below.refl _ _).grown gW (Nat.le_of_lt hw.lt) (fun k hk => by cases hk; exact Nat.le_refl _)) hgb hl (by omega) HX.out⟩⟩
/-- What text answers of any texts. -/
def WtA (w w' : World) (b k : Nat) (o n p : Value) (ts : List (List UInt8)) (e : Ending) : Prop :=
  (ts = [] ∧ e = .panicked (gup 1) ∧ w' = w) ∨ ∃ s rest, ts = s :: rest ∧ WtP w w' b k o n p s rest e
theorem wtext_any (w : World) (b k : Nat) (o n v p : Value) (ts : List (List UInt8)) (hw : Blk w b (wrA o n v p) 90) (hv : RdT w b v ts) :
    Calls Tryd.prog 78 #[.pointer (some ⟨b, 0, none⟩), .int .i64 (k : Int)] w fun e w' => WtA w w' b k o n p ts e := by
  rcases hv with ⟨⟨a, c, rfl⟩, rfl⟩ | ⟨g, q, cp, rfl, hc, hg, hx⟩
  · exact (wtext_no w b k o n p a c hw).mono (fun e w' h => .inl ⟨rfl, h⟩)
  · cases ts with
    | nil => exact (wtext_no w b k o n p _ cp hw).mono (fun e w' h => .inl ⟨rfl, h⟩)
    | cons s rest =>
      have hn : w.cell? ⟨g, q, none⟩ = some (str s) := hx 0 (by simp)
      have hx1 : ∀ i (h : i < rest.length), w.cell? ⟨g, q + 1 + i, none⟩ = some (str rest[i]) := fun i h => by
        have := hx (i + 1) (by simp; omega)
        simpa [Nat.add_assoc, Nat.add_comm 1 i] using this
      simp only [List.length_cons] at hw hc
      exact (wtext_is w b k o n p g q cp rest.length s rest hw hn hc rfl hg hx1).mono (fun e w' h => .inr ⟨s, rest, rfl, h⟩)
end Go.Proofs.YtmaaacaifpgpaaaDoor

namespace Go.Proofs.YtmaaacaifpgpaaaDoor
open Go.RowKit Go.Lib
set_option maxRecDepth 100000
set_option linter.unusedSimpArgs false

theorem wid_is (c : Nat) : wid c = 1 ∨ wid c = 2 ∨ wid c = 4 ∨ wid c = 8 := by
  unfold wid
  by_cases h1 : c = 104
  · simp [h1]
  · by_cases h2 : c = 108
    · simp [h2]
    · by_cases h3 : c = 76 <;> simp [h1, h2, h3]
theorem ak2 {P : Program} {md : Region.Mode} {ops : Array Oper} {Q : Exit → Act → World → Prop} {S : World → Prop} (i j : Nat) {o o' : Oper} {fuel : Nat} {listed : Array Bool} {a : Act} {w : World}
    (h : ∀ K : Act → World → Prop, (∀ a' w', S w' → wpAnyH P md ops Q S fuel (listed.setIfInBounds i true) a' w' → K a' w') → o.wp P a w K Q)
    (h' : ∀ K : Act → World → Prop, (∀ a' w', S w' → wpAnyH P md ops Q S fuel (listed.setIfInBounds j true) a' w' → K a' w') → o'.wp P a w K Q) (hr : Region.ready md ops listed = [i, j] := by kernel_rfl) (ho : ops[i]? = some o := by exact rfl) (ho' : ops[j]? = some o' := by exact rfl) (hw : Region.wanted o (yielded ops a.tmps) = true := by rfl) (hw' : Region.wanted o' (yielded ops a.tmps) = true := by rfl) : wpAnyH P md ops Q S (fuel + 1) listed a w :=
  wpAnyH_all hr (by simp) (fun x hx => by
    simp only [List.mem_cons, List.not_mem_nil, or_false] at hx
    rcases hx with rfl | rfl
    · unfold wpOp
      simp only [ho]
      rw [if_pos hw]
      exact .inl (h _ (fun _ _ h1 h2 => ⟨h1, h2⟩))
    · unfold wpOp
      simp only [ho']
      rw [if_pos hw']
      exact .inl (h' _ (fun _ _ h1 h2 => ⟨h1, h2⟩)))
theorem Own.grown {w w' : World} {B : Nat} {v : Value} {l : List UInt8} {row : Option Nat} (h : Own w B v l) (hg : w.grownBy w' row) (hr : ∀ k, row = some k → k < B) : Own w' B v l := by
  obtain ⟨hl, ho⟩ := h
  refine ⟨hl, ?_⟩
  rcases ho with h | ⟨g, cap, cur, hv, hgB, hc, h⟩
  · exact .inl h
  · refine .inr ⟨g, cap, cur, hv, hgB, ?_, h⟩
    rw [hg.block g (Array.getElem?_eq_some_iff.1 hc).1 (fun e => by have := hr g e.symm; omega)]
    exact hc
theorem Own.shape {w : World} {B : Nat} {v : Value} {l : List UInt8} (h : Own w B v l) : ∃ a n c, v = .slice a n c := by
  rcases h.2 with ⟨rfl, _⟩ | ⟨g, cap, cur, rfl, _⟩
  · exact ⟨_, _, _, rfl⟩
  · exact ⟨_, _, _, rfl⟩
theorem fitN_pos {n : Int} {k : Nat} (h : fitN n k = true) : 0 ≤ n := by
  unfold fitN at h
  simp only [Bool.and_eq_true, decide_eq_true_eq] at h
  exact h.1
/-- What part answers where the letter is a number's. -/
def WpN (w w' : World) (b c : Nat) (t p : Value) (out : List UInt8) (ns : List Int) (e : Ending) : Prop :=
  Below b w w' ∧ ((e = .returned (.tuple #[]) ∧ ∃ n rest o' v', ns = n :: rest ∧ fitN n (wid c) = true ∧ Blk w' b (wrA o' v' t p) 90 ∧ Own w' (b + 1) o' (out ++ beN (wid c) n.toNat) ∧ RdN w' b v' rest) ∨
    (e = .panicked (gup 1) ∧ (ns = [] ∨ ∃ n rest, ns = n :: rest ∧ fitN n (wid c) = false)))
set_option maxHeartbeats 4000000 in
theorem wpart_num (w : World) (b c : Nat) (o v t p : Value) (out : List UInt8) (ns : List Int) (h1 : c ≠ 115) (h2 : c ≠ 83) (h3 : c ≠ 84) (hw : Blk w b (wrA o v t p) 90) (ho : Own w (b + 1) o out) (hl : out.length + 8 ≤ 140737488355328) (hv : RdN w b v ns) (hr : ∀ x ∈ ns, x < 9223372036854775808) :
    Calls Tryd.prog 61 #[.pointer (some ⟨b, 0, none⟩), .int .u8 (c : Int)] w fun e w' => WpN w w' b c t p out ns e := by
  obtain ⟨k, hk⟩ : ∃ k, wid c = k := ⟨_, rfl⟩
  have hk1 := wid_is c
  have WD := fun w => width_any w c
  obtain ⟨gu, hg⟩ : ∃ gu, gup 1 = gu := ⟨_, rfl⟩
  have HT : Hid (∀ (w : World) (v : Value) (n : Nat), Own w (b + 1) v out → b + 1 ≤ w.heap.size → Calls Tryd.prog 60 #[v, .int .i64 k, .int .u64 n] w fun e w' => ∃ v', e = .returned v' ∧ Own w' (b + 1) v' (out ++ beN k n) ∧ Bn (b + 1) w w') := fun w v n ho hB => tput_any w (b + 1) v out k n (by rw [← hk]; rcases hk1 with h | h | h | h <;> omega) ho hB hl
  rw [hk] at hk1 WD
  have N : Calls Tryd.prog 80 #[.pointer (some ⟨b, 0, none⟩), .int .i64 (k : Int)] w.drew fun e w' => WnA w.drew w' b k o t p ns e := wnum_any w.drew b k o v t p ns hk1 ⟨hw.h⟩ hv hr
  have b1 : ((c : Int) == 115) = false := by simp; omega
  have b2 : ((c : Int) == 83) = false := by simp; omega
  have b3 : ((c : Int) == 84) = false := by simp; omega
  unfold WnA WnP at N
  rw [hg] at N
  have HF : Hid (∀ w w' ns e, (Below b w w' ∧ ((e = .returned (.tuple #[]) ∧ ∃ n rest o' v', ns = n :: rest ∧ fitN n k = true ∧ Blk w' b (wrA o' v' t p) 90 ∧ Own w' (b + 1) o' (out ++ beN k n.toNat) ∧ RdN w' b v' rest) ∨ (e = .panicked gu ∧ (ns = [] ∨ ∃ n rest, ns = n :: rest ∧ fitN n k = false)))) → WpN w w' b c t p out ns e) := by rw [← hk, ← hg]; exact fun w w' ns e h => h
  clear h1 h2 h3 hk hg
  have hwd : Blk w.drew b (wrA o v t p) 90 := ⟨hw.h⟩
  have hod : Own w.drew (b + 1) o out := ho
  have HW : Hid (Below b w w.drew) := (Below.refl _ _).drew
  have HOD : Hid (Own w.drew (b + 1) o out) := hod
  have LB : Hid (∀ W, w.drew.grownBy W (some b) → Below b w.drew W) := fun W gW => (Below.refl _ _).grown gW (Nat.le_of_lt hwd.lt) (fun k hk => by cases hk; exact Nat.le_refl _)
  have c0 := hwd.cell 0
  simp only [List.getElem?_toArray, List.getElem?_cons_zero, List.getElem?_cons_succ] at c0
  go_enter Tryd.func61, Tryd.ntmps61
  go_wp2_with (first | (go_at_call 79; refine (WD _).mono ?_; rintro e w' ⟨rfl, rfl⟩) | fail)
  refine wp_region_held (S := fun _ => True) hmix ?_
  show wpAnyH _ _ _ _ _ _ _ _ (World.drew _)
  generalize World.drew _ = Wd at *
  refine tks [0, 1, 2, 3, 5, 6, 7] [.pointer (some ⟨b, 0, none⟩), .pointer (some ⟨b, 0, none⟩), .pointer (some ⟨b, 0, none⟩), .pointer (some ⟨b, 0, none⟩), .int .i64 k, .pointer (some ⟨b, 0, none⟩), .int .i64 k] 6 ?_ trivial ?_
  · simp only [tkY, tkf]
    refine ⟨.yes ?_, .yes ?_, .yes ?_, .yes ?_, .yes ?_, .yes ?_, .yes ?_, trivial⟩
    all_goals
      intro W' hW'
      go_simp
  simp only [tkA, tkf]
  refine ak2 4 8 (fun K hK => ?_) (fun K hK => ?_)
  · go_wp2_with fail
    refine hK _ _ trivial ?_
    clear hK K
    refine ak 8 (fun K hK => ?_)
    go_wp2_with (go_at_call 80; refine N.mono ?_; rintro e W (⟨rfl, rfl, rfl⟩ | ⟨n, rest, rfl, gW, sW, (⟨hf, v', rfl, kW, rW⟩ | ⟨hf, rfl⟩)⟩))
    · exact ⟨rfl, HF.out _ _ _ _ ⟨HW.out, .inr ⟨rfl, .inl rfl⟩⟩⟩
    rotate_left
    · exact ⟨rfl, HF.out _ _ _ _ ⟨HW.out.trans (LB.out W gW), .inr ⟨rfl, .inr ⟨_, _, rfl, hf⟩⟩⟩⟩
    obtain ⟨m, rfl⟩ : ∃ m : Nat, n = (m : Int) := ⟨n.toNat, by have := fitN_pos hf; omega⟩
    have HO : Hid (Own W (b + 1) o out) := HOD.out.grown gW (fun k hk => by cases hk; exact Nat.lt_succ_self _)
    have HW2 : Hid _ := HW.out.trans (LB.out W gW)
    refine hK _ _ trivial ?_
    clear hK K
    refine ak 9 (fun K hK => ?_)
    have sz : b + 1 ≤ W.heap.size := by have := kW.lt; omega
    go_wp2_with (go_at_call 60; refine (HT.out W o m HO.out sz).mono ?_; rintro e W3 ⟨o3, rfl, ho3, hb3⟩)
    refine hK _ _ trivial ?_
    clear hK K
    refine ak 10 (fun K hK => ?_)
    go_wp2_with fail
    refine hK _ _ trivial ?_
    clear hK K
    refine ak 11 (fun K hK => ?_)
    go_wp2_with fail
    refine hK _ _ trivial ?_
    clear hK K
    refine ak 12 (fun K hK => ?_)
    have k3 : Blk W3 b (wrA o v' t p) 90 := kW.below hb3.b (Nat.lt_succ_self b)
    have r3 : RdN W3 b v' rest := rW.on (hb3.b.mono (Nat.le_succ b))
    obtain ⟨oa, on, oc, rfl⟩ := Own.shape ho3
    refine opw_set (.tmp 19) (.tmp 17) rfl b 0 _ rfl rfl k3 (by kernel_rfl) rfl rfl (by simp) ?_
    intro W4 k4 g4 s4
    refine hK _ _ trivial ?_
    clear hK K
    refine wpAnyH_done (by kernel_rfl) ?_ _
    go_wp2_with fail
    go_end0
    have l4 : Below b W3 W4 := (Below.refl _ _).grown g4 (Nat.le_of_lt k3.lt) (fun k hk => by cases hk; exact Nat.le_refl _)
    exact HF.out _ _ _ _ ⟨HW2.out.trans (hb3.b.mono (Nat.le_succ b)) |>.trans l4, .inl ⟨rfl, _, rest, _, v', rfl, hf, k4, ho3.grown g4 (fun k hk => by cases hk; exact Nat.lt_succ_self _), r3.on l4⟩⟩
  · go_wp2_with (go_at_call 80; refine N.mono ?_; rintro e W (⟨rfl, rfl, rfl⟩ | ⟨n, rest, rfl, gW, sW, (⟨hf, v', rfl, kW, rW⟩ | ⟨hf, rfl⟩)⟩))
    · exact ⟨rfl, HF.out _ _ _ _ ⟨HW.out, .inr ⟨rfl, .inl rfl⟩⟩⟩
    rotate_left
    · exact ⟨rfl, HF.out _ _ _ _ ⟨HW.out.trans (LB.out W gW), .inr ⟨rfl, .inr ⟨_, _, rfl, hf⟩⟩⟩⟩
    obtain ⟨m, rfl⟩ : ∃ m : Nat, n = (m : Int) := ⟨n.toNat, by have := fitN_pos hf; omega⟩
    have HO : Hid (Own W (b + 1) o out) := HOD.out.grown gW (fun k hk => by cases hk; exact Nat.lt_succ_self _)
    have HW2 : Hid _ := HW.out.trans (LB.out W gW)
    refine hK _ _ trivial ?_
    clear hK K
    have c0 := kW.cell 0
    simp only [List.getElem?_toArray, List.getElem?_cons_zero, List.getElem?_cons_succ] at c0
    refine ak 4 (fun K hK => ?_)
    go_wp2_with fail
    refine hK _ _ trivial ?_
    clear hK K
    refine ak 9 (fun K hK => ?_)
    have sz : b + 1 ≤ W.heap.size := by have := kW.lt; omega
    go_wp2_with (go_at_call 60; refine (HT.out W o m HO.out sz).mono ?_; rintro e W3 ⟨o3, rfl, ho3, hb3⟩)
    refine hK _ _ trivial ?_
    clear hK K
    refine ak 10 (fun K hK => ?_)
    go_wp2_with fail
    refine hK _ _ trivial ?_
    clear hK K
    refine ak 11 (fun K hK => ?_)
    go_wp2_with fail
    refine hK _ _ trivial ?_
    clear hK K
    refine ak 12 (fun K hK => ?_)
    have k3 : Blk W3 b (wrA o v' t p) 90 := kW.below hb3.b (Nat.lt_succ_self b)
    have r3 : RdN W3 b v' rest := rW.on (hb3.b.mono (Nat.le_succ b))
    obtain ⟨oa, on, oc, rfl⟩ := Own.shape ho3
    refine opw_set (.tmp 19) (.tmp 17) rfl b 0 _ rfl rfl k3 (by kernel_rfl) rfl rfl (by simp) ?_
    intro W4 k4 g4 s4
    refine hK _ _ trivial ?_
    clear hK K
    refine wpAnyH_done (by kernel_rfl) ?_ _
    go_wp2_with fail
    go_end0
    have l4 : Below b W3 W4 := (Below.refl _ _).grown g4 (Nat.le_of_lt k3.lt) (fun k hk => by cases hk; exact Nat.le_refl _)
    exact HF.out _ _ _ _ ⟨HW2.out.trans (hb3.b.mono (Nat.le_succ b)) |>.trans l4, .inl ⟨rfl, _, rest, _, v', rfl, hf, k4, ho3.grown g4 (fun k hk => by cases hk; exact Nat.lt_succ_self _), r3.on l4⟩⟩
end Go.Proofs.YtmaaacaifpgpaaaDoor

namespace Go.Proofs.YtmaaacaifpgpaaaDoor
open Go.RowKit Go.Lib
set_option maxRecDepth 100000
set_option linter.unusedSimpArgs false

theorem part_step (w : World) (b c : Nat) (o v t p : Value) (out : List UInt8) (n : Int) (rest : List Int) (h1 : c ≠ 115) (h2 : c ≠ 83) (h3 : c ≠ 84) (hf : fitN n (wid c) = true) (hw : Blk w b (wrA o v t p) 90) (ho : Own w (b + 1) o out) (hl : out.length + 8 ≤ 140737488355328) (hv : RdN w b v (n :: rest)) (hr : ∀ x ∈ n :: rest, x < 9223372036854775808) :
    Calls Tryd.prog 61 #[.pointer (some ⟨b, 0, none⟩), .int .u8 (c : Int)] w fun e w' => e = .returned (.tuple #[]) ∧ ∃ o' v', Blk w' b (wrA o' v' t p) 90 ∧ Own w' (b + 1) o' (out ++ beN (wid c) n.toNat) ∧ RdN w' b v' rest ∧ Below b w w' := by
  refine (wpart_num w b c o v t p out (n :: rest) h1 h2 h3 hw ho hl hv hr).mono ?_
  rintro e w' ⟨hb, ⟨rfl, n', rest', o', v', he, _, k, ho', rv⟩ | ⟨_, h | ⟨n', rest', he, hf'⟩⟩⟩
  · obtain ⟨rfl, rfl⟩ := List.cons.inj he
    exact ⟨rfl, o', v', k, ho', rv, hb⟩
  · exact absurd h (by simp)
  · obtain ⟨rfl, rfl⟩ := List.cons.inj he
    rw [hf] at hf'
    cases hf'
def outj : Nat → List UInt8
  | 0 => [0, 60, 0, 80]
  | 1 => [0, 60, 0, 80, 0, 0, 0, 0, 0, 0, 0, 5]
  | _ => [0, 60, 0, 80, 0, 0, 0, 0, 0, 0, 0, 5, 0]
abbrev mA (g : Nat) : Array Value := #[.int .i64 60, .int .i64 80, .slice (some ⟨g, 0, none⟩) 2 2, .slice none 0 0, .slice none 0 0]
theorem fl_is : formL 60 80 mL = ([76, 98], true) := by decide
set_option maxHeartbeats 4000000 in
theorem payload_w (w : World) (g : Nat) (hv : Mv w) (hg : g < w.heap.size) (h0 : w.cell? ⟨g, 0, none⟩ = some (.int .i64 5)) (h1 : w.cell? ⟨g, 1, none⟩ = some (.int .i64 0)) :
    Calls Tryd.prog 35 #[.agg (mA g)] w fun e w' => ∃ v, e = .returned v ∧ Own w' w.heap.size v [0, 60, 0, 80, 0, 0, 0, 0, 0, 0, 0, 5, 0] ∧ Below w.heap.size w w' := by
  obtain ⟨a, ha⟩ : ∃ a, w.heap.size = a := ⟨_, rfl⟩
  have F : ∀ w : World, Mv w → Calls Tryd.prog 59 #[.int .i64 60, .int .i64 80] w fun e w' => e = .returned (.tuple #[str [76, 98], .bool true]) ∧ Below w.heap.size w w' := fun w hv => by
    have := form_any w 60 80 hv
    rw [fl_is] at this
    exact this
  obtain ⟨W1, hW1⟩ : ∃ W1, w.alloc (Obj.cells (mA g) 36) = W1 := ⟨_, rfl⟩
  have B1 : Below a w W1 := by rw [← hW1, ← ha]; exact below_new w _
  have K1 : Blk W1 a (mA g) 36 := by rw [← hW1, ← ha]; exact Blk.new w _ _
  have M1 : Mv W1 := hv.on (by rw [ha]; exact B1)
  have hga : g < a := by rw [← ha]; exact hg
  have HN : Hid (w.cell? ⟨g, 0, none⟩ = some (.int .i64 5) ∧ w.cell? ⟨g, 1, none⟩ = some (.int .i64 0)) := ⟨h0, h1⟩
  rw [ha]
  clear h0 h1 hv hg
  have c0 := K1.cell 0
  have c1 := K1.cell 1
  simp only [List.getElem?_toArray, List.getElem?_cons_zero, List.getElem?_cons_succ] at c0 c1
  go_enter Tryd.func35, Tryd.ntmps35
  go_upto_region 1 with fail

  clear hW1 ha
  go_wp2_with (go_at_call 59; refine (F _ M1).mono ?_; rintro e W2 ⟨rfl, hb2⟩)
  have K2 : Blk W2 a (mA g) 36 := K1.on hb2
  have B2 : Below a w W2 := B1.trans (hb2.mono (Nat.le_of_lt K1.lt))
  clear c0 c1 K1 B1 M1 hb2 F
  have c0 := K2.cell 0
  have c1 := K2.cell 1
  have c2 := K2.cell 2
  have c3 := K2.cell 3
  have c4 := K2.cell 4
  simp only [List.getElem?_toArray, List.getElem?_cons_zero, List.getElem?_cons_succ] at c0 c1 c2 c3 c4
  obtain ⟨b, hb⟩ : ∃ b, W2.heap.size = b := ⟨_, rfl⟩
  refine (insist_ok _ _).mono ?_
  rintro e w' ⟨rfl, hw'⟩
  rw [hw']
  clear hw' w'
  go_upto_region 4 with fail
  obtain ⟨W3, hW3⟩ : ∃ W3, W2.alloc (Obj.cells #[Value.slice none 0 0, Value.slice (some ⟨g, 0, none⟩) 2 2, Value.slice none 0 0, Value.slice none 0 0] 90) = W3 := ⟨_, rfl⟩
  have hab : a < b := by rw [← hb]; exact K2.lt
  have hb2 : Below b W2 W3 := by rw [← hW3, ← hb]; exact below_new W2 _
  have B3 : Below a w W3 := B2.trans (hb2.mono (Nat.le_of_lt hab))
  have K3 : Blk W3 a (mA g) 36 := K2.below hb2 hab
  have k3 : Blk W3 b (wrA (.slice none 0 0) (.slice (some ⟨g, 0, none⟩) 2 2) (.slice none 0 0) (.slice none 0 0)) 90 := by rw [← hW3, ← hb]; exact Blk.new W2 _ _
  rw [hW3]
  clear hW3 hb hb2 K2 B2 c0 c1 c2 c3 c4
  refine wp_region_held (S := fun W => Blk W a (mA g) 36) hmix ?_
  show wpAnyH _ _ _ _ _ _ _ _ (World.drew _)
  have hS : Blk W3.drew a (mA g) 36 := ⟨K3.h⟩
  have kd : Blk W3.drew b (wrA (.slice none 0 0) (.slice (some ⟨g, 0, none⟩) 2 2) (.slice none 0 0) (.slice none 0 0)) 90 := ⟨k3.h⟩
  have Bd : Below a w W3.drew := B3.drew
  clear K3 k3 B3
  generalize W3.drew = Wd at *
  refine tks [0, 2, 3, 4, 6, 7, 8] [.pointer (some ⟨b, 0, none⟩), .pointer (some ⟨a, 0, none⟩), .int .i64 60, .int .u64 60, .pointer (some ⟨a, 1, none⟩), .int .i64 80, .int .u64 80] 5 ?_ hS ?_
  · simp only [tkY, tkf]
    refine ⟨.yes ?_, .yes ?_, .yes ?_, .yes ?_, .yes ?_, .yes ?_, .yes ?_, trivial⟩
    all_goals
      intro W' hW'
      have c0 := hW'.cell 0
      have c1 := hW'.cell 1
      simp only [List.getElem?_toArray, List.getElem?_cons_zero, List.getElem?_cons_succ] at c0 c1
      go_simp
      try (rw [IntKind.wrap_u64]; rfl)
  simp only [tkA, tkf]
  have d0 := kd.cell 0
  simp only [List.getElem?_toArray, List.getElem?_cons_zero, List.getElem?_cons_succ] at d0
  refine ak 1 (fun K hK => ?_)
  go_wp2_with fail
  refine hK _ _ hS ?_
  clear hK K d0
  refine ak 5 (fun K hK => ?_)
  have sd := kd.lt
  go_wp2_with (go_at_call 60; refine (tput_any Wd (b + 1) _ [] 2 60 (by omega) (Own.nil _ _) sd (by simp)).mono ?_; rintro e W4 ⟨o4, rfl, ho4, hb4⟩)
  have hS4 : Blk W4 a (mA g) 36 := hS.below hb4.b (by omega)
  have k4 := kd.below hb4.b (Nat.lt_succ_self b)
  have B4 : Below a w W4 := Bd.trans (hb4.b.mono (by omega))
  refine hK _ _ hS4 ?_
  clear hK K sd hS kd Bd hb4
  refine ak 9 (fun K hK => ?_)
  have s4 := k4.lt
  go_wp2_with (go_at_call 60; refine (tput_any W4 (b + 1) _ _ 2 80 (by omega) ho4 s4 (by simp [beN_len])).mono ?_; rintro e W5 ⟨o5, rfl, ho5, hb5⟩)
  have hS5 : Blk W5 a (mA g) 36 := hS4.below hb5.b (by omega)
  have k5 := k4.below hb5.b (Nat.lt_succ_self b)
  have B5 : Below a w W5 := B4.trans (hb5.b.mono (by omega))
  refine hK _ _ hS5 ?_
  clear hK K s4 hS4 k4 B4 hb5 ho4
  refine ak 10 (fun K hK => ?_)
  go_wp2_with fail
  refine hK _ _ hS5 ?_
  clear hK K
  refine ak 11 (fun K hK => ?_)
  obtain ⟨oa, on, oc, rfl⟩ := Own.shape ho5
  refine opw_set (.tmp 34) (.tmp 33) rfl b 0 _ rfl rfl k5 (by kernel_rfl) rfl rfl (by simp) ?_
  intro W6 k6 g6 s6
  have k7 : Blk W6 b (wrA (.slice oa on oc) (.slice (some ⟨g, 0, none⟩) 2 2) (.slice none 0 0) (.slice none 0 0)) 90 := k6
  clear k6
  have hS6 : Blk W6 a (mA g) 36 := hS5.grown g6 (by simp; omega)
  have B6 : Below a w W6 := B5.grown g6 (by have := k5.lt; omega) (fun k hk => by cases hk; omega)
  have ho6 : Own W6 (b + 1) _ (outj 0) := ho5.grown g6 (fun k hk => by cases hk; exact Nat.lt_succ_self _)
  have r6 : RdN W6 b (.slice (some ⟨g, 0, none⟩) 2 2) [5, 0] := .inr ⟨g, 0, 2, rfl, by decide, by omega, fun i hi => by
    rw [B6.cell hga]
    match i, hi with
    | 0, _ => exact HN.out.1
    | 1, _ => exact HN.out.2⟩
  refine hK _ _ hS6 ?_
  clear hK K hS5 k5 B5 g6 s6 ho5
  refine wpAnyH_done (by kernel_rfl) ?_ _
  go_wp2_with fail
  clear hS6 HN
  go_loopw [6, 37] (fun _ i wr => ∃ (z : Int) (o v : Value), (z = 0 ∨ z = 1 ∨ z = 2) ∧ i = .int .i64 z ∧ Blk wr b (wrA o v (.slice none 0 0) (.slice none 0 0)) 90 ∧ Own wr (b + 1) o (outj z.toNat) ∧ RdN wr b v (([5, 0] : List Int).drop z.toNat) ∧ Below a w wr) (fun _ i _ => 2 - (RowKit.intOf i).toNat)
  case atStart => exact ⟨0, _, _, .inl rfl, rfl, k7, ho6, r6, B6⟩
  case round =>
    clear k7 ho6 r6 B6
    obtain ⟨z, o, v, hz, rfl, k, ho, rv, hB⟩ := hrel
    rcases hz with rfl | rfl | rfl
    · have P := part_step wr b 76 o v (.slice none 0 0) (.slice none 0 0) (outj 0) 5 [0] (by decide) (by decide) (by decide) (by decide) k ho (by decide) rv (by decide)
      clear k ho rv
      go_wp2_with (go_at_call 61; refine P.mono ?_; rintro e w7 ⟨rfl, o', v', k', ho', rv', hb'⟩)
      clear P
      go_roundw
      case rel => exact ⟨1, o', v', .inr (.inl rfl), rfl, k', ho', rv', hB.trans (hb'.mono (by omega))⟩
      case measure => simp [RowKit.intOf]
    · have P := part_step wr b 98 o v (.slice none 0 0) (.slice none 0 0) (outj 1) 0 [] (by decide) (by decide) (by decide) (by decide) k ho (by decide) rv (by decide)
      clear k ho rv
      go_wp2_with (go_at_call 61; refine P.mono ?_; rintro e w7 ⟨rfl, o', v', k', ho', rv', hb'⟩)
      clear P
      go_roundw
      case rel => exact ⟨2, o', v', .inr (.inr rfl), rfl, k', ho', rv', hB.trans (hb'.mono (by omega))⟩
      case measure => simp [RowKit.intOf]
    · obtain ⟨va, vc, rfl⟩ : ∃ va vc, v = .slice va 0 vc := by
        rcases rv with ⟨⟨a, c, rfl⟩, _⟩ | ⟨_, _, _, rfl, _⟩
        · exact ⟨_, _, rfl⟩
        · exact ⟨_, _, rfl⟩
      have c0 := k.cell 0
      have c1 := k.cell 1
      have c2 := k.cell 2
      have c3 := k.cell 3
      simp only [List.getElem?_toArray, List.getElem?_cons_zero, List.getElem?_cons_succ] at c0 c1 c2 c3
      obtain ⟨oa', on', oc', rfl⟩ := Own.shape ho
      go_wp2_with (go_at_call 49; refine (insist_ok _ _).mono ?_; rintro e w' ⟨rfl, rfl⟩)
      go_ret
      exact ⟨_, rfl, Own.lower ho (by omega), hB⟩
end Go.Proofs.YtmaaacaifpgpaaaDoor

namespace Go.Proofs.YtmaaacaifpgpaaaDoor
open Go.RowKit Go.Lib
set_option maxRecDepth 100000
set_option linter.unusedSimpArgs false

abbrev outW : List UInt8 := [0, 60, 0, 80, 0, 0, 0, 0, 0, 0, 0, 5, 0]
theorem enc1_w (w : World) (a r q g : Nat) (K : Blk w a (mA g) 36) (R : Blk w r #[.slice none 0 0] 23) (E : Blk w q #[.int .i64 0] 26) (hne : q ≠ r) (hv : Mv w) (hg : g < w.heap.size) (h0 : w.cell? ⟨g, 0, none⟩ = some (.int .i64 5)) (h1 : w.cell? ⟨g, 1, none⟩ = some (.int .i64 0)) :
    Calls Tryd.prog 34 #[.pointer (some ⟨a, 0, none⟩), .pointer (some ⟨r, 0, none⟩)] w fun e w' => e = .returned (.tuple #[]) ∧ ∃ v, Blk w' r #[v] 23 ∧ Own w' w.heap.size v outW ∧ Blk w' q #[.int .i64 0] 26 ∧ Below r w w' := by
  obtain ⟨n, hn⟩ : ∃ n, w.heap.size = n := ⟨_, rfl⟩
  have P : Calls Tryd.prog 35 #[.agg (mA g)] w fun e w' => ∃ va vn vc, e = .returned (.slice va vn vc) ∧ Own w' w.heap.size (.slice va vn vc) outW ∧ Below w.heap.size w w' := (payload_w w g hv hg h0 h1).mono fun e w' ⟨v, h1, h2, h3⟩ => by
    obtain ⟨oa, on, oc, rfl⟩ := Own.shape h2
    exact ⟨_, _, _, h1, h2, h3⟩
  have hr := R.lt
  have hq := E.lt
  rw [hn] at P hr hq ⊢
  have c0 := K.cell 0
  have c1 := K.cell 1
  have c2 := K.cell 2
  have c3 := K.cell 3
  have c4 := K.cell 4
  simp only [List.getElem?_toArray, List.getElem?_cons_zero, List.getElem?_cons_succ] at c0 c1 c2 c3 c4
  clear hv hg h0 h1 K
  go_enter Tryd.func34, Tryd.ntmps34
  go_wp2_with (first | (go_at_call 35; refine P.mono ?_; rintro e w1 ⟨va, vn, vc, rfl, ho, hb⟩) | (refine wpl_set rfl (.tmp 1) (.tmp 3) rfl r 0 _ rfl rfl (R.below hb hr) (by kernel_rfl) rfl rfl (by simp) ?_))
  have R1 := R.below hb hr
  have E1 := E.below hb hq
  intro w2 R2 g2 s2
  go_wp2_with fail
  go_end0
  exact ⟨rfl, _, R2, ho.grown g2 (fun k hk => by cases hk; exact hr), E1.grown g2 (by simpa using hne), (hb.mono (Nat.le_of_lt hr)).grown g2 (Nat.le_of_lt R1.lt) (fun k hk => by cases hk; exact Nat.le_refl _)⟩
set_option maxHeartbeats 1000000 in
theorem encode_w (w : World) (g : Nat) (hv : Mv w) (hg : g < w.heap.size) (h0 : w.cell? ⟨g, 0, none⟩ = some (.int .i64 5)) (h1 : w.cell? ⟨g, 1, none⟩ = some (.int .i64 0)) :
    Calls Tryd.prog 17 #[.agg (mA g)] w fun e w' => ∃ v, e = .returned (.tuple #[v, .int .i64 0]) ∧ Own w' w.heap.size v outW ∧ Below w.heap.size w w' := by
  obtain ⟨a, ha⟩ : ∃ a, w.heap.size = a := ⟨_, rfl⟩
  obtain ⟨w3, hw3⟩ : ∃ w3, ((w.alloc (Obj.cells (mA g) 36)).alloc (Obj.cells #[Value.slice none 0 0] 23)) = w3 := ⟨_, rfl⟩
  have hb3 : Below a w w3 := by
    rw [← hw3, ← ha]
    exact (below_new w _).trans ((below_new _ _).mono (by simp))
  have hs3 : w3.heap.size = a + 2 := by rw [← hw3]; simp; omega
  have K3 : Blk w3 a (mA g) 36 := by rw [← hw3, ← ha]; exact (Blk.new w _ _).alloc _
  have R3 : Blk w3 (a + 1) #[.slice none 0 0] 23 := by
    have := Blk.new (w.alloc (Obj.cells (mA g) 36)) #[Value.slice none 0 0] 23
    rw [World.size_alloc, ha, hw3] at this
    exact this
  have hb4 := below_new w3 (.cells #[.int .i64 0] 26)
  have b04 : Below a w (w3.alloc (.cells #[.int .i64 0] 26)) := hb3.trans (hb4.mono (by omega))
  have E4 : Blk (w3.alloc (.cells #[.int .i64 0] 26)) (a + 2) #[.int .i64 0] 26 := by
    have := Blk.new w3 #[Value.int .i64 0] 26
    rw [hs3] at this
    exact this
  have hga : g < a := by omega
  have T := enc1_w (w3.alloc (.cells #[.int .i64 0] 26)) a (a + 1) (a + 2) g (K3.alloc _) (R3.alloc _) E4 (by omega) (hv.on (by rw [ha]; exact b04)) (by simp; omega) (by rw [b04.cell hga]; exact h0) (by rw [b04.cell hga]; exact h1)
  have G := guarded_any 34 (enters_of Tryd.func34 (by kernel_rfl) rfl) #[.pointer (some ⟨a, 0, none⟩), .pointer (some ⟨a + 1, 0, none⟩)] w3
    (fun w2 => Below a w w2 ∧ ∃ v, Blk w2 (a + 1) #[v] 23 ∧ Blk w2 (a + 2) #[.int .i64 0] 26 ∧ Own w2 (a + 3) v outW)
    (fun n w2 => False) (T.mono fun e w2 ⟨h1, v, h2, h3, h4, h5⟩ => ⟨by
      rw [hs3]
      exact ⟨h4.cell 0, h4.frozen 0⟩, .inl ⟨h1, b04.trans (h5.mono (by omega)), v, h2, h4, h3.lower (by simp; omega)⟩⟩)
  have G2 : Calls Tryd.prog 28 #[.func (.func 34) #[] #[.pointer (some ⟨a, 0, none⟩), .pointer (some ⟨a + 1, 0, none⟩)]] w3 fun e w' => ∃ va vn vc, e = .returned (.int .i64 0) ∧ Blk w' (a + 1) #[.slice va vn vc] 23 ∧ Own w' (a + 3) (.slice va vn vc) outW ∧ Below a w w' := by
    refine G.mono ?_
    rintro e w' (⟨rfl, w2, ⟨hbA, v, h2, h4, h3⟩, rfl⟩ | ⟨n, rfl, w2, hF, rfl⟩)
    · rw [hs3]
      have hg : w2.grownBy (w2.setCell ⟨a + 2, 0, none⟩ (.int .i64 0)) (some (a + 2)) := ⟨rfl, rfl, rfl, by simp, fun k hk hne => Below.heap_setCell w2 ⟨a + 2, 0, none⟩ _ k (by intro e; exact hne (by simp [e]))⟩
      obtain ⟨oa, on, oc, rfl⟩ := Own.shape h3
      exact ⟨_, _, _, rfl, h2.grown hg (by simp), h3.grown hg (fun k hk => by cases hk; omega), hbA.grown hg (by have := h2.lt; omega) (fun k hk => by cases hk; omega)⟩
    · exact hF.elim
  clear G T hb4 hb3 K3 R3 b04 E4 hv hg h0 h1 hga
  rw [ha]
  go_enter Tryd.func17, Tryd.ntmps17
  go_wp2_with fail
  refine G2.mono ?_
  rintro e W ⟨va, vn, vc, rfl, kR, hO, hB⟩
  clear G2 hw3
  have k0 := kR.cell 0
  simp only [List.getElem?_toArray, List.getElem?_cons_zero] at k0
  go_wp2_with (refine wpl_set rfl (.tmp 2) (.tmp 6) rfl (a + 1) 0 _ rfl rfl kR (by kernel_rfl) rfl rfl (by simp) ?_)
  intro W2 k2 g2 s2
  have hS2 : Blk W2 (a + 1) #[.slice va vn vc] 23 := k2
  have hB2 : Below a w W2 := hB.grown g2 (by have := kR.lt; omega) (fun k hk => by cases hk; omega)
  have hO2 := hO.grown g2 (fun k hk => by cases hk; omega)
  clear k0
  have k0 := hS2.cell 0
  simp only [List.getElem?_toArray, List.getElem?_cons_zero] at k0
  go_wp2_with fail
  refine bodyPost_ret (v := .tuple #[.slice va vn vc, .int .i64 0]) (by simp [results, Tryd.results17, go_sem, k0]) rfl ?_
  exact ⟨_, rfl, hO2.lower (by omega), hB2⟩
end Go.Proofs.YtmaaacaifpgpaaaDoor

namespace Go.Proofs.YtmaaacaifpgpaaaDoor
open Go.RowKit Go.Lib
set_option maxRecDepth 100000
set_option linter.unusedSimpArgs false

theorem enc_at (w : World) (hv : Mv w) : Calls Tryd.prog 17 #[.agg #[.int .i64 60, .int .i64 80, .slice (some ⟨w.heap.size, 0, none⟩) 2 2, .slice none 0 0, .slice none 0 0]] (w.alloc (.cells #[.int .i64 5, .int .i64 0] 3)) fun e w' => ∃ v, e = .returned (.tuple #[v, .int .i64 0]) ∧ Own w' w.heap.size v outW ∧ Below w.heap.size w w' := by
  have N := Blk.new w #[.int .i64 5, .int .i64 0] 3
  refine (encode_w (w.alloc (.cells #[.int .i64 5, .int .i64 0] 3)) w.heap.size (hv.on (below_new w _)) (by simp) (N.cell 0) (N.cell 1)).mono ?_
  rintro e w' ⟨v, h1, h2, h3⟩
  exact ⟨v, h1, h2.lower (by simp), (below_new w _).trans (h3.mono (by simp))⟩
def pA : Pr := ⟨⟨#[97]⟩, ⟨2, 1, ⟨#[]⟩, 0⟩⟩
theorem pA_tab : tabL [pA] = [0, 0, 0, 4, 1, 97, 116, 1] := by kernel_rfl
theorem pA_valid : validL [pA] = true := by kernel_rfl
theorem put_at (w : World) : Calls Tryd.prog 10 #[.slice none 0 0, .slice (some ⟨w.heap.size, 0, none⟩) 1 1] (w.alloc (.cells #[.string ⟨#[97]⟩, .int .i64 2, .int .i64 1, .string ⟨#[]⟩, .float .f64 0] 51)) fun e w' => ∃ v, e = .returned (.tuple #[v, .int .i64 0]) ∧ Own w' w.heap.size v [0, 0, 0, 4, 1, 97, 116, 1] ∧ Below w.heap.size w w' := by
  have N := Blk.new w #[.string ⟨#[97]⟩, .int .i64 2, .int .i64 1, .string ⟨#[]⟩, .float .f64 0] 51
  refine (put_ok _ (.slice none 0 0) (.slice (some ⟨w.heap.size, 0, none⟩) 1 1) [] [pA] (.inl (Own.nil _ 0).rd) (by simp) (.inr ⟨w.heap.size, 0, 1, rfl, by decide, fun i hi => ?_⟩) pA_valid (by intro q hq; simp at hq; subst hq; decide)).mono ?_
  · obtain rfl : i = 0 := by simpa using hi
    exact ⟨N.cell 0, N.cell 1, N.cell 2, N.cell 3, N.cell 4⟩
  · rintro e w' ⟨v, h1, h2, h3⟩
    rw [pA_tab, List.nil_append] at h2
    exact ⟨v, h1, h2.lower (by simp), (below_new w _).trans (h3.mono (by simp))⟩
set_option maxHeartbeats 2000000 in
theorem wakes_any (w : World) (hv : Mv w) : Calls Tryd.prog 8 #[] w fun e w' => e = .returned (.bool true) ∧ Below w.heap.size w w' := by
  have P := put_at w
  have E := enc_at
  obtain ⟨a, ha⟩ : ∃ a, w.heap.size = a := ⟨_, rfl⟩
  have HV : Hid (Mv w ∧ a ≤ w.heap.size) := ⟨hv, by omega⟩
  rw [ha] at P ⊢
  clear hv
  go_enter Tryd.func8, Tryd.ntmps8
  go_wp2_with (go_at_call 10; refine P.mono ?_; rintro e w2 ⟨v1, rfl, ho1, hb1⟩)
  refine (E w2 (HV.out.1.on (by rw [ha]; exact hb1))).mono ?_
  rintro e w3 ⟨v2, rfl, ho2, hb2⟩
  have q1 : (convert 23 9 v1).run Tryd.prog w3 = .ok (.string ⟨#[0, 0, 0, 4, 1, 97, 116, 1]⟩) w3 := conv_any (ho1.on hb2).rd
  have q2 : (convert 23 9 v2).run Tryd.prog w3 = .ok (.string ⟨#[0, 60, 0, 80, 0, 0, 0, 0, 0, 0, 0, 5, 0]⟩) w3 := conv_any ho2.rd
  have HB : Hid (Below a w w3) := hb1.trans (hb2.mono (Nat.le_trans HV.out.2 (by have := hb1.size; omega)))
  clear P E HV ho1 ho2 hb1 hb2 ha
  go_wp2_with fail
  go_ret
  exact ⟨rfl, HB.out⟩
end Go.Proofs.YtmaaacaifpgpaaaDoor

namespace Go.Proofs.YtmaaacaifpgpaaaDoor
open Go.RowKit Go.Lib
set_option maxRecDepth 100000
set_option linter.unusedSimpArgs false

theorem longR_yes {s : List UInt8} (h : 4 ≤ s.length) : longR (s, false) = takeR (s.drop 4, false) (numL (s.take 4)) := by
  unfold longR
  rw [numR_yes h]
theorem longR_no {s : List UInt8} (h : s.length < 4) : longR (s, false) = ([], (s, true)) := by
  unfold longR
  rw [numR_no h]
  exact takeR_bad s 0
theorem rtab_some {s r : List UInt8} {L : List Pr} (h : ctab s = some (L, r)) : rtab (s, false) = (L, (r, false)) := by
  unfold ctab at h
  split at h
  · cases h
  · rename_i h4
    split at h
    · cases h
    · rename_i t r' hc
      unfold cutP at hc
      split at hc
      · rename_i hn
        injection hc with hc
        obtain ⟨rfl, rfl⟩ := Prod.mk.inj hc
        cases ht : tabO (List.take (numL (s.take 4)) (s.drop 4)) with
        | none => rw [ht] at h; cases h
        | some M =>
          rw [ht] at h
          simp only [Option.map_some, Option.some.injEq, Prod.mk.injEq] at h
          obtain ⟨rfl, rfl⟩ := h
          unfold rtab
          rw [longR_yes (by omega), takeR_yes hn]
          simp only [ht]
      · cases hc
theorem rtab_none {s : List UInt8} (h : ctab s = none) : (rtab (s, false)).2.2 = true := by
  unfold ctab at h
  unfold rtab
  split at h
  · rename_i h4
    rw [longR_no h4]
    cases tabO ([] : List UInt8) <;> rfl
  · rename_i h4
    rw [longR_yes (by omega)]
    split at h
    · rename_i hc
      unfold cutP at hc
      split at hc
      · cases hc
      · rename_i hn
        rw [takeR_no (by omega)]
        cases tabO ([] : List UInt8) <;> rfl
    · rename_i t r' hc
      unfold cutP at hc
      split at hc
      · rename_i hn
        injection hc with hc
        obtain ⟨rfl, rfl⟩ := Prod.mk.inj hc
        rw [takeR_yes hn]
        cases ht : tabO (List.take (numL (s.take 4)) (s.drop 4)) with
        | none => rfl
        | some M => rw [ht] at h; cases h
      · cases hc
set_option maxHeartbeats 2000000 in
theorem rtake_any (w : World) (s : List UInt8) (hs : s.length ≤ 140737488355328) :
    Calls Tryd.prog 13 #[str s] w fun e w' => ∃ v z n, e = .returned (.tuple #[v, .int .i64 z, .int .i64 n]) ∧ TkP w' w.heap.size s v z n ∧ Below w.heap.size w w' := by
  obtain ⟨a, ha⟩ : ∃ a, w.heap.size = a := ⟨_, rfl⟩
  obtain ⟨w1, hw1⟩ : ∃ w1, w.alloc (Obj.cells #[str s, .bool false] 67) = w1 := ⟨_, rfl⟩
  have k1 : Blk w1 a #[str s, .bool false] 67 := by rw [← hw1, ← ha]; exact Blk.new w _ _
  have b1 : Below a w w1 := by rw [← hw1, ← ha]; exact below_new w _
  have T := rtable_any w1 a (s, false) ⟨k1.cell 0, k1.cell 1, k1.frozen 0, k1.frozen 1⟩ k1.lt
  rw [ha]
  go_enter Tryd.func13, Tryd.ntmps13
  go_wp2_with fail
  refine T.mono ?_
  rintro e w2 ⟨v, rfl, ho, hr, hA⟩
  have B2 : Below a w w2 := b1.trans ⟨hA.os, hA.tape, hA.output, hA.size, fun k hk => hA.block k (by have := k1.lt; omega) (by omega)⟩
  obtain ⟨ad, cp, rfl⟩ := ho.rd.shape
  have la : a ≤ w1.heap.size := Nat.le_of_lt k1.lt
  clear T hA b1 k1 hw1 ha
  cases hct : ctab s with
  | none =>
    have hb := rtab_none hct
    have HT : Hid (ctab s = none) := hct
    have HB : Hid (Below a w w2) := B2
    have c1 := hr.c1
    rw [hb] at c1
    clear hct B2 ho hr hb
    go_wp2
    go_ret3
    exact ⟨_, _, _, rfl, .inr ⟨HT.out, rfl, rfl, rfl⟩, HB.out⟩
  | some LR =>
    obtain ⟨L, r⟩ := LR
    have hb := rtab_some hct
    have hl := ctab_left hct
    rw [hb] at ho hr
    rw [hb]
    have HT : Hid (ctab s = some (L, r)) := hct
    have HB : Hid (Below a w w2) := B2
    have HO : Hid (OwnP w2 w1.heap.size (.slice ad L.length cp) L) := ho
    have c0 := hr.c0
    have c1 := hr.c1
    simp only at c0 c1
    have hS : w2.drew.cell? ⟨a, 0, none⟩ = some (str r) := c0
    have e1 : (s.length : Int) - (r.length : Int) = ((s.length - r.length : Nat) : Int) := by omega
    have hlz : (r.length : Int) ≤ (s.length : Int) := by omega
    generalize L.length = n at *
    clear hct B2 ho hr hb
    go_upto_region 5 with fail
    clear c0 c1
    refine wp_region_held (S := fun W => W = w2.drew) hmix ?_
    show wpAnyH _ _ _ _ _ _ _ _ (World.drew _)
    refine tks [0, 1, 2, 3, 4, 5, 6, 7, 8] [.slice ad n cp, str s, .int .i64 s.length, .pointer (some ⟨a, 0, none⟩), .pointer (some ⟨a, 0, none⟩), .pointer (some ⟨a, 0, none⟩), str r, .int .i64 r.length, .int .i64 ((s.length - r.length : Nat) : Int)] 3 ?_ rfl ?_
    · simp only [tkY, tkf]
      refine ⟨.yes ?_, .yes ?_, .yes ?_, .yes ?_, .yes ?_, .yes ?_, .yes ?_, .yes ?_, .yes ?_, trivial⟩
      all_goals
        rintro W' rfl
        go_simp
      all_goals (rw [IntKind.wrap_i64]; omega)
    simp only [tkA, tkf]
    refine ak 9 (fun K hK => ?_)
    go_wp2_with fail
    refine hK _ _ rfl ?_
    clear hK K
    refine ak 10 (fun K hK => ?_)
    go_wp2_with fail
    refine hK _ _ rfl ?_
    clear hK K
    refine ak 11 (fun K hK => ?_)
    go_wp2_with fail
    refine hK _ _ rfl ?_
    clear hK K
    refine wpAnyH_done (by kernel_rfl) ?_ _
    go_wp2_with fail
    go_ret3
    exact ⟨_, _, _, rfl, .inl ⟨L, r, HT.out, rfl, HO.out.low la, rfl⟩, HB.out.drew⟩
end Go.Proofs.YtmaaacaifpgpaaaDoor

namespace Go.Proofs.YtmaaacaifpgpaaaDoor
open Go.RowKit Go.Lib
set_option maxRecDepth 100000
set_option linter.unusedSimpArgs false

/-- What long answers. -/
def LoB (e : Ending) : Prop := ∃ r : Bool, e = .returned (.bool r)
theorem long_some (w : World) (l : List Pr) (b o c : Nat) (h : ∀ i (h : i < l.length), PrAt w b (o + i * 5) l[i]) (h16 : l.length ≤ 9223372036854775806) :
    Calls Tryd.prog 9 #[.slice (some ⟨b, o, none⟩) l.length c] w fun e w' => LoB e ∧ Below w.heap.size w w' := by
  have H : Hid (∀ i (h : i < l.length), PrAt w b (o + i * 5) l[i]) := h
  clear h
  go_enter Tryd.func9, Tryd.ntmps9
  go_wp2_with fail
  go_loopw [3, 8] (fun s i wr => ∃ (k : Nat) (z : Int), k ≤ l.length ∧ i = .int .i64 k ∧ s = .int .i64 z ∧ Below w.heap.size w wr) (fun _ i _ => l.length - (RowKit.intOf i).toNat)
  case atStart => exact ⟨0, 0, by omega, rfl, rfl, Below.refl _ _⟩
  case round =>
    obtain ⟨k, z, hk, rfl, rfl, hbr⟩ := hrel
    have hwr := hbr.size
    by_cases hlt : k < l.length
    · obtain ⟨a0, a1, a2, a3, a4⟩ := (H.out k hlt).on hbr
      obtain ⟨pk, hpk⟩ : ∃ pk, pk = l[k] := ⟨_, rfl⟩
      rw [← hpk] at a0 a1 a2 a3 a4
      clear hpk
      go_wp2
      · go_ret
        exact ⟨⟨_, rfl⟩, hbr.alloc hwr _⟩
      · go_roundw
        case rel => exact ⟨k + 1, _, by omega, by go_num, rfl, hbr.alloc hwr _⟩
        case measure => simp [RowKit.intOf]; omega
    · go_wp2
      go_ret
      exact ⟨⟨_, rfl⟩, hbr⟩
theorem long_nil (w : World) (a : Option Addr) (c : Nat) : Calls Tryd.prog 9 #[.slice a 0 c] w fun e w' => LoB e ∧ Below w.heap.size w w' := by
  go_enter Tryd.func9, Tryd.ntmps9
  go_wp2_with fail
  go_loopw [3, 8] (fun s i wr => i = .int .i64 0 ∧ s = .int .i64 0 ∧ wr = w) (fun _ _ _ => 0)
  case atStart => exact ⟨rfl, rfl, rfl⟩
  case round =>
    obtain ⟨rfl, rfl, rfl⟩ := hrel
    go_wp2
    go_ret
    exact ⟨⟨_, rfl⟩, Below.refl _ _⟩
theorem alllong_any (w : World) (v : Value) (l : List Pr) (h : RdP w v l) (h16 : l.length ≤ 9223372036854775806) : Calls Tryd.prog 9 #[v] w fun e w' => LoB e ∧ Below w.heap.size w w' := by
  rcases h with ⟨⟨a, c, rfl⟩, rfl⟩ | ⟨b, o, c, rfl, _, h⟩
  · exact long_nil w a c
  · exact long_some w l b o c h h16
end Go.Proofs.YtmaaacaifpgpaaaDoor

namespace Go.Proofs.YtmaaacaifpgpaaaDoor
open Go.RowKit Go.Lib
set_option maxRecDepth 100000
set_option linter.unusedSimpArgs false

theorem ctab_len {s r : List UInt8} {L : List Pr} (h : ctab s = some (L, r)) : L.length ≤ 16 := by
  unfold ctab at h
  split at h
  · cases h
  · split at h
    · cases h
    · rename_i t r' hc
      unfold tabO at h
      split at h
      · rename_i ho
        simp only [Option.map_some] at h
        injection h with h
        injection h with h _
        rw [← h]
        exact (valid_parts (okO_true ho).2).1
      · cases h
/-- What Put gives. -/
def putL (l : List UInt8) (ps : List Pr) : List UInt8 := if validL ps = true then l ++ tabL ps else []
def putE (ps : List Pr) : Int := if validL ps = true then 0 else 36
theorem put_any (w : World) (v va : Value) (l : List UInt8) (ps : List Pr) (h : RdA w v l) (hl : l.length ≤ 100000000) (hr : RdP w va ps) (hf : ∀ q ∈ ps, Fits q) :
    Calls Tryd.prog 10 #[v, va] w fun e w' => ∃ v', e = .returned (.tuple #[v', .int .i64 (putE ps)]) ∧ Own w' w.heap.size v' (putL l ps) ∧ Below w.heap.size w w' := by
  unfold putL putE
  by_cases hv : validL ps = true
  · rw [if_pos hv, if_pos hv]
    exact put_ok w v va l ps h hl hr hv (fun q hq => (hf q hq).2)
  · rw [if_neg hv, if_neg hv]
    refine (put_bad w v va ps hr (by simpa using hv)).mono ?_
    rintro e w' ⟨rfl, hb⟩
    exact ⟨_, rfl, Own.nil _ _, hb⟩
theorem rput_any (w : World) (v va : Value) (l : List UInt8) (ps : List Pr) (h : RdA w v l) (hl : l.length ≤ 100000000) (hr : RdP w va ps) (hf : ∀ q ∈ ps, Fits q) (h63 : ps.length ≤ 9223372036854775806) :
    Calls Tryd.prog 11 #[v, va] w fun e w' => ∃ v', e = .returned (.tuple #[v', .int .i64 (putE ps)]) ∧ Own w' w.heap.size v' (putL l ps) ∧ Below w.heap.size w w' := by
  unfold putL putE
  by_cases hv : validL ps = true
  · rw [if_pos hv, if_pos hv]
    exact rput_ok w v va l ps h hl hr hv hf h63
  · rw [if_neg hv, if_neg hv]
    refine (rput_bad w v va ps hr (by simpa using hv) hf h63).mono ?_
    rintro e w' ⟨rfl, hb⟩
    exact ⟨_, rfl, Own.nil _ _, hb⟩
/-- What Take gives. -/
def tkPs (s : List UInt8) : List Pr := match ctab s with
  | some (L, _) => L
  | none => []
def tkZ (s : List UInt8) : Int := match ctab s with
  | some (_, r) => ((s.length - r.length : Nat) : Int)
  | none => 0
def tkE (s : List UInt8) : Int := match ctab s with
  | some _ => 0
  | none => 11
theorem tkPs_len (s : List UInt8) : (tkPs s).length ≤ 9223372036854775806 := by
  unfold tkPs
  cases h : ctab s with
  | none => simp
  | some LR =>
    obtain ⟨L, r⟩ := LR
    have := ctab_len h
    simp only
    omega
theorem TkP.un {w : World} {B : Nat} {s : List UInt8} {v : Value} {z n : Int} (h : TkP w B s v z n) : RdP w v (tkPs s) ∧ z = tkZ s ∧ n = tkE s := by
  unfold tkPs tkZ tkE
  rcases h with ⟨L, r, h1, rfl, h3, rfl⟩ | ⟨h1, rfl, rfl, rfl⟩
  · rw [h1]
    exact ⟨h3.rd, rfl, rfl⟩
  · rw [h1]
    exact ⟨.inl ⟨⟨_, _, rfl⟩, rfl⟩, rfl, rfl⟩
theorem sameL_self (l : List Pr) : sameL l l = true := (sameL_eq l l).2 rfl
set_option maxHeartbeats 2000000 in
theorem tables_law (w : World) (hv : Mv w) (va vb : Value) (ps : List Pr) (l s : List UInt8) (hr : RdP w va ps) (hb : RdA w vb l) (hf : ∀ q ∈ ps, Fits q) (h63 : ps.length ≤ 9223372036854775806) :
    Calls Tryd.prog 3 #[va, vb, str s] w fun e w' => e = .returned (.bool true) ∧ Below w.heap.size w w' := by
  obtain ⟨cb, xb, hvb⟩ : ∃ a c, vb = .slice a l.length c := by
    rcases hb with (⟨rfl, rfl⟩ | ⟨b, o, c, rfl, _⟩) | ⟨⟨a, c, rfl⟩, rfl⟩
    · exact ⟨_, _, rfl⟩
    · exact ⟨_, _, rfl⟩
    · exact ⟨_, _, rfl⟩
  subst hvb
  have HR : Hid (RdP w va ps) := hr
  have HB : Hid (RdA w (.slice cb l.length xb) l) := hb
  have LO := fun w (h : RdP w va ps) => alllong_any w va ps h h63
  have WA := wakes_any w hv
  have P1 := fun w hb hl (h : RdP w va ps) => put_any w (.slice cb l.length xb) va l ps hb hl h hf
  have P2 := fun w hb hl (h : RdP w va ps) => rput_any w (.slice cb l.length xb) va l ps hb hl h hf h63
  clear hr hf h63 hb hv
  go_enter Tryd.func3, Tryd.ntmps3
  go_wp2_with fail
  refine WA.mono ?_
  rintro e w1 ⟨rfl, b1⟩
  clear WA
  go_wp2_with fail
  refine (LO _ (HR.out.on b1)).mono ?_
  rintro e w2 ⟨⟨x, rfl⟩, b2⟩
  have B2 := b1.trans (b2.mono b1.size)
  clear b1 b2 LO
  cases x with
  | true =>
    go_wp2_with fail
    go_ret
    exact ⟨rfl, B2⟩
  | false =>
    by_cases hl : 16384 < l.length
    · have d1 : decide ((16384 : Int) < (l.length : Int)) = true := by simp; omega
      go_wp2_with fail
      go_ret
      exact ⟨rfl, B2⟩
    have d1 : decide ((16384 : Int) < (l.length : Int)) = false := by simp; omega
    by_cases hs : 16384 < s.length
    · have d2 : decide ((16384 : Int) < (s.length : Int)) = true := by simp; omega
      go_wp2_with fail
      go_ret
      exact ⟨rfl, B2⟩
    have d2 : decide ((16384 : Int) < (s.length : Int)) = false := by simp; omega
    have T1 := fun w => ttake_any w s (by omega)
    have T2 := fun w => rtake_any w s (by omega)
    have E1 := P1 w2 (HB.out.on B2) (by omega) (HR.out.on B2)
    have E2 := fun w h1 h2 => P2 w h1 (by omega) h2
    have EL := tkPs_len s
    clear P1 P2 hl hs
    generalize putL l ps = ob at *
    generalize putE ps = oe at *
    go_wp2_with fail
    refine E1.mono ?_
    rintro e w3 ⟨v3, rfl, o3, b3⟩
    have B3 := B2.trans (b3.mono B2.size)
    clear E1
    go_wp2_with fail
    refine (E2 _ (HB.out.on B3) (HR.out.on B3)).mono ?_
    rintro e w4 ⟨v4, rfl, o4, b4⟩
    have B4 := B3.trans (b4.mono B3.size)
    have o34 := o3.on b4
    clear E2 B3 b3 b4 o3
    go_wp2_with fail
    refine (T1 _).mono ?_
    rintro e w5 ⟨v5, z5, n5, rfl, t5, b5⟩
    obtain ⟨r5, rfl, rfl⟩ := t5.un
    have B5 := B4.trans (b5.mono B4.size)
    have o35 := o34.on b5
    have o45 := o4.on b5
    clear T1 B4 b5 o34 o4 t5
    go_wp2_with fail
    refine (T2 _).mono ?_
    rintro e w6 ⟨v6, z6, n6, rfl, t6, b6⟩
    obtain ⟨r6, rfl, rfl⟩ := t6.un
    have B6 := B5.trans (b6.mono B5.size)
    have cv3 := conv_any (o35.on b6).rd
    have cv4 := conv_any (o45.on b6).rd
    have A := all7 w6 v5 v6 (tkPs s) (tkPs s) (r5.on b6) r6 EL
    rw [sameL_self] at A
    clear T2 B5 b6 o35 o45 r5 r6 t6 EL
    generalize tkPs s = L at *
    generalize tkZ s = z at *
    generalize tkE s = n at *
    go_wp2_with (go_at_call 14; refine A.mono ?_; rintro e w7 ⟨rfl, b7⟩)
    go_ret
    exact ⟨rfl, B6.trans (b7.mono B6.size)⟩
end Go.Proofs.YtmaaacaifpgpaaaDoor

namespace Go.Proofs.YtmaaacaifpgpaaaDoor
open Go.ChangeShapes Go.WideShapes Go.ChangeAt Go.RowKit Go.Lib Go.Deep
set_option maxRecDepth 100000
set_option linter.unusedSimpArgs false

theorem own : ownKnob Tryd.prog.godebug = none := by kernel_rfl
theorem laidOut : laidOutB Tryd.prog = true := by kernel_rfl
theorem cells3 : Tryd.prog.cellsOf 3 = 1 := by kernel_rfl
theorem cells9 : Tryd.prog.cellsOf 9 = 1 := by kernel_rfl
theorem i64b {z : Int} (h : (Lit.int .i64 z).wf = true) : -9223372036854775808 ≤ z ∧ z ≤ 9223372036854775807 := by
  simpa [Lit.wf, IntKind.min, IntKind.max, IntKind.signed, IntKind.bits] using h
theorem str_of (s : ByteArray) : Value.string s = str s.data.toList := by simp [str]

theorem cells44 : Tryd.prog.cellsOf 44 = 1 := by kernel_rfl
theorem cells49 : Tryd.prog.cellsOf 49 = 4 := by kernel_rfl
theorem f64b {z : Nat} (h : (Lit.float .f64 z).wf = true) : z < 2 ^ 64 := by
  simpa [Lit.wf] using h

theorem flt_cell {H : Type} {enc : TypeId × Value → H} {W : World} {c : Value} {fuel : Nat} {x : DataW H × List MemPlace} (h : DataW.trod enc Tryd.prog W 0 (fun _ => true) true fuel 44 [c] = some x) : ∃ r, [c] = [Value.float .f64 r] ∧ r < 2 ^ 64 := by
  cases fuel with
  | zero => simp [DataW.trod] at h
  | succ n =>
    simp only [DataW.trod, Tryd.underlying44] at h
    cases c with
    | float k b =>
      simp at h
      obtain ⟨⟨rfl, hw⟩, _⟩ := h
      exact ⟨b, rfl, f64b hw⟩
    | _ => simp at h
theorem val_cells {H : Type} {enc : TypeId × Value → H} {W : World} {cs : List Value} {fuel : Nat} {x : DataW H × List MemPlace} (h : DataW.trod enc Tryd.prog W 0 (fun _ => true) true fuel 49 cs = some x) :
    ∃ y : Val, cs = [.int .i64 y.kind, .int .i64 y.num, .string y.text, .float .f64 y.real] ∧ (-9223372036854775808 ≤ y.kind ∧ y.kind ≤ 9223372036854775807) ∧ (-9223372036854775808 ≤ y.num ∧ y.num ≤ 9223372036854775807) ∧ y.text.size ≤ maxLen ∧ y.real < 2 ^ 64 := by
  obtain ⟨xs, n, _, rfl, hl, hlen, hf⟩ := DataW.trod_struct Tryd.underlying49 h
  rw [cells49] at hl
  match xs, hlen with
  | [y0, y1, y2, y3], _ =>
    have t0 : DataW.trod enc Tryd.prog W 0 (fun _ => true) true n 3 ((cs.drop 0).take (Tryd.prog.cellsOf 3)) = some y0 := by simpa using hf 0 _ rfl
    have t1 : DataW.trod enc Tryd.prog W 0 (fun _ => true) true n 3 ((cs.drop 1).take (Tryd.prog.cellsOf 3)) = some y1 := by simpa using hf 1 _ rfl
    have t2 : DataW.trod enc Tryd.prog W 0 (fun _ => true) true n 9 ((cs.drop 2).take (Tryd.prog.cellsOf 9)) = some y2 := by simpa using hf 2 _ rfl
    have t3 : DataW.trod enc Tryd.prog W 0 (fun _ => true) true n 44 ((cs.drop 3).take (Tryd.prog.cellsOf 44)) = some y3 := by simpa using hf 3 _ rfl
    match cs, hl with
    | [c0, c1, c2, c3], _ =>
      simp only [cells3, cells9, cells44, List.drop, List.take] at t0 t1 t2 t3
      obtain ⟨k, e0, _, wk⟩ := DataW.trod_int Tryd.underlying3 t0
      obtain ⟨m, e1, _, wm⟩ := DataW.trod_int Tryd.underlying3 t1
      obtain ⟨s, e2, _, ws⟩ := DataW.trod_string Tryd.underlying9 t2
      obtain ⟨r, e3, wr⟩ := flt_cell t3
      simp only [List.cons.injEq, and_true] at e0 e1 e2 e3
      subst e0 e1 e2 e3
      exact ⟨⟨k, m, s, r⟩, rfl, i64b wk, i64b wm, ws, wr⟩
theorem cells51 : Tryd.prog.cellsOf 51 = 5 := by kernel_rfl
theorem bytes51 : Tryd.prog.bytesOf 51 = 56 := by kernel_rfl

/-- What is told of a value that came in. -/
def InV (y : Val) : Prop := (-9223372036854775808 ≤ y.kind ∧ y.kind ≤ 9223372036854775807) ∧ (-9223372036854775808 ≤ y.num ∧ y.num ≤ 9223372036854775807) ∧ y.text.size ≤ maxLen ∧ y.real < 2 ^ 64
def InP (p : Pr) : Prop := p.name.size ≤ maxLen ∧ InV p.val

theorem prop_cells {H : Type} {enc : TypeId × Value → H} {W : World} {cs : List Value} {fuel : Nat} {x : DataW H × List MemPlace} (h : DataW.trod enc Tryd.prog W 0 (fun _ => true) true fuel 51 cs = some x) :
    ∃ y : Pr, cs = [.string y.name, .int .i64 y.val.kind, .int .i64 y.val.num, .string y.val.text, .float .f64 y.val.real] ∧ InP y := by
  obtain ⟨xs, n, _, rfl, hl, hlen, hf⟩ := DataW.trod_struct Tryd.underlying51 h
  rw [cells51] at hl
  match xs, hlen with
  | [y0, y1], _ =>
    have t0 : DataW.trod enc Tryd.prog W 0 (fun _ => true) true n 9 ((cs.drop 0).take (Tryd.prog.cellsOf 9)) = some y0 := by simpa using hf 0 _ rfl
    have t1 : DataW.trod enc Tryd.prog W 0 (fun _ => true) true n 49 ((cs.drop 1).take (Tryd.prog.cellsOf 49)) = some y1 := by simpa using hf 1 _ rfl
    match cs, hl with
    | [c0, c1, c2, c3, c4], _ =>
      simp only [cells9, cells49, List.drop, List.take] at t0 t1
      obtain ⟨s, e0, _, ws⟩ := DataW.trod_string Tryd.underlying9 t0
      obtain ⟨y, e1, hy⟩ := val_cells t1
      simp only [List.cons.injEq, and_true] at e0 e1
      obtain ⟨rfl, rfl, rfl, rfl⟩ := e1
      subst e0
      exact ⟨⟨s, y⟩, rfl, ws, hy⟩

theorem prop_at {H : Type} {enc : TypeId × Value → H} {W : World} {a : Addr} {cs : List Value} {fuel : Nat} {x : DataW H × List MemPlace}
    (hc : W.cells? 0 a (Tryd.prog.cellsOf 51) = some cs) (h : DataW.trod enc Tryd.prog W 0 (fun _ => true) true fuel 51 cs = some x) :
    ∃ (b o : Nat) (y : Pr), a = ⟨b, o, none⟩ ∧ PrAt W b o y ∧ InP y := by
  obtain ⟨y, rfl, hy⟩ := prop_cells h
  rw [cells51] at hc
  obtain ⟨b, o, sp⟩ := a
  obtain ⟨_, _, hh⟩ := World.cells?_some hc
  have h0 := hh 0 (by omega)
  have h1 := hh 1 (by omega)
  have h2 := hh 2 (by omega)
  have h3 := hh 3 (by omega)
  have h4 := hh 4 (by omega)
  simp only [Addr.add, List.getElem?_cons_zero, List.getElem?_cons_succ] at h0 h1 h2 h3 h4
  have hsp : sp = none := by simpa [Addr.add] using World.cell?_spot h0
  subst hsp
  exact ⟨b, o, y, rfl, ⟨h0, h1, h2, h3, h4⟩, hy⟩

theorem rd_props {H : Type} {enc : TypeId × Value → H} {W : World} {a : Option Addr} {n c : Nat} {d : DataW H} {p : List MemPlace}
    (h : DataW.Trod enc Tryd.prog W 0 (fun _ => true) true 22 (.slice a n c) d p) :
    ∃ l : List Pr, RdP W (.slice a n c) l ∧ l.length = n ∧ (∀ q ∈ l, InP q) ∧ (n = 0 ∨ ∃ E S, d = .slice E S ∧ n ≤ E.length + S.length) := by
  obtain ⟨fuel, hf⟩ := h
  rcases open_slice Tryd.underlying22 hf with ⟨hcs, _⟩ | ⟨x, l, cp, m, f, D, Pl, hcs, _, hl, hm, hmm, hx, hel⟩
  · simp [Value.cells] at hcs
    obtain ⟨rfl, rfl, rfl⟩ := hcs
    exact ⟨[], .inl ⟨⟨_, _, rfl⟩, rfl⟩, rfl, fun q hq => by simp at hq, .inl rfl⟩
  · simp [Value.cells] at hcs
    obtain ⟨rfl, rfl, rfl⟩ := hcs
    have hmc : m = c := by simpa using hmm
    subst hmc
    have hd := (Prod.mk.inj hx).1
    rcases Nat.eq_zero_or_pos n with h0 | h0
    · subst h0
      exact ⟨[], .inl ⟨⟨_, _, rfl⟩, rfl⟩, rfl, fun q hq => by simp at hq, .inl rfl⟩
    · have key : ∀ i, i < n → ∃ (b o : Nat) (y : Pr), x.add (i * 5) = ⟨b, o, none⟩ ∧ PrAt W b o y ∧ InP y := fun i hi => by
        obtain ⟨cs', h1, h2⟩ := hel i (by omega)
        have := prop_at h1 h2
        rwa [cells51] at this
      obtain ⟨b, o, _, e0, _⟩ := key 0 (by omega)
      have ex : x = ⟨b, o, none⟩ := by simpa [Addr.add] using e0
      subst ex
      have key2 : ∀ i, i < n → ∃ y : Pr, PrAt W b (o + i * 5) y ∧ InP y := fun i hi => by
        obtain ⟨b', o', y, e, g, hy⟩ := key i hi
        rw [Addr.add_lit] at e
        cases e
        exact ⟨y, g, hy⟩
      have hall : ∀ k, k ≤ n → ∃ l : List Pr, l.length = k ∧ ∀ i (h : i < l.length), PrAt W b (o + i * 5) l[i] ∧ InP l[i] := by
        intro k
        induction k with
        | zero => exact fun _ => ⟨[], rfl, fun i h => by simp at h⟩
        | succ k ih =>
          intro hk
          obtain ⟨l, hl, hh⟩ := ih (by omega)
          obtain ⟨y, hy⟩ := key2 k (by omega)
          refine ⟨l ++ [y], by simp [hl], fun i hi => ?_⟩
          by_cases e : i < l.length
          · rw [List.getElem_append_left e]; exact hh i e
          · have : i = k := by simp at hi; omega
            subst this
            rw [List.getElem_append_right (by omega)]
            simpa using hy
      obtain ⟨l, hl2, hh⟩ := hall n (Nat.le_refl _)
      refine ⟨l, .inr ⟨b, o, m, by rw [hl2], by omega, fun i hi => (hh i hi).1⟩, hl2, fun q hq => ?_, .inr ⟨_, _, hd, by simp⟩⟩
      obtain ⟨i, hi, rfl⟩ := List.mem_iff_getElem.1 hq
      exact (hh i hi).2

theorem InP.fits {q : Pr} (h : InP q) : Fits q := by
  refine ⟨?_, h.2.2.2.2⟩
  have := h.1
  unfold maxLen at this
  omega
end Go.Proofs.YtmaaacaifpgpaaaDoor

set_option maxRecDepth 100000
set_option linter.unusedSimpArgs false
namespace Go.Proofs.YtmaaacaifpgpaaaDoor
open Go.RowKit Go.Lib

def rowD (x : Nat × Nat × List UInt8) : DataW Unit := .agg [.lit (.int .i64 (x.1 : Int)), .lit (.int .i64 (x.2.1 : Int)), .lit (.string x.2.2)]
theorem laid_rows : (Rows.laid_trivet_table_methods : DataW Unit) = .agg (mL.map rowD) := rfl
theorem struct_row {enc : TypeId × Value → Unit} {w : World} {base : Nat} {sp : Nat → Bool} {held : Bool} {fuel : Nat} {cs : List Value} {x : Nat × Nat × List UInt8} {q : List MemPlace}
    (h : DataW.trod enc Tryd.prog w base sp held fuel 104 cs = some (rowD x, q)) : cs = [.int .i64 (x.1 : Int), .int .i64 (x.2.1 : Int), str x.2.2] := by
  obtain ⟨xs, n, hfe, hx, hl, hxl, hall⟩ := DataW.trod_struct Tryd.underlying104 h
  have hc : Tryd.prog.cellsOf 104 = 3 := by kernel_rfl
  have c3 : Tryd.prog.cellsOf 3 = 1 := by kernel_rfl
  have c9 : Tryd.prog.cellsOf 9 = 1 := by kernel_rfl
  have h0 := hall 0 _ rfl
  have h1 := hall 1 _ rfl
  have h2 := hall 2 _ rfl
  have hx1 := congrArg Prod.fst hx
  rw [hc] at hl
  unfold rowD at hx1
  simp only [DataW.agg.injEq] at hx1
  match cs, hl with
  | [u0, u1, u2], _ =>
    match xs, hx1 with
    | [x0, x1, x2], hx1 =>
      simp only [List.map_cons, List.map_nil, List.cons.injEq, and_true] at hx1
      simp only [c3, c9, List.drop_zero, List.drop_succ_cons, List.take_succ_cons, List.take_zero, List.getElem?_cons_zero, List.getElem?_cons_succ] at h0 h1 h2
      obtain ⟨e0, e1, e2⟩ := hx1
      obtain ⟨z0, hz0, rfl, _⟩ := DataW.trod_int Tryd.underlying3 h0
      obtain ⟨z1, hz1, rfl, _⟩ := DataW.trod_int Tryd.underlying3 h1
      obtain ⟨s2, hz2, rfl, _⟩ := DataW.trod_string Tryd.underlying9 h2
      cases e0
      cases e1
      simp only [DataW.lit.injEq, Lit.string.injEq] at e2
      cases hz0
      cases hz1
      cases hz2
      simp [str, e2]
theorem arr_len {enc : TypeId × Value → Unit} {w : World} {base : Nat} {sp : Nat → Bool} {held : Bool} {fuel : Nat} {cs : List Value} {x : DataW Unit × List MemPlace}
    (h : DataW.trod enc Tryd.prog w base sp held fuel 105 cs = some x) : cs.length = 108 := by
  have hc : Tryd.prog.cellsOf 105 = 108 := by kernel_rfl
  cases fuel with
  | zero => simp [DataW.trod] at h
  | succ fuel =>
    simp only [DataW.trod, Tryd.underlying105] at h
    split at h
    · rename_i hh
      rw [← hc]
      simpa using hh
    · cases h
theorem mCells_of : ∀ (l : List (Nat × Nat × List UInt8)) (cs : List Value), cs.length = 3 * l.length → (∀ (i : Nat) (h : i < l.length), (cs.drop (i * 3)).take 3 = [.int .i64 (l[i].1 : Int), .int .i64 (l[i].2.1 : Int), str l[i].2.2]) → cs = mCells l
  | [], cs, hl, _ => List.length_eq_zero_iff.mp (by simpa using hl)
  | x :: l, cs, hl, h => by
    match cs, hl with
    | u0 :: u1 :: u2 :: cs, hl =>
      have h0 := h 0 (by simp)
      simp at h0
      obtain ⟨rfl, rfl, rfl⟩ := h0
      have ih := mCells_of l cs (by simp at hl; omega) (fun i hi => by
        have := h (i + 1) (by simp; omega)
        have e : (i + 1) * 3 = i * 3 + 1 + 1 + 1 := by omega
        rw [e] at this
        simpa using this)
      rw [ih]
      rfl
theorem mv_of_laid {W : World} (h : laidMetH Tryd.prog Rows.tableTablesRow.laid W) : Mv W := by
  rw [MakeChecks.laidMetH_plain _ _ _ (by kernel_rfl)] at h
  obtain ⟨g, t, cs, fuel, p, hg, ht, hv, hd⟩ := laidMet.reads h (n := "trivet/table.methods") (d := Rows.laid_trivet_table_methods) (.head _)
  have hG : Tryd.prog.globalNamed "trivet/table.methods" = some 1 := by kernel_rfl
  obtain rfl := Option.some.inj (hG.symm.trans hg)
  obtain rfl := Option.some.inj ((show (Tryd.prog.globals[1]?).map (·.type) = some 105 by kernel_rfl).symm.trans ht)
  have hlen := arr_len hd
  rw [laid_rows] at hd
  have e : cs.toList = mCells mL := by
    refine mCells_of mL cs.toList (by rw [hlen]; rfl) (fun i hi => ?_)
    obtain ⟨fuel', d, q, hds, htr⟩ := array_elem Tryd.underlying105 hd i hi
    have hc : Tryd.prog.cellsOf 104 = 3 := by kernel_rfl
    rw [List.getElem?_map, List.getElem?_eq_getElem hi] at hds
    cases hds
    rw [hc] at htr
    exact struct_row htr
  have hcs : cs = (mCells mL).toArray := by rw [← e]
  subst hcs
  unfold World.var? at hv
  rw [hG] at hv
  simp only [Option.bind_some] at hv
  split at hv
  · rename_i cs' t' fr' hh
    injection hv with hv
    subst hv
    exact ⟨_, _, hh⟩
  · cases hv
end Go.Proofs.YtmaaacaifpgpaaaDoor

namespace Go.Proofs.YtmaaacaifpgpaaaDoor
open Go.ChangeShapes Go.WideShapes Go.ChangeAt Go.RowKit Go.Lib Go.Deep
set_option maxRecDepth 100000
set_option linter.unusedSimpArgs false

theorem cells5 : Tryd.prog.cellsOf 5 = 1 := by kernel_rfl
theorem u8b {z : Int} (h : (Lit.int .u8 z).wf = true) : 0 ≤ z ∧ z ≤ 255 := by
  simpa [Lit.wf, IntKind.min, IntKind.max, IntKind.signed, IntKind.bits] using h
theorem rd_bytes {H : Type} {enc : TypeId × Value → H} {W : World} {base : Nat} {v1 : Value} {d1 : DataW H} {p1 : List MemPlace} (hval : Value.okWide Tryd.prog W .any base 23 v1) (h1 : DataW.Trod enc Tryd.prog W 0 (fun _ => true) true 23 v1 d1 p1) :
    ∃ l : List UInt8, RdA W v1 l := by
  obtain ⟨a1, len, cap, rfl⟩ := okWide_slice Tryd.underlying23 hval
  obtain ⟨fuel, hf⟩ := h1
  rcases open_ints Tryd.underlying23 Tryd.underlying5 cells5 hf with ⟨hcs, hx⟩ | ⟨a, len', cap', zs, hcs, _, hl, hm, hz, hx, hcell, hwz⟩
  · simp [Value.cells] at hcs
    obtain ⟨rfl, rfl, rfl⟩ := hcs
    exact ⟨[], .inl (.inl ⟨rfl, rfl⟩)⟩
  · simp [Value.cells] at hcs
    obtain ⟨rfl, rfl, rfl⟩ := hcs
    simp only [if_true] at hz
    by_cases h0 : len = 0
    · subst h0
      exact ⟨[], .inr ⟨⟨_, _, rfl⟩, rfl⟩⟩
    · obtain ⟨ab, ao, spot⟩ := a
      have hspot : spot = none := by simpa [Addr.add] using World.cell?_spot (hcell 0 (by omega))
      subst hspot
      have hlen : ((zs.take len).map fun n => UInt8.ofNat n.toNat).length = len := by simp; omega
      refine ⟨(zs.take len).map fun n => UInt8.ofNat n.toNat, .inl (.inr ⟨ab, ao, cap, by rw [hlen], by rw [hlen]; exact hl, fun i hi => ?_⟩)⟩
      rw [hlen] at hi
      have hc := hcell i (by omega)
      rw [Addr.add_lit] at hc
      rw [hc]
      have hi2 : i < zs.length := by omega
      have hm : zs[i] ∈ zs := List.getElem_mem hi2
      obtain ⟨q0, q1⟩ := u8b (hwz _ hm)
      have e1 : zs.getD i 0 = zs[i] := by simp [List.getD, hi2]
      have e2 : (((zs.take len).map fun n => UInt8.ofNat n.toNat).getD i 0) = UInt8.ofNat zs[i].toNat := by
        simp [List.getD, hi, hi2]
      have e4 : (((UInt8.ofNat zs[i].toNat).toNat : Nat) : Int) = zs[i] := by
        have e3 : (UInt8.ofNat zs[i].toNat).toNat = zs[i].toNat % 256 := by simp
        rw [e3]
        omega
      rw [e1, e2, e4]
end Go.Proofs.YtmaaacaifpgpaaaDoor

set_option maxRecDepth 100000
namespace Go.Proofs.YtmaaacaifpgpaaaDoor
open Go.ChangeShapes Go.WideShapes Go.ChangeAt Go.RowKit Go.Lib
open Go.ChangeMaps (open_string shut_string)

theorem tables_contract (H : Type) (enc : TypeId × Value → H) (W : World) (base : Nat) (args : Array Value) (ds gs : List (DataW H)) (before : List MemPlace)
    (hval : ∀ (j : Nat) t v, Tryd.f3.params[j]? = some t → args[j]? = some v → Value.okWide Tryd.prog W .any base t v)
    (hW : DataW.Whole enc Tryd.prog Tryd.f3.params.toList Rows.tableTablesSpec.vars false W args.toList ds gs before)
    (hsz0 : (DataW.weightsEach Tryd.prog (Tryd.f3.params.toList ++ Rows.tableTablesSpec.plain.varTypes Tryd.prog) (ds ++ gs)).all (· ≤ reachBytes) = true)
    (hL : laidMetH Tryd.prog Rows.tableTablesRow.laid W) :
    Calls Tryd.prog 3 args W fun e W' => ∃ v, e = .returned v ∧ Rows.tableTablesSpec.post enc Tryd.prog Tryd.f3 false true false false W args v W' := by
  have hv : Mv W := mv_of_laid hL
  clear hL
  have hW' := hW
  obtain ⟨p, q, hA0, hV, rfl, hfz, hnd⟩ := hW
  have hA : DataW.TrodAll enc Tryd.prog W 0 (fun _ => true) true Tryd.f3.params.toList args.toList ds p := hA0
  have hsz := hsz0
  rw [Tryd.params3] at hA hval hsz
  obtain ⟨v0, vs0, d0, ds0, p0, q0, hargs, rfl, rfl, h0, r0⟩ := trodAll_cons hA
  obtain ⟨v1, vs1, d1, ds1, p1, q1, rfl, rfl, rfl, h1, r1⟩ := trodAll_cons r0
  obtain ⟨v2, vs2, d2, ds2, p2, q2, rfl, rfl, rfl, h2, r2⟩ := trodAll_cons r1
  obtain ⟨rfl, rfl, rfl⟩ := trodAll_nil r2
  obtain rfl : args = #[v0, v1, v2] := by cases args; simp_all
  obtain ⟨rfl, rfl⟩ := trodVars_none hV
  obtain ⟨a0, len0, cap0, rfl⟩ := okWide_slice Tryd.underlying22 (hval 0 22 v0 rfl rfl)
  have lt0 : ∀ x ∈ p0, x.block < W.heap.size := by obtain ⟨m, hm⟩ := h0; exact DataW.trod_lt m _ _ _ hm
  have lt1 : ∀ x ∈ p1, x.block < W.heap.size := by obtain ⟨m, hm⟩ := h1; exact DataW.trod_lt m _ _ _ hm
  obtain ⟨ps0, hr0, hn0, hi0, hb0⟩ := rd_props h0
  have b0 : ps0.length ≤ 140737488355328 := by
    rcases hb0 with h | ⟨E, S, rfl, h⟩
    · omega
    · have := sized_slice hsz (j := 0) (t := 22) (e := 51) rfl rfl Tryd.underlying22
      rw [bytes51] at this
      simp only [reachBytes] at this
      omega
  obtain ⟨l1, hb1⟩ := rd_bytes (hval 1 23 v1 rfl rfl) h1
  obtain ⟨s2, rfl, rfl, rfl, w2⟩ := open_string Tryd.underlying9 (hval 2 9 v2 rfl rfl) h2
  have T := tables_law W hv _ v1 ps0 l1 s2.data.toList hr0 hb1 (fun q hq => (hi0 q hq).fits) (by omega)
  rw [← str_of] at T
  refine T.mono fun e W' ⟨he, bel⟩ => ?_
  subst he
  exact ⟨_, rfl, _, _, _, [], _, [], hW', trodAll_mk1 (shut_bool Tryd.underlying4 _), (trodAll_cons_mk (Below.trod laidOut (by kernel_rfl) (of_decide_eq_true (by kernel_rfl)) h0 bel lt0) (trodAll_cons_mk (Below.trod laidOut (by kernel_rfl) (of_decide_eq_true (by kernel_rfl)) h1 bel lt1) (trodAll_cons_mk (shut_string Tryd.underlying9 w2) trodAll_mk0))), rfl, bel.frame _, fun h => by cases h⟩

theorem tables_lifted (os : Os) (started : os.Started) (H : Type) (enc : TypeId × Value → H) :
    ReturnsInHanded {} Tryd.checked os 3 .any (fun w args => (Rows.tableTablesSpec.pre enc Tryd.prog Tryd.f3 [] false w args ∧ laidMetH Tryd.prog Rows.tableTablesRow.laid w) ∧ sizedMet enc Tryd.prog Tryd.f3 (OpenSpec.ofChange Rows.tableTablesSpec) false w args)
      (Rows.tableTablesSpec.post enc Tryd.prog Tryd.f3 false true false false) := by
  refine returnsInHanded_of_change_and (C := Tryd.checked) (X := fun w _ => laidMetH Tryd.prog Rows.tableTablesRow.laid w) (fun _ _ _ hh h => h.of_heap hh) own started (by kernel_rfl) Tryd.func3
    (ChangeSpec.witness_shaped (enc := enc) (C := Tryd.checked) (os := os) (X := fun w _ => laidMetH Tryd.prog Rows.tableTablesRow.laid w) false (World.laidAll Tryd.prog os Rows.tableTablesRow.laid) #[.slice none 0 0, .slice none 0 0, .string ByteArray.empty] 8 (World.laidAll_os _ _ _)
      (World.shaped_of_ZipB (by kernel_rfl) (by kernel_rfl)) (by kernel_rfl) (by kernel_rfl) (by kernel_rfl)
      (by rw [MakeChecks.laidMetH_plain _ _ _ (by kernel_rfl)]; exact laidMet_laidAll _ (by kernel_rfl) (by kernel_rfl))) ?_
  intro W base args ds gs before hval hW _ hsz hL _
  exact tables_contract H enc W base args ds gs before hval hW hsz hL

theorem tables_said : Rows.TableTablesSaid :=
  OpenClaim.holds_of_wide 3 Tryd.f3 rfl rfl rfl rfl rfl rfl rfl ⟨rfl, rfl, rfl, rfl, rfl⟩ rfl rfl rfl rfl rfl (by kernel_rfl) Tryd.func3 (by kernel_rfl)
    (of_decide_eq_true (by kernel_rfl)) (by unfold Func.isWrapper; first | (rw [if_pos (by decide +kernel)]; kernel_rfl) | (rw [if_neg (by decide +kernel)]; exact ⟨rfl, rfl⟩))
    (fun os started H enc _ => tables_lifted os started H enc)

theorem tables_plain (f : FuncId) (fn : Func) (hf : Tryd.pinned.checked.prog.funcNamed "trivet/trivetlaw15.TableTables" = some f) (hfn : Tryd.pinned.checked.prog.funcs[f]? = some fn) :
    true = Tryd.pinned.checked.prog.looks [] ∧ ∀ (j : Nat) t, fn.params[j]? = some t → Tryd.pinned.checked.prog.wantsStandIn t = false := by
  obtain rfl : f = 3 := Option.some.inj ((show Tryd.prog.funcNamed "trivet/trivetlaw15.TableTables" = some 3 by kernel_rfl).symm.trans hf) |>.symm
  obtain rfl : fn = Tryd.f3 := (Option.some.inj (Tryd.func3.symm.trans hfn)).symm
  refine ⟨by kernel_rfl, fun j t ht => ?_⟩
  rw [Tryd.params3] at ht
  have hm : t ∈ [22, 23, 9] := by simpa using Array.mem_of_getElem? ht
  have hall : ([22, 23, 9].all fun u => !Tryd.prog.wantsStandIn u) = true := by kernel_rfl
  exact (show Tryd.prog.wantsStandIn t = false by simpa using List.all_eq_true.1 hall t hm)

theorem tableTables_card : Rows.TableTablesCardSaid :=
  Claim7.holds_tied_plain_at .later [] _ _ _ _ tables_said (fun _ h => by cases h) (by kernel_rfl) (fun _ h => by cases h) tableTables_row_tie rfl ⟨rfl, rfl⟩ (by kernel_rfl) rfl tables_plain (by kernel_rfl)
#print axioms tableTables_card
end Go.Proofs.YtmaaacaifpgpaaaDoor
