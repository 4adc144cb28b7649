/- wakes answers true. -/
import Derived.Test.YtgbgeoplbmjcbaaSteps
namespace Go.Proofs.Ytgbgeoplbmjcbaa
open Go.RowKit Go.Lib

theorem splice_len {P l : List UInt8} {i n : Nat} (hP : P.length = n * 256) (hi : i < n) (hl : l.length ≤ 256) : (splice P (i * 256) l).length = n * 256 := by
  rw [length_splice _ _ _ (by rw [hP]; omega), hP]
theorem take_le (k : Nat) (c : UInt8) : ((fullB c).take k).length ≤ 256 := by rw [List.length_take, fullB_length]; omega
theorem full_le (c : UInt8) : (fullB c).length ≤ 256 := by rw [fullB_length]; omega
set_option maxRecDepth 100000 in
/-- What is left of the pages in wakes. -/
theorem wake_pages (Z : List UInt8) (hZ : Z.length = 2 * 256) (h0 : pageOf Z 1 = fullB 0) :
    (pageOf (partAll (appAll Z [(0, fullB 97)]) 3 [(0, fullB 98), (1, fullB 99)]) 0).take 5 = [98, 98, 98, 97, 97] ∧ pageOf (partAll (appAll Z [(0, fullB 97)]) 3 [(0, fullB 98), (1, fullB 99)]) 1 = fullB 0 ∧
    (partAll (appAll Z [(0, fullB 97)]) 3 [(0, fullB 98), (1, fullB 99)]).length = 2 * 256 := by
  have d0 : 0 < 2 := by omega
  have d1 : 1 < 2 := by omega
  have n1 : ¬ 0 = 1 := by omega
  have n2 : ¬ 1 = 0 := by omega
  have e1 : appAll Z [(0, fullB 97)] = splice Z (0 * 256) (fullB 97) := rfl
  have h1 : (appAll Z [(0, fullB 97)]).length = 2 * 256 := by rw [e1]; exact splice_len hZ d0 (full_le _)
  have e2 : partAll (appAll Z [(0, fullB 97)]) 3 [(0, fullB 98), (1, fullB 99)] = splice (splice (appAll Z [(0, fullB 97)]) (0 * 256) ((fullB 98).take 3)) (1 * 256) ((fullB 99).take 0) := rfl
  have h2 : (splice (appAll Z [(0, fullB 97)]) (0 * 256) ((fullB 98).take 3)).length = 2 * 256 := splice_len h1 d0 (take_le _ _)
  refine ⟨?_, ?_, ?_⟩
  · rw [e2, pageOf_splice _ 2 1 0 _ h2 d1 d0 (take_le _ _), if_neg n1, pageOf_splice _ 2 0 0 _ h1 d0 d0 (take_le _ _), if_pos rfl, e1, pageOf_splice _ 2 0 0 _ hZ d0 d0 (full_le _), if_pos rfl]
    rfl
  · rw [e2, pageOf_splice _ 2 1 1 _ h2 d1 d1 (take_le _ _), if_pos rfl, pageOf_splice _ 2 0 1 _ h1 d0 d1 (take_le _ _), if_neg n2, e1, pageOf_splice _ 2 0 1 _ hZ d0 d1 (full_le _), if_neg n2, h0]
    rfl
  · rw [e2]
    exact splice_len h2 d1 (take_le _ _)

set_option maxRecDepth 100000 in
set_option maxHeartbeats 2000000 in
theorem wakes_any (w : World) : Calls Try.prog 8 #[] w fun e w' => e = .returned (.bool true) ∧ Below w.heap.size w w' := by
  have N9 := new0 w 2 (by omega) (by omega)
  have HZ : Hid ((List.replicate (2 * 256) (0 : UInt8)).length = 2 * 256) := List.length_replicate
  have HZ1 : Hid (pageOf (List.replicate (2 * 256) 0) 1 = fullB 0) := zeros_page 2 1 (by omega)
  generalize List.replicate (2 * 256) (0 : UInt8) = Z at *
  have F97 : Hid (∀ w, Calls Try.prog 26 #[.int .u8 97] w fun e w' => e = .returned (.slice (some ⟨w.heap.size, 0, none⟩) 256 256) ∧ FullAt w w' 97) := fun w => full_d w 97
  have F98 : Hid (∀ w, Calls Try.prog 26 #[.int .u8 98] w fun e w' => e = .returned (.slice (some ⟨w.heap.size, 0, none⟩) 256 256) ∧ FullAt w w' 98) := fun w => full_d w 98
  have F99 : Hid (∀ w, Calls Try.prog 26 #[.int .u8 99] w fun e w' => e = .returned (.slice (some ⟨w.heap.size, 0, none⟩) 256 256) ∧ FullAt w w' 99) := fun w => full_d w 99
  go_enter Try.func8, Try.ntmps8
  go_upto_region 2 with (go_at_call 9; refine N9.mono ?_; rintro e w1 ⟨X1, q, rfl, hd1, hb1, hX1⟩)
  clear N9
  go_wp2_with fail
  refine (F97.out _).mono ?_
  rintro e w2 ⟨rfl, hf2⟩
  have N12 := write0 w1 w2 X1 q 2 Z [] 0 0 97 0 (by omega) (by simp) (by omega) hd1 hf2
  clear hd1 hf2
  go_wp2_with fail
  refine N12.mono ?_
  rintro e w3 ⟨X3, rfl, hd3, hs3⟩
  clear N12
  have b3 := hb1.trans (hs3.below hX1 hb1.size)
  have hX3 := hs3.above hX1 hb1.size
  clear hs3 hX1 hb1
  have N15 := flush0 w3 X3 q 2 Z ([] ++ [(0, fullB 97)]) _ 0 (by simp) (by omega) hd3
  clear hd3
  go_wp2_with fail
  refine N15.mono ?_
  rintro e w4 ⟨rfl, hd4, hs4⟩
  clear N15
  have b4 := b3.trans (hs4.below hX3 b3.size)
  have hX4 := hs4.above hX3 b3.size
  clear hs4 hX3 b3
  go_wp2_with fail
  refine (F98.out _).mono ?_
  rintro e w5 ⟨rfl, hf5⟩
  have N12 := write0 w4 w5 X3 q 2 _ [] _ 0 98 0 (by omega) (by simp) (by omega) hd4 hf5
  clear hd4 hf5
  go_wp2_with fail
  refine N12.mono ?_
  rintro e w6 ⟨X6, rfl, hd6, hs6⟩
  clear N12
  have b6 := b4.trans (hs6.below hX4 b4.size)
  have hX6 := hs6.above hX4 b4.size
  clear hs6 hX4 b4
  go_wp2_with fail
  refine (F99.out _).mono ?_
  rintro e w7 ⟨rfl, hf7⟩
  have N12 := write0 w6 w7 X6 q 2 _ _ _ 0 99 1 (by omega) (by simp) (by omega) hd6 hf7
  clear hd6 hf7
  go_wp2_with fail
  refine N12.mono ?_
  rintro e w8 ⟨X8, rfl, hd8, hs8⟩
  clear N12
  have b8 := b6.trans (hs8.below hX6 b6.size)
  have hX8 := hs8.above hX6 b6.size
  clear hs8 hX6 b6
  have N19 := off0 w8 X8 q 2 _ _ _ _ _ 3 (by omega) (by omega) (appAll_length 2 [(0, fullB 97)] Z HZ.out (fun x hx => by obtain rfl := List.mem_singleton.1 hx; exact ⟨Nat.succ_pos 1, fullB_length _⟩)) (fun x hx => by rcases List.mem_cons.1 hx with rfl | hx; exact ⟨Nat.succ_pos 1, fullB_length _⟩; obtain rfl := List.mem_singleton.1 hx; exact ⟨Nat.lt_succ_self 1, fullB_length _⟩) (by simp) hd8
  clear hd8
  go_wp2_with fail
  refine N19.mono ?_
  rintro e w9 ⟨rfl, hd9, hs9⟩
  clear N19
  have b9 := b8.trans (hs9.below hX8 b8.size)
  clear hs9 b8
  have N21 := on0 w9 X8 q 2 _ _ _ _ _ _ hd9
  clear hd9
  go_wp2_with fail
  refine N21.mono ?_
  rintro e w10 ⟨rfl, hd10, hs10⟩
  clear N21
  have b10 := b9.trans (hs10.below hX8 b9.size)
  clear hs10 b9 hX8
  have hpg := wake_pages Z HZ.out HZ1.out
  have N17 := read0 w10 X8 q 2 _ 0 (by omega) rfl hd10
  go_wp2_with fail
  refine N17.mono ?_
  rintro e w11 ⟨rfl, hp11⟩
  clear N17
  have N17 := read0 w11 X8 q 2 _ 1 (by omega) rfl (hd10.below hp11.below)
  clear hd10
  go_wp2_with fail
  refine N17.mono ?_
  rintro e w12 ⟨rfl, hp12⟩
  clear N17
  have hcv : (convert 37 9 (.slice (some ⟨w10.heap.size, 0, none⟩) 5 256)).run Try.prog w12 = .ok (.string ⟨#[98, 98, 98, 97, 97]⟩) w12 := by
    refine conv37 (l := [98, 98, 98, 97, 97]) rfl ?_
    rw [← hpg.1]
    intro j u hj
    have hb : w12.heap[w10.heap.size]? = w11.heap[w10.heap.size]? := hp12.below.block _ (by rw [hp11.eq]; simp)
    rw [World.cell?_of_block (w := w11) hb]
    refine range_of_block hp11.block j u ?_
    have hj5 : j < 5 := by
      have := (List.getElem?_eq_some_iff.1 hj).1
      rw [byteCells_length, hpg.1] at this
      exact this
    rw [← hj]
    show _ = (List.map _ (List.take 5 _))[j]?
    rw [List.map_take, List.getElem?_take_of_lt hj5]
    rfl
  have hcl : w12.cell? ⟨w11.heap.size, 0, none⟩ = some (.int .u8 0) := by
    have := range_of_block hp12.block 0 (.int .u8 0) (by show (byteCells (pageOf (partAll (appAll Z [(0, fullB 97)]) 3 [(0, fullB 98), (1, fullB 99)]) 1))[0]? = _; rw [hpg.2.1]; rfl)
    exact this
  have b12 := b10.trans ((hp11.below.trans (hp12.below.mono hp11.below.size)).mono b10.size)
  clear hp11 hp12 hpg b10
  go_wp2_with fail
  go_ret
  exact ⟨rfl, b12⟩
end Go.Proofs.Ytgbgeoplbmjcbaa
