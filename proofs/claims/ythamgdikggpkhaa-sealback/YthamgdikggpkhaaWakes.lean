/- The statements' first look, trivetlaw02.wakes, answers true; of what was there nothing has turned. -/
import Derived.Test.YthamgdikggpkhaaTakes
import Derived.Lib.SlBytesConst
namespace Go.Proofs.Ythamgdikggpkhaa
open Go.RowKit Go.Lib

theorem start0 : startN 0 = 1 := by decide
theorem of_a : addN 1 [97] = 210453463201 := by decide
theorem be_a : be8 210453463201 = [0, 0, 0, 49, 0, 1, 0, 161] := by decide
theorem below_alloc {w w' : World} {o : Obj} (h : Below (w.alloc o).heap.size (w.alloc o) w') : Below w.heap.size w w' :=
  ((Below.refl _ w).alloc (Nat.le_refl _) _).trans (h.mono (by simp))
theorem conv_lit {w : World} {B : Nat} {v : Value} {l : List UInt8} (h : Own w B v l) (a : Array UInt8) (e : l.toArray = a) : (convert 23 9 v).run Try.prog w = .ok (.string ⟨a⟩) w := by
  rw [← e]; exact conv_any h.rd
theorem lit1 (w : World) : RdA (w.alloc (.cells #[.int .u8 97] 5 (1, 2))) (.slice (some ⟨w.heap.size, 0, none⟩) 1 1) [97] := by
  refine .inl (.inr ⟨w.heap.size, 0, 1, rfl, by simp, fun i hi => ?_⟩)
  rw [World.cell?_alloc_mark]
  match i, hi with
  | 0, _ => rfl

set_option maxHeartbeats 1000000 in
theorem wakes_any (w : World) :
    Calls Try.prog 9 #[] w fun e w' => e = .returned (.bool true) ∧ Below w.heap.size w w' := by
  have kc := fun (w : World) (C : Array Value) (n c : Nat) => Lib.run_convert_bytes_const (P := Try.prog) w 23 5 C n c Try.underlying23 Try.underlying5
  have S := start_any w 0
  have O := of_any (w.alloc (.cells #[.int .u8 97] 5 (1, 2))) 0 _ [97] (lit1 w) (by simp)
  have U := put_any (w.alloc (.cells #[.int .u8 97] 5 (1, 2))) (.slice none 0 0) [] 210453463201 (by omega) (.inl (.inl ⟨rfl, rfl⟩)) (by simp)
  rw [start0, of_a] at O
  rw [start0] at S
  rw [be_a] at U
  go_enter Try.func9, Try.ntmps9
  go_wp2_with fail
  refine S.mono ?_
  rintro e w1 ⟨rfl, rfl⟩
  go_wp2_with fail
  clear kc
  refine O.mono ?_
  rintro e w2 ⟨rfl, rfl⟩
  go_wp2_with fail
  refine U.mono ?_
  rintro e w3 ⟨v3, rfl, ho3, b3⟩
  have hc3 := conv_lit ho3 #[0, 0, 0, 49, 0, 1, 0, 161] rfl
  have b := below_alloc b3
  clear ho3 b3 S O U
  go_wp2
  go_ret
  exact ⟨rfl, b⟩
end Go.Proofs.Ythamgdikggpkhaa
