/- What stands ahead of each statement of the layer: bytes that the document tells. Conditions: those that each row states. -/
import Derived.Test.YtlkinkbdhoejiaaNo
import Derived.Test.YtlkinkbdhoejiaaEr
namespace Go.Proofs.Ytlkinkbdhoejiaa
open Go.RowKit Go.Lib
set_option maxRecDepth 100000

theorem mode_any (w : World) (d : Bool) : Calls Try.prog 28 #[.bool d] w fun e w' => e = .returned (.int .u8 (if d then 2 else 1)) ∧ w' = w := by
  cases d with
  | true =>
    go_enter Try.func28, Try.ntmps28
    go_wp2
    go_ret
    exact ⟨rfl, rfl⟩
  | false =>
    go_enter Try.func28, Try.ntmps28
    go_wp2
    go_ret
    exact ⟨rfl, rfl⟩

/-- What stands in a header ahead of its properties. -/
def fixL (size flags : Nat) : List UInt8 := beN 2 60 ++ beN 2 0 ++ beN 8 size ++ beN 2 flags
set_option maxHeartbeats 400000 in
theorem fix_any (w : World) (size flags : Nat) : Calls Try.prog 27 #[.int .i64 size, .int .i64 flags] w fun e w' => ∃ v, e = .returned v ∧ Own w' w.heap.size v (fixL size flags) ∧ Below w.heap.size w w' := by
  have P : ∀ (k n : Nat) (w : World) (B : Nat) (v : Value) (l : List UInt8), k ≤ 8 → Own w B v l → B ≤ w.heap.size → l.length ≤ 100 → Calls Try.prog 20 #[v, .int .i64 k, .int .i64 n] w fun e w' => ∃ v', e = .returned v' ∧ Own w' B v' (l ++ beN k n) ∧ Below B w w' := fun k n w B v l hk ho hB hl => putNum_any w B v l k n hk ho hB (by omega)
  have P1 := P 2 60
  have P2 := P 2 0
  have P3 := P 8 size
  have P4 := P 2 flags
  clear P
  go_enter Try.func27, Try.ntmps27
  go_wp2_with fail
  refine (P1 w w.heap.size _ [] (by omega) (Own.nil _ _) (Nat.le_refl _) (by simp)).mono ?_
  rintro e w1 ⟨v1, rfl, ho1, hb1⟩
  have hs1 := hb1.size
  clear P1
  go_wp2_with fail
  refine (P2 w1 w.heap.size _ _ (by omega) ho1 hs1 (by simp [beN_len])).mono ?_
  rintro e w2 ⟨v2, rfl, ho2, hb2⟩
  have hB2 := hb1.trans hb2
  have hs2 := hB2.size
  clear P2 ho1 hb1 hb2 hs1
  go_wp2_with fail
  refine (P3 w2 w.heap.size _ _ (by omega) ho2 hs2 (by simp [beN_len])).mono ?_
  rintro e w3 ⟨v3, rfl, ho3, hb3⟩
  have hB3 := hB2.trans hb3
  have hs3 := hB3.size
  clear P3 ho2 hB2 hb3 hs2
  go_wp2_with fail
  refine (P4 w3 w.heap.size _ _ (by omega) ho3 hs3 (by simp [beN_len])).mono ?_
  rintro e w4 ⟨v4, rfl, ho4, hb4⟩
  go_wp2
  go_ret
  exact ⟨_, rfl, by simpa [fixL] using ho4, hB3.trans hb4⟩

set_option maxHeartbeats 400000 in
theorem head_none (w : World) (size : Nat) (d : Bool) (c : UInt8) (hd : c = if d then 2 else 1) (hs : size ≤ 1024) : Calls Try.prog 14 #[.int .i64 size, .slice none 0 0, .bool d] w fun e w' => ∃ v, e = .returned (.tuple #[v, .int .i64 0]) ∧ Own w' w.heap.size v (fixL size 4096 ++ [c]) ∧ Below w.heap.size w w' := by
  have F := fix_any w size 4096
  have hz : (size : Int) ≤ 1024 := by omega
  have M := fun w => mode_any w d
  have hcv : (if d then (2 : Int) else 1) = (c.toNat : Int) := by subst hd; cases d <;> rfl
  rw [hcv] at M
  clear hcv hd
  go_enter Try.func14, Try.ntmps14
  go_wp2_with fail
  refine F.mono ?_
  rintro e w1 ⟨v1, rfl, ho1, hb1⟩
  have hs1 := hb1.size
  clear F
  go_wp2_with fail
  refine (M _).mono ?_
  rintro e w2 ⟨rfl, rfl⟩
  go_wp2_with (at_builtin; refine app1 rfl (.tmp 20) (.tmp 23) rfl w.heap.size _ _ _ c _ rfl rfl ho1 rfl (by simp [fixL, beN_len]) hs1 ?_)
  intro v5 w5 ho5 hb5
  go_wp2
  go_ret2
  exact ⟨_, rfl, ho5, hb1.trans hb5⟩
end Go.Proofs.Ytlkinkbdhoejiaa
