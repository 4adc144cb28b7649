
/- strings.Clone, IndexByte, TrimSuffix of 0d, Cut at one byte. Conditions: those that each row states. -/
import Derived.Test.YtfdbekfbbihdgaaDoorBb
import Derived.Test.YtfdbekfbbihdgaaDoorPu
import Derived.Test.YtfdbekfbbihdgaaDoorShelf
import Derived.WalkSmall
import Derived.BigQuiet
import Derived.BigRegion
namespace Go.Proofs.YtfdbekfbbihdgaaDoor
open Go.RowKit Go.Lib
set_option maxRecDepth 100000
set_option linter.unusedSimpArgs false

set_option maxHeartbeats 4000000 in
theorem clone_any (w : World) (l : Bs) (hl : l.length ≤ 140737488355328) : Calls Tryd.prog 46 #[str l] w fun e w' => e = .returned (str l) ∧ Below w.heap.size w w' := by
  have h := Tryd.stringslite_Clone ⟨l.toArray⟩ w (by simp [ByteArray.size]; omega)
  go_enter Tryd.func46, Tryd.ntmps46
  go_wp2_with (go_at_call 54; refine h.mono ?_; rintro e w' ⟨rfl, hb⟩)
  go_ret
  exact ⟨rfl, hb⟩
theorem ib_any (w : World) (l : Bs) (c : UInt8) : Calls Tryd.prog 34 #[str l, .int .u8 c.toNat] w fun e w' => e = .returned (.int .i64 (match cutN c l with | some (a, _) => (a.length : Int) | none => -1)) ∧ w' = w := by
  refine (Tryd.strings_IndexByte ⟨l.toArray⟩ c.toNat w).mono fun e w' ⟨h1, h2⟩ => ⟨?_, h2⟩
  rw [h1, byte_back']
  show Ending.returned (.int .i64 (indexByte l c)) = _
  rw [ib_cut]
  cases cutN c l <;> rfl
theorem trim_any (w : World) (l : Bs) (hl : l.length ≤ 140737488355328) : Calls Tryd.prog 40 #[str l, .string ⟨#[13]⟩] w fun e w' => e = .returned (str (trimR l)) ∧ w' = w := by
  refine (Tryd.strings_TrimSuffix ⟨l.toArray⟩ ⟨#[13]⟩ w (by simp [ByteArray.size]; omega)).mono fun e w' ⟨h1, h2⟩ => ⟨?_, h2⟩
  rw [h1]
  show Ending.returned (.string ⟨(Lib.trimSuffix l [13]).toArray⟩) = _
  rw [trim_one]
def cutV (c : UInt8) (l : Bs) : Value := match cutN c l with
  | some (a, r) => .tuple #[str a, str r, .bool true]
  | none => .tuple #[str l, str [], .bool false]
set_option maxHeartbeats 4000000 in
theorem cut49 (w : World) (l : Bs) (c : UInt8) (hl : l.length ≤ 140737488355328) : Calls Tryd.prog 49 #[str l, .string ⟨#[c]⟩] w fun e w' => e = .returned (cutV c l) ∧ Below w.heap.size w w' := by
  have H := fun w => Tryd.stringslite_Index_one ⟨l.toArray⟩ c w
  have e0 : Lib.indexByte (⟨l.toArray⟩ : ByteArray).data.toList c = (match cutN c l with | some (a, _) => (a.length : Int) | none => -1) := ib_cut c l
  rw [e0] at H
  unfold cutV
  cases hc : cutN c l with
  | none =>
    rw [hc] at H
    simp only [] at H ⊢
    go_enter Tryd.func49, Tryd.ntmps49
    go_wp2_with (go_at_call 58; refine (H _).mono ?_; rintro e w' ⟨rfl, rfl⟩)
    go_ret3
    exact ⟨rfl, Below.refl _ _⟩
  | some p =>
    obtain ⟨a, r⟩ := p
    obtain ⟨h1, _⟩ := cutN_some hc
    rw [hc] at H
    simp only [] at H ⊢
    have hla : a.length + 1 ≤ l.length := by rw [h1]; simp
    have ea : (⟨l.toArray⟩ : ByteArray).extract 0 a.length = ⟨a.toArray⟩ := by
      rw [show (⟨l.toArray⟩ : ByteArray) = ⟨(a ++ c :: r).toArray⟩ by rw [h1]]
      rw [ext_str]; simp
    have er : (⟨l.toArray⟩ : ByteArray).extract (a.length + 1) l.length = ⟨r.toArray⟩ := by
      rw [ext_str]
      have : (l.drop (a.length + 1)) = r := by rw [h1, ← List.drop_drop]; simp
      rw [this, List.take_of_length_le (by rw [← this, List.length_drop]; omega)]
    have hs : (⟨l.toArray⟩ : ByteArray).size = l.length := rfl
    have c1 : (0 : Int) ≤ (a.length : Int) := by omega
    have c2 : (a.length : Int) ≤ (l.length : Int) := by omega
    have c3 : (0 : Int) ≤ (a.length : Int) + 1 := by omega
    have c4 : (a.length : Int) + 1 ≤ (l.length : Int) := by omega
    clear h1 hc e0
    go_enter Tryd.func49, Tryd.ntmps49
    go_upto_region 3 with (go_at_call 58; refine (H _).mono ?_; rintro e w' ⟨rfl, rfl⟩)
    go_quiet (fail)
    go_wp2
    go_ret3
    refine ⟨?_, below_drewN (Below.refl _ _) _⟩
    rfl
set_option maxHeartbeats 4000000 in
theorem cut39 (w : World) (l : Bs) (c : UInt8) (hl : l.length ≤ 140737488355328) : Calls Tryd.prog 39 #[str l, .string ⟨#[c]⟩] w fun e w' => e = .returned (cutV c l) ∧ Below w.heap.size w w' := by
  have H := fun w => cut49 w l c hl
  unfold cutV at H ⊢
  cases hc : cutN c l with
  | none =>
    rw [hc] at H
    simp only [] at H ⊢
    go_enter Tryd.func39, Tryd.ntmps39
    go_wp2_with (go_at_call 49; refine (H _).mono ?_; rintro e w' ⟨rfl, hb⟩)
    go_ret3
    exact ⟨rfl, hb⟩
  | some p =>
    rw [hc] at H
    simp only [] at H ⊢
    go_enter Tryd.func39, Tryd.ntmps39
    go_wp2_with (go_at_call 49; refine (H _).mono ?_; rintro e w' ⟨rfl, hb⟩)
    go_ret3
    exact ⟨rfl, hb⟩
/-- A line, what is behind it, whether it ends. -/
def lineV (l : Bs) : Value := match cutN 10 l with
  | some (a, r) => .tuple #[str (trimR a), str r, .bool true]
  | none => .tuple #[str (trimR l), str [], .bool false]
set_option maxHeartbeats 4000000 in
theorem line29 (w : World) (l : Bs) (hl : l.length ≤ 140737488355328) : Calls Tryd.prog 29 #[str l] w fun e w' => e = .returned (lineV l) ∧ Below w.heap.size w w' := by
  have H := fun w => cut39 w l 10 hl
  unfold cutV at H
  unfold lineV
  cases hc : cutN 10 l with
  | none =>
    have T := fun w => trim_any w l hl
    rw [hc] at H
    simp only [] at H ⊢
    go_enter Tryd.func29, Tryd.ntmps29
    go_wp2_with (first | (go_at_call 39; refine (H _).mono ?_; rintro e w1 ⟨rfl, hb⟩) | (go_at_call 40; refine (T _).mono ?_; rintro e w2 ⟨rfl, rfl⟩))
    go_ret3
    exact ⟨rfl, hb⟩
  | some p =>
    obtain ⟨a, r⟩ := p
    have T := fun w => trim_any w a (by obtain ⟨h1, _⟩ := cutN_some hc; rw [h1] at hl; simp at hl; omega)
    rw [hc] at H
    simp only [] at H ⊢
    go_enter Tryd.func29, Tryd.ntmps29
    go_wp2_with (first | (go_at_call 39; refine (H _).mono ?_; rintro e w1 ⟨rfl, hb⟩) | (go_at_call 40; refine (T _).mono ?_; rintro e w2 ⟨rfl, rfl⟩))
    go_ret3
    exact ⟨rfl, hb⟩
end Go.Proofs.YtfdbekfbbihdgaaDoor
