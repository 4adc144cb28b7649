/- aframe.ReadHead. Conditions: those that each row states. -/
import Derived.Test.YtlkinkbdhoejiaaTv
namespace Go.Proofs.Ytlkinkbdhoejiaa
open Go.RowKit Go.Lib
set_option maxRecDepth 100000
set_option linter.unusedSimpArgs false

theorem ext_eq (s : List UInt8) (a b : Nat) : (⟨s.toArray⟩ : ByteArray).extract a b = ⟨((s.drop a).take (b - a)).toArray⟩ := by
  apply ByteArray.ext
  simp [ByteArray.data_extract, List.extract_eq_take_drop]
theorem sl_run (s : List UInt8) (a b : Nat) (h1 : a ≤ b) (h2 : b ≤ s.length) (W : World) : (Instr.slice 9 (str s) (some (.int .i64 (a : Int))) (some (.int .i64 (b : Int))) none).run Try.prog W = .ok (str ((s.drop a).take (b - a))) W := by
  have hz : (a : Int) ≤ (b : Int) := by omega
  have hz2 : (b : Int) ≤ (s.length : Int) := by omega
  have e := ext_eq s a b
  unfold str
  go_simp
/-- What ReadHead answers. -/
def RhP (w' : World) (B : Nat) (s : List UInt8) (e : Ending) : Prop :=
  ∃ v, e = .returned (.tuple #[.int .i64 (readH s).1, v, .bool (readH s).2.2.1, .int .i64 (readH s).2.2.2]) ∧ OwnP w' B v (readH s).2.1
theorem RhP.bad {w' : World} {B : Nat} {s : List UInt8} {n : Int} (h : readH s = (0, [], false, n)) : RhP w' B s (.returned (.tuple #[.int .i64 0, .slice none 0 0, .bool false, .int .i64 n])) := by
  refine ⟨.slice none 0 0, ?_, ?_⟩
  · rw [h]
  · rw [h]; exact World.ownsRow_nil _ _ _ _
set_option maxHeartbeats 2000000 in
theorem readhead_any (w : World) (s : List UInt8) (hs : s.length ≤ 140737488355328) :
    Calls Try.prog 16 #[str s] w fun e w' => RhP w' w.heap.size s e ∧ Below w.heap.size w w' := by
  by_cases h14 : s.length < 14
  · have hz : (s.length : Int) < 14 := by omega
    have HH : Hid (readH s = ((0 : Int), ([] : List Pr), false, (11 : Int))) := by show _ = _; unfold readH; rw [if_pos (.inl h14)]
    clear h14
    go_enter Try.func16, Try.ntmps16
    go_wp2_with fail
    refine bodyPost_ret (v := .tuple #[.int .i64 0, .slice none 0 0, .bool false, .int .i64 11]) (by simp [results, Try.results16, go_sem]) rfl ?_
    exact ⟨.bad HH.out, Below.refl _ _⟩
  have hz : ¬ (s.length : Int) < 14 := by omega
  have hz4 : (4 : Int) ≤ (s.length : Int) := by omega
  have hz14 : (14 : Int) ≤ (s.length : Int) := by omega
  have x4 : (⟨s.toArray⟩ : ByteArray).extract 0 4 = ⟨(s.take 4).toArray⟩ := by rw [ext_eq]; simp
  have xr : (⟨s.toArray⟩ : ByteArray).extract 14 s.length = ⟨(s.drop 14).toArray⟩ := by
    rw [ext_eq, List.take_of_length_le (by simp)]
  have N4 := fun w => num_any w (s.take 4) (by rw [List.length_take]; omega)
  have HH : Hid (readH s = if numL (s.take 4) ≠ 3932160 then ((0 : Int), ([] : List Pr), false, (11 : Int)) else match restH (s.drop 14) (numL ((s.drop 12).take 2)) with
    | none => ((0 : Int), ([] : List Pr), false, (11 : Int))
    | some (L, d) => if 1024 < numL ((s.drop 4).take 8) then ((0 : Int), ([] : List Pr), false, (3 : Int)) else (((numL ((s.drop 4).take 8) : Nat) : Int), L, d, (0 : Int))) := by
    show _ = _
    unfold readH
    by_cases h : numL (s.take 4) ≠ 3932160
    · rw [if_pos (.inr h), if_pos h]
    · rw [if_neg (by simp at h ⊢; exact ⟨by omega, h⟩), if_neg h]
      rfl
  have hn4 := numL_lt (s.take 4)
  have hn4 : numL (s.take 4) ≤ 4294967295 := by
    have : 256 ^ (s.take 4).length ≤ 256 ^ 4 := Nat.pow_le_pow_right (by decide) (by rw [List.length_take]; omega)
    have : numL (s.take 4) < 4294967296 := Nat.lt_of_lt_of_le hn4 this
    omega
  have hHS : Hid (s.length ≤ 140737488355328 ∧ ¬ s.length < 14) := ⟨hs, h14⟩
  clear hs h14
  by_cases h4 : numL (s.take 4) = 3932160
  · have hN8 : ((s.drop 4).take 8).length ≤ 8 := by rw [List.length_take]; omega
    have hN2 : ((s.drop 12).take 2).length ≤ 2 := by rw [List.length_take]; omega
    have N8 := fun w => num_any w ((s.drop 4).take 8) hN8
    have N2 := fun w => num_any w ((s.drop 12).take 2) (by omega)
    have hn2 : numL ((s.drop 12).take 2) < 65536 := Nat.lt_of_lt_of_le (numL_lt _) (Nat.le_trans (Nat.pow_le_pow_right (by decide) hN2) (by decide))
    have R := fun w => rest_any w (s.drop 14) (numL ((s.drop 12).take 2)) (by have := hHS.out.1; rw [List.length_drop]; omega) hn2
    have x8 : (⟨s.toArray⟩ : ByteArray).extract 4 12 = ⟨((s.drop 4).take 8).toArray⟩ := by rw [ext_eq]
    have x2 : (⟨s.toArray⟩ : ByteArray).extract 12 14 = ⟨((s.drop 12).take 2).toArray⟩ := by rw [ext_eq]
    have HH : Hid (readH s = match restH (s.drop 14) (numL ((s.drop 12).take 2)) with
    | none => ((0 : Int), ([] : List Pr), false, (11 : Int))
    | some (L, d) => if 1024 < numL ((s.drop 4).take 8) then ((0 : Int), ([] : List Pr), false, (3 : Int)) else (((numL ((s.drop 4).take 8) : Nat) : Int), L, d, (0 : Int))) := by show _ = _; rw [HH.out, if_neg (by simp [h4])]
    rw [h4] at N4
    have S8 : ∀ W, (Instr.slice 9 (str s) (some (.int .i64 4)) (some (.int .i64 12)) none).run Try.prog W = .ok (str ((s.drop 4).take 8)) W := fun W => sl_run s 4 12 (by omega) (by omega) W
    have S2 : ∀ W, (Instr.slice 9 (str s) (some (.int .i64 12)) (some (.int .i64 14)) none).run Try.prog W = .ok (str ((s.drop 12).take 2)) W := fun W => sl_run s 12 14 (by omega) (by omega) W
    clear h4 hn4 hN8 hN2 hn2
    generalize numL ((s.drop 4).take 8) = sz at *
    generalize numL ((s.drop 12).take 2) = fl at *
    go_enter Try.func16, Try.ntmps16
    go_wp2_with fail
    refine (N4 _).mono ?_
    rintro e w1 ⟨rfl, b1⟩
    clear N4
    go_upto_region 3 with fail
    refine wp_region_held (S := fun _ => True) hmix ?_
    show wpAnyH _ _ _ _ _ _ _ _ (World.drew _)
    have bD : Below w.heap.size w w1.drew := b1.drew
    generalize w1.drew = w2 at *
    refine tks [0, 1, 3, 4] [str s, str ((s.drop 4).take 8), str s, str ((s.drop 12).take 2)] 4 ?_ trivial ?_
    · simp only [tkY, tkf]
      refine ⟨.yes ?_, .yes ?_, .yes ?_, .yes ?_, trivial⟩
      all_goals
        intro W' hW'
        first
          | (go_simp; done)
          | (go_simp; rw [S8]; rfl)
          | (go_simp; rw [S2]; rfl)
    simp only [tkA, tkf]
    refine ak 2 (fun K hK => ?_)
    go_wp2_with fail
    refine (N8 _).mono ?_
    rintro e w3 ⟨rfl, b3⟩
    have bD3 := bD.trans (b3.mono bD.size)
    refine hK _ _ trivial ?_
    clear hK K N8 b3
    refine ak 5 (fun K hK => ?_)
    go_wp2_with fail
    refine (N2 _).mono ?_
    rintro e w4 ⟨rfl, b4⟩
    have bD4 := bD3.trans (b4.mono bD3.size)
    refine hK _ _ trivial ?_
    clear hK K N2 b4 bD3 bD b1
    refine ak 6 (fun K hK => ?_)
    go_wp2_with fail
    refine hK _ _ trivial ?_
    clear hK K
    refine ak 7 (fun K hK => ?_)
    go_wp2_with fail
    refine hK _ _ trivial ?_
    clear hK K
    refine wpAnyH_done (by kernel_rfl) ?_ _
    go_wp2_with fail
    refine (R _).mono ?_
    rintro e w5 ⟨⟨v, d, ok, rfl, hR⟩, b5⟩
    have bD5 := bD4.trans (b5.mono bD4.size)
    clear R b5
    rcases hR with ⟨rfl, L, hr, ho⟩ | ⟨rfl, hr⟩
    · have HH : Hid (readH s = if 1024 < sz then ((0 : Int), ([] : List Pr), false, (3 : Int)) else (((sz : Nat) : Int), L, d, (0 : Int))) := by show _ = _; rw [HH.out, hr]
      by_cases hsz : 1024 < sz
      · have hszz : (1024 : Int) < (sz : Int) := by omega
        have HH : Hid (readH s = ((0 : Int), ([] : List Pr), false, (3 : Int))) := by show _ = _; rw [HH.out, if_pos hsz]
        clear hsz
        go_wp2_with fail
        refine bodyPost_ret (v := .tuple #[.int .i64 0, .slice none 0 0, .bool false, .int .i64 3]) (by simp [results, Try.results16, go_sem]) rfl ?_
        exact ⟨.bad HH.out, bD5⟩
      · have hszz : ¬ (1024 : Int) < (sz : Int) := by omega
        have HH : Hid (readH s = (((sz : Nat) : Int), L, d, (0 : Int))) := by show _ = _; rw [HH.out, if_neg hsz]
        have u1 : IntKind.i64.wrap (sz : Int) = (sz : Int) := by rw [IntKind.wrap_i64]; omega
        have ho2 := ho.low (B := w.heap.size) bD4.size
        clear hsz
        go_wp2_with fail
        refine bodyPost_ret (v := .tuple #[.int .i64 sz, v, .bool d, .int .i64 0]) (by simp [results, Try.results16, go_sem]) rfl ?_
        refine ⟨⟨v, ?_, ?_⟩, bD5⟩
        · rw [HH.out]
        · rw [HH.out]; exact ho2
    · have HH : Hid (readH s = ((0 : Int), ([] : List Pr), false, (11 : Int))) := by show _ = _; rw [HH.out, hr]
      go_wp2_with fail
      refine bodyPost_ret (v := .tuple #[.int .i64 0, .slice none 0 0, .bool false, .int .i64 11]) (by simp [results, Try.results16, go_sem]) rfl ?_
      exact ⟨.bad HH.out, bD5⟩
  · have HBAD : Hid (readH s = ((0 : Int), ([] : List Pr), false, (11 : Int))) := by show _ = _; rw [HH.out, if_pos h4]
    clear HH
    generalize numL (s.take 4) = n4 at *
    have h4z : (n4 : Int) ≠ 3932160 := by omega
    go_enter Try.func16, Try.ntmps16
    go_wp2_with fail
    refine (N4 _).mono ?_
    rintro e w1 ⟨rfl, b1⟩
    go_wp2_with fail
    refine bodyPost_ret (v := .tuple #[.int .i64 0, .slice none 0 0, .bool false, .int .i64 11]) (by simp [results, Try.results16, go_sem]) rfl ?_
    exact ⟨.bad HBAD.out, b1⟩
end Go.Proofs.Ytlkinkbdhoejiaa
