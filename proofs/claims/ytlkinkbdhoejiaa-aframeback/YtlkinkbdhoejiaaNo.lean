/- What aframe.Next reads of a whole frame. Conditions: those that each row states. -/
import Derived.Test.YtlkinkbdhoejiaaNe
import Derived.Test.YtlkinkbdhoejiaaAa0
namespace Go.Proofs.Ytlkinkbdhoejiaa
open Go.RowKit Go.Lib
set_option maxRecDepth 100000

theorem hmix : Try.prog.follows .mixedOrders = true := by kernel_rfl
set_option maxHeartbeats 400000 in
theorem next_ok (w : World) (l : List UInt8) (hl : l.length ≤ 140000000000000) (h7 : 7 ≤ l.length) (hty : tyZ ((l.getD 0 0).toNat : Int) = true) (hn : numL ((l.drop 3).take 4) ≤ 16384) (hle : 7 + numL ((l.drop 3).take 4) < l.length) (hd : l.getD (7 + numL ((l.drop 3).take 4)) 0 = 206) :
    Calls Try.prog 11 #[str l] w fun e w' => e = .returned (nrV ⟨(l.getD 0 0).toNat, numL ((l.drop 1).take 2), (l.drop 7).take (numL ((l.drop 3).take 4)), numL ((l.drop 3).take 4) + 8, 0⟩) ∧ Below w.heap.size w w' := by
  have g0 := get_str l 0
  generalize l.getD 0 0 = c at *
  have hc : (c.toNat : Int) < 256 := by have := c.toNat_lt; omega
  obtain ⟨x, hx⟩ : ∃ x, c.toNat = x := ⟨_, rfl⟩
  rw [hx] at hty hc
  have hne : l.isEmpty = false := by cases l <;> simp at *
  have N4 : ∀ w, Calls Try.prog 23 #[.string ((⟨l.toArray⟩ : ByteArray).extract 3 7)] w fun e w' => e = .returned (.int .u64 (numL ((l.drop 3).take 4))) ∧ Below w.heap.size w w' := fun w => by
    rw [ext_str]; exact num_any w _ (by rw [List.length_take]; omega)
  have N2 : ∀ w, Calls Try.prog 23 #[.string ((⟨l.toArray⟩ : ByteArray).extract 1 3)] w fun e w' => e = .returned (.int .u64 (numL ((l.drop 1).take 2))) ∧ Below w.heap.size w w' := fun w => by
    rw [ext_str]; exact num_any w _ (by rw [List.length_take]; omega)
  have hnl2 := numL_lt ((l.drop 1).take 2)
  have hn2 : numL ((l.drop 1).take 2) < 65536 := Nat.lt_of_lt_of_le hnl2 (Nat.le_trans (Nat.pow_le_pow_right (by decide) (by rw [List.length_take]; exact Nat.min_le_left 2 _)) (by decide))
  clear hnl2
  generalize numL ((l.drop 1).take 2) = ch at *
  have hchz : (ch : Int) ≤ 65535 := by omega
  clear hn2
  have hnl := numL_lt ((l.drop 3).take 4)
  have hn4 : numL ((l.drop 3).take 4) < 4294967296 := Nat.lt_of_lt_of_le hnl (Nat.le_trans (Nat.pow_le_pow_right (by decide) (by rw [List.length_take]; exact Nat.min_le_left 4 _)) (by decide))
  clear hnl
  generalize numL ((l.drop 3).take 4) = n at *
  have g7 := get_str l (7 + n)
  rw [hd] at g7
  have K7 : ∀ w, Calls Try.prog 24 #[.string ((⟨l.toArray⟩ : ByteArray).extract 7 (7 + n))] w fun e w' => e = .returned (str ((l.drop 7).take n)) ∧ Below w.heap.size w w' := fun w => by
    rw [ext_str, Nat.add_sub_cancel_left]; exact clone_any w _ (by rw [List.length_take]; omega)
  generalize (l.drop 7).take n = pay at *
  have hnz : (n : Int) ≤ 16384 := by omega
  have hlz : 7 + (n : Int) < (l.length : Int) := by omega
  have h0n : (0 : Int) ≤ 7 + (n : Int) := by omega
  have htn : (7 + (n : Int)).toNat = 7 + n := by omega
  have h7z : (7 : Int) ≤ (l.length : Int) := by omega
  go_enter Try.func11, Try.ntmps11
  go_wp2_with (first | (go_at_call 19; refine (isType_any _ _).mono ?_; rintro e w' ⟨rfl, rfl⟩))
  refine (N4 _).mono ?_
  rintro e w1 ⟨rfl, hb1⟩
  have hb2 : Below w.heap.size w w1 := (below_new w _).trans (hb1.mono (by simp))
  obtain ⟨c1, c2⟩ := old_of hb1
  have hs1 : w.heap.size < w1.heap.size := by have := hb1.size; simp at this; omega
  clear N4 hle hd
  go_wp2_with fail
  have b3 : (3 : Int) ≤ (l.length : Int) := by omega
  have b7 : (7 : Int) ≤ 7 + (n : Int) := by omega
  have b7l : 7 + (n : Int) ≤ (l.length : Int) := by omega
  have b0 : (0 : Int) < (l.length : Int) := by omega
  refine wp_region_held (S := fun _ => True) hmix ?_
  show wpAnyH _ _ _ _ _ _ _ _ (World.drew _)
  have hbd : Below w.heap.size w w1.drew := hb2.drew
  have hsd : w.heap.size < w1.drew.heap.size := hs1
  have q0 : w1.drew.cell? ⟨w.heap.size, 0, none⟩ = some (.int .i64 0) := by show w1.cell? _ = _; rw [c1 _ _ (by simp)]; simp
  have q1 : w1.drew.cell? ⟨w.heap.size, 1, none⟩ = some (.int .i64 0) := by show w1.cell? _ = _; rw [c1 _ _ (by simp)]; simp
  have q2 : w1.drew.cell? ⟨w.heap.size, 2, none⟩ = some (.string { data := #[] }) := by show w1.cell? _ = _; rw [c1 _ _ (by simp)]; simp
  have p0 : w1.drew.frozen? ⟨w.heap.size, 0, none⟩ = false := by show w1.frozen? _ = _; rw [c2 _ _ (by simp)]; simp
  have p1 : w1.drew.frozen? ⟨w.heap.size, 1, none⟩ = false := by show w1.frozen? _ = _; rw [c2 _ _ (by simp)]; simp
  have p2 : w1.drew.frozen? ⟨w.heap.size, 2, none⟩ = false := by show w1.frozen? _ = _; rw [c2 _ _ (by simp)]; simp
  clear c1 c2 hb2 hb1 hs1
  generalize w1.drew = wv at *
  refine tks [0, 1, 2, 3, 4, 7, 8, 9, 12, 13] [str l, .int .u8 x, .int .i64 x, str l, .string ((⟨l.toArray⟩ : ByteArray).extract 1 3), str l, .int .i64 (7 + (n : Int)), .string ((⟨l.toArray⟩ : ByteArray).extract 7 (7 + n)), .int .i64 (7 + (n : Int)), .int .i64 (7 + (n : Int) + 1)] 7 ?_ trivial ?_
  · simp only [tkY, tkf]
    refine ⟨.yes ?_, .yes ?_, .yes ?_, .yes ?_, .yes ?_, .yes ?_, .yes ?_, .yes ?_, .yes ?_, .yes ?_, trivial⟩
    all_goals
      intro W' hW'
      go_simp
      all_goals first | (intro e; subst e; simp at h7; done) | (rw [IntKind.wrap_i64]; omega)
  simp only [tkA, tkf]
  refine ak 5 (fun K hK => ?_)
  go_wp2_with (go_at_call 23; refine (N2 _).mono ?_; rintro e w2 ⟨rfl, hb2'⟩)
  refine hK _ _ trivial ?_
  clear hK K
  refine tks [6] [.int .i64 (ch : Int)] 5 ?_ trivial ?_
  · simp only [tkY, tkf]
    refine ⟨.yes ?_, trivial⟩
    intro W' hW'
    go_simp
    rw [IntKind.wrap_i64]
    omega
  simp only [tkA, tkf]
  refine ak 10 (fun K hK => ?_)
  go_wp2_with (go_at_call 24; refine (K7 _).mono ?_; rintro e w3 ⟨rfl, hb3'⟩)
  refine hK _ _ trivial ?_
  clear hK K
  refine tks [11] [frV x ch pay] 3 ?_ trivial ?_
  · simp only [tkY, tkf]
    refine ⟨.yes ?_, trivial⟩
    intro W' hW'
    go_simp
  simp only [tkA, tkf]
  have s2 := hb2'.size
  have hb3 : Below w.heap.size w w3 := (hbd.trans (hb2'.mono (by omega))).trans (hb3'.mono (by omega))
  have hs3 : w.heap.size < w3.heap.size := by have := hb3'.size; omega
  have e3 : ∀ o, w3.cell? ⟨w.heap.size, o, none⟩ = wv.cell? ⟨w.heap.size, o, none⟩ := fun o => by
    rw [hb3'.cell (p := ⟨w.heap.size, o, none⟩) (by show w.heap.size < _; omega), hb2'.cell (p := ⟨w.heap.size, o, none⟩) hsd]
  have f3 : ∀ o, w3.frozen? ⟨w.heap.size, o, none⟩ = wv.frozen? ⟨w.heap.size, o, none⟩ := fun o => by
    rw [hb3'.frozen (p := ⟨w.heap.size, o, none⟩) (by show w.heap.size < _; omega), hb2'.frozen (p := ⟨w.heap.size, o, none⟩) hsd]
  rw [← e3] at q0 q1 q2
  rw [← f3] at p0 p1 p2
  clear e3 f3 hb3' hb2' hbd s2 hsd
  refine ak 14 (fun K hK => ?_)
  go_wp2_with fail
  refine hK _ _ trivial ?_
  clear hK K
  refine ak 15 (fun K hK => ?_)
  go_wp2_with fail
  refine hK _ _ trivial ?_
  clear hK K
  refine ak 16 (fun K hK => ?_)
  go_wp2_with fail
  refine hK _ _ trivial ?_
  clear hK K
  refine wpAnyH_done (by kernel_rfl) ?_ _
  go_wp2_with fail
  refine bodyPost_ret (v := .tuple #[frV x ch pay, .int .i64 (7 + (n : Int) + 1), .int .i64 0]) (by simp [results, Try.results11, go_sem, q0, q1, q2]) rfl ⟨?_, ?_⟩
  · have e : (7 : Int) + n + 1 = ((n + 8 : Nat) : Int) := by omega
    rw [e, hx]
    rfl
  · exact ((hb3.setCell (by simp) _).setCell (by simp) _).setCell (by simp) _
end Go.Proofs.Ytlkinkbdhoejiaa
