
/- What aframe.putNum and the document's own answer lay behind bytes. Conditions: those that each row states. -/
import Derived.Test.YtmaaacaifpgpaaaGreatDoorBa
import Derived.Test.YtmaaacaifpgpaaaGreatDoorMa
import Derived.Laws.BitsAllLaws
namespace Go.Proofs.YtmaaacaifpgpaaaGreatDoor
open Go.RowKit Go.Lib
set_option maxRecDepth 100000

theorem byte_of_z (k n j : Nat) : ((n : Int) / 2 ^ (8 * (k - 1 - j)) % 256) = ((byteOf k n j).toNat : Int) := by
  have e : (256 : Nat) ^ (k - 1 - j) = 2 ^ (8 * (k - 1 - j)) := by rw [show (256 : Nat) = 2 ^ 8 from rfl, ← Nat.pow_mul]
  rw [byteOf, UInt8.toNat_ofNat', e]
  simp
set_option maxHeartbeats 4000000 in
theorem big_any (w : World) (B : Nat) (v : Value) (l : List UInt8) (k n : Nat) (hk : k ≤ 8) (ho : Own w B v l) (hB : B ≤ w.heap.size) (hl : l.length + 8 ≤ 140737488355328) :
    Calls Tryz.prog 19 #[v, .int .u64 n, .int .i64 k] w fun e w' => ∃ v', e = .returned v' ∧ Own w' B v' (l ++ beN k n) ∧ Below B w w' := by
  have ho2 : Own w B v (l ++ (beN k n).take 0) := by simpa using ho
  clear ho
  go_enter Tryz.func19, Tryz.ntmps19
  go_wp2_with fail
  go_loopw [0, 7] (fun u i wr => ∃ j : Nat, j ≤ k ∧ i = .int .i64 j ∧ Own wr B u (l ++ (beN k n).take j) ∧ Below B w wr) (fun _ i _ => k - (RowKit.intOf i).toNat)
  case atStart => exact ⟨0, by omega, rfl, ho2, Below.refl _ _⟩
  case round =>
    clear ho2
    obtain ⟨j, hj, rfl, ho, hbr⟩ := hrel
    have hwr : B ≤ wr.heap.size := Nat.le_trans hB hbr.size
    by_cases hlt : j < k
    · have HL : Hid ((l ++ (beN k n).take j).length + 1 ≤ l.length + 8) := by show _ ≤ _; rw [List.length_append, List.length_take, beN_len]; omega
      have HE : Hid (l ++ (beN k n).take (j + 1) = l ++ (beN k n).take j ++ [byteOf k n j]) := by show _ = _; rw [beN_snoc k n j hlt, List.append_assoc]
      generalize l ++ (beN k n).take j = L at *
      have hjz : (j : Int) < (k : Int) := by omega
      have hL := HL.out
      go_wp2_with (at_builtin; refine app1 rfl (.tmp 13) (.tmp 23) rfl B _ L wr (byteOf k n j) _ (byte_of_z _ _ _) rfl ho rfl (by omega) hwr ?_)
      intro v3 w3 ho3 hb3
      have b3 := hbr.trans hb3
      rw [← HE.out] at ho3
      clear ho hbr hb3 hL HL HE
      go_wp2
      go_roundw
      case rel => exact ⟨j + 1, by omega, by go_num, ho3, b3⟩
      case measure => simp [RowKit.intOf]; omega
    · have hjk : j = k := by omega
      subst hjk
      rw [beN_all] at ho
      go_wp2
      go_ret
      exact ⟨_, rfl, ho, hbr⟩
end Go.Proofs.YtmaaacaifpgpaaaGreatDoor
