/- What the library's fmtEFG writes of any digits, the shortest ones, without an exponent. -/
import Derived.Test.YtklgemnmihpkcaaGreatDoorFp1
set_option maxRecDepth 100000
namespace Go.Proofs.YtklgemnmihpkcaaGreatDoor
open Go.RowKit Go.Lib Go.Sort


set_option maxHeartbeats 8000000 in
theorem efgF2_p (w : World) (B q : Nat) (v : Value) (D : List UInt8) (k : Nat) (hk : D.length = k) (hk1 : 1 ≤ k) (hk2 : k ≤ 20) (z : Nat) (hz1 : k ≤ z) (hz2 : z ≤ 6) (hO0 : OwnQ w B q v []) (hD0 : DB w q D) (T : List UInt8) (hT : [] ++ D ++ List.replicate (z - k) 48 = T) :
    Calls Tryz.prog 60 #[v, .bool false, .slice (some ⟨q, 0, none⟩) 32 32, .int .i64 z, .int .i64 k, .int .i64 k, .int .u8 103, .bool true] w fun e w' =>
      ∃ v', e = .returned v' ∧ Own w' B v' T ∧ Below B w w' := by
  have HD0 : Hid (DB w q D) := hD0
  have HT : Hid ([] ++ D ++ List.replicate (z - k) 48 = T) := hT
  clear hD0 hT
  have h2 : min (k : Int) (z : Int) = (k : Int) := by omega
  have h3 : max ((k : Int) - (z : Int)) 0 = 0 := by omega
  have f1 : decide (z < k) = false := by simp; omega
  have f2 : decide (0 < z) = true := by simp; omega
  have f3 : decide ((z : Int) < (k : Int)) = false := by simp; omega
  have f4 : decide ((0 : Int) < (z : Int)) = true := by simp; omega
  go_enter Tryz.func60, Tryz.ntmps60
  have hb1 : Below B w w := Below.refl _ _
  have HD1 : Hid (DB w q D) := HD0.out
  obtain ⟨L1, hL1⟩ : ∃ L : List UInt8, [] = L := ⟨_, rfl⟩
  have H1 : Hid (OwnQ w B q v L1) := by rw [← hL1]; exact hO0
  have l1 : L1.length ≤ 1 := by rw [← hL1]; decide
  have HL1 : Hid (([] : List UInt8) = L1) := hL1
  clear HD0 hO0 hL1
  go_wp2_with fail
  go_loopw [0, 25, 191] (fun u c i wr => ∃ j : Nat, j ≤ k ∧ i = .int .i64 j ∧ Hid (OwnQ wr B q u (L1 ++ D.take j) ∧ DB wr q D ∧ Below B w wr)) (fun _ _ i _ => k - (RowKit.intOf i).toNat)
  case atStart => exact ⟨0, Nat.zero_le _, rfl, by simpa using H1.out, HD1.out, hb1⟩
  case round =>
    obtain ⟨i, hi, rfl, hI⟩ := hrel
    obtain ⟨hOi, hDi, hbi⟩ := hI.out
    clear hI H1 HD1 hb1
    by_cases hik : i < k
    · obtain ⟨Li, hLi⟩ : ∃ L : List UInt8, L1 ++ D.take i = L := ⟨_, rfl⟩
      rw [hLi] at hOi
      have HLi : Hid (L1 ++ D.take i = Li) := hLi
      have li : Li.length ≤ 40 := by rw [← hLi]; simp <;> omega
      have hc := hDi i (by omega)
      have cc := (D.getD i 0).toNat_lt
      have HSn := take_snoc8 D i (by omega)
      obtain ⟨d, hd⟩ : ∃ d, D.getD i 0 = d := ⟨_, rfl⟩
      rw [hd] at hc cc HSn
      have HS2 : Hid (D.take (i + 1) = D.take i ++ [d]) := HSn
      clear hLi hd HSn
      go_wp2_with (at_builtin; refine appQ rfl (.tmp 195) (.tmp 197) rfl B q _ _ wr [d] #[.int .u8 (d.toNat : Int)] rfl 1 rfl (by omega) rfl hOi rfl (by omega) ?_)
      intro v6 w6 hO6 hk6 hb6
      have H6 : Hid (OwnQ w6 B q v6 (Li ++ [d])) := hO6
      clear hO6
      go_wp2
      go_roundw
      case rel => exact ⟨i + 1, by omega, by go_num, by rw [HS2.out, ← List.append_assoc, HLi.out]; exact H6.out, hDi.on hk6, hbi.trans hb6⟩
      case measure => simp [RowKit.intOf]; omega
    · have eik : i = k := by omega
      subst eik
      have eD : D.take i = D := List.take_of_length_le (by omega)
      rw [eD] at hOi
      obtain ⟨L5, hL5⟩ : ∃ L : List UInt8, L1 ++ D = L := ⟨_, rfl⟩
      rw [hL5] at hOi
      have HL5 : Hid (L1 ++ D = L5) := hL5
      have l5 : L5.length ≤ 30 := by rw [← hL5]; simp <;> omega
      have H5 : Hid (OwnQ wr B q u0 L5 ∧ DB wr q D ∧ Below B w wr) := ⟨hOi, hDi, hbi⟩
      clear hL5 hOi hDi hbi eD
      go_wp2_with fail
      go_loopw [0, 203] (fun u i' wr => ∃ j : Nat, j ≤ z - i ∧ i' = .int .i64 j ∧ Hid (OwnQ wr B q u (L5 ++ List.replicate j 48) ∧ DB wr q D ∧ Below B w wr)) (fun _ i' _ => z - i - (RowKit.intOf i').toNat)
      case atStart => exact ⟨0, Nat.zero_le _, rfl, by simpa using H5.out.1, H5.out.2.1, H5.out.2.2⟩
      case round =>
        obtain ⟨j, hj, rfl, hJ⟩ := hrel
        obtain ⟨hOj, hDj, hbj⟩ := hJ.out
        clear hJ H5
        by_cases hjz : j < z - i
        · obtain ⟨Lj, hLj⟩ : ∃ L : List UInt8, L5 ++ List.replicate j 48 = L := ⟨_, rfl⟩
          rw [hLj] at hOj
          have HLj : Hid (L5 ++ List.replicate j 48 = Lj) := hLj
          have lj : Lj.length ≤ 60 := by rw [← hLj]; simp <;> omega
          clear hLj
          go_wp2_with (at_builtin; refine appQ rfl (.tmp 205) (.tmp 206) rfl B q _ _ wr [48] #[.int .u8 48] rfl 1 rfl (by omega) rfl hOj rfl (by omega) ?_)
          intro v4 w4 hO4 hk4 hb4
          have H4 : Hid (OwnQ w4 B q v4 (Lj ++ [48])) := hO4
          clear hO4
          go_wp2
          go_roundw
          case rel => exact ⟨j + 1, by omega, by go_num, by rw [rep_snoc, ← List.append_assoc, HLj.out]; exact H4.out, hDj.on hk4, hbj.trans hb4⟩
          case measure => simp [RowKit.intOf]; omega
        · have ejz : j = z - i := by omega
          rw [ejz] at hOj
          have H7 : Hid (OwnQ wr B q u0 (L5 ++ List.replicate (z - i) 48) ∧ Below B w wr) := ⟨hOj, hbj⟩
          have ej : (j : Int) = (z : Int) - (i : Int) := by omega
          clear hOj hDj hbj
          go_wp2
          go_ret
          refine ⟨_, rfl, ?_, H7.out.2⟩
          have hfin := H7.out.1.own
          rw [← HL5.out, ← HL1.out] at hfin
          rw [← HT.out]
          exact hfin
end Go.Proofs.YtklgemnmihpkcaaGreatDoor
