/- What the library's fmtEFG writes of any digits, the shortest ones, without an exponent. -/
import Derived.Test.YtklgemnmihpkcaaGreatDoorFp1
set_option maxRecDepth 100000
namespace Go.Proofs.YtklgemnmihpkcaaGreatDoor
open Go.RowKit Go.Lib Go.Sort


set_option maxHeartbeats 8000000 in
theorem efgF3_p (w : World) (B q : Nat) (v : Value) (D : List UInt8) (k : Nat) (hk : D.length = k) (hk1 : 1 ≤ k) (hk2 : k ≤ 20) (z : Nat) (hz1 : 1 ≤ z) (hz2 : z < k) (hz3 : z ≤ 6) (hO0 : OwnQ w B q v []) (hD0 : DB w q D) (T : List UInt8) (hT : [] ++ D.take z ++ [46] ++ D.drop z = T) :
    Calls Tryz.prog 60 #[v, .bool false, .slice (some ⟨q, 0, none⟩) 32 32, .int .i64 z, .int .i64 k, .int .i64 k, .int .u8 103, .bool true] w fun e w' =>
      ∃ v', e = .returned v' ∧ Own w' B v' T ∧ Below B w w' := by
  have HD0 : Hid (DB w q D) := hD0
  have HT : Hid ([] ++ D.take z ++ [46] ++ D.drop z = T) := hT
  clear hD0 hT
  have h2 : min (k : Int) (z : Int) = (z : Int) := by omega
  have h3 : max ((k : Int) - (z : Int)) 0 = ((k - z : Nat) : Int) := by omega
  have h4 : max 0 (-(z : Int)) = 0 := by omega
  have h5 : min ((k - z : Nat) : Int) 0 = 0 := by omega
  have h6 : max 0 ((k : Int) - (z : Int)) = ((k - z : Nat) : Int) := by omega
  have h7 : min ((k - z : Nat) : Int) ((k - z : Nat) : Int) = ((k - z : Nat) : Int) := by omega
  have f1 : decide (z < k) = true := by simp; omega
  have f2 : decide (0 < z) = true := by simp; omega
  have f3 : decide ((z : Int) < (k : Int)) = true := by simp; omega
  have f4 : decide ((0 : Int) < (z : Int)) = true := by simp; omega
  go_enter Tryz.func60, Tryz.ntmps60
  have hb1 : Below B w w := Below.refl _ _
  have HD1 : Hid (DB w q D) := HD0.out
  obtain ⟨L1, hL1⟩ : ∃ L : List UInt8, [] = L := ⟨_, rfl⟩
  have H1 : Hid (OwnQ w B q v L1) := by rw [← hL1]; exact hO0
  have l1 : L1.length ≤ 1 := by rw [← hL1]; decide
  have HL1 : Hid (([] : List UInt8) = L1) := hL1
  clear HD0 hO0 hL1
  go_wp2_with fail
  go_loopw [0, 25, 191] (fun u c i wr => ∃ j : Nat, j ≤ z ∧ i = .int .i64 j ∧ Hid (OwnQ wr B q u (L1 ++ D.take j) ∧ DB wr q D ∧ Below B w wr)) (fun _ _ i _ => z - (RowKit.intOf i).toNat)
  case atStart => exact ⟨0, Nat.zero_le _, rfl, by simpa using H1.out, HD1.out, hb1⟩
  case round =>
    obtain ⟨i, hi, rfl, hI⟩ := hrel
    obtain ⟨hOi, hDi, hbi⟩ := hI.out
    clear hI H1 HD1 hb1
    by_cases hik : i < z
    · obtain ⟨Li, hLi⟩ : ∃ L : List UInt8, L1 ++ D.take i = L := ⟨_, rfl⟩
      rw [hLi] at hOi
      have HLi : Hid (L1 ++ D.take i = Li) := hLi
      have li : Li.length ≤ 40 := by rw [← hLi]; simp <;> omega
      have hc := hDi i (by omega)
      have cc := (D.getD i 0).toNat_lt
      have HSn := take_snoc8 D i (by omega)
      obtain ⟨d, hd⟩ : ∃ d, D.getD i 0 = d := ⟨_, rfl⟩
      rw [hd] at hc cc HSn
      have HS2 : Hid (D.take (i + 1) = D.take i ++ [d]) := HSn
      clear hLi hd HSn
      go_wp2_with (at_builtin; refine appQ rfl (.tmp 195) (.tmp 197) rfl B q _ _ wr [d] #[.int .u8 (d.toNat : Int)] rfl 1 rfl (by omega) rfl hOi rfl (by omega) ?_)
      intro v6 w6 hO6 hk6 hb6
      have H6 : Hid (OwnQ w6 B q v6 (Li ++ [d])) := hO6
      clear hO6
      go_wp2
      go_roundw
      case rel => exact ⟨i + 1, by omega, by go_num, by rw [HS2.out, ← List.append_assoc, HLi.out]; exact H6.out, hDi.on hk6, hbi.trans hb6⟩
      case measure => simp [RowKit.intOf]; omega
    · have eik : i = z := by omega
      subst eik
      have e0 : (i : Int) - (i : Int) = 0 := by omega
      obtain ⟨L5, hL5⟩ : ∃ L : List UInt8, L1 ++ D.take i = L := ⟨_, rfl⟩
      rw [hL5] at hOi
      have HL5 : Hid (L1 ++ D.take i = L5) := hL5
      have l5 : L5.length ≤ 30 := by rw [← hL5]; simp <;> omega
      have H5 : Hid (OwnQ wr B q u0 L5 ∧ DB wr q D ∧ Below B w wr) := ⟨hOi, hDi, hbi⟩
      clear hL5 hOi hDi hbi
      go_wp2_with fail
      go_loopw [0, 203] (fun u i' wr => i' = .int .i64 0 ∧ Hid (OwnQ wr B q u L5 ∧ DB wr q D ∧ Below B w wr)) (fun _ _ _ => 0)
      case atStart => exact ⟨rfl, H5.out⟩
      case round =>
      obtain ⟨rfl, hI5⟩ := hrel
      obtain ⟨hO5, hD5, hb5⟩ := hI5.out
      clear hI5 H5
      go_wp2_with (at_builtin; refine appQ rfl (.tmp 214) (.tmp 215) rfl B q _ _ wr [46] #[.int .u8 46] rfl 1 rfl (by omega) rfl hO5 rfl (by omega) ?_)
      intro v6 w6 hO6 hk6 hb6
      obtain ⟨L6, hL6⟩ : ∃ L : List UInt8, L5 ++ [46] = L := ⟨_, rfl⟩
      rw [hL6] at hO6
      have HL6 : Hid (L5 ++ [46] = L6) := hL6
      have l6 : L6.length ≤ 31 := by rw [← hL6]; simp <;> omega
      have H6 : Hid (OwnQ w6 B q v6 L6 ∧ DB w6 q D ∧ Below B w w6) := ⟨hO6, hD5.on hk6, hb5.trans hb6⟩
      clear hL6 hO6 hO5 hD5 hb5 hk6 hb6
      go_wp2_with fail
      go_loopw [0, 240] (fun u i' wr => i' = .int .i64 0 ∧ Hid (OwnQ wr B q u L6 ∧ DB wr q D ∧ Below B w wr)) (fun _ _ _ => 0)
      case atStart => exact ⟨rfl, H6.out⟩
      case round =>
      obtain ⟨rfl, H66⟩ := hrel
      clear H6
      go_wp2_with fail
      go_loopw [0, 30, 247] (fun u c i' wr => ∃ j : Nat, j ≤ k - i ∧ i' = .int .i64 j ∧ Hid (OwnQ wr B q u (L6 ++ (D.drop i).take j) ∧ DB wr q D ∧ Below B w wr)) (fun _ _ i' _ => k - i - (RowKit.intOf i').toNat)
      case atStart => exact ⟨0, Nat.zero_le _, rfl, by simpa using H66.out.1, H66.out.2.1, H66.out.2.2⟩
      case round =>
        obtain ⟨j, hj, rfl, hJ⟩ := hrel
        obtain ⟨hOj, hDj, hbj⟩ := hJ.out
        clear hJ H66
        by_cases hjz : j < k - i
        · obtain ⟨Lj, hLj⟩ : ∃ L : List UInt8, L6 ++ (D.drop i).take j = L := ⟨_, rfl⟩
          rw [hLj] at hOj
          have HLj : Hid (L6 ++ (D.drop i).take j = Lj) := hLj
          have lj : Lj.length ≤ 60 := by rw [← hLj]; simp <;> omega
          have hc := hDj (i + j) (by omega)
          have cc := (D.getD (i + j) 0).toNat_lt
          have HSn := take_snoc8 (D.drop i) j (by simp; omega)
          have eg : (D.drop i).getD j 0 = D.getD (i + j) 0 := by simp [List.getD]
          rw [eg] at HSn
          obtain ⟨d, hd⟩ : ∃ d, D.getD (i + j) 0 = d := ⟨_, rfl⟩
          rw [hd] at hc cc HSn
          have HS2 : Hid ((D.drop i).take (j + 1) = (D.drop i).take j ++ [d]) := HSn
          clear hLj hd HSn eg
          go_wp2_with (at_builtin; refine appQ rfl (.tmp 250) (.tmp 257) rfl B q _ _ wr [d] #[.int .u8 (d.toNat : Int)] rfl 1 rfl (by omega) rfl hOj rfl (by omega) ?_)
          intro v7 w7 hO7 hk7 hb7
          have H7 : Hid (OwnQ w7 B q v7 (Lj ++ [d])) := hO7
          clear hO7
          go_wp2
          go_roundw
          case rel => exact ⟨j + 1, by omega, by go_num, by rw [HS2.out, ← List.append_assoc, HLj.out]; exact H7.out, hDj.on hk7, hbj.trans hb7⟩
          case measure => simp [RowKit.intOf]; omega
        · have ejz : j = k - i := by omega
          have eD : (D.drop i).take j = D.drop i := List.take_of_length_le (by simp; omega)
          rw [eD] at hOj
          have ej : (j : Int) = (k : Int) - (i : Int) := by omega
          have H7 : Hid (OwnQ wr B q u0 (L6 ++ D.drop i) ∧ Below B w wr) := ⟨hOj, hbj⟩
          clear hOj hDj hbj eD
          go_wp2_with fail
          go_loopw [0, 261] (fun u i' wr => i' = .int .i64 0 ∧ Hid (OwnQ wr B q u (L6 ++ D.drop i) ∧ Below B w wr)) (fun _ _ _ => 0)
          case atStart => exact ⟨rfl, H7.out⟩
          case round =>
            obtain ⟨rfl, hK⟩ := hrel
            clear H7
            go_wp2
            go_ret
            refine ⟨_, rfl, ?_, hK.out.2⟩
            have hfin := hK.out.1.own
            rw [← HL6.out, ← HL5.out, ← HL1.out] at hfin
            rw [← HT.out]
            exact hfin
end Go.Proofs.YtklgemnmihpkcaaGreatDoor
