/- What the library's fmtEFG writes of any digits, the shortest ones, without an exponent. -/
import Derived.Test.YtlhfdklfkfodkabDoorEg
set_option maxRecDepth 100000
namespace Go.Proofs.YtlhfdklfkfodkabDoor.Ff
open Go.RowKit Go.Lib Go.Sort

theorem take_snoc8 (D : List UInt8) (j : Nat) (h : j < D.length) : D.take (j + 1) = D.take j ++ [D.getD j 0] := by
  rw [List.take_succ_eq_append_getElem h]; simp [List.getD, List.getElem?_eq_getElem h]
theorem rep_snoc (n : Nat) : List.replicate (n + 1) (48 : UInt8) = List.replicate n 48 ++ [48] := List.replicate_succ'

set_option maxHeartbeats 8000000 in
theorem efgF1_p (w : World) (B q : Nat) (v : Value) (D : List UInt8) (k : Nat) (hk : D.length = k) (hk1 : 1 ≤ k) (hk2 : k ≤ 20) (dp : Int) (z : Nat) (hz : z ≤ 3) (hdp : -dp = (z : Int)) (hO0 : OwnQ w B q v []) (hD0 : DB w q D) (T : List UInt8) (hT : [] ++ [48] ++ [46] ++ List.replicate z 48 ++ D = T) :
    Calls Tryd.prog 48 #[v, .bool false, .slice (some ⟨q, 0, none⟩) 32 32, .int .i64 dp, .int .i64 k, .int .i64 k, .int .u8 103, .bool true] w fun e w' =>
      ∃ v', e = .returned v' ∧ Own w' B v' T ∧ Below B w w' := by
  have HD0 : Hid (DB w q D) := hD0
  have HT : Hid ([] ++ [48] ++ [46] ++ List.replicate z 48 ++ D = T) := hT
  clear hD0 hT
  obtain ⟨pr, hpr⟩ : ∃ pr : Int, max ((k : Int) - dp) 0 = pr := ⟨_, rfl⟩
  have hpr1 : pr - (z : Int) = (k : Int) := by omega
  have hpr2 : 0 < pr := by omega
  have h2 : max 0 (z : Int) = (z : Int) := by omega
  have h3 : min pr (z : Int) = (z : Int) := by omega
  have h4 : dp + (z : Int) = 0 := by omega
  have h5 : max 0 (k : Int) = (k : Int) := by omega
  have hd0 : -3 ≤ dp := by omega
  have hd1 : dp ≤ 0 := by omega
  go_enter Tryd.func48, Tryd.ntmps48
  have hb1 : Below B w w := Below.refl _ _
  have HD1 : Hid (DB w q D) := HD0.out
  clear HD0
  go_wp2_with (at_builtin; refine appQ rfl (.tmp 209) (.tmp 210) rfl B q _ _ w [48] #[.int .u8 48] rfl 1 rfl (by omega) rfl hO0 rfl (by decide) ?_)
  intro v2 w2 hO2 hk2' hb2
  have HD2 : Hid (DB w2 q D) := HD1.out.on hk2'
  have b2 := hb1.trans hb2
  clear hk2' hO0 HD1 hb1 hb2
  go_wp2_with (at_builtin; refine appQ rfl (.tmp 214) (.tmp 215) rfl B q _ _ w2 [46] #[.int .u8 46] rfl 1 rfl (by omega) rfl hO2 rfl (by decide) ?_)
  intro v3 w3 hO3 hk3' hb3
  have HD3 : Hid (DB w3 q D) := HD2.out.on hk3'
  have b3 := b2.trans hb3
  obtain ⟨L3, hL3⟩ : ∃ L : List UInt8, [] ++ [48] ++ [46] = L := ⟨_, rfl⟩
  have hO3b : OwnQ w3 B q v3 L3 := by rw [← hL3]; exact hO3
  have l3 : L3.length ≤ 3 := by rw [← hL3]; simp
  have HL3 : Hid (([] : List UInt8) ++ [48] ++ [46] = L3) := hL3
  have H3 : Hid (OwnQ w3 B q v3 L3) := hO3b
  clear hk3' hO2 HD2 hb3 b2 hO3 hO3b hL3
  go_wp2_with fail
  go_loopw [0, 240] (fun u i wr => ∃ j : Nat, j ≤ z ∧ i = .int .i64 j ∧ Hid (OwnQ wr B q u (L3 ++ List.replicate j 48) ∧ DB wr q D ∧ Below B w wr)) (fun _ i _ => z - (RowKit.intOf i).toNat)
  case atStart => exact ⟨0, Nat.zero_le _, rfl, by simpa using H3.out, HD3.out, b3⟩
  case round =>
    obtain ⟨j, hj, rfl, hJ⟩ := hrel
    obtain ⟨hOj, hDj, hbj⟩ := hJ.out
    clear hJ
    by_cases hjz : j < z
    · obtain ⟨Lj, hLj⟩ : ∃ L : List UInt8, L3 ++ List.replicate j 48 = L := ⟨_, rfl⟩
      rw [hLj] at hOj
      have HLj : Hid (L3 ++ List.replicate j 48 = Lj) := hLj
      have lj : Lj.length ≤ 10 := by rw [← hLj]; simp <;> omega
      clear hLj
      go_wp2_with (at_builtin; refine appQ rfl (.tmp 242) (.tmp 243) rfl B q _ _ wr [48] #[.int .u8 48] rfl 1 rfl (by omega) rfl hOj rfl (by omega) ?_)
      intro v4 w4 hO4 hk4 hb4
      have H4 : Hid (OwnQ w4 B q v4 (Lj ++ [48])) := hO4
      clear hO4
      go_wp2
      go_roundw
      case rel => exact ⟨j + 1, by omega, by go_num, by rw [rep_snoc, ← List.append_assoc, HLj.out]; exact H4.out, hDj.on hk4, hbj.trans hb4⟩
      case measure => simp [RowKit.intOf]; omega
    · have ejz : j = z := by omega
      subst ejz
      obtain ⟨L5, hL5⟩ : ∃ L : List UInt8, L3 ++ List.replicate j 48 = L := ⟨_, rfl⟩
      rw [hL5] at hOj
      have HL5 : Hid (L3 ++ List.replicate j 48 = L5) := hL5
      have l5 : L5.length ≤ 10 := by rw [← hL5]; simp <;> omega
      have H5 : Hid (OwnQ wr B q u0 L5 ∧ DB wr q D ∧ Below B w wr) := ⟨hOj, hDj, hbj⟩
      clear hL5 hOj hDj hbj
      go_wp2_with fail
      go_loopw [0, 247] (fun u i wr => ∃ j : Nat, j ≤ k ∧ i = .int .i64 j ∧ Hid (OwnQ wr B q u (L5 ++ D.take j) ∧ DB wr q D ∧ Below B w wr)) (fun _ i _ => k - (RowKit.intOf i).toNat)
      case atStart => exact ⟨0, Nat.zero_le _, rfl, by simpa using H5.out.1, H5.out.2.1, H5.out.2.2⟩
      case round =>
        obtain ⟨i, hi, rfl, hI⟩ := hrel
        obtain ⟨hOi, hDi, hbi⟩ := hI.out
        clear hI H5
        by_cases hik : i < k
        · obtain ⟨Li, hLi⟩ : ∃ L : List UInt8, L5 ++ D.take i = L := ⟨_, rfl⟩
          rw [hLi] at hOi
          have HLi : Hid (L5 ++ D.take i = Li) := hLi
          have li : Li.length ≤ 40 := by rw [← hLi]; simp <;> omega
          have hc := hDi i (by omega)
          have cc := (D.getD i 0).toNat_lt
          have HSn := take_snoc8 D i (by omega)
          obtain ⟨d, hd⟩ : ∃ d, D.getD i 0 = d := ⟨_, rfl⟩
          rw [hd] at hc cc HSn
          have HS2 : Hid (D.take (i + 1) = D.take i ++ [d]) := HSn
          clear hLi hd HSn
          go_wp2_with (at_builtin; refine appQ rfl (.tmp 250) (.tmp 257) rfl B q _ _ wr [d] #[.int .u8 (d.toNat : Int)] rfl 1 rfl (by omega) rfl hOi rfl (by omega) ?_)
          intro v6 w6 hO6 hk6 hb6
          have H6 : Hid (OwnQ w6 B q v6 (Li ++ [d])) := hO6
          clear hO6
          go_wp2
          go_roundw
          case rel => exact ⟨i + 1, by omega, by go_num, by rw [HS2.out, ← List.append_assoc, HLi.out]; exact H6.out, hDi.on hk6, hbi.trans hb6⟩
          case measure => simp [RowKit.intOf]; omega
        · have eik : i = k := by omega
          subst eik
          have eD : D.take i = D := List.take_of_length_le (by omega)
          rw [eD] at hOi
          have H7 : Hid (OwnQ wr B q u0 (L5 ++ D) ∧ Below B w wr) := ⟨hOi, hbi⟩
          clear hOi hDi hbi eD
          go_wp2_with fail
          go_loopw [0, 261] (fun u i wr => i = .int .i64 0 ∧ Hid (OwnQ wr B q u (L5 ++ D) ∧ Below B w wr)) (fun _ _ _ => 0)
          case atStart => exact ⟨rfl, H7.out⟩
          case round =>
            obtain ⟨rfl, hK⟩ := hrel
            clear H7
            go_wp2
            go_ret
            refine ⟨_, rfl, ?_, hK.out.2⟩
            rw [← HT.out, HL3.out, HL5.out]
            exact hK.out.1.own
end Go.Proofs.YtlhfdklfkfodkabDoor.Ff

set_option maxRecDepth 100000
namespace Go.Proofs.YtlhfdklfkfodkabDoor.Ff
open Go.RowKit Go.Lib Go.Sort


set_option maxHeartbeats 8000000 in
theorem efgF1_n (w : World) (B q : Nat) (v : Value) (D : List UInt8) (k : Nat) (hk : D.length = k) (hk1 : 1 ≤ k) (hk2 : k ≤ 20) (dp : Int) (z : Nat) (hz : z ≤ 3) (hdp : -dp = (z : Int)) (hO0 : OwnQ w B q v []) (hD0 : DB w q D) (T : List UInt8) (hT : [45] ++ [48] ++ [46] ++ List.replicate z 48 ++ D = T) :
    Calls Tryd.prog 48 #[v, .bool true, .slice (some ⟨q, 0, none⟩) 32 32, .int .i64 dp, .int .i64 k, .int .i64 k, .int .u8 103, .bool true] w fun e w' =>
      ∃ v', e = .returned v' ∧ Own w' B v' T ∧ Below B w w' := by
  have HD0 : Hid (DB w q D) := hD0
  have HT : Hid ([45] ++ [48] ++ [46] ++ List.replicate z 48 ++ D = T) := hT
  clear hD0 hT
  obtain ⟨pr, hpr⟩ : ∃ pr : Int, max ((k : Int) - dp) 0 = pr := ⟨_, rfl⟩
  have hpr1 : pr - (z : Int) = (k : Int) := by omega
  have hpr2 : 0 < pr := by omega
  have h2 : max 0 (z : Int) = (z : Int) := by omega
  have h3 : min pr (z : Int) = (z : Int) := by omega
  have h4 : dp + (z : Int) = 0 := by omega
  have h5 : max 0 (k : Int) = (k : Int) := by omega
  have hd0 : -3 ≤ dp := by omega
  have hd1 : dp ≤ 0 := by omega
  go_enter Tryd.func48, Tryd.ntmps48
  go_wp2_with (at_builtin; refine appQ rfl (.tmp 179) (.tmp 180) rfl B q _ _ w [45] #[.int .u8 45] rfl 1 rfl (by omega) rfl hO0 rfl (by decide) ?_)
  intro v1 w1 hO1 hk1' hb1
  have HD1 : Hid (DB w1 q D) := HD0.out.on hk1'
  clear hk1' hO0 HD0
  go_wp2_with (at_builtin; refine appQ rfl (.tmp 209) (.tmp 210) rfl B q _ _ w1 [48] #[.int .u8 48] rfl 1 rfl (by omega) rfl hO1 rfl (by decide) ?_)
  intro v2 w2 hO2 hk2' hb2
  have HD2 : Hid (DB w2 q D) := HD1.out.on hk2'
  have b2 := hb1.trans hb2
  clear hk2' hO1 HD1 hb1 hb2
  go_wp2_with (at_builtin; refine appQ rfl (.tmp 214) (.tmp 215) rfl B q _ _ w2 [46] #[.int .u8 46] rfl 1 rfl (by omega) rfl hO2 rfl (by decide) ?_)
  intro v3 w3 hO3 hk3' hb3
  have HD3 : Hid (DB w3 q D) := HD2.out.on hk3'
  have b3 := b2.trans hb3
  obtain ⟨L3, hL3⟩ : ∃ L : List UInt8, [45] ++ [48] ++ [46] = L := ⟨_, rfl⟩
  have hO3b : OwnQ w3 B q v3 L3 := by rw [← hL3]; exact hO3
  have l3 : L3.length ≤ 3 := by rw [← hL3]; simp
  have HL3 : Hid (([45] : List UInt8) ++ [48] ++ [46] = L3) := hL3
  have H3 : Hid (OwnQ w3 B q v3 L3) := hO3b
  clear hk3' hO2 HD2 hb3 b2 hO3 hO3b hL3
  go_wp2_with fail
  go_loopw [0, 240] (fun u i wr => ∃ j : Nat, j ≤ z ∧ i = .int .i64 j ∧ Hid (OwnQ wr B q u (L3 ++ List.replicate j 48) ∧ DB wr q D ∧ Below B w wr)) (fun _ i _ => z - (RowKit.intOf i).toNat)
  case atStart => exact ⟨0, Nat.zero_le _, rfl, by simpa using H3.out, HD3.out, b3⟩
  case round =>
    obtain ⟨j, hj, rfl, hJ⟩ := hrel
    obtain ⟨hOj, hDj, hbj⟩ := hJ.out
    clear hJ
    by_cases hjz : j < z
    · obtain ⟨Lj, hLj⟩ : ∃ L : List UInt8, L3 ++ List.replicate j 48 = L := ⟨_, rfl⟩
      rw [hLj] at hOj
      have HLj : Hid (L3 ++ List.replicate j 48 = Lj) := hLj
      have lj : Lj.length ≤ 10 := by rw [← hLj]; simp <;> omega
      clear hLj
      go_wp2_with (at_builtin; refine appQ rfl (.tmp 242) (.tmp 243) rfl B q _ _ wr [48] #[.int .u8 48] rfl 1 rfl (by omega) rfl hOj rfl (by omega) ?_)
      intro v4 w4 hO4 hk4 hb4
      have H4 : Hid (OwnQ w4 B q v4 (Lj ++ [48])) := hO4
      clear hO4
      go_wp2
      go_roundw
      case rel => exact ⟨j + 1, by omega, by go_num, by rw [rep_snoc, ← List.append_assoc, HLj.out]; exact H4.out, hDj.on hk4, hbj.trans hb4⟩
      case measure => simp [RowKit.intOf]; omega
    · have ejz : j = z := by omega
      subst ejz
      obtain ⟨L5, hL5⟩ : ∃ L : List UInt8, L3 ++ List.replicate j 48 = L := ⟨_, rfl⟩
      rw [hL5] at hOj
      have HL5 : Hid (L3 ++ List.replicate j 48 = L5) := hL5
      have l5 : L5.length ≤ 10 := by rw [← hL5]; simp <;> omega
      have H5 : Hid (OwnQ wr B q u0 L5 ∧ DB wr q D ∧ Below B w wr) := ⟨hOj, hDj, hbj⟩
      clear hL5 hOj hDj hbj
      go_wp2_with fail
      go_loopw [0, 247] (fun u i wr => ∃ j : Nat, j ≤ k ∧ i = .int .i64 j ∧ Hid (OwnQ wr B q u (L5 ++ D.take j) ∧ DB wr q D ∧ Below B w wr)) (fun _ i _ => k - (RowKit.intOf i).toNat)
      case atStart => exact ⟨0, Nat.zero_le _, rfl, by simpa using H5.out.1, H5.out.2.1, H5.out.2.2⟩
      case round =>
        obtain ⟨i, hi, rfl, hI⟩ := hrel
        obtain ⟨hOi, hDi, hbi⟩ := hI.out
        clear hI H5
        by_cases hik : i < k
        · obtain ⟨Li, hLi⟩ : ∃ L : List UInt8, L5 ++ D.take i = L := ⟨_, rfl⟩
          rw [hLi] at hOi
          have HLi : Hid (L5 ++ D.take i = Li) := hLi
          have li : Li.length ≤ 40 := by rw [← hLi]; simp <;> omega
          have hc := hDi i (by omega)
          have cc := (D.getD i 0).toNat_lt
          have HSn := take_snoc8 D i (by omega)
          obtain ⟨d, hd⟩ : ∃ d, D.getD i 0 = d := ⟨_, rfl⟩
          rw [hd] at hc cc HSn
          have HS2 : Hid (D.take (i + 1) = D.take i ++ [d]) := HSn
          clear hLi hd HSn
          go_wp2_with (at_builtin; refine appQ rfl (.tmp 250) (.tmp 257) rfl B q _ _ wr [d] #[.int .u8 (d.toNat : Int)] rfl 1 rfl (by omega) rfl hOi rfl (by omega) ?_)
          intro v6 w6 hO6 hk6 hb6
          have H6 : Hid (OwnQ w6 B q v6 (Li ++ [d])) := hO6
          clear hO6
          go_wp2
          go_roundw
          case rel => exact ⟨i + 1, by omega, by go_num, by rw [HS2.out, ← List.append_assoc, HLi.out]; exact H6.out, hDi.on hk6, hbi.trans hb6⟩
          case measure => simp [RowKit.intOf]; omega
        · have eik : i = k := by omega
          subst eik
          have eD : D.take i = D := List.take_of_length_le (by omega)
          rw [eD] at hOi
          have H7 : Hid (OwnQ wr B q u0 (L5 ++ D) ∧ Below B w wr) := ⟨hOi, hbi⟩
          clear hOi hDi hbi eD
          go_wp2_with fail
          go_loopw [0, 261] (fun u i wr => i = .int .i64 0 ∧ Hid (OwnQ wr B q u (L5 ++ D) ∧ Below B w wr)) (fun _ _ _ => 0)
          case atStart => exact ⟨rfl, H7.out⟩
          case round =>
            obtain ⟨rfl, hK⟩ := hrel
            clear H7
            go_wp2
            go_ret
            refine ⟨_, rfl, ?_, hK.out.2⟩
            rw [← HT.out, HL3.out, HL5.out]
            exact hK.out.1.own
end Go.Proofs.YtlhfdklfkfodkabDoor.Ff

set_option maxRecDepth 100000
namespace Go.Proofs.YtlhfdklfkfodkabDoor.Ff
open Go.RowKit Go.Lib Go.Sort


set_option maxHeartbeats 8000000 in
theorem efgF2_p (w : World) (B q : Nat) (v : Value) (D : List UInt8) (k : Nat) (hk : D.length = k) (hk1 : 1 ≤ k) (hk2 : k ≤ 20) (z : Nat) (hz1 : k ≤ z) (hz2 : z ≤ 6) (hO0 : OwnQ w B q v []) (hD0 : DB w q D) (T : List UInt8) (hT : [] ++ D ++ List.replicate (z - k) 48 = T) :
    Calls Tryd.prog 48 #[v, .bool false, .slice (some ⟨q, 0, none⟩) 32 32, .int .i64 z, .int .i64 k, .int .i64 k, .int .u8 103, .bool true] w fun e w' =>
      ∃ v', e = .returned v' ∧ Own w' B v' T ∧ Below B w w' := by
  have HD0 : Hid (DB w q D) := hD0
  have HT : Hid ([] ++ D ++ List.replicate (z - k) 48 = T) := hT
  clear hD0 hT
  have h2 : min (k : Int) (z : Int) = (k : Int) := by omega
  have h3 : max ((k : Int) - (z : Int)) 0 = 0 := by omega
  have f1 : decide (z < k) = false := by simp; omega
  have f2 : decide (0 < z) = true := by simp; omega
  have f3 : decide ((z : Int) < (k : Int)) = false := by simp; omega
  have f4 : decide ((0 : Int) < (z : Int)) = true := by simp; omega
  go_enter Tryd.func48, Tryd.ntmps48
  have hb1 : Below B w w := Below.refl _ _
  have HD1 : Hid (DB w q D) := HD0.out
  obtain ⟨L1, hL1⟩ : ∃ L : List UInt8, [] = L := ⟨_, rfl⟩
  have H1 : Hid (OwnQ w B q v L1) := by rw [← hL1]; exact hO0
  have l1 : L1.length ≤ 1 := by rw [← hL1]; decide
  have HL1 : Hid (([] : List UInt8) = L1) := hL1
  clear HD0 hO0 hL1
  go_wp2_with fail
  go_loopw [0, 25, 191] (fun u c i wr => ∃ j : Nat, j ≤ k ∧ i = .int .i64 j ∧ Hid (OwnQ wr B q u (L1 ++ D.take j) ∧ DB wr q D ∧ Below B w wr)) (fun _ _ i _ => k - (RowKit.intOf i).toNat)
  case atStart => exact ⟨0, Nat.zero_le _, rfl, by simpa using H1.out, HD1.out, hb1⟩
  case round =>
    obtain ⟨i, hi, rfl, hI⟩ := hrel
    obtain ⟨hOi, hDi, hbi⟩ := hI.out
    clear hI H1 HD1 hb1
    by_cases hik : i < k
    · obtain ⟨Li, hLi⟩ : ∃ L : List UInt8, L1 ++ D.take i = L := ⟨_, rfl⟩
      rw [hLi] at hOi
      have HLi : Hid (L1 ++ D.take i = Li) := hLi
      have li : Li.length ≤ 40 := by rw [← hLi]; simp <;> omega
      have hc := hDi i (by omega)
      have cc := (D.getD i 0).toNat_lt
      have HSn := take_snoc8 D i (by omega)
      obtain ⟨d, hd⟩ : ∃ d, D.getD i 0 = d := ⟨_, rfl⟩
      rw [hd] at hc cc HSn
      have HS2 : Hid (D.take (i + 1) = D.take i ++ [d]) := HSn
      clear hLi hd HSn
      go_wp2_with (at_builtin; refine appQ rfl (.tmp 195) (.tmp 197) rfl B q _ _ wr [d] #[.int .u8 (d.toNat : Int)] rfl 1 rfl (by omega) rfl hOi rfl (by omega) ?_)
      intro v6 w6 hO6 hk6 hb6
      have H6 : Hid (OwnQ w6 B q v6 (Li ++ [d])) := hO6
      clear hO6
      go_wp2
      go_roundw
      case rel => exact ⟨i + 1, by omega, by go_num, by rw [HS2.out, ← List.append_assoc, HLi.out]; exact H6.out, hDi.on hk6, hbi.trans hb6⟩
      case measure => simp [RowKit.intOf]; omega
    · have eik : i = k := by omega
      subst eik
      have eD : D.take i = D := List.take_of_length_le (by omega)
      rw [eD] at hOi
      obtain ⟨L5, hL5⟩ : ∃ L : List UInt8, L1 ++ D = L := ⟨_, rfl⟩
      rw [hL5] at hOi
      have HL5 : Hid (L1 ++ D = L5) := hL5
      have l5 : L5.length ≤ 30 := by rw [← hL5]; simp <;> omega
      have H5 : Hid (OwnQ wr B q u0 L5 ∧ DB wr q D ∧ Below B w wr) := ⟨hOi, hDi, hbi⟩
      clear hL5 hOi hDi hbi eD
      go_wp2_with fail
      go_loopw [0, 203] (fun u i' wr => ∃ j : Nat, j ≤ z - i ∧ i' = .int .i64 j ∧ Hid (OwnQ wr B q u (L5 ++ List.replicate j 48) ∧ DB wr q D ∧ Below B w wr)) (fun _ i' _ => z - i - (RowKit.intOf i').toNat)
      case atStart => exact ⟨0, Nat.zero_le _, rfl, by simpa using H5.out.1, H5.out.2.1, H5.out.2.2⟩
      case round =>
        obtain ⟨j, hj, rfl, hJ⟩ := hrel
        obtain ⟨hOj, hDj, hbj⟩ := hJ.out
        clear hJ H5
        by_cases hjz : j < z - i
        · obtain ⟨Lj, hLj⟩ : ∃ L : List UInt8, L5 ++ List.replicate j 48 = L := ⟨_, rfl⟩
          rw [hLj] at hOj
          have HLj : Hid (L5 ++ List.replicate j 48 = Lj) := hLj
          have lj : Lj.length ≤ 60 := by rw [← hLj]; simp <;> omega
          clear hLj
          go_wp2_with (at_builtin; refine appQ rfl (.tmp 205) (.tmp 206) rfl B q _ _ wr [48] #[.int .u8 48] rfl 1 rfl (by omega) rfl hOj rfl (by omega) ?_)
          intro v4 w4 hO4 hk4 hb4
          have H4 : Hid (OwnQ w4 B q v4 (Lj ++ [48])) := hO4
          clear hO4
          go_wp2
          go_roundw
          case rel => exact ⟨j + 1, by omega, by go_num, by rw [rep_snoc, ← List.append_assoc, HLj.out]; exact H4.out, hDj.on hk4, hbj.trans hb4⟩
          case measure => simp [RowKit.intOf]; omega
        · have ejz : j = z - i := by omega
          rw [ejz] at hOj
          have H7 : Hid (OwnQ wr B q u0 (L5 ++ List.replicate (z - i) 48) ∧ Below B w wr) := ⟨hOj, hbj⟩
          have ej : (j : Int) = (z : Int) - (i : Int) := by omega
          clear hOj hDj hbj
          go_wp2
          go_ret
          refine ⟨_, rfl, ?_, H7.out.2⟩
          have hfin := H7.out.1.own
          rw [← HL5.out, ← HL1.out] at hfin
          rw [← HT.out]
          exact hfin
end Go.Proofs.YtlhfdklfkfodkabDoor.Ff

set_option maxRecDepth 100000
namespace Go.Proofs.YtlhfdklfkfodkabDoor.Ff
open Go.RowKit Go.Lib Go.Sort


set_option maxHeartbeats 8000000 in
theorem efgF2_n (w : World) (B q : Nat) (v : Value) (D : List UInt8) (k : Nat) (hk : D.length = k) (hk1 : 1 ≤ k) (hk2 : k ≤ 20) (z : Nat) (hz1 : k ≤ z) (hz2 : z ≤ 6) (hO0 : OwnQ w B q v []) (hD0 : DB w q D) (T : List UInt8) (hT : [45] ++ D ++ List.replicate (z - k) 48 = T) :
    Calls Tryd.prog 48 #[v, .bool true, .slice (some ⟨q, 0, none⟩) 32 32, .int .i64 z, .int .i64 k, .int .i64 k, .int .u8 103, .bool true] w fun e w' =>
      ∃ v', e = .returned v' ∧ Own w' B v' T ∧ Below B w w' := by
  have HD0 : Hid (DB w q D) := hD0
  have HT : Hid ([45] ++ D ++ List.replicate (z - k) 48 = T) := hT
  clear hD0 hT
  have h2 : min (k : Int) (z : Int) = (k : Int) := by omega
  have h3 : max ((k : Int) - (z : Int)) 0 = 0 := by omega
  have f1 : decide (z < k) = false := by simp; omega
  have f2 : decide (0 < z) = true := by simp; omega
  have f3 : decide ((z : Int) < (k : Int)) = false := by simp; omega
  have f4 : decide ((0 : Int) < (z : Int)) = true := by simp; omega
  go_enter Tryd.func48, Tryd.ntmps48
  go_wp2_with (at_builtin; refine appQ rfl (.tmp 179) (.tmp 180) rfl B q _ _ w [45] #[.int .u8 45] rfl 1 rfl (by omega) rfl hO0 rfl (by decide) ?_)
  intro v1 w1 hO1' hk1' hb1
  have HD1 : Hid (DB w1 q D) := HD0.out.on hk1'
  obtain ⟨L1, hL1⟩ : ∃ L : List UInt8, [45] = L := ⟨_, rfl⟩
  have H1 : Hid (OwnQ w1 B q v1 L1) := by rw [← hL1]; exact hO1'
  have l1 : L1.length ≤ 1 := by rw [← hL1]; decide
  have HL1 : Hid (([45] : List UInt8) = L1) := hL1
  clear hk1' hO0 HD0 hO1' hL1
  go_wp2_with fail
  go_loopw [0, 25, 191] (fun u c i wr => ∃ j : Nat, j ≤ k ∧ i = .int .i64 j ∧ Hid (OwnQ wr B q u (L1 ++ D.take j) ∧ DB wr q D ∧ Below B w wr)) (fun _ _ i _ => k - (RowKit.intOf i).toNat)
  case atStart => exact ⟨0, Nat.zero_le _, rfl, by simpa using H1.out, HD1.out, hb1⟩
  case round =>
    obtain ⟨i, hi, rfl, hI⟩ := hrel
    obtain ⟨hOi, hDi, hbi⟩ := hI.out
    clear hI H1 HD1 hb1
    by_cases hik : i < k
    · obtain ⟨Li, hLi⟩ : ∃ L : List UInt8, L1 ++ D.take i = L := ⟨_, rfl⟩
      rw [hLi] at hOi
      have HLi : Hid (L1 ++ D.take i = Li) := hLi
      have li : Li.length ≤ 40 := by rw [← hLi]; simp <;> omega
      have hc := hDi i (by omega)
      have cc := (D.getD i 0).toNat_lt
      have HSn := take_snoc8 D i (by omega)
      obtain ⟨d, hd⟩ : ∃ d, D.getD i 0 = d := ⟨_, rfl⟩
      rw [hd] at hc cc HSn
      have HS2 : Hid (D.take (i + 1) = D.take i ++ [d]) := HSn
      clear hLi hd HSn
      go_wp2_with (at_builtin; refine appQ rfl (.tmp 195) (.tmp 197) rfl B q _ _ wr [d] #[.int .u8 (d.toNat : Int)] rfl 1 rfl (by omega) rfl hOi rfl (by omega) ?_)
      intro v6 w6 hO6 hk6 hb6
      have H6 : Hid (OwnQ w6 B q v6 (Li ++ [d])) := hO6
      clear hO6
      go_wp2
      go_roundw
      case rel => exact ⟨i + 1, by omega, by go_num, by rw [HS2.out, ← List.append_assoc, HLi.out]; exact H6.out, hDi.on hk6, hbi.trans hb6⟩
      case measure => simp [RowKit.intOf]; omega
    · have eik : i = k := by omega
      subst eik
      have eD : D.take i = D := List.take_of_length_le (by omega)
      rw [eD] at hOi
      obtain ⟨L5, hL5⟩ : ∃ L : List UInt8, L1 ++ D = L := ⟨_, rfl⟩
      rw [hL5] at hOi
      have HL5 : Hid (L1 ++ D = L5) := hL5
      have l5 : L5.length ≤ 30 := by rw [← hL5]; simp <;> omega
      have H5 : Hid (OwnQ wr B q u0 L5 ∧ DB wr q D ∧ Below B w wr) := ⟨hOi, hDi, hbi⟩
      clear hL5 hOi hDi hbi eD
      go_wp2_with fail
      go_loopw [0, 203] (fun u i' wr => ∃ j : Nat, j ≤ z - i ∧ i' = .int .i64 j ∧ Hid (OwnQ wr B q u (L5 ++ List.replicate j 48) ∧ DB wr q D ∧ Below B w wr)) (fun _ i' _ => z - i - (RowKit.intOf i').toNat)
      case atStart => exact ⟨0, Nat.zero_le _, rfl, by simpa using H5.out.1, H5.out.2.1, H5.out.2.2⟩
      case round =>
        obtain ⟨j, hj, rfl, hJ⟩ := hrel
        obtain ⟨hOj, hDj, hbj⟩ := hJ.out
        clear hJ H5
        by_cases hjz : j < z - i
        · obtain ⟨Lj, hLj⟩ : ∃ L : List UInt8, L5 ++ List.replicate j 48 = L := ⟨_, rfl⟩
          rw [hLj] at hOj
          have HLj : Hid (L5 ++ List.replicate j 48 = Lj) := hLj
          have lj : Lj.length ≤ 60 := by rw [← hLj]; simp <;> omega
          clear hLj
          go_wp2_with (at_builtin; refine appQ rfl (.tmp 205) (.tmp 206) rfl B q _ _ wr [48] #[.int .u8 48] rfl 1 rfl (by omega) rfl hOj rfl (by omega) ?_)
          intro v4 w4 hO4 hk4 hb4
          have H4 : Hid (OwnQ w4 B q v4 (Lj ++ [48])) := hO4
          clear hO4
          go_wp2
          go_roundw
          case rel => exact ⟨j + 1, by omega, by go_num, by rw [rep_snoc, ← List.append_assoc, HLj.out]; exact H4.out, hDj.on hk4, hbj.trans hb4⟩
          case measure => simp [RowKit.intOf]; omega
        · have ejz : j = z - i := by omega
          rw [ejz] at hOj
          have H7 : Hid (OwnQ wr B q u0 (L5 ++ List.replicate (z - i) 48) ∧ Below B w wr) := ⟨hOj, hbj⟩
          have ej : (j : Int) = (z : Int) - (i : Int) := by omega
          clear hOj hDj hbj
          go_wp2
          go_ret
          refine ⟨_, rfl, ?_, H7.out.2⟩
          have hfin := H7.out.1.own
          rw [← HL5.out, ← HL1.out] at hfin
          rw [← HT.out]
          exact hfin
end Go.Proofs.YtlhfdklfkfodkabDoor.Ff

set_option maxRecDepth 100000
namespace Go.Proofs.YtlhfdklfkfodkabDoor.Ff
open Go.RowKit Go.Lib Go.Sort


set_option maxHeartbeats 8000000 in
theorem efgF3_p (w : World) (B q : Nat) (v : Value) (D : List UInt8) (k : Nat) (hk : D.length = k) (hk1 : 1 ≤ k) (hk2 : k ≤ 20) (z : Nat) (hz1 : 1 ≤ z) (hz2 : z < k) (hz3 : z ≤ 6) (hO0 : OwnQ w B q v []) (hD0 : DB w q D) (T : List UInt8) (hT : [] ++ D.take z ++ [46] ++ D.drop z = T) :
    Calls Tryd.prog 48 #[v, .bool false, .slice (some ⟨q, 0, none⟩) 32 32, .int .i64 z, .int .i64 k, .int .i64 k, .int .u8 103, .bool true] w fun e w' =>
      ∃ v', e = .returned v' ∧ Own w' B v' T ∧ Below B w w' := by
  have HD0 : Hid (DB w q D) := hD0
  have HT : Hid ([] ++ D.take z ++ [46] ++ D.drop z = T) := hT
  clear hD0 hT
  have h2 : min (k : Int) (z : Int) = (z : Int) := by omega
  have h3 : max ((k : Int) - (z : Int)) 0 = ((k - z : Nat) : Int) := by omega
  have h4 : max 0 (-(z : Int)) = 0 := by omega
  have h5 : min ((k - z : Nat) : Int) 0 = 0 := by omega
  have h6 : max 0 ((k : Int) - (z : Int)) = ((k - z : Nat) : Int) := by omega
  have h7 : min ((k - z : Nat) : Int) ((k - z : Nat) : Int) = ((k - z : Nat) : Int) := by omega
  have f1 : decide (z < k) = true := by simp; omega
  have f2 : decide (0 < z) = true := by simp; omega
  have f3 : decide ((z : Int) < (k : Int)) = true := by simp; omega
  have f4 : decide ((0 : Int) < (z : Int)) = true := by simp; omega
  go_enter Tryd.func48, Tryd.ntmps48
  have hb1 : Below B w w := Below.refl _ _
  have HD1 : Hid (DB w q D) := HD0.out
  obtain ⟨L1, hL1⟩ : ∃ L : List UInt8, [] = L := ⟨_, rfl⟩
  have H1 : Hid (OwnQ w B q v L1) := by rw [← hL1]; exact hO0
  have l1 : L1.length ≤ 1 := by rw [← hL1]; decide
  have HL1 : Hid (([] : List UInt8) = L1) := hL1
  clear HD0 hO0 hL1
  go_wp2_with fail
  go_loopw [0, 25, 191] (fun u c i wr => ∃ j : Nat, j ≤ z ∧ i = .int .i64 j ∧ Hid (OwnQ wr B q u (L1 ++ D.take j) ∧ DB wr q D ∧ Below B w wr)) (fun _ _ i _ => z - (RowKit.intOf i).toNat)
  case atStart => exact ⟨0, Nat.zero_le _, rfl, by simpa using H1.out, HD1.out, hb1⟩
  case round =>
    obtain ⟨i, hi, rfl, hI⟩ := hrel
    obtain ⟨hOi, hDi, hbi⟩ := hI.out
    clear hI H1 HD1 hb1
    by_cases hik : i < z
    · obtain ⟨Li, hLi⟩ : ∃ L : List UInt8, L1 ++ D.take i = L := ⟨_, rfl⟩
      rw [hLi] at hOi
      have HLi : Hid (L1 ++ D.take i = Li) := hLi
      have li : Li.length ≤ 40 := by rw [← hLi]; simp <;> omega
      have hc := hDi i (by omega)
      have cc := (D.getD i 0).toNat_lt
      have HSn := take_snoc8 D i (by omega)
      obtain ⟨d, hd⟩ : ∃ d, D.getD i 0 = d := ⟨_, rfl⟩
      rw [hd] at hc cc HSn
      have HS2 : Hid (D.take (i + 1) = D.take i ++ [d]) := HSn
      clear hLi hd HSn
      go_wp2_with (at_builtin; refine appQ rfl (.tmp 195) (.tmp 197) rfl B q _ _ wr [d] #[.int .u8 (d.toNat : Int)] rfl 1 rfl (by omega) rfl hOi rfl (by omega) ?_)
      intro v6 w6 hO6 hk6 hb6
      have H6 : Hid (OwnQ w6 B q v6 (Li ++ [d])) := hO6
      clear hO6
      go_wp2
      go_roundw
      case rel => exact ⟨i + 1, by omega, by go_num, by rw [HS2.out, ← List.append_assoc, HLi.out]; exact H6.out, hDi.on hk6, hbi.trans hb6⟩
      case measure => simp [RowKit.intOf]; omega
    · have eik : i = z := by omega
      subst eik
      have e0 : (i : Int) - (i : Int) = 0 := by omega
      obtain ⟨L5, hL5⟩ : ∃ L : List UInt8, L1 ++ D.take i = L := ⟨_, rfl⟩
      rw [hL5] at hOi
      have HL5 : Hid (L1 ++ D.take i = L5) := hL5
      have l5 : L5.length ≤ 30 := by rw [← hL5]; simp <;> omega
      have H5 : Hid (OwnQ wr B q u0 L5 ∧ DB wr q D ∧ Below B w wr) := ⟨hOi, hDi, hbi⟩
      clear hL5 hOi hDi hbi
      go_wp2_with fail
      go_loopw [0, 203] (fun u i' wr => i' = .int .i64 0 ∧ Hid (OwnQ wr B q u L5 ∧ DB wr q D ∧ Below B w wr)) (fun _ _ _ => 0)
      case atStart => exact ⟨rfl, H5.out⟩
      case round =>
      obtain ⟨rfl, hI5⟩ := hrel
      obtain ⟨hO5, hD5, hb5⟩ := hI5.out
      clear hI5 H5
      go_wp2_with (at_builtin; refine appQ rfl (.tmp 214) (.tmp 215) rfl B q _ _ wr [46] #[.int .u8 46] rfl 1 rfl (by omega) rfl hO5 rfl (by omega) ?_)
      intro v6 w6 hO6 hk6 hb6
      obtain ⟨L6, hL6⟩ : ∃ L : List UInt8, L5 ++ [46] = L := ⟨_, rfl⟩
      rw [hL6] at hO6
      have HL6 : Hid (L5 ++ [46] = L6) := hL6
      have l6 : L6.length ≤ 31 := by rw [← hL6]; simp <;> omega
      have H6 : Hid (OwnQ w6 B q v6 L6 ∧ DB w6 q D ∧ Below B w w6) := ⟨hO6, hD5.on hk6, hb5.trans hb6⟩
      clear hL6 hO6 hO5 hD5 hb5 hk6 hb6
      go_wp2_with fail
      go_loopw [0, 240] (fun u i' wr => i' = .int .i64 0 ∧ Hid (OwnQ wr B q u L6 ∧ DB wr q D ∧ Below B w wr)) (fun _ _ _ => 0)
      case atStart => exact ⟨rfl, H6.out⟩
      case round =>
      obtain ⟨rfl, H66⟩ := hrel
      clear H6
      go_wp2_with fail
      go_loopw [0, 30, 247] (fun u c i' wr => ∃ j : Nat, j ≤ k - i ∧ i' = .int .i64 j ∧ Hid (OwnQ wr B q u (L6 ++ (D.drop i).take j) ∧ DB wr q D ∧ Below B w wr)) (fun _ _ i' _ => k - i - (RowKit.intOf i').toNat)
      case atStart => exact ⟨0, Nat.zero_le _, rfl, by simpa using H66.out.1, H66.out.2.1, H66.out.2.2⟩
      case round =>
        obtain ⟨j, hj, rfl, hJ⟩ := hrel
        obtain ⟨hOj, hDj, hbj⟩ := hJ.out
        clear hJ H66
        by_cases hjz : j < k - i
        · obtain ⟨Lj, hLj⟩ : ∃ L : List UInt8, L6 ++ (D.drop i).take j = L := ⟨_, rfl⟩
          rw [hLj] at hOj
          have HLj : Hid (L6 ++ (D.drop i).take j = Lj) := hLj
          have lj : Lj.length ≤ 60 := by rw [← hLj]; simp <;> omega
          have hc := hDj (i + j) (by omega)
          have cc := (D.getD (i + j) 0).toNat_lt
          have HSn := take_snoc8 (D.drop i) j (by simp; omega)
          have eg : (D.drop i).getD j 0 = D.getD (i + j) 0 := by simp [List.getD]
          rw [eg] at HSn
          obtain ⟨d, hd⟩ : ∃ d, D.getD (i + j) 0 = d := ⟨_, rfl⟩
          rw [hd] at hc cc HSn
          have HS2 : Hid ((D.drop i).take (j + 1) = (D.drop i).take j ++ [d]) := HSn
          clear hLj hd HSn eg
          go_wp2_with (at_builtin; refine appQ rfl (.tmp 250) (.tmp 257) rfl B q _ _ wr [d] #[.int .u8 (d.toNat : Int)] rfl 1 rfl (by omega) rfl hOj rfl (by omega) ?_)
          intro v7 w7 hO7 hk7 hb7
          have H7 : Hid (OwnQ w7 B q v7 (Lj ++ [d])) := hO7
          clear hO7
          go_wp2
          go_roundw
          case rel => exact ⟨j + 1, by omega, by go_num, by rw [HS2.out, ← List.append_assoc, HLj.out]; exact H7.out, hDj.on hk7, hbj.trans hb7⟩
          case measure => simp [RowKit.intOf]; omega
        · have ejz : j = k - i := by omega
          have eD : (D.drop i).take j = D.drop i := List.take_of_length_le (by simp; omega)
          rw [eD] at hOj
          have ej : (j : Int) = (k : Int) - (i : Int) := by omega
          have H7 : Hid (OwnQ wr B q u0 (L6 ++ D.drop i) ∧ Below B w wr) := ⟨hOj, hbj⟩
          clear hOj hDj hbj eD
          go_wp2_with fail
          go_loopw [0, 261] (fun u i' wr => i' = .int .i64 0 ∧ Hid (OwnQ wr B q u (L6 ++ D.drop i) ∧ Below B w wr)) (fun _ _ _ => 0)
          case atStart => exact ⟨rfl, H7.out⟩
          case round =>
            obtain ⟨rfl, hK⟩ := hrel
            clear H7
            go_wp2
            go_ret
            refine ⟨_, rfl, ?_, hK.out.2⟩
            have hfin := hK.out.1.own
            rw [← HL6.out, ← HL5.out, ← HL1.out] at hfin
            rw [← HT.out]
            exact hfin
end Go.Proofs.YtlhfdklfkfodkabDoor.Ff

set_option maxRecDepth 100000
namespace Go.Proofs.YtlhfdklfkfodkabDoor.Ff
open Go.RowKit Go.Lib Go.Sort


set_option maxHeartbeats 8000000 in
theorem efgF3_n (w : World) (B q : Nat) (v : Value) (D : List UInt8) (k : Nat) (hk : D.length = k) (hk1 : 1 ≤ k) (hk2 : k ≤ 20) (z : Nat) (hz1 : 1 ≤ z) (hz2 : z < k) (hz3 : z ≤ 6) (hO0 : OwnQ w B q v []) (hD0 : DB w q D) (T : List UInt8) (hT : [45] ++ D.take z ++ [46] ++ D.drop z = T) :
    Calls Tryd.prog 48 #[v, .bool true, .slice (some ⟨q, 0, none⟩) 32 32, .int .i64 z, .int .i64 k, .int .i64 k, .int .u8 103, .bool true] w fun e w' =>
      ∃ v', e = .returned v' ∧ Own w' B v' T ∧ Below B w w' := by
  have HD0 : Hid (DB w q D) := hD0
  have HT : Hid ([45] ++ D.take z ++ [46] ++ D.drop z = T) := hT
  clear hD0 hT
  have h2 : min (k : Int) (z : Int) = (z : Int) := by omega
  have h3 : max ((k : Int) - (z : Int)) 0 = ((k - z : Nat) : Int) := by omega
  have h4 : max 0 (-(z : Int)) = 0 := by omega
  have h5 : min ((k - z : Nat) : Int) 0 = 0 := by omega
  have h6 : max 0 ((k : Int) - (z : Int)) = ((k - z : Nat) : Int) := by omega
  have h7 : min ((k - z : Nat) : Int) ((k - z : Nat) : Int) = ((k - z : Nat) : Int) := by omega
  have f1 : decide (z < k) = true := by simp; omega
  have f2 : decide (0 < z) = true := by simp; omega
  have f3 : decide ((z : Int) < (k : Int)) = true := by simp; omega
  have f4 : decide ((0 : Int) < (z : Int)) = true := by simp; omega
  go_enter Tryd.func48, Tryd.ntmps48
  go_wp2_with (at_builtin; refine appQ rfl (.tmp 179) (.tmp 180) rfl B q _ _ w [45] #[.int .u8 45] rfl 1 rfl (by omega) rfl hO0 rfl (by decide) ?_)
  intro v1 w1 hO1' hk1' hb1
  have HD1 : Hid (DB w1 q D) := HD0.out.on hk1'
  obtain ⟨L1, hL1⟩ : ∃ L : List UInt8, [45] = L := ⟨_, rfl⟩
  have H1 : Hid (OwnQ w1 B q v1 L1) := by rw [← hL1]; exact hO1'
  have l1 : L1.length ≤ 1 := by rw [← hL1]; decide
  have HL1 : Hid (([45] : List UInt8) = L1) := hL1
  clear hk1' hO0 HD0 hO1' hL1
  go_wp2_with fail
  go_loopw [0, 25, 191] (fun u c i wr => ∃ j : Nat, j ≤ z ∧ i = .int .i64 j ∧ Hid (OwnQ wr B q u (L1 ++ D.take j) ∧ DB wr q D ∧ Below B w wr)) (fun _ _ i _ => z - (RowKit.intOf i).toNat)
  case atStart => exact ⟨0, Nat.zero_le _, rfl, by simpa using H1.out, HD1.out, hb1⟩
  case round =>
    obtain ⟨i, hi, rfl, hI⟩ := hrel
    obtain ⟨hOi, hDi, hbi⟩ := hI.out
    clear hI H1 HD1 hb1
    by_cases hik : i < z
    · obtain ⟨Li, hLi⟩ : ∃ L : List UInt8, L1 ++ D.take i = L := ⟨_, rfl⟩
      rw [hLi] at hOi
      have HLi : Hid (L1 ++ D.take i = Li) := hLi
      have li : Li.length ≤ 40 := by rw [← hLi]; simp <;> omega
      have hc := hDi i (by omega)
      have cc := (D.getD i 0).toNat_lt
      have HSn := take_snoc8 D i (by omega)
      obtain ⟨d, hd⟩ : ∃ d, D.getD i 0 = d := ⟨_, rfl⟩
      rw [hd] at hc cc HSn
      have HS2 : Hid (D.take (i + 1) = D.take i ++ [d]) := HSn
      clear hLi hd HSn
      go_wp2_with (at_builtin; refine appQ rfl (.tmp 195) (.tmp 197) rfl B q _ _ wr [d] #[.int .u8 (d.toNat : Int)] rfl 1 rfl (by omega) rfl hOi rfl (by omega) ?_)
      intro v6 w6 hO6 hk6 hb6
      have H6 : Hid (OwnQ w6 B q v6 (Li ++ [d])) := hO6
      clear hO6
      go_wp2
      go_roundw
      case rel => exact ⟨i + 1, by omega, by go_num, by rw [HS2.out, ← List.append_assoc, HLi.out]; exact H6.out, hDi.on hk6, hbi.trans hb6⟩
      case measure => simp [RowKit.intOf]; omega
    · have eik : i = z := by omega
      subst eik
      have e0 : (i : Int) - (i : Int) = 0 := by omega
      obtain ⟨L5, hL5⟩ : ∃ L : List UInt8, L1 ++ D.take i = L := ⟨_, rfl⟩
      rw [hL5] at hOi
      have HL5 : Hid (L1 ++ D.take i = L5) := hL5
      have l5 : L5.length ≤ 30 := by rw [← hL5]; simp <;> omega
      have H5 : Hid (OwnQ wr B q u0 L5 ∧ DB wr q D ∧ Below B w wr) := ⟨hOi, hDi, hbi⟩
      clear hL5 hOi hDi hbi
      go_wp2_with fail
      go_loopw [0, 203] (fun u i' wr => i' = .int .i64 0 ∧ Hid (OwnQ wr B q u L5 ∧ DB wr q D ∧ Below B w wr)) (fun _ _ _ => 0)
      case atStart => exact ⟨rfl, H5.out⟩
      case round =>
      obtain ⟨rfl, hI5⟩ := hrel
      obtain ⟨hO5, hD5, hb5⟩ := hI5.out
      clear hI5 H5
      go_wp2_with (at_builtin; refine appQ rfl (.tmp 214) (.tmp 215) rfl B q _ _ wr [46] #[.int .u8 46] rfl 1 rfl (by omega) rfl hO5 rfl (by omega) ?_)
      intro v6 w6 hO6 hk6 hb6
      obtain ⟨L6, hL6⟩ : ∃ L : List UInt8, L5 ++ [46] = L := ⟨_, rfl⟩
      rw [hL6] at hO6
      have HL6 : Hid (L5 ++ [46] = L6) := hL6
      have l6 : L6.length ≤ 31 := by rw [← hL6]; simp <;> omega
      have H6 : Hid (OwnQ w6 B q v6 L6 ∧ DB w6 q D ∧ Below B w w6) := ⟨hO6, hD5.on hk6, hb5.trans hb6⟩
      clear hL6 hO6 hO5 hD5 hb5 hk6 hb6
      go_wp2_with fail
      go_loopw [0, 240] (fun u i' wr => i' = .int .i64 0 ∧ Hid (OwnQ wr B q u L6 ∧ DB wr q D ∧ Below B w wr)) (fun _ _ _ => 0)
      case atStart => exact ⟨rfl, H6.out⟩
      case round =>
      obtain ⟨rfl, H66⟩ := hrel
      clear H6
      go_wp2_with fail
      go_loopw [0, 30, 247] (fun u c i' wr => ∃ j : Nat, j ≤ k - i ∧ i' = .int .i64 j ∧ Hid (OwnQ wr B q u (L6 ++ (D.drop i).take j) ∧ DB wr q D ∧ Below B w wr)) (fun _ _ i' _ => k - i - (RowKit.intOf i').toNat)
      case atStart => exact ⟨0, Nat.zero_le _, rfl, by simpa using H66.out.1, H66.out.2.1, H66.out.2.2⟩
      case round =>
        obtain ⟨j, hj, rfl, hJ⟩ := hrel
        obtain ⟨hOj, hDj, hbj⟩ := hJ.out
        clear hJ H66
        by_cases hjz : j < k - i
        · obtain ⟨Lj, hLj⟩ : ∃ L : List UInt8, L6 ++ (D.drop i).take j = L := ⟨_, rfl⟩
          rw [hLj] at hOj
          have HLj : Hid (L6 ++ (D.drop i).take j = Lj) := hLj
          have lj : Lj.length ≤ 60 := by rw [← hLj]; simp <;> omega
          have hc := hDj (i + j) (by omega)
          have cc := (D.getD (i + j) 0).toNat_lt
          have HSn := take_snoc8 (D.drop i) j (by simp; omega)
          have eg : (D.drop i).getD j 0 = D.getD (i + j) 0 := by simp [List.getD]
          rw [eg] at HSn
          obtain ⟨d, hd⟩ : ∃ d, D.getD (i + j) 0 = d := ⟨_, rfl⟩
          rw [hd] at hc cc HSn
          have HS2 : Hid ((D.drop i).take (j + 1) = (D.drop i).take j ++ [d]) := HSn
          clear hLj hd HSn eg
          go_wp2_with (at_builtin; refine appQ rfl (.tmp 250) (.tmp 257) rfl B q _ _ wr [d] #[.int .u8 (d.toNat : Int)] rfl 1 rfl (by omega) rfl hOj rfl (by omega) ?_)
          intro v7 w7 hO7 hk7 hb7
          have H7 : Hid (OwnQ w7 B q v7 (Lj ++ [d])) := hO7
          clear hO7
          go_wp2
          go_roundw
          case rel => exact ⟨j + 1, by omega, by go_num, by rw [HS2.out, ← List.append_assoc, HLj.out]; exact H7.out, hDj.on hk7, hbj.trans hb7⟩
          case measure => simp [RowKit.intOf]; omega
        · have ejz : j = k - i := by omega
          have eD : (D.drop i).take j = D.drop i := List.take_of_length_le (by simp; omega)
          rw [eD] at hOj
          have ej : (j : Int) = (k : Int) - (i : Int) := by omega
          have H7 : Hid (OwnQ wr B q u0 (L6 ++ D.drop i) ∧ Below B w wr) := ⟨hOj, hbj⟩
          clear hOj hDj hbj eD
          go_wp2_with fail
          go_loopw [0, 261] (fun u i' wr => i' = .int .i64 0 ∧ Hid (OwnQ wr B q u (L6 ++ D.drop i) ∧ Below B w wr)) (fun _ _ _ => 0)
          case atStart => exact ⟨rfl, H7.out⟩
          case round =>
            obtain ⟨rfl, hK⟩ := hrel
            clear H7
            go_wp2
            go_ret
            refine ⟨_, rfl, ?_, hK.out.2⟩
            have hfin := hK.out.1.own
            rw [← HL6.out, ← HL5.out, ← HL1.out] at hfin
            rw [← HT.out]
            exact hfin
end Go.Proofs.YtlhfdklfkfodkabDoor.Ff

set_option maxRecDepth 100000
namespace Go.Proofs.YtlhfdklfkfodkabDoor.Ff
open Go.RowKit Go.Lib Go.Sort


set_option maxHeartbeats 4000000 in
theorem efgF0_p (w : World) (B q : Nat) (v : Value) (hO0 : OwnQ w B q v []) :
    Calls Tryd.prog 48 #[v, .bool false, .slice none 0 0, .int .i64 0, .int .i64 0, .int .i64 (-1), .int .u8 103, .bool true] w fun e w' =>
      ∃ v', e = .returned v' ∧ Own w' B v' [48] ∧ Below B w w' := by
  go_enter Tryd.func48, Tryd.ntmps48
  go_wp2_with (at_builtin; refine appQ rfl (.tmp 209) (.tmp 210) rfl B q _ _ w [48] #[.int .u8 48] rfl 1 rfl (by omega) rfl hO0 rfl (by decide) ?_)
  intro v2 w2 hO2 hk2' hb2
  go_wp2
  go_ret
  exact ⟨_, rfl, hO2.own, hb2⟩

set_option maxHeartbeats 4000000 in
theorem efgF0_n (w : World) (B q : Nat) (v : Value) (hO0 : OwnQ w B q v []) :
    Calls Tryd.prog 48 #[v, .bool true, .slice none 0 0, .int .i64 0, .int .i64 0, .int .i64 (-1), .int .u8 103, .bool true] w fun e w' =>
      ∃ v', e = .returned v' ∧ Own w' B v' [45, 48] ∧ Below B w w' := by
  go_enter Tryd.func48, Tryd.ntmps48
  go_wp2_with (at_builtin; refine appQ rfl (.tmp 179) (.tmp 180) rfl B q _ _ w [45] #[.int .u8 45] rfl 1 rfl (by omega) rfl hO0 rfl (by decide) ?_)
  intro v1 w1 hO1 hk1' hb1
  clear hO0 hk1'
  go_wp2_with (at_builtin; refine appQ rfl (.tmp 209) (.tmp 210) rfl B q _ _ w1 [48] #[.int .u8 48] rfl 1 rfl (by omega) rfl hO1 rfl (by decide) ?_)
  intro v2 w2 hO2 hk2' hb2
  go_wp2
  go_ret
  exact ⟨_, rfl, hO2.own, hb1.trans hb2⟩
end Go.Proofs.YtlhfdklfkfodkabDoor.Ff
