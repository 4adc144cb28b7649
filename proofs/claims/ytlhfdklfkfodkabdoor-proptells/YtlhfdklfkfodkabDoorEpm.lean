
/- What the library's fmtEFG writes of any digits, the shortest ones, with an exponent. -/
import Derived.Test.YtlhfdklfkfodkabDoorEg
set_option maxRecDepth 100000
namespace Go.Proofs.YtlhfdklfkfodkabDoor.Ff
open Go.RowKit Go.Lib Go.Sort

set_option maxHeartbeats 4000000 in
theorem efgE_pmua (w : World) (B q : Nat) (v : Value) (D : List UInt8) (k : Nat) (hk : D.length = k) (hk1 : 2 ≤ k) (hk2 : k ≤ 20) (dp : Int) (y : Nat) (hdp : dp - 1 = (y : Int)) (y0 : 6 ≤ y) (y1 : y < 10) (hO0 : OwnQ w B q v []) (hD0 : DB w q D) (T : List UInt8) (hT : [] ++ [D.getD 0 0] ++ [46] ++ D.drop 1 ++ [101] ++ [43] ++ [48, c8 (48 + y)] = T) :
    Calls Tryd.prog 48 #[v, .bool false, .slice (some ⟨q, 0, none⟩) 32 32, .int .i64 dp, .int .i64 k, .int .i64 k, .int .u8 103, .bool true] w fun e w' =>
      ∃ v', e = .returned v' ∧ Own w' B v' T ∧ Below B w w' := by
  have HD0 : Hid (DB w q D) := hD0
  have HT : Hid ([] ++ [D.getD 0 0] ++ [46] ++ D.drop 1 ++ [101] ++ [43] ++ [48, c8 (48 + y)] = T) := hT
  clear hD0 hT
  go_enter Tryd.func48, Tryd.ntmps48
  have hc0 := HD0.out 0 (by omega)
  have c0 := (D.getD 0 0).toNat_lt
  obtain ⟨d0, hd0⟩ : ∃ d, D.getD 0 0 = d := ⟨_, rfl⟩
  rw [hd0] at hc0 c0
  have Hd0 : Hid (D.getD 0 0 = d0) := hd0
  clear hd0
  go_wp2_with (at_builtin; refine appQ rfl (.tmp 87) (.tmp 89) rfl B q _ _ w [d0] #[.int .u8 (d0.toNat : Int)] (rfl) 1 rfl (by omega) rfl hO0 rfl (by decide) ?_)
  intro v1 w1 hP1 hk1 hb1
  obtain ⟨L1, hL1⟩ : ∃ L : List UInt8, [] ++ [d0] = L := ⟨_, rfl⟩
  have hO1 : OwnQ w1 B q v1 L1 := by rw [← hL1]; first | exact hP1 | simpa using hP1
  clear hP1
  have l1 : L1.length ≤ 1 := by rw [← hL1]; simp <;> omega
  have HL1 : Hid ([] ++ [d0] = L1) := hL1
  have HD1 : Hid (DB w1 q D) := HD0.out.on hk1
  have HB1 : Hid (Below B w w1) := hb1
  clear hL1 hk1 hb1 hO0 HD0
  clear hc0 c0
  have hmin : min (k : Int) ((k : Int) - 1 + 1) = (k : Int) := by omega
  go_wp2_with (at_builtin; refine appQ rfl (.tmp 93) (.tmp 94) rfl B q _ _ w1 [46] #[.int .u8 46] (rfl) 1 rfl (by omega) rfl hO1 rfl (by omega) ?_)
  intro v2 w2 hP2 hk2 hb2
  obtain ⟨L2, hL2⟩ : ∃ L : List UInt8, L1 ++ [46] = L := ⟨_, rfl⟩
  have hO2 : OwnQ w2 B q v2 L2 := by rw [← hL2]; first | exact hP2 | simpa using hP2
  clear hP2
  have l2 : L2.length ≤ 2 := by rw [← hL2]; simp <;> omega
  have HL2 : Hid (L1 ++ [46] = L2) := hL2
  have HD2 : Hid (DB w2 q D) := HD1.out.on hk2
  have HB2 : Hid (Below B w w2) := HB1.out.trans hb2
  clear hL2 hk2 hb2 hO1 HD1
  have HCS : Hid (∀ i, i < k - 1 → w2.cell? ⟨q, 1 + i, none⟩ = some (.int .u8 (((D.drop 1).getD i 0).toNat : Int))) := fun i hi => by
    have := HD2.out (1 + i) (by omega)
    rw [this]
    simp [List.getD, Nat.add_comm]
  go_wp2_with (at_builtin; refine appR rfl (.tmp 103) (.tmp 107) rfl B q _ _ w2 (D.drop 1) q 1 (k - 1) 31 (by simp; omega) (by omega) rfl hO2 rfl HCS.out (by omega) ?_)
  intro v3 w3 hP3 hk3 hb3
  obtain ⟨L3, hL3⟩ : ∃ L : List UInt8, L2 ++ D.drop 1 = L := ⟨_, rfl⟩
  have hO3 : OwnQ w3 B q v3 L3 := by rw [← hL3]; first | exact hP3 | simpa using hP3
  clear hP3
  have l3 : L3.length ≤ 32 := by rw [← hL3]; simp <;> omega
  have HL3 : Hid (L2 ++ D.drop 1 = L3) := hL3
  have HD3 : Hid (DB w3 q D) := HD2.out.on hk3
  have HB3 : Hid (Below B w w3) := HB2.out.trans hb3
  clear hL3 hk3 hb3 hO2 HD2
  clear HCS
  go_wp2_with fail
  go_loopw [0, 114] (fun u i wr => i = .int .i64 0 ∧ v3 = u ∧ w3 = wr) (fun _ _ _ => 0)
  case atStart => exact ⟨rfl, rfl, rfl⟩
  case round =>
  obtain ⟨rfl, rfl, rfl⟩ := hrel
  go_wp2_with (at_builtin; refine appQ rfl (.tmp 120) (.tmp 122) rfl B q _ _ w3 [101] #[.int .u8 101] (rfl) 1 rfl (by omega) rfl hO3 rfl (by omega) ?_)
  intro v4 w4 hP4 hk4 hb4
  obtain ⟨L4, hL4⟩ : ∃ L : List UInt8, L3 ++ [101] = L := ⟨_, rfl⟩
  have hO4 : OwnQ w4 B q v4 L4 := by rw [← hL4]; first | exact hP4 | simpa using hP4
  clear hP4
  have l4 : L4.length ≤ 33 := by rw [← hL4]; simp <;> omega
  have HL4 : Hid (L3 ++ [101] = L4) := hL4
  have HD4 : Hid (DB w4 q D) := HD3.out.on hk4
  have HB4 : Hid (Below B w w4) := HB3.out.trans hb4
  clear hL4 hk4 hb4 hO3 HD3
  go_wp2_with (at_builtin; refine appQ rfl (.tmp 132) (.tmp 134) rfl B q _ _ w4 [43] #[.int .u8 43] (rfl) 1 rfl (by omega) rfl hO4 rfl (by omega) ?_)
  intro v5 w5 hP5 hk5 hb5
  obtain ⟨L5, hL5⟩ : ∃ L : List UInt8, L4 ++ [43] = L := ⟨_, rfl⟩
  have hO5 : OwnQ w5 B q v5 L5 := by rw [← hL5]; first | exact hP5 | simpa using hP5
  clear hP5
  have l5 : L5.length ≤ 34 := by rw [← hL5]; simp <;> omega
  have HL5 : Hid (L4 ++ [43] = L5) := hL5
  have HD5 : Hid (DB w5 q D) := HD4.out.on hk5
  have HB5 : Hid (Below B w w5) := HB4.out.trans hb5
  clear hL5 hk5 hb5 hO4 HD4
  go_wp2_with (at_builtin; refine appQ rfl (.tmp 155) (.tmp 159) rfl B q _ _ w5 [48, c8 (48 + y)] #[.int .u8 48, .int .u8 ((y : Int) + 48)] (bytesA y y1) 2 rfl (by omega) rfl hO5 rfl (by omega) ?_)
  intro v6 w6 hP6 hk6 hb6
  obtain ⟨L6, hL6⟩ : ∃ L : List UInt8, L5 ++ [48, c8 (48 + y)] = L := ⟨_, rfl⟩
  have hO6 : OwnQ w6 B q v6 L6 := by rw [← hL6]; first | exact hP6 | simpa using hP6
  clear hP6
  have l6 : L6.length ≤ 36 := by rw [← hL6]; simp <;> omega
  have HL6 : Hid (L5 ++ [48, c8 (48 + y)] = L6) := hL6
  have HD6 : Hid (DB w6 q D) := HD5.out.on hk6
  have HB6 : Hid (Below B w w6) := HB5.out.trans hb6
  clear hL6 hk6 hb6 hO5 HD5
  go_wp2
  go_ret
  refine ⟨_, rfl, ?_, HB6.out⟩
  rw [← HT.out, Hd0.out, HL1.out, HL2.out, HL3.out, HL4.out, HL5.out, HL6.out]
  exact hO6.own

set_option maxHeartbeats 4000000 in
theorem efgE_pmub (w : World) (B q : Nat) (v : Value) (D : List UInt8) (k : Nat) (hk : D.length = k) (hk1 : 2 ≤ k) (hk2 : k ≤ 20) (dp : Int) (y : Nat) (hdp : dp - 1 = (y : Int)) (y0 : 10 ≤ y) (y1 : y < 100) (hO0 : OwnQ w B q v []) (hD0 : DB w q D) (T : List UInt8) (hT : [] ++ [D.getD 0 0] ++ [46] ++ D.drop 1 ++ [101] ++ [43] ++ [c8 (48 + y / 10), c8 (48 + y % 10)] = T) :
    Calls Tryd.prog 48 #[v, .bool false, .slice (some ⟨q, 0, none⟩) 32 32, .int .i64 dp, .int .i64 k, .int .i64 k, .int .u8 103, .bool true] w fun e w' =>
      ∃ v', e = .returned v' ∧ Own w' B v' T ∧ Below B w w' := by
  have HD0 : Hid (DB w q D) := hD0
  have HT : Hid ([] ++ [D.getD 0 0] ++ [46] ++ D.drop 1 ++ [101] ++ [43] ++ [c8 (48 + y / 10), c8 (48 + y % 10)] = T) := hT
  clear hD0 hT
  go_enter Tryd.func48, Tryd.ntmps48
  have hc0 := HD0.out 0 (by omega)
  have c0 := (D.getD 0 0).toNat_lt
  obtain ⟨d0, hd0⟩ : ∃ d, D.getD 0 0 = d := ⟨_, rfl⟩
  rw [hd0] at hc0 c0
  have Hd0 : Hid (D.getD 0 0 = d0) := hd0
  clear hd0
  go_wp2_with (at_builtin; refine appQ rfl (.tmp 87) (.tmp 89) rfl B q _ _ w [d0] #[.int .u8 (d0.toNat : Int)] (rfl) 1 rfl (by omega) rfl hO0 rfl (by decide) ?_)
  intro v1 w1 hP1 hk1 hb1
  obtain ⟨L1, hL1⟩ : ∃ L : List UInt8, [] ++ [d0] = L := ⟨_, rfl⟩
  have hO1 : OwnQ w1 B q v1 L1 := by rw [← hL1]; first | exact hP1 | simpa using hP1
  clear hP1
  have l1 : L1.length ≤ 1 := by rw [← hL1]; simp <;> omega
  have HL1 : Hid ([] ++ [d0] = L1) := hL1
  have HD1 : Hid (DB w1 q D) := HD0.out.on hk1
  have HB1 : Hid (Below B w w1) := hb1
  clear hL1 hk1 hb1 hO0 HD0
  clear hc0 c0
  have hmin : min (k : Int) ((k : Int) - 1 + 1) = (k : Int) := by omega
  go_wp2_with (at_builtin; refine appQ rfl (.tmp 93) (.tmp 94) rfl B q _ _ w1 [46] #[.int .u8 46] (rfl) 1 rfl (by omega) rfl hO1 rfl (by omega) ?_)
  intro v2 w2 hP2 hk2 hb2
  obtain ⟨L2, hL2⟩ : ∃ L : List UInt8, L1 ++ [46] = L := ⟨_, rfl⟩
  have hO2 : OwnQ w2 B q v2 L2 := by rw [← hL2]; first | exact hP2 | simpa using hP2
  clear hP2
  have l2 : L2.length ≤ 2 := by rw [← hL2]; simp <;> omega
  have HL2 : Hid (L1 ++ [46] = L2) := hL2
  have HD2 : Hid (DB w2 q D) := HD1.out.on hk2
  have HB2 : Hid (Below B w w2) := HB1.out.trans hb2
  clear hL2 hk2 hb2 hO1 HD1
  have HCS : Hid (∀ i, i < k - 1 → w2.cell? ⟨q, 1 + i, none⟩ = some (.int .u8 (((D.drop 1).getD i 0).toNat : Int))) := fun i hi => by
    have := HD2.out (1 + i) (by omega)
    rw [this]
    simp [List.getD, Nat.add_comm]
  go_wp2_with (at_builtin; refine appR rfl (.tmp 103) (.tmp 107) rfl B q _ _ w2 (D.drop 1) q 1 (k - 1) 31 (by simp; omega) (by omega) rfl hO2 rfl HCS.out (by omega) ?_)
  intro v3 w3 hP3 hk3 hb3
  obtain ⟨L3, hL3⟩ : ∃ L : List UInt8, L2 ++ D.drop 1 = L := ⟨_, rfl⟩
  have hO3 : OwnQ w3 B q v3 L3 := by rw [← hL3]; first | exact hP3 | simpa using hP3
  clear hP3
  have l3 : L3.length ≤ 32 := by rw [← hL3]; simp <;> omega
  have HL3 : Hid (L2 ++ D.drop 1 = L3) := hL3
  have HD3 : Hid (DB w3 q D) := HD2.out.on hk3
  have HB3 : Hid (Below B w w3) := HB2.out.trans hb3
  clear hL3 hk3 hb3 hO2 HD2
  clear HCS
  go_wp2_with fail
  go_loopw [0, 114] (fun u i wr => i = .int .i64 0 ∧ v3 = u ∧ w3 = wr) (fun _ _ _ => 0)
  case atStart => exact ⟨rfl, rfl, rfl⟩
  case round =>
  obtain ⟨rfl, rfl, rfl⟩ := hrel
  go_wp2_with (at_builtin; refine appQ rfl (.tmp 120) (.tmp 122) rfl B q _ _ w3 [101] #[.int .u8 101] (rfl) 1 rfl (by omega) rfl hO3 rfl (by omega) ?_)
  intro v4 w4 hP4 hk4 hb4
  obtain ⟨L4, hL4⟩ : ∃ L : List UInt8, L3 ++ [101] = L := ⟨_, rfl⟩
  have hO4 : OwnQ w4 B q v4 L4 := by rw [← hL4]; first | exact hP4 | simpa using hP4
  clear hP4
  have l4 : L4.length ≤ 33 := by rw [← hL4]; simp <;> omega
  have HL4 : Hid (L3 ++ [101] = L4) := hL4
  have HD4 : Hid (DB w4 q D) := HD3.out.on hk4
  have HB4 : Hid (Below B w w4) := HB3.out.trans hb4
  clear hL4 hk4 hb4 hO3 HD3
  go_wp2_with (at_builtin; refine appQ rfl (.tmp 132) (.tmp 134) rfl B q _ _ w4 [43] #[.int .u8 43] (rfl) 1 rfl (by omega) rfl hO4 rfl (by omega) ?_)
  intro v5 w5 hP5 hk5 hb5
  obtain ⟨L5, hL5⟩ : ∃ L : List UInt8, L4 ++ [43] = L := ⟨_, rfl⟩
  have hO5 : OwnQ w5 B q v5 L5 := by rw [← hL5]; first | exact hP5 | simpa using hP5
  clear hP5
  have l5 : L5.length ≤ 34 := by rw [← hL5]; simp <;> omega
  have HL5 : Hid (L4 ++ [43] = L5) := hL5
  have HD5 : Hid (DB w5 q D) := HD4.out.on hk5
  have HB5 : Hid (Below B w w5) := HB4.out.trans hb5
  clear hL5 hk5 hb5 hO4 HD4
  go_wp2_with (at_builtin; refine appQ rfl (.tmp 164) (.tmp 173) rfl B q _ _ w5 [c8 (48 + y / 10), c8 (48 + y % 10)] #[.int .u8 ((y : Int) / 10 + 48), .int .u8 ((y : Int) % 10 + 48)] (bytesB y y1) 2 rfl (by omega) rfl hO5 rfl (by omega) ?_)
  intro v6 w6 hP6 hk6 hb6
  obtain ⟨L6, hL6⟩ : ∃ L : List UInt8, L5 ++ [c8 (48 + y / 10), c8 (48 + y % 10)] = L := ⟨_, rfl⟩
  have hO6 : OwnQ w6 B q v6 L6 := by rw [← hL6]; first | exact hP6 | simpa using hP6
  clear hP6
  have l6 : L6.length ≤ 36 := by rw [← hL6]; simp <;> omega
  have HL6 : Hid (L5 ++ [c8 (48 + y / 10), c8 (48 + y % 10)] = L6) := hL6
  have HD6 : Hid (DB w6 q D) := HD5.out.on hk6
  have HB6 : Hid (Below B w w6) := HB5.out.trans hb6
  clear hL6 hk6 hb6 hO5 HD5
  go_wp2
  go_ret
  refine ⟨_, rfl, ?_, HB6.out⟩
  rw [← HT.out, Hd0.out, HL1.out, HL2.out, HL3.out, HL4.out, HL5.out, HL6.out]
  exact hO6.own

set_option maxHeartbeats 4000000 in
theorem efgE_pmuc (w : World) (B q : Nat) (v : Value) (D : List UInt8) (k : Nat) (hk : D.length = k) (hk1 : 2 ≤ k) (hk2 : k ≤ 20) (dp : Int) (y : Nat) (hdp : dp - 1 = (y : Int)) (y0 : 100 ≤ y) (y1 : y ≤ 400) (hO0 : OwnQ w B q v []) (hD0 : DB w q D) (T : List UInt8) (hT : [] ++ [D.getD 0 0] ++ [46] ++ D.drop 1 ++ [101] ++ [43] ++ [c8 (48 + y / 100), c8 (48 + y / 10 % 10), c8 (48 + y % 10)] = T) :
    Calls Tryd.prog 48 #[v, .bool false, .slice (some ⟨q, 0, none⟩) 32 32, .int .i64 dp, .int .i64 k, .int .i64 k, .int .u8 103, .bool true] w fun e w' =>
      ∃ v', e = .returned v' ∧ Own w' B v' T ∧ Below B w w' := by
  have HD0 : Hid (DB w q D) := hD0
  have HT : Hid ([] ++ [D.getD 0 0] ++ [46] ++ D.drop 1 ++ [101] ++ [43] ++ [c8 (48 + y / 100), c8 (48 + y / 10 % 10), c8 (48 + y % 10)] = T) := hT
  clear hD0 hT
  go_enter Tryd.func48, Tryd.ntmps48
  have hc0 := HD0.out 0 (by omega)
  have c0 := (D.getD 0 0).toNat_lt
  obtain ⟨d0, hd0⟩ : ∃ d, D.getD 0 0 = d := ⟨_, rfl⟩
  rw [hd0] at hc0 c0
  have Hd0 : Hid (D.getD 0 0 = d0) := hd0
  clear hd0
  go_wp2_with (at_builtin; refine appQ rfl (.tmp 87) (.tmp 89) rfl B q _ _ w [d0] #[.int .u8 (d0.toNat : Int)] (rfl) 1 rfl (by omega) rfl hO0 rfl (by decide) ?_)
  intro v1 w1 hP1 hk1 hb1
  obtain ⟨L1, hL1⟩ : ∃ L : List UInt8, [] ++ [d0] = L := ⟨_, rfl⟩
  have hO1 : OwnQ w1 B q v1 L1 := by rw [← hL1]; first | exact hP1 | simpa using hP1
  clear hP1
  have l1 : L1.length ≤ 1 := by rw [← hL1]; simp <;> omega
  have HL1 : Hid ([] ++ [d0] = L1) := hL1
  have HD1 : Hid (DB w1 q D) := HD0.out.on hk1
  have HB1 : Hid (Below B w w1) := hb1
  clear hL1 hk1 hb1 hO0 HD0
  clear hc0 c0
  have hmin : min (k : Int) ((k : Int) - 1 + 1) = (k : Int) := by omega
  go_wp2_with (at_builtin; refine appQ rfl (.tmp 93) (.tmp 94) rfl B q _ _ w1 [46] #[.int .u8 46] (rfl) 1 rfl (by omega) rfl hO1 rfl (by omega) ?_)
  intro v2 w2 hP2 hk2 hb2
  obtain ⟨L2, hL2⟩ : ∃ L : List UInt8, L1 ++ [46] = L := ⟨_, rfl⟩
  have hO2 : OwnQ w2 B q v2 L2 := by rw [← hL2]; first | exact hP2 | simpa using hP2
  clear hP2
  have l2 : L2.length ≤ 2 := by rw [← hL2]; simp <;> omega
  have HL2 : Hid (L1 ++ [46] = L2) := hL2
  have HD2 : Hid (DB w2 q D) := HD1.out.on hk2
  have HB2 : Hid (Below B w w2) := HB1.out.trans hb2
  clear hL2 hk2 hb2 hO1 HD1
  have HCS : Hid (∀ i, i < k - 1 → w2.cell? ⟨q, 1 + i, none⟩ = some (.int .u8 (((D.drop 1).getD i 0).toNat : Int))) := fun i hi => by
    have := HD2.out (1 + i) (by omega)
    rw [this]
    simp [List.getD, Nat.add_comm]
  go_wp2_with (at_builtin; refine appR rfl (.tmp 103) (.tmp 107) rfl B q _ _ w2 (D.drop 1) q 1 (k - 1) 31 (by simp; omega) (by omega) rfl hO2 rfl HCS.out (by omega) ?_)
  intro v3 w3 hP3 hk3 hb3
  obtain ⟨L3, hL3⟩ : ∃ L : List UInt8, L2 ++ D.drop 1 = L := ⟨_, rfl⟩
  have hO3 : OwnQ w3 B q v3 L3 := by rw [← hL3]; first | exact hP3 | simpa using hP3
  clear hP3
  have l3 : L3.length ≤ 32 := by rw [← hL3]; simp <;> omega
  have HL3 : Hid (L2 ++ D.drop 1 = L3) := hL3
  have HD3 : Hid (DB w3 q D) := HD2.out.on hk3
  have HB3 : Hid (Below B w w3) := HB2.out.trans hb3
  clear hL3 hk3 hb3 hO2 HD2
  clear HCS
  go_wp2_with fail
  go_loopw [0, 114] (fun u i wr => i = .int .i64 0 ∧ v3 = u ∧ w3 = wr) (fun _ _ _ => 0)
  case atStart => exact ⟨rfl, rfl, rfl⟩
  case round =>
  obtain ⟨rfl, rfl, rfl⟩ := hrel
  go_wp2_with (at_builtin; refine appQ rfl (.tmp 120) (.tmp 122) rfl B q _ _ w3 [101] #[.int .u8 101] (rfl) 1 rfl (by omega) rfl hO3 rfl (by omega) ?_)
  intro v4 w4 hP4 hk4 hb4
  obtain ⟨L4, hL4⟩ : ∃ L : List UInt8, L3 ++ [101] = L := ⟨_, rfl⟩
  have hO4 : OwnQ w4 B q v4 L4 := by rw [← hL4]; first | exact hP4 | simpa using hP4
  clear hP4
  have l4 : L4.length ≤ 33 := by rw [← hL4]; simp <;> omega
  have HL4 : Hid (L3 ++ [101] = L4) := hL4
  have HD4 : Hid (DB w4 q D) := HD3.out.on hk4
  have HB4 : Hid (Below B w w4) := HB3.out.trans hb4
  clear hL4 hk4 hb4 hO3 HD3
  go_wp2_with (at_builtin; refine appQ rfl (.tmp 132) (.tmp 134) rfl B q _ _ w4 [43] #[.int .u8 43] (rfl) 1 rfl (by omega) rfl hO4 rfl (by omega) ?_)
  intro v5 w5 hP5 hk5 hb5
  obtain ⟨L5, hL5⟩ : ∃ L : List UInt8, L4 ++ [43] = L := ⟨_, rfl⟩
  have hO5 : OwnQ w5 B q v5 L5 := by rw [← hL5]; first | exact hP5 | simpa using hP5
  clear hP5
  have l5 : L5.length ≤ 34 := by rw [← hL5]; simp <;> omega
  have HL5 : Hid (L4 ++ [43] = L5) := hL5
  have HD5 : Hid (DB w5 q D) := HD4.out.on hk5
  have HB5 : Hid (Below B w w5) := HB4.out.trans hb5
  clear hL5 hk5 hb5 hO4 HD4
  go_wp2_with (at_builtin; refine appQ rfl (.tmp 136) (.tmp 150) rfl B q _ _ w5 [c8 (48 + y / 100), c8 (48 + y / 10 % 10), c8 (48 + y % 10)] #[.int .u8 ((y : Int) / 100 + 48), .int .u8 ((y : Int) / 10 % 10 + 48), .int .u8 ((y : Int) % 10 + 48)] (bytesC y y1) 3 rfl (by omega) rfl hO5 rfl (by omega) ?_)
  intro v6 w6 hP6 hk6 hb6
  obtain ⟨L6, hL6⟩ : ∃ L : List UInt8, L5 ++ [c8 (48 + y / 100), c8 (48 + y / 10 % 10), c8 (48 + y % 10)] = L := ⟨_, rfl⟩
  have hO6 : OwnQ w6 B q v6 L6 := by rw [← hL6]; first | exact hP6 | simpa using hP6
  clear hP6
  have l6 : L6.length ≤ 37 := by rw [← hL6]; simp <;> omega
  have HL6 : Hid (L5 ++ [c8 (48 + y / 100), c8 (48 + y / 10 % 10), c8 (48 + y % 10)] = L6) := hL6
  have HD6 : Hid (DB w6 q D) := HD5.out.on hk6
  have HB6 : Hid (Below B w w6) := HB5.out.trans hb6
  clear hL6 hk6 hb6 hO5 HD5
  go_wp2
  go_ret
  refine ⟨_, rfl, ?_, HB6.out⟩
  rw [← HT.out, Hd0.out, HL1.out, HL2.out, HL3.out, HL4.out, HL5.out, HL6.out]
  exact hO6.own

set_option maxHeartbeats 4000000 in
theorem efgE_pmda (w : World) (B q : Nat) (v : Value) (D : List UInt8) (k : Nat) (hk : D.length = k) (hk1 : 2 ≤ k) (hk2 : k ≤ 20) (dp : Int) (y : Nat) (hdp : dp - 1 = -(y : Int)) (y0 : 5 ≤ y) (y1 : y < 10) (hO0 : OwnQ w B q v []) (hD0 : DB w q D) (T : List UInt8) (hT : [] ++ [D.getD 0 0] ++ [46] ++ D.drop 1 ++ [101] ++ [45] ++ [48, c8 (48 + y)] = T) :
    Calls Tryd.prog 48 #[v, .bool false, .slice (some ⟨q, 0, none⟩) 32 32, .int .i64 dp, .int .i64 k, .int .i64 k, .int .u8 103, .bool true] w fun e w' =>
      ∃ v', e = .returned v' ∧ Own w' B v' T ∧ Below B w w' := by
  have HD0 : Hid (DB w q D) := hD0
  have HT : Hid ([] ++ [D.getD 0 0] ++ [46] ++ D.drop 1 ++ [101] ++ [45] ++ [48, c8 (48 + y)] = T) := hT
  clear hD0 hT
  go_enter Tryd.func48, Tryd.ntmps48
  have hc0 := HD0.out 0 (by omega)
  have c0 := (D.getD 0 0).toNat_lt
  obtain ⟨d0, hd0⟩ : ∃ d, D.getD 0 0 = d := ⟨_, rfl⟩
  rw [hd0] at hc0 c0
  have Hd0 : Hid (D.getD 0 0 = d0) := hd0
  clear hd0
  go_wp2_with (at_builtin; refine appQ rfl (.tmp 87) (.tmp 89) rfl B q _ _ w [d0] #[.int .u8 (d0.toNat : Int)] (rfl) 1 rfl (by omega) rfl hO0 rfl (by decide) ?_)
  intro v1 w1 hP1 hk1 hb1
  obtain ⟨L1, hL1⟩ : ∃ L : List UInt8, [] ++ [d0] = L := ⟨_, rfl⟩
  have hO1 : OwnQ w1 B q v1 L1 := by rw [← hL1]; first | exact hP1 | simpa using hP1
  clear hP1
  have l1 : L1.length ≤ 1 := by rw [← hL1]; simp <;> omega
  have HL1 : Hid ([] ++ [d0] = L1) := hL1
  have HD1 : Hid (DB w1 q D) := HD0.out.on hk1
  have HB1 : Hid (Below B w w1) := hb1
  clear hL1 hk1 hb1 hO0 HD0
  clear hc0 c0
  have hmin : min (k : Int) ((k : Int) - 1 + 1) = (k : Int) := by omega
  go_wp2_with (at_builtin; refine appQ rfl (.tmp 93) (.tmp 94) rfl B q _ _ w1 [46] #[.int .u8 46] (rfl) 1 rfl (by omega) rfl hO1 rfl (by omega) ?_)
  intro v2 w2 hP2 hk2 hb2
  obtain ⟨L2, hL2⟩ : ∃ L : List UInt8, L1 ++ [46] = L := ⟨_, rfl⟩
  have hO2 : OwnQ w2 B q v2 L2 := by rw [← hL2]; first | exact hP2 | simpa using hP2
  clear hP2
  have l2 : L2.length ≤ 2 := by rw [← hL2]; simp <;> omega
  have HL2 : Hid (L1 ++ [46] = L2) := hL2
  have HD2 : Hid (DB w2 q D) := HD1.out.on hk2
  have HB2 : Hid (Below B w w2) := HB1.out.trans hb2
  clear hL2 hk2 hb2 hO1 HD1
  have HCS : Hid (∀ i, i < k - 1 → w2.cell? ⟨q, 1 + i, none⟩ = some (.int .u8 (((D.drop 1).getD i 0).toNat : Int))) := fun i hi => by
    have := HD2.out (1 + i) (by omega)
    rw [this]
    simp [List.getD, Nat.add_comm]
  go_wp2_with (at_builtin; refine appR rfl (.tmp 103) (.tmp 107) rfl B q _ _ w2 (D.drop 1) q 1 (k - 1) 31 (by simp; omega) (by omega) rfl hO2 rfl HCS.out (by omega) ?_)
  intro v3 w3 hP3 hk3 hb3
  obtain ⟨L3, hL3⟩ : ∃ L : List UInt8, L2 ++ D.drop 1 = L := ⟨_, rfl⟩
  have hO3 : OwnQ w3 B q v3 L3 := by rw [← hL3]; first | exact hP3 | simpa using hP3
  clear hP3
  have l3 : L3.length ≤ 32 := by rw [← hL3]; simp <;> omega
  have HL3 : Hid (L2 ++ D.drop 1 = L3) := hL3
  have HD3 : Hid (DB w3 q D) := HD2.out.on hk3
  have HB3 : Hid (Below B w w3) := HB2.out.trans hb3
  clear hL3 hk3 hb3 hO2 HD2
  clear HCS
  go_wp2_with fail
  go_loopw [0, 114] (fun u i wr => i = .int .i64 0 ∧ v3 = u ∧ w3 = wr) (fun _ _ _ => 0)
  case atStart => exact ⟨rfl, rfl, rfl⟩
  case round =>
  obtain ⟨rfl, rfl, rfl⟩ := hrel
  go_wp2_with (at_builtin; refine appQ rfl (.tmp 120) (.tmp 122) rfl B q _ _ w3 [101] #[.int .u8 101] (rfl) 1 rfl (by omega) rfl hO3 rfl (by omega) ?_)
  intro v4 w4 hP4 hk4 hb4
  obtain ⟨L4, hL4⟩ : ∃ L : List UInt8, L3 ++ [101] = L := ⟨_, rfl⟩
  have hO4 : OwnQ w4 B q v4 L4 := by rw [← hL4]; first | exact hP4 | simpa using hP4
  clear hP4
  have l4 : L4.length ≤ 33 := by rw [← hL4]; simp <;> omega
  have HL4 : Hid (L3 ++ [101] = L4) := hL4
  have HD4 : Hid (DB w4 q D) := HD3.out.on hk4
  have HB4 : Hid (Below B w w4) := HB3.out.trans hb4
  clear hL4 hk4 hb4 hO3 HD3
  go_wp2_with (at_builtin; refine appQ rfl (.tmp 132) (.tmp 134) rfl B q _ _ w4 [45] #[.int .u8 45] (rfl) 1 rfl (by omega) rfl hO4 rfl (by omega) ?_)
  intro v5 w5 hP5 hk5 hb5
  obtain ⟨L5, hL5⟩ : ∃ L : List UInt8, L4 ++ [45] = L := ⟨_, rfl⟩
  have hO5 : OwnQ w5 B q v5 L5 := by rw [← hL5]; first | exact hP5 | simpa using hP5
  clear hP5
  have l5 : L5.length ≤ 34 := by rw [← hL5]; simp <;> omega
  have HL5 : Hid (L4 ++ [45] = L5) := hL5
  have HD5 : Hid (DB w5 q D) := HD4.out.on hk5
  have HB5 : Hid (Below B w w5) := HB4.out.trans hb5
  clear hL5 hk5 hb5 hO4 HD4
  go_wp2_with (at_builtin; refine appQ rfl (.tmp 155) (.tmp 159) rfl B q _ _ w5 [48, c8 (48 + y)] #[.int .u8 48, .int .u8 ((y : Int) + 48)] (bytesA y y1) 2 rfl (by omega) rfl hO5 rfl (by omega) ?_)
  intro v6 w6 hP6 hk6 hb6
  obtain ⟨L6, hL6⟩ : ∃ L : List UInt8, L5 ++ [48, c8 (48 + y)] = L := ⟨_, rfl⟩
  have hO6 : OwnQ w6 B q v6 L6 := by rw [← hL6]; first | exact hP6 | simpa using hP6
  clear hP6
  have l6 : L6.length ≤ 36 := by rw [← hL6]; simp <;> omega
  have HL6 : Hid (L5 ++ [48, c8 (48 + y)] = L6) := hL6
  have HD6 : Hid (DB w6 q D) := HD5.out.on hk6
  have HB6 : Hid (Below B w w6) := HB5.out.trans hb6
  clear hL6 hk6 hb6 hO5 HD5
  go_wp2
  go_ret
  refine ⟨_, rfl, ?_, HB6.out⟩
  rw [← HT.out, Hd0.out, HL1.out, HL2.out, HL3.out, HL4.out, HL5.out, HL6.out]
  exact hO6.own

set_option maxHeartbeats 4000000 in
theorem efgE_pmdb (w : World) (B q : Nat) (v : Value) (D : List UInt8) (k : Nat) (hk : D.length = k) (hk1 : 2 ≤ k) (hk2 : k ≤ 20) (dp : Int) (y : Nat) (hdp : dp - 1 = -(y : Int)) (y0 : 10 ≤ y) (y1 : y < 100) (hO0 : OwnQ w B q v []) (hD0 : DB w q D) (T : List UInt8) (hT : [] ++ [D.getD 0 0] ++ [46] ++ D.drop 1 ++ [101] ++ [45] ++ [c8 (48 + y / 10), c8 (48 + y % 10)] = T) :
    Calls Tryd.prog 48 #[v, .bool false, .slice (some ⟨q, 0, none⟩) 32 32, .int .i64 dp, .int .i64 k, .int .i64 k, .int .u8 103, .bool true] w fun e w' =>
      ∃ v', e = .returned v' ∧ Own w' B v' T ∧ Below B w w' := by
  have HD0 : Hid (DB w q D) := hD0
  have HT : Hid ([] ++ [D.getD 0 0] ++ [46] ++ D.drop 1 ++ [101] ++ [45] ++ [c8 (48 + y / 10), c8 (48 + y % 10)] = T) := hT
  clear hD0 hT
  go_enter Tryd.func48, Tryd.ntmps48
  have hc0 := HD0.out 0 (by omega)
  have c0 := (D.getD 0 0).toNat_lt
  obtain ⟨d0, hd0⟩ : ∃ d, D.getD 0 0 = d := ⟨_, rfl⟩
  rw [hd0] at hc0 c0
  have Hd0 : Hid (D.getD 0 0 = d0) := hd0
  clear hd0
  go_wp2_with (at_builtin; refine appQ rfl (.tmp 87) (.tmp 89) rfl B q _ _ w [d0] #[.int .u8 (d0.toNat : Int)] (rfl) 1 rfl (by omega) rfl hO0 rfl (by decide) ?_)
  intro v1 w1 hP1 hk1 hb1
  obtain ⟨L1, hL1⟩ : ∃ L : List UInt8, [] ++ [d0] = L := ⟨_, rfl⟩
  have hO1 : OwnQ w1 B q v1 L1 := by rw [← hL1]; first | exact hP1 | simpa using hP1
  clear hP1
  have l1 : L1.length ≤ 1 := by rw [← hL1]; simp <;> omega
  have HL1 : Hid ([] ++ [d0] = L1) := hL1
  have HD1 : Hid (DB w1 q D) := HD0.out.on hk1
  have HB1 : Hid (Below B w w1) := hb1
  clear hL1 hk1 hb1 hO0 HD0
  clear hc0 c0
  have hmin : min (k : Int) ((k : Int) - 1 + 1) = (k : Int) := by omega
  go_wp2_with (at_builtin; refine appQ rfl (.tmp 93) (.tmp 94) rfl B q _ _ w1 [46] #[.int .u8 46] (rfl) 1 rfl (by omega) rfl hO1 rfl (by omega) ?_)
  intro v2 w2 hP2 hk2 hb2
  obtain ⟨L2, hL2⟩ : ∃ L : List UInt8, L1 ++ [46] = L := ⟨_, rfl⟩
  have hO2 : OwnQ w2 B q v2 L2 := by rw [← hL2]; first | exact hP2 | simpa using hP2
  clear hP2
  have l2 : L2.length ≤ 2 := by rw [← hL2]; simp <;> omega
  have HL2 : Hid (L1 ++ [46] = L2) := hL2
  have HD2 : Hid (DB w2 q D) := HD1.out.on hk2
  have HB2 : Hid (Below B w w2) := HB1.out.trans hb2
  clear hL2 hk2 hb2 hO1 HD1
  have HCS : Hid (∀ i, i < k - 1 → w2.cell? ⟨q, 1 + i, none⟩ = some (.int .u8 (((D.drop 1).getD i 0).toNat : Int))) := fun i hi => by
    have := HD2.out (1 + i) (by omega)
    rw [this]
    simp [List.getD, Nat.add_comm]
  go_wp2_with (at_builtin; refine appR rfl (.tmp 103) (.tmp 107) rfl B q _ _ w2 (D.drop 1) q 1 (k - 1) 31 (by simp; omega) (by omega) rfl hO2 rfl HCS.out (by omega) ?_)
  intro v3 w3 hP3 hk3 hb3
  obtain ⟨L3, hL3⟩ : ∃ L : List UInt8, L2 ++ D.drop 1 = L := ⟨_, rfl⟩
  have hO3 : OwnQ w3 B q v3 L3 := by rw [← hL3]; first | exact hP3 | simpa using hP3
  clear hP3
  have l3 : L3.length ≤ 32 := by rw [← hL3]; simp <;> omega
  have HL3 : Hid (L2 ++ D.drop 1 = L3) := hL3
  have HD3 : Hid (DB w3 q D) := HD2.out.on hk3
  have HB3 : Hid (Below B w w3) := HB2.out.trans hb3
  clear hL3 hk3 hb3 hO2 HD2
  clear HCS
  go_wp2_with fail
  go_loopw [0, 114] (fun u i wr => i = .int .i64 0 ∧ v3 = u ∧ w3 = wr) (fun _ _ _ => 0)
  case atStart => exact ⟨rfl, rfl, rfl⟩
  case round =>
  obtain ⟨rfl, rfl, rfl⟩ := hrel
  go_wp2_with (at_builtin; refine appQ rfl (.tmp 120) (.tmp 122) rfl B q _ _ w3 [101] #[.int .u8 101] (rfl) 1 rfl (by omega) rfl hO3 rfl (by omega) ?_)
  intro v4 w4 hP4 hk4 hb4
  obtain ⟨L4, hL4⟩ : ∃ L : List UInt8, L3 ++ [101] = L := ⟨_, rfl⟩
  have hO4 : OwnQ w4 B q v4 L4 := by rw [← hL4]; first | exact hP4 | simpa using hP4
  clear hP4
  have l4 : L4.length ≤ 33 := by rw [← hL4]; simp <;> omega
  have HL4 : Hid (L3 ++ [101] = L4) := hL4
  have HD4 : Hid (DB w4 q D) := HD3.out.on hk4
  have HB4 : Hid (Below B w w4) := HB3.out.trans hb4
  clear hL4 hk4 hb4 hO3 HD3
  go_wp2_with (at_builtin; refine appQ rfl (.tmp 132) (.tmp 134) rfl B q _ _ w4 [45] #[.int .u8 45] (rfl) 1 rfl (by omega) rfl hO4 rfl (by omega) ?_)
  intro v5 w5 hP5 hk5 hb5
  obtain ⟨L5, hL5⟩ : ∃ L : List UInt8, L4 ++ [45] = L := ⟨_, rfl⟩
  have hO5 : OwnQ w5 B q v5 L5 := by rw [← hL5]; first | exact hP5 | simpa using hP5
  clear hP5
  have l5 : L5.length ≤ 34 := by rw [← hL5]; simp <;> omega
  have HL5 : Hid (L4 ++ [45] = L5) := hL5
  have HD5 : Hid (DB w5 q D) := HD4.out.on hk5
  have HB5 : Hid (Below B w w5) := HB4.out.trans hb5
  clear hL5 hk5 hb5 hO4 HD4
  go_wp2_with (at_builtin; refine appQ rfl (.tmp 164) (.tmp 173) rfl B q _ _ w5 [c8 (48 + y / 10), c8 (48 + y % 10)] #[.int .u8 ((y : Int) / 10 + 48), .int .u8 ((y : Int) % 10 + 48)] (bytesB y y1) 2 rfl (by omega) rfl hO5 rfl (by omega) ?_)
  intro v6 w6 hP6 hk6 hb6
  obtain ⟨L6, hL6⟩ : ∃ L : List UInt8, L5 ++ [c8 (48 + y / 10), c8 (48 + y % 10)] = L := ⟨_, rfl⟩
  have hO6 : OwnQ w6 B q v6 L6 := by rw [← hL6]; first | exact hP6 | simpa using hP6
  clear hP6
  have l6 : L6.length ≤ 36 := by rw [← hL6]; simp <;> omega
  have HL6 : Hid (L5 ++ [c8 (48 + y / 10), c8 (48 + y % 10)] = L6) := hL6
  have HD6 : Hid (DB w6 q D) := HD5.out.on hk6
  have HB6 : Hid (Below B w w6) := HB5.out.trans hb6
  clear hL6 hk6 hb6 hO5 HD5
  go_wp2
  go_ret
  refine ⟨_, rfl, ?_, HB6.out⟩
  rw [← HT.out, Hd0.out, HL1.out, HL2.out, HL3.out, HL4.out, HL5.out, HL6.out]
  exact hO6.own

set_option maxHeartbeats 4000000 in
theorem efgE_pmdc (w : World) (B q : Nat) (v : Value) (D : List UInt8) (k : Nat) (hk : D.length = k) (hk1 : 2 ≤ k) (hk2 : k ≤ 20) (dp : Int) (y : Nat) (hdp : dp - 1 = -(y : Int)) (y0 : 100 ≤ y) (y1 : y ≤ 400) (hO0 : OwnQ w B q v []) (hD0 : DB w q D) (T : List UInt8) (hT : [] ++ [D.getD 0 0] ++ [46] ++ D.drop 1 ++ [101] ++ [45] ++ [c8 (48 + y / 100), c8 (48 + y / 10 % 10), c8 (48 + y % 10)] = T) :
    Calls Tryd.prog 48 #[v, .bool false, .slice (some ⟨q, 0, none⟩) 32 32, .int .i64 dp, .int .i64 k, .int .i64 k, .int .u8 103, .bool true] w fun e w' =>
      ∃ v', e = .returned v' ∧ Own w' B v' T ∧ Below B w w' := by
  have HD0 : Hid (DB w q D) := hD0
  have HT : Hid ([] ++ [D.getD 0 0] ++ [46] ++ D.drop 1 ++ [101] ++ [45] ++ [c8 (48 + y / 100), c8 (48 + y / 10 % 10), c8 (48 + y % 10)] = T) := hT
  clear hD0 hT
  go_enter Tryd.func48, Tryd.ntmps48
  have hc0 := HD0.out 0 (by omega)
  have c0 := (D.getD 0 0).toNat_lt
  obtain ⟨d0, hd0⟩ : ∃ d, D.getD 0 0 = d := ⟨_, rfl⟩
  rw [hd0] at hc0 c0
  have Hd0 : Hid (D.getD 0 0 = d0) := hd0
  clear hd0
  go_wp2_with (at_builtin; refine appQ rfl (.tmp 87) (.tmp 89) rfl B q _ _ w [d0] #[.int .u8 (d0.toNat : Int)] (rfl) 1 rfl (by omega) rfl hO0 rfl (by decide) ?_)
  intro v1 w1 hP1 hk1 hb1
  obtain ⟨L1, hL1⟩ : ∃ L : List UInt8, [] ++ [d0] = L := ⟨_, rfl⟩
  have hO1 : OwnQ w1 B q v1 L1 := by rw [← hL1]; first | exact hP1 | simpa using hP1
  clear hP1
  have l1 : L1.length ≤ 1 := by rw [← hL1]; simp <;> omega
  have HL1 : Hid ([] ++ [d0] = L1) := hL1
  have HD1 : Hid (DB w1 q D) := HD0.out.on hk1
  have HB1 : Hid (Below B w w1) := hb1
  clear hL1 hk1 hb1 hO0 HD0
  clear hc0 c0
  have hmin : min (k : Int) ((k : Int) - 1 + 1) = (k : Int) := by omega
  go_wp2_with (at_builtin; refine appQ rfl (.tmp 93) (.tmp 94) rfl B q _ _ w1 [46] #[.int .u8 46] (rfl) 1 rfl (by omega) rfl hO1 rfl (by omega) ?_)
  intro v2 w2 hP2 hk2 hb2
  obtain ⟨L2, hL2⟩ : ∃ L : List UInt8, L1 ++ [46] = L := ⟨_, rfl⟩
  have hO2 : OwnQ w2 B q v2 L2 := by rw [← hL2]; first | exact hP2 | simpa using hP2
  clear hP2
  have l2 : L2.length ≤ 2 := by rw [← hL2]; simp <;> omega
  have HL2 : Hid (L1 ++ [46] = L2) := hL2
  have HD2 : Hid (DB w2 q D) := HD1.out.on hk2
  have HB2 : Hid (Below B w w2) := HB1.out.trans hb2
  clear hL2 hk2 hb2 hO1 HD1
  have HCS : Hid (∀ i, i < k - 1 → w2.cell? ⟨q, 1 + i, none⟩ = some (.int .u8 (((D.drop 1).getD i 0).toNat : Int))) := fun i hi => by
    have := HD2.out (1 + i) (by omega)
    rw [this]
    simp [List.getD, Nat.add_comm]
  go_wp2_with (at_builtin; refine appR rfl (.tmp 103) (.tmp 107) rfl B q _ _ w2 (D.drop 1) q 1 (k - 1) 31 (by simp; omega) (by omega) rfl hO2 rfl HCS.out (by omega) ?_)
  intro v3 w3 hP3 hk3 hb3
  obtain ⟨L3, hL3⟩ : ∃ L : List UInt8, L2 ++ D.drop 1 = L := ⟨_, rfl⟩
  have hO3 : OwnQ w3 B q v3 L3 := by rw [← hL3]; first | exact hP3 | simpa using hP3
  clear hP3
  have l3 : L3.length ≤ 32 := by rw [← hL3]; simp <;> omega
  have HL3 : Hid (L2 ++ D.drop 1 = L3) := hL3
  have HD3 : Hid (DB w3 q D) := HD2.out.on hk3
  have HB3 : Hid (Below B w w3) := HB2.out.trans hb3
  clear hL3 hk3 hb3 hO2 HD2
  clear HCS
  go_wp2_with fail
  go_loopw [0, 114] (fun u i wr => i = .int .i64 0 ∧ v3 = u ∧ w3 = wr) (fun _ _ _ => 0)
  case atStart => exact ⟨rfl, rfl, rfl⟩
  case round =>
  obtain ⟨rfl, rfl, rfl⟩ := hrel
  go_wp2_with (at_builtin; refine appQ rfl (.tmp 120) (.tmp 122) rfl B q _ _ w3 [101] #[.int .u8 101] (rfl) 1 rfl (by omega) rfl hO3 rfl (by omega) ?_)
  intro v4 w4 hP4 hk4 hb4
  obtain ⟨L4, hL4⟩ : ∃ L : List UInt8, L3 ++ [101] = L := ⟨_, rfl⟩
  have hO4 : OwnQ w4 B q v4 L4 := by rw [← hL4]; first | exact hP4 | simpa using hP4
  clear hP4
  have l4 : L4.length ≤ 33 := by rw [← hL4]; simp <;> omega
  have HL4 : Hid (L3 ++ [101] = L4) := hL4
  have HD4 : Hid (DB w4 q D) := HD3.out.on hk4
  have HB4 : Hid (Below B w w4) := HB3.out.trans hb4
  clear hL4 hk4 hb4 hO3 HD3
  go_wp2_with (at_builtin; refine appQ rfl (.tmp 132) (.tmp 134) rfl B q _ _ w4 [45] #[.int .u8 45] (rfl) 1 rfl (by omega) rfl hO4 rfl (by omega) ?_)
  intro v5 w5 hP5 hk5 hb5
  obtain ⟨L5, hL5⟩ : ∃ L : List UInt8, L4 ++ [45] = L := ⟨_, rfl⟩
  have hO5 : OwnQ w5 B q v5 L5 := by rw [← hL5]; first | exact hP5 | simpa using hP5
  clear hP5
  have l5 : L5.length ≤ 34 := by rw [← hL5]; simp <;> omega
  have HL5 : Hid (L4 ++ [45] = L5) := hL5
  have HD5 : Hid (DB w5 q D) := HD4.out.on hk5
  have HB5 : Hid (Below B w w5) := HB4.out.trans hb5
  clear hL5 hk5 hb5 hO4 HD4
  go_wp2_with (at_builtin; refine appQ rfl (.tmp 136) (.tmp 150) rfl B q _ _ w5 [c8 (48 + y / 100), c8 (48 + y / 10 % 10), c8 (48 + y % 10)] #[.int .u8 ((y : Int) / 100 + 48), .int .u8 ((y : Int) / 10 % 10 + 48), .int .u8 ((y : Int) % 10 + 48)] (bytesC y y1) 3 rfl (by omega) rfl hO5 rfl (by omega) ?_)
  intro v6 w6 hP6 hk6 hb6
  obtain ⟨L6, hL6⟩ : ∃ L : List UInt8, L5 ++ [c8 (48 + y / 100), c8 (48 + y / 10 % 10), c8 (48 + y % 10)] = L := ⟨_, rfl⟩
  have hO6 : OwnQ w6 B q v6 L6 := by rw [← hL6]; first | exact hP6 | simpa using hP6
  clear hP6
  have l6 : L6.length ≤ 37 := by rw [← hL6]; simp <;> omega
  have HL6 : Hid (L5 ++ [c8 (48 + y / 100), c8 (48 + y / 10 % 10), c8 (48 + y % 10)] = L6) := hL6
  have HD6 : Hid (DB w6 q D) := HD5.out.on hk6
  have HB6 : Hid (Below B w w6) := HB5.out.trans hb6
  clear hL6 hk6 hb6 hO5 HD5
  go_wp2
  go_ret
  refine ⟨_, rfl, ?_, HB6.out⟩
  rw [← HT.out, Hd0.out, HL1.out, HL2.out, HL3.out, HL4.out, HL5.out, HL6.out]
  exact hO6.own
end Go.Proofs.YtlhfdklfkfodkabDoor.Ff
