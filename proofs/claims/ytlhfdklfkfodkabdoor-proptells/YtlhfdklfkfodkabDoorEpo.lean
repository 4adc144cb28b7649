
/- What the library's fmtEFG writes of any digits, the shortest ones, with an exponent. -/
import Derived.Test.YtlhfdklfkfodkabDoorEg
set_option maxRecDepth 100000
namespace Go.Proofs.YtlhfdklfkfodkabDoor.Ff
open Go.RowKit Go.Lib Go.Sort

set_option maxHeartbeats 4000000 in
theorem efgE_poua (w : World) (B q : Nat) (v : Value) (D : List UInt8) (hk : D.length = 1)  (dp : Int) (y : Nat) (hdp : dp - 1 = (y : Int)) (y0 : 6 ≤ y) (y1 : y < 10) (hO0 : OwnQ w B q v []) (hD0 : DB w q D) (T : List UInt8) (hT : [] ++ [D.getD 0 0] ++ [101] ++ [43] ++ [48, c8 (48 + y)] = T) :
    Calls Tryd.prog 48 #[v, .bool false, .slice (some ⟨q, 0, none⟩) 32 32, .int .i64 dp, .int .i64 1, .int .i64 1, .int .u8 103, .bool true] w fun e w' =>
      ∃ v', e = .returned v' ∧ Own w' B v' T ∧ Below B w w' := by
  have HD0 : Hid (DB w q D) := hD0
  have HT : Hid ([] ++ [D.getD 0 0] ++ [101] ++ [43] ++ [48, c8 (48 + y)] = T) := hT
  clear hD0 hT
  go_enter Tryd.func48, Tryd.ntmps48
  have hc0 := HD0.out 0 (by omega)
  have c0 := (D.getD 0 0).toNat_lt
  obtain ⟨d0, hd0⟩ : ∃ d, D.getD 0 0 = d := ⟨_, rfl⟩
  rw [hd0] at hc0 c0
  have Hd0 : Hid (D.getD 0 0 = d0) := hd0
  clear hd0
  go_wp2_with (at_builtin; refine appQ rfl (.tmp 87) (.tmp 89) rfl B q _ _ w [d0] #[.int .u8 (d0.toNat : Int)] (rfl) 1 rfl (by omega) rfl hO0 rfl (by decide) ?_)
  intro v1 w1 hP1 hk1 hb1
  obtain ⟨L1, hL1⟩ : ∃ L, [] ++ [d0] = L := ⟨_, rfl⟩
  have hO1 : OwnQ w1 B q v1 L1 := by rw [← hL1]; exact hP1
  clear hP1
  have l1 : L1.length ≤ 1 := by rw [← hL1]; simp <;> omega
  have HL1 : Hid ([] ++ [d0] = L1) := hL1
  have HD1 : Hid (DB w1 q D) := HD0.out.on hk1
  have HB1 : Hid (Below B w w1) := hb1
  clear hL1 hk1 hb1 hO0 HD0
  clear hc0 c0
  go_wp2_with (at_builtin; refine appQ rfl (.tmp 120) (.tmp 122) rfl B q _ _ w1 [101] #[.int .u8 101] (rfl) 1 rfl (by omega) rfl hO1 rfl (by omega) ?_)
  intro v2 w2 hP2 hk2 hb2
  obtain ⟨L2, hL2⟩ : ∃ L, L1 ++ [101] = L := ⟨_, rfl⟩
  have hO2 : OwnQ w2 B q v2 L2 := by rw [← hL2]; exact hP2
  clear hP2
  have l2 : L2.length ≤ 2 := by rw [← hL2]; simp <;> omega
  have HL2 : Hid (L1 ++ [101] = L2) := hL2
  have HD2 : Hid (DB w2 q D) := HD1.out.on hk2
  have HB2 : Hid (Below B w w2) := HB1.out.trans hb2
  clear hL2 hk2 hb2 hO1 HD1
  go_wp2_with (at_builtin; refine appQ rfl (.tmp 132) (.tmp 134) rfl B q _ _ w2 [43] #[.int .u8 43] (rfl) 1 rfl (by omega) rfl hO2 rfl (by omega) ?_)
  intro v3 w3 hP3 hk3 hb3
  obtain ⟨L3, hL3⟩ : ∃ L, L2 ++ [43] = L := ⟨_, rfl⟩
  have hO3 : OwnQ w3 B q v3 L3 := by rw [← hL3]; exact hP3
  clear hP3
  have l3 : L3.length ≤ 3 := by rw [← hL3]; simp <;> omega
  have HL3 : Hid (L2 ++ [43] = L3) := hL3
  have HD3 : Hid (DB w3 q D) := HD2.out.on hk3
  have HB3 : Hid (Below B w w3) := HB2.out.trans hb3
  clear hL3 hk3 hb3 hO2 HD2
  go_wp2_with (at_builtin; refine appQ rfl (.tmp 155) (.tmp 159) rfl B q _ _ w3 [48, c8 (48 + y)] #[.int .u8 48, .int .u8 ((y : Int) + 48)] (bytesA y y1) 2 rfl (by omega) rfl hO3 rfl (by omega) ?_)
  intro v4 w4 hP4 hk4 hb4
  obtain ⟨L4, hL4⟩ : ∃ L, L3 ++ [48, c8 (48 + y)] = L := ⟨_, rfl⟩
  have hO4 : OwnQ w4 B q v4 L4 := by rw [← hL4]; exact hP4
  clear hP4
  have l4 : L4.length ≤ 5 := by rw [← hL4]; simp <;> omega
  have HL4 : Hid (L3 ++ [48, c8 (48 + y)] = L4) := hL4
  have HD4 : Hid (DB w4 q D) := HD3.out.on hk4
  have HB4 : Hid (Below B w w4) := HB3.out.trans hb4
  clear hL4 hk4 hb4 hO3 HD3
  go_wp2
  go_ret
  refine ⟨_, rfl, ?_, HB4.out⟩
  rw [← HT.out, Hd0.out, HL1.out, HL2.out, HL3.out, HL4.out]
  exact hO4.own

set_option maxHeartbeats 4000000 in
theorem efgE_poub (w : World) (B q : Nat) (v : Value) (D : List UInt8) (hk : D.length = 1)  (dp : Int) (y : Nat) (hdp : dp - 1 = (y : Int)) (y0 : 10 ≤ y) (y1 : y < 100) (hO0 : OwnQ w B q v []) (hD0 : DB w q D) (T : List UInt8) (hT : [] ++ [D.getD 0 0] ++ [101] ++ [43] ++ [c8 (48 + y / 10), c8 (48 + y % 10)] = T) :
    Calls Tryd.prog 48 #[v, .bool false, .slice (some ⟨q, 0, none⟩) 32 32, .int .i64 dp, .int .i64 1, .int .i64 1, .int .u8 103, .bool true] w fun e w' =>
      ∃ v', e = .returned v' ∧ Own w' B v' T ∧ Below B w w' := by
  have HD0 : Hid (DB w q D) := hD0
  have HT : Hid ([] ++ [D.getD 0 0] ++ [101] ++ [43] ++ [c8 (48 + y / 10), c8 (48 + y % 10)] = T) := hT
  clear hD0 hT
  go_enter Tryd.func48, Tryd.ntmps48
  have hc0 := HD0.out 0 (by omega)
  have c0 := (D.getD 0 0).toNat_lt
  obtain ⟨d0, hd0⟩ : ∃ d, D.getD 0 0 = d := ⟨_, rfl⟩
  rw [hd0] at hc0 c0
  have Hd0 : Hid (D.getD 0 0 = d0) := hd0
  clear hd0
  go_wp2_with (at_builtin; refine appQ rfl (.tmp 87) (.tmp 89) rfl B q _ _ w [d0] #[.int .u8 (d0.toNat : Int)] (rfl) 1 rfl (by omega) rfl hO0 rfl (by decide) ?_)
  intro v1 w1 hP1 hk1 hb1
  obtain ⟨L1, hL1⟩ : ∃ L, [] ++ [d0] = L := ⟨_, rfl⟩
  have hO1 : OwnQ w1 B q v1 L1 := by rw [← hL1]; exact hP1
  clear hP1
  have l1 : L1.length ≤ 1 := by rw [← hL1]; simp <;> omega
  have HL1 : Hid ([] ++ [d0] = L1) := hL1
  have HD1 : Hid (DB w1 q D) := HD0.out.on hk1
  have HB1 : Hid (Below B w w1) := hb1
  clear hL1 hk1 hb1 hO0 HD0
  clear hc0 c0
  go_wp2_with (at_builtin; refine appQ rfl (.tmp 120) (.tmp 122) rfl B q _ _ w1 [101] #[.int .u8 101] (rfl) 1 rfl (by omega) rfl hO1 rfl (by omega) ?_)
  intro v2 w2 hP2 hk2 hb2
  obtain ⟨L2, hL2⟩ : ∃ L, L1 ++ [101] = L := ⟨_, rfl⟩
  have hO2 : OwnQ w2 B q v2 L2 := by rw [← hL2]; exact hP2
  clear hP2
  have l2 : L2.length ≤ 2 := by rw [← hL2]; simp <;> omega
  have HL2 : Hid (L1 ++ [101] = L2) := hL2
  have HD2 : Hid (DB w2 q D) := HD1.out.on hk2
  have HB2 : Hid (Below B w w2) := HB1.out.trans hb2
  clear hL2 hk2 hb2 hO1 HD1
  go_wp2_with (at_builtin; refine appQ rfl (.tmp 132) (.tmp 134) rfl B q _ _ w2 [43] #[.int .u8 43] (rfl) 1 rfl (by omega) rfl hO2 rfl (by omega) ?_)
  intro v3 w3 hP3 hk3 hb3
  obtain ⟨L3, hL3⟩ : ∃ L, L2 ++ [43] = L := ⟨_, rfl⟩
  have hO3 : OwnQ w3 B q v3 L3 := by rw [← hL3]; exact hP3
  clear hP3
  have l3 : L3.length ≤ 3 := by rw [← hL3]; simp <;> omega
  have HL3 : Hid (L2 ++ [43] = L3) := hL3
  have HD3 : Hid (DB w3 q D) := HD2.out.on hk3
  have HB3 : Hid (Below B w w3) := HB2.out.trans hb3
  clear hL3 hk3 hb3 hO2 HD2
  go_wp2_with (at_builtin; refine appQ rfl (.tmp 164) (.tmp 173) rfl B q _ _ w3 [c8 (48 + y / 10), c8 (48 + y % 10)] #[.int .u8 ((y : Int) / 10 + 48), .int .u8 ((y : Int) % 10 + 48)] (bytesB y y1) 2 rfl (by omega) rfl hO3 rfl (by omega) ?_)
  intro v4 w4 hP4 hk4 hb4
  obtain ⟨L4, hL4⟩ : ∃ L, L3 ++ [c8 (48 + y / 10), c8 (48 + y % 10)] = L := ⟨_, rfl⟩
  have hO4 : OwnQ w4 B q v4 L4 := by rw [← hL4]; exact hP4
  clear hP4
  have l4 : L4.length ≤ 5 := by rw [← hL4]; simp <;> omega
  have HL4 : Hid (L3 ++ [c8 (48 + y / 10), c8 (48 + y % 10)] = L4) := hL4
  have HD4 : Hid (DB w4 q D) := HD3.out.on hk4
  have HB4 : Hid (Below B w w4) := HB3.out.trans hb4
  clear hL4 hk4 hb4 hO3 HD3
  go_wp2
  go_ret
  refine ⟨_, rfl, ?_, HB4.out⟩
  rw [← HT.out, Hd0.out, HL1.out, HL2.out, HL3.out, HL4.out]
  exact hO4.own

set_option maxHeartbeats 4000000 in
theorem efgE_pouc (w : World) (B q : Nat) (v : Value) (D : List UInt8) (hk : D.length = 1)  (dp : Int) (y : Nat) (hdp : dp - 1 = (y : Int)) (y0 : 100 ≤ y) (y1 : y ≤ 400) (hO0 : OwnQ w B q v []) (hD0 : DB w q D) (T : List UInt8) (hT : [] ++ [D.getD 0 0] ++ [101] ++ [43] ++ [c8 (48 + y / 100), c8 (48 + y / 10 % 10), c8 (48 + y % 10)] = T) :
    Calls Tryd.prog 48 #[v, .bool false, .slice (some ⟨q, 0, none⟩) 32 32, .int .i64 dp, .int .i64 1, .int .i64 1, .int .u8 103, .bool true] w fun e w' =>
      ∃ v', e = .returned v' ∧ Own w' B v' T ∧ Below B w w' := by
  have HD0 : Hid (DB w q D) := hD0
  have HT : Hid ([] ++ [D.getD 0 0] ++ [101] ++ [43] ++ [c8 (48 + y / 100), c8 (48 + y / 10 % 10), c8 (48 + y % 10)] = T) := hT
  clear hD0 hT
  go_enter Tryd.func48, Tryd.ntmps48
  have hc0 := HD0.out 0 (by omega)
  have c0 := (D.getD 0 0).toNat_lt
  obtain ⟨d0, hd0⟩ : ∃ d, D.getD 0 0 = d := ⟨_, rfl⟩
  rw [hd0] at hc0 c0
  have Hd0 : Hid (D.getD 0 0 = d0) := hd0
  clear hd0
  go_wp2_with (at_builtin; refine appQ rfl (.tmp 87) (.tmp 89) rfl B q _ _ w [d0] #[.int .u8 (d0.toNat : Int)] (rfl) 1 rfl (by omega) rfl hO0 rfl (by decide) ?_)
  intro v1 w1 hP1 hk1 hb1
  obtain ⟨L1, hL1⟩ : ∃ L, [] ++ [d0] = L := ⟨_, rfl⟩
  have hO1 : OwnQ w1 B q v1 L1 := by rw [← hL1]; exact hP1
  clear hP1
  have l1 : L1.length ≤ 1 := by rw [← hL1]; simp <;> omega
  have HL1 : Hid ([] ++ [d0] = L1) := hL1
  have HD1 : Hid (DB w1 q D) := HD0.out.on hk1
  have HB1 : Hid (Below B w w1) := hb1
  clear hL1 hk1 hb1 hO0 HD0
  clear hc0 c0
  go_wp2_with (at_builtin; refine appQ rfl (.tmp 120) (.tmp 122) rfl B q _ _ w1 [101] #[.int .u8 101] (rfl) 1 rfl (by omega) rfl hO1 rfl (by omega) ?_)
  intro v2 w2 hP2 hk2 hb2
  obtain ⟨L2, hL2⟩ : ∃ L, L1 ++ [101] = L := ⟨_, rfl⟩
  have hO2 : OwnQ w2 B q v2 L2 := by rw [← hL2]; exact hP2
  clear hP2
  have l2 : L2.length ≤ 2 := by rw [← hL2]; simp <;> omega
  have HL2 : Hid (L1 ++ [101] = L2) := hL2
  have HD2 : Hid (DB w2 q D) := HD1.out.on hk2
  have HB2 : Hid (Below B w w2) := HB1.out.trans hb2
  clear hL2 hk2 hb2 hO1 HD1
  go_wp2_with (at_builtin; refine appQ rfl (.tmp 132) (.tmp 134) rfl B q _ _ w2 [43] #[.int .u8 43] (rfl) 1 rfl (by omega) rfl hO2 rfl (by omega) ?_)
  intro v3 w3 hP3 hk3 hb3
  obtain ⟨L3, hL3⟩ : ∃ L, L2 ++ [43] = L := ⟨_, rfl⟩
  have hO3 : OwnQ w3 B q v3 L3 := by rw [← hL3]; exact hP3
  clear hP3
  have l3 : L3.length ≤ 3 := by rw [← hL3]; simp <;> omega
  have HL3 : Hid (L2 ++ [43] = L3) := hL3
  have HD3 : Hid (DB w3 q D) := HD2.out.on hk3
  have HB3 : Hid (Below B w w3) := HB2.out.trans hb3
  clear hL3 hk3 hb3 hO2 HD2
  go_wp2_with (at_builtin; refine appQ rfl (.tmp 136) (.tmp 150) rfl B q _ _ w3 [c8 (48 + y / 100), c8 (48 + y / 10 % 10), c8 (48 + y % 10)] #[.int .u8 ((y : Int) / 100 + 48), .int .u8 ((y : Int) / 10 % 10 + 48), .int .u8 ((y : Int) % 10 + 48)] (bytesC y y1) 3 rfl (by omega) rfl hO3 rfl (by omega) ?_)
  intro v4 w4 hP4 hk4 hb4
  obtain ⟨L4, hL4⟩ : ∃ L, L3 ++ [c8 (48 + y / 100), c8 (48 + y / 10 % 10), c8 (48 + y % 10)] = L := ⟨_, rfl⟩
  have hO4 : OwnQ w4 B q v4 L4 := by rw [← hL4]; exact hP4
  clear hP4
  have l4 : L4.length ≤ 6 := by rw [← hL4]; simp <;> omega
  have HL4 : Hid (L3 ++ [c8 (48 + y / 100), c8 (48 + y / 10 % 10), c8 (48 + y % 10)] = L4) := hL4
  have HD4 : Hid (DB w4 q D) := HD3.out.on hk4
  have HB4 : Hid (Below B w w4) := HB3.out.trans hb4
  clear hL4 hk4 hb4 hO3 HD3
  go_wp2
  go_ret
  refine ⟨_, rfl, ?_, HB4.out⟩
  rw [← HT.out, Hd0.out, HL1.out, HL2.out, HL3.out, HL4.out]
  exact hO4.own

set_option maxHeartbeats 4000000 in
theorem efgE_poda (w : World) (B q : Nat) (v : Value) (D : List UInt8) (hk : D.length = 1)  (dp : Int) (y : Nat) (hdp : dp - 1 = -(y : Int)) (y0 : 5 ≤ y) (y1 : y < 10) (hO0 : OwnQ w B q v []) (hD0 : DB w q D) (T : List UInt8) (hT : [] ++ [D.getD 0 0] ++ [101] ++ [45] ++ [48, c8 (48 + y)] = T) :
    Calls Tryd.prog 48 #[v, .bool false, .slice (some ⟨q, 0, none⟩) 32 32, .int .i64 dp, .int .i64 1, .int .i64 1, .int .u8 103, .bool true] w fun e w' =>
      ∃ v', e = .returned v' ∧ Own w' B v' T ∧ Below B w w' := by
  have HD0 : Hid (DB w q D) := hD0
  have HT : Hid ([] ++ [D.getD 0 0] ++ [101] ++ [45] ++ [48, c8 (48 + y)] = T) := hT
  clear hD0 hT
  go_enter Tryd.func48, Tryd.ntmps48
  have hc0 := HD0.out 0 (by omega)
  have c0 := (D.getD 0 0).toNat_lt
  obtain ⟨d0, hd0⟩ : ∃ d, D.getD 0 0 = d := ⟨_, rfl⟩
  rw [hd0] at hc0 c0
  have Hd0 : Hid (D.getD 0 0 = d0) := hd0
  clear hd0
  go_wp2_with (at_builtin; refine appQ rfl (.tmp 87) (.tmp 89) rfl B q _ _ w [d0] #[.int .u8 (d0.toNat : Int)] (rfl) 1 rfl (by omega) rfl hO0 rfl (by decide) ?_)
  intro v1 w1 hP1 hk1 hb1
  obtain ⟨L1, hL1⟩ : ∃ L, [] ++ [d0] = L := ⟨_, rfl⟩
  have hO1 : OwnQ w1 B q v1 L1 := by rw [← hL1]; exact hP1
  clear hP1
  have l1 : L1.length ≤ 1 := by rw [← hL1]; simp <;> omega
  have HL1 : Hid ([] ++ [d0] = L1) := hL1
  have HD1 : Hid (DB w1 q D) := HD0.out.on hk1
  have HB1 : Hid (Below B w w1) := hb1
  clear hL1 hk1 hb1 hO0 HD0
  clear hc0 c0
  go_wp2_with (at_builtin; refine appQ rfl (.tmp 120) (.tmp 122) rfl B q _ _ w1 [101] #[.int .u8 101] (rfl) 1 rfl (by omega) rfl hO1 rfl (by omega) ?_)
  intro v2 w2 hP2 hk2 hb2
  obtain ⟨L2, hL2⟩ : ∃ L, L1 ++ [101] = L := ⟨_, rfl⟩
  have hO2 : OwnQ w2 B q v2 L2 := by rw [← hL2]; exact hP2
  clear hP2
  have l2 : L2.length ≤ 2 := by rw [← hL2]; simp <;> omega
  have HL2 : Hid (L1 ++ [101] = L2) := hL2
  have HD2 : Hid (DB w2 q D) := HD1.out.on hk2
  have HB2 : Hid (Below B w w2) := HB1.out.trans hb2
  clear hL2 hk2 hb2 hO1 HD1
  go_wp2_with (at_builtin; refine appQ rfl (.tmp 132) (.tmp 134) rfl B q _ _ w2 [45] #[.int .u8 45] (rfl) 1 rfl (by omega) rfl hO2 rfl (by omega) ?_)
  intro v3 w3 hP3 hk3 hb3
  obtain ⟨L3, hL3⟩ : ∃ L, L2 ++ [45] = L := ⟨_, rfl⟩
  have hO3 : OwnQ w3 B q v3 L3 := by rw [← hL3]; exact hP3
  clear hP3
  have l3 : L3.length ≤ 3 := by rw [← hL3]; simp <;> omega
  have HL3 : Hid (L2 ++ [45] = L3) := hL3
  have HD3 : Hid (DB w3 q D) := HD2.out.on hk3
  have HB3 : Hid (Below B w w3) := HB2.out.trans hb3
  clear hL3 hk3 hb3 hO2 HD2
  go_wp2_with (at_builtin; refine appQ rfl (.tmp 155) (.tmp 159) rfl B q _ _ w3 [48, c8 (48 + y)] #[.int .u8 48, .int .u8 ((y : Int) + 48)] (bytesA y y1) 2 rfl (by omega) rfl hO3 rfl (by omega) ?_)
  intro v4 w4 hP4 hk4 hb4
  obtain ⟨L4, hL4⟩ : ∃ L, L3 ++ [48, c8 (48 + y)] = L := ⟨_, rfl⟩
  have hO4 : OwnQ w4 B q v4 L4 := by rw [← hL4]; exact hP4
  clear hP4
  have l4 : L4.length ≤ 5 := by rw [← hL4]; simp <;> omega
  have HL4 : Hid (L3 ++ [48, c8 (48 + y)] = L4) := hL4
  have HD4 : Hid (DB w4 q D) := HD3.out.on hk4
  have HB4 : Hid (Below B w w4) := HB3.out.trans hb4
  clear hL4 hk4 hb4 hO3 HD3
  go_wp2
  go_ret
  refine ⟨_, rfl, ?_, HB4.out⟩
  rw [← HT.out, Hd0.out, HL1.out, HL2.out, HL3.out, HL4.out]
  exact hO4.own

set_option maxHeartbeats 4000000 in
theorem efgE_podb (w : World) (B q : Nat) (v : Value) (D : List UInt8) (hk : D.length = 1)  (dp : Int) (y : Nat) (hdp : dp - 1 = -(y : Int)) (y0 : 10 ≤ y) (y1 : y < 100) (hO0 : OwnQ w B q v []) (hD0 : DB w q D) (T : List UInt8) (hT : [] ++ [D.getD 0 0] ++ [101] ++ [45] ++ [c8 (48 + y / 10), c8 (48 + y % 10)] = T) :
    Calls Tryd.prog 48 #[v, .bool false, .slice (some ⟨q, 0, none⟩) 32 32, .int .i64 dp, .int .i64 1, .int .i64 1, .int .u8 103, .bool true] w fun e w' =>
      ∃ v', e = .returned v' ∧ Own w' B v' T ∧ Below B w w' := by
  have HD0 : Hid (DB w q D) := hD0
  have HT : Hid ([] ++ [D.getD 0 0] ++ [101] ++ [45] ++ [c8 (48 + y / 10), c8 (48 + y % 10)] = T) := hT
  clear hD0 hT
  go_enter Tryd.func48, Tryd.ntmps48
  have hc0 := HD0.out 0 (by omega)
  have c0 := (D.getD 0 0).toNat_lt
  obtain ⟨d0, hd0⟩ : ∃ d, D.getD 0 0 = d := ⟨_, rfl⟩
  rw [hd0] at hc0 c0
  have Hd0 : Hid (D.getD 0 0 = d0) := hd0
  clear hd0
  go_wp2_with (at_builtin; refine appQ rfl (.tmp 87) (.tmp 89) rfl B q _ _ w [d0] #[.int .u8 (d0.toNat : Int)] (rfl) 1 rfl (by omega) rfl hO0 rfl (by decide) ?_)
  intro v1 w1 hP1 hk1 hb1
  obtain ⟨L1, hL1⟩ : ∃ L, [] ++ [d0] = L := ⟨_, rfl⟩
  have hO1 : OwnQ w1 B q v1 L1 := by rw [← hL1]; exact hP1
  clear hP1
  have l1 : L1.length ≤ 1 := by rw [← hL1]; simp <;> omega
  have HL1 : Hid ([] ++ [d0] = L1) := hL1
  have HD1 : Hid (DB w1 q D) := HD0.out.on hk1
  have HB1 : Hid (Below B w w1) := hb1
  clear hL1 hk1 hb1 hO0 HD0
  clear hc0 c0
  go_wp2_with (at_builtin; refine appQ rfl (.tmp 120) (.tmp 122) rfl B q _ _ w1 [101] #[.int .u8 101] (rfl) 1 rfl (by omega) rfl hO1 rfl (by omega) ?_)
  intro v2 w2 hP2 hk2 hb2
  obtain ⟨L2, hL2⟩ : ∃ L, L1 ++ [101] = L := ⟨_, rfl⟩
  have hO2 : OwnQ w2 B q v2 L2 := by rw [← hL2]; exact hP2
  clear hP2
  have l2 : L2.length ≤ 2 := by rw [← hL2]; simp <;> omega
  have HL2 : Hid (L1 ++ [101] = L2) := hL2
  have HD2 : Hid (DB w2 q D) := HD1.out.on hk2
  have HB2 : Hid (Below B w w2) := HB1.out.trans hb2
  clear hL2 hk2 hb2 hO1 HD1
  go_wp2_with (at_builtin; refine appQ rfl (.tmp 132) (.tmp 134) rfl B q _ _ w2 [45] #[.int .u8 45] (rfl) 1 rfl (by omega) rfl hO2 rfl (by omega) ?_)
  intro v3 w3 hP3 hk3 hb3
  obtain ⟨L3, hL3⟩ : ∃ L, L2 ++ [45] = L := ⟨_, rfl⟩
  have hO3 : OwnQ w3 B q v3 L3 := by rw [← hL3]; exact hP3
  clear hP3
  have l3 : L3.length ≤ 3 := by rw [← hL3]; simp <;> omega
  have HL3 : Hid (L2 ++ [45] = L3) := hL3
  have HD3 : Hid (DB w3 q D) := HD2.out.on hk3
  have HB3 : Hid (Below B w w3) := HB2.out.trans hb3
  clear hL3 hk3 hb3 hO2 HD2
  go_wp2_with (at_builtin; refine appQ rfl (.tmp 164) (.tmp 173) rfl B q _ _ w3 [c8 (48 + y / 10), c8 (48 + y % 10)] #[.int .u8 ((y : Int) / 10 + 48), .int .u8 ((y : Int) % 10 + 48)] (bytesB y y1) 2 rfl (by omega) rfl hO3 rfl (by omega) ?_)
  intro v4 w4 hP4 hk4 hb4
  obtain ⟨L4, hL4⟩ : ∃ L, L3 ++ [c8 (48 + y / 10), c8 (48 + y % 10)] = L := ⟨_, rfl⟩
  have hO4 : OwnQ w4 B q v4 L4 := by rw [← hL4]; exact hP4
  clear hP4
  have l4 : L4.length ≤ 5 := by rw [← hL4]; simp <;> omega
  have HL4 : Hid (L3 ++ [c8 (48 + y / 10), c8 (48 + y % 10)] = L4) := hL4
  have HD4 : Hid (DB w4 q D) := HD3.out.on hk4
  have HB4 : Hid (Below B w w4) := HB3.out.trans hb4
  clear hL4 hk4 hb4 hO3 HD3
  go_wp2
  go_ret
  refine ⟨_, rfl, ?_, HB4.out⟩
  rw [← HT.out, Hd0.out, HL1.out, HL2.out, HL3.out, HL4.out]
  exact hO4.own

set_option maxHeartbeats 4000000 in
theorem efgE_podc (w : World) (B q : Nat) (v : Value) (D : List UInt8) (hk : D.length = 1)  (dp : Int) (y : Nat) (hdp : dp - 1 = -(y : Int)) (y0 : 100 ≤ y) (y1 : y ≤ 400) (hO0 : OwnQ w B q v []) (hD0 : DB w q D) (T : List UInt8) (hT : [] ++ [D.getD 0 0] ++ [101] ++ [45] ++ [c8 (48 + y / 100), c8 (48 + y / 10 % 10), c8 (48 + y % 10)] = T) :
    Calls Tryd.prog 48 #[v, .bool false, .slice (some ⟨q, 0, none⟩) 32 32, .int .i64 dp, .int .i64 1, .int .i64 1, .int .u8 103, .bool true] w fun e w' =>
      ∃ v', e = .returned v' ∧ Own w' B v' T ∧ Below B w w' := by
  have HD0 : Hid (DB w q D) := hD0
  have HT : Hid ([] ++ [D.getD 0 0] ++ [101] ++ [45] ++ [c8 (48 + y / 100), c8 (48 + y / 10 % 10), c8 (48 + y % 10)] = T) := hT
  clear hD0 hT
  go_enter Tryd.func48, Tryd.ntmps48
  have hc0 := HD0.out 0 (by omega)
  have c0 := (D.getD 0 0).toNat_lt
  obtain ⟨d0, hd0⟩ : ∃ d, D.getD 0 0 = d := ⟨_, rfl⟩
  rw [hd0] at hc0 c0
  have Hd0 : Hid (D.getD 0 0 = d0) := hd0
  clear hd0
  go_wp2_with (at_builtin; refine appQ rfl (.tmp 87) (.tmp 89) rfl B q _ _ w [d0] #[.int .u8 (d0.toNat : Int)] (rfl) 1 rfl (by omega) rfl hO0 rfl (by decide) ?_)
  intro v1 w1 hP1 hk1 hb1
  obtain ⟨L1, hL1⟩ : ∃ L, [] ++ [d0] = L := ⟨_, rfl⟩
  have hO1 : OwnQ w1 B q v1 L1 := by rw [← hL1]; exact hP1
  clear hP1
  have l1 : L1.length ≤ 1 := by rw [← hL1]; simp <;> omega
  have HL1 : Hid ([] ++ [d0] = L1) := hL1
  have HD1 : Hid (DB w1 q D) := HD0.out.on hk1
  have HB1 : Hid (Below B w w1) := hb1
  clear hL1 hk1 hb1 hO0 HD0
  clear hc0 c0
  go_wp2_with (at_builtin; refine appQ rfl (.tmp 120) (.tmp 122) rfl B q _ _ w1 [101] #[.int .u8 101] (rfl) 1 rfl (by omega) rfl hO1 rfl (by omega) ?_)
  intro v2 w2 hP2 hk2 hb2
  obtain ⟨L2, hL2⟩ : ∃ L, L1 ++ [101] = L := ⟨_, rfl⟩
  have hO2 : OwnQ w2 B q v2 L2 := by rw [← hL2]; exact hP2
  clear hP2
  have l2 : L2.length ≤ 2 := by rw [← hL2]; simp <;> omega
  have HL2 : Hid (L1 ++ [101] = L2) := hL2
  have HD2 : Hid (DB w2 q D) := HD1.out.on hk2
  have HB2 : Hid (Below B w w2) := HB1.out.trans hb2
  clear hL2 hk2 hb2 hO1 HD1
  go_wp2_with (at_builtin; refine appQ rfl (.tmp 132) (.tmp 134) rfl B q _ _ w2 [45] #[.int .u8 45] (rfl) 1 rfl (by omega) rfl hO2 rfl (by omega) ?_)
  intro v3 w3 hP3 hk3 hb3
  obtain ⟨L3, hL3⟩ : ∃ L, L2 ++ [45] = L := ⟨_, rfl⟩
  have hO3 : OwnQ w3 B q v3 L3 := by rw [← hL3]; exact hP3
  clear hP3
  have l3 : L3.length ≤ 3 := by rw [← hL3]; simp <;> omega
  have HL3 : Hid (L2 ++ [45] = L3) := hL3
  have HD3 : Hid (DB w3 q D) := HD2.out.on hk3
  have HB3 : Hid (Below B w w3) := HB2.out.trans hb3
  clear hL3 hk3 hb3 hO2 HD2
  go_wp2_with (at_builtin; refine appQ rfl (.tmp 136) (.tmp 150) rfl B q _ _ w3 [c8 (48 + y / 100), c8 (48 + y / 10 % 10), c8 (48 + y % 10)] #[.int .u8 ((y : Int) / 100 + 48), .int .u8 ((y : Int) / 10 % 10 + 48), .int .u8 ((y : Int) % 10 + 48)] (bytesC y y1) 3 rfl (by omega) rfl hO3 rfl (by omega) ?_)
  intro v4 w4 hP4 hk4 hb4
  obtain ⟨L4, hL4⟩ : ∃ L, L3 ++ [c8 (48 + y / 100), c8 (48 + y / 10 % 10), c8 (48 + y % 10)] = L := ⟨_, rfl⟩
  have hO4 : OwnQ w4 B q v4 L4 := by rw [← hL4]; exact hP4
  clear hP4
  have l4 : L4.length ≤ 6 := by rw [← hL4]; simp <;> omega
  have HL4 : Hid (L3 ++ [c8 (48 + y / 100), c8 (48 + y / 10 % 10), c8 (48 + y % 10)] = L4) := hL4
  have HD4 : Hid (DB w4 q D) := HD3.out.on hk4
  have HB4 : Hid (Below B w w4) := HB3.out.trans hb4
  clear hL4 hk4 hb4 hO3 HD3
  go_wp2
  go_ret
  refine ⟨_, rfl, ?_, HB4.out⟩
  rw [← HT.out, Hd0.out, HL1.out, HL2.out, HL3.out, HL4.out]
  exact hO4.own
end Go.Proofs.YtlhfdklfkfodkabDoor.Ff
