
/- What the library's scaling of floats answers, as far as the statements' first look needs it. -/
import Derived.Test.YtlhfdklfkfodkabDoorFk
import Derived.Test.YtlhfdklfkfodkabDoorShelf
import Derived.Deep.RegionHeld3
namespace Go.Proofs.YtlhfdklfkfodkabDoor.Ff
open Go.RowKit Go.Lib Ieee

theorem bool2u_any (w : World) (b : Bool) :
    Calls Tryd.prog 76 #[.bool b] w fun e w' => e = .returned (.int .u64 (if b then 1 else 0)) ∧ w' = w := by
  cases b
  all_goals
    go_enter Tryd.func76, Tryd.ntmps76
    go_wp2
    go_ret
    exact ⟨rfl, rfl⟩
theorem nudge0_any (w : World) (u : Int) (h0 : 0 ≤ u) (h1 : u < 4611686018427387904) :
    Calls Tryd.prog 63 #[.int .u64 u, .int .i64 0] w fun e w' => e = .returned (.int .u64 u) ∧ w' = w := by
  go_enter Tryd.func63, Tryd.ntmps63
  go_wp2
  go_ret
  exact ⟨ret_i (by omega), rfl⟩
theorem ceil_any (w : World) (u : Int) (h0 : 0 ≤ u) (h1 : u < 4611686018427387904) :
    Calls Tryd.prog 64 #[.int .u64 u] w fun e w' => e = .returned (.int .u64 ((u + 3) / 4)) ∧ w' = w := by
  go_enter Tryd.func64, Tryd.ntmps64
  go_wp2
  go_ret
  exact ⟨ret_i (by omega), rfl⟩
theorem floor_any (w : World) (u : Int) (h0 : 0 ≤ u) (h1 : u < 4611686018427387904) :
    Calls Tryd.prog 65 #[.int .u64 u] w fun e w' => e = .returned (.int .u64 (u / 4)) ∧ w' = w := by
  go_enter Tryd.func65, Tryd.ntmps65
  go_wp2
  go_ret
  exact ⟨ret_i (by omega), rfl⟩
theorem log2_any (w : World) (u : Int) (h0 : -10000 ≤ u) (h1 : u ≤ 10000) :
    Calls Tryd.prog 61 #[.int .i64 u] w fun e w' => e = .returned (.int .i64 (u * 108853 / 32768)) ∧ w' = w := by
  go_enter Tryd.func61, Tryd.ntmps61
  go_wp2
  go_ret
  exact ⟨ret_i (by omega), rfl⟩
theorem log10_any (w : World) (u : Int) (h0 : -10000 ≤ u) (h1 : u ≤ 10000) :
    Calls Tryd.prog 39 #[.int .i64 u] w fun e w' => e = .returned (.int .i64 (u * 78913 / 262144)) ∧ w' = w := by
  go_enter Tryd.func39, Tryd.ntmps39
  go_wp2
  go_ret
  exact ⟨ret_i (by omega), rfl⟩

@[go_sem] theorem bits_8_63 : bits .and .i64 8 63 = 8 := by decide

theorem uscale8_any (w : World) (q x hi : Nat) (hx : x < 18446744073709551616) (hh : hi < 18446744073709551616)
    (c0 : w.cell? ⟨q, 0, none⟩ = some (.int .u64 hi)) (c2 : w.cell? ⟨q, 2, none⟩ = some (.int .i64 8)) (r : Nat) (hr : x * hi / 18446744073709551616 / 256 = r) (hodd : x * hi / 18446744073709551616 % 256 ≠ 0) :
    Calls Tryd.prog 62 #[.int .u64 x, .pointer (some ⟨q, 0, none⟩)] w fun e w' => e = .returned (.int .u64 (bits .or .u64 r 1)) ∧ w' = w := by
  have hM := Tryd.bits_Mul64 x hi hx hh w
  have ha : x * hi / 18446744073709551616 < 18446744073709551616 := (Nat.div_lt_iff_lt_mul (by omega)).2 (Nat.mul_lt_mul'' hx hh)
  generalize x * hi / 18446744073709551616 = a at *
  generalize x * hi % 18446744073709551616 = b at *
  have hne : (IntKind.u64.wrap ((a : Int) / 256 * 256) != (a : Int)) = true := by
    rw [bne_iff_ne, IntKind.wrap_u64]
    omega
  have hr' : (r : Int) = (a : Int) / 256 := by omega
  rw [hr']
  clear hr' hr hodd hx hh ha
  go_enter Tryd.func62, Tryd.ntmps62
  go_wp2_with fail
  refine hM.mono ?_
  rintro e w1 ⟨rfl, rfl⟩
  clear hM
  go_wp2
  go_ret
  exact ⟨rfl, rfl⟩

theorem prescale1_any (w : World) (t0 : w.cell? ⟨5, 730, none⟩ = some (.int .u64 12800000000000000000)) (t1 : w.cell? ⟨5, 731, none⟩ = some (.int .u64 0)) :
    Calls Tryd.prog 60 #[.pointer (some ⟨w.heap.size, 0, none⟩), .int .i64 (-67), .int .i64 (17), .int .i64 (56)] (w.alloc (.cells #[.int .u64 0, .int .u64 0, .int .i64 0] 93)) fun e w' =>
      e = .returned (.tuple #[]) ∧ w' = w.alloc (.cells #[.int .u64 12800000000000000000, .int .u64 0, .int .i64 8] 93) := by
  have u0 := World.cell?_alloc_some w _ (.cells #[.int .u64 0, .int .u64 0, .int .i64 0] 93) (Option.isSome_iff_exists.2 ⟨_, t0⟩)
  rw [t0] at u0
  have u1 := World.cell?_alloc_some w _ (.cells #[.int .u64 12800000000000000000, .int .u64 0, .int .i64 0] 93) (Option.isSome_iff_exists.2 ⟨_, t1⟩)
  rw [t1] at u1
  go_enter Tryd.func60, Tryd.ntmps60
  go_wp2
  go_end0
  exact ⟨rfl, rfl⟩
theorem prescale2_any (w : World) (t0 : w.cell? ⟨5, 686, none⟩ = some (.int .u64 12089258196146291748)) (t1 : w.cell? ⟨5, 687, none⟩ = some (.int .u64 17307473159717249708)) :
    Calls Tryd.prog 60 #[.pointer (some ⟨w.heap.size, 0, none⟩), .int .i64 (6), .int .i64 (-5), .int .i64 (-17)] (w.alloc (.cells #[.int .u64 0, .int .u64 0, .int .i64 0] 93)) fun e w' =>
      e = .returned (.tuple #[]) ∧ w' = w.alloc (.cells #[.int .u64 12089258196146291748, .int .u64 17307473159717249708, .int .i64 8] 93) := by
  have u0 := World.cell?_alloc_some w _ (.cells #[.int .u64 0, .int .u64 0, .int .i64 0] 93) (Option.isSome_iff_exists.2 ⟨_, t0⟩)
  rw [t0] at u0
  have u1 := World.cell?_alloc_some w _ (.cells #[.int .u64 12089258196146291748, .int .u64 0, .int .i64 0] 93) (Option.isSome_iff_exists.2 ⟨_, t1⟩)
  rw [t1] at u1
  go_enter Tryd.func60, Tryd.ntmps60
  go_wp2
  go_end0
  exact ⟨rfl, rfl⟩
@[go_sem] theorem oddbit1 : bits .and .i64 7205759403792794 1 = 0 := by decide
@[go_sem] theorem orbit1a : bits .or .u64 39999999999999999 1 = 39999999999999999 := by decide
@[go_sem] theorem orbit1b : bits .or .u64 40000000000000004 1 = 40000000000000005 := by decide
theorem short1_any (w : World) (t0 : w.cell? ⟨5, 730, none⟩ = some (.int .u64 12800000000000000000)) (t1 : w.cell? ⟨5, 731, none⟩ = some (.int .u64 0)) :
    Calls Tryd.prog 55 #[.int .u64 14757395258967642112, .int .i64 (-67)] w fun e w' => e = .returned (.tuple #[.int .u64 1000000000000000, .int .i64 (-16)]) ∧ Below w.heap.size w w' := by
  have hL := log10_any w (-56) (by omega) (by omega)
  have hP := prescale1_any w t0 t1
  have hU1 := uscale8_any (w.alloc (.cells #[.int .u64 12800000000000000000, .int .u64 0, .int .i64 8] 93)) w.heap.size 14757395258967641088 12800000000000000000 (by omega) (by omega) (World.cell?_alloc_new w _ _ _) (World.cell?_alloc_new w _ _ _) 39999999999999999 (by decide) (by decide)
  have hU2 := uscale8_any (w.alloc (.cells #[.int .u64 12800000000000000000, .int .u64 0, .int .i64 8] 93)) w.heap.size 14757395258967643136 12800000000000000000 (by omega) (by omega) (World.cell?_alloc_new w _ _ _) (World.cell?_alloc_new w _ _ _) 40000000000000004 (by decide) (by decide)
  have hb : Below w.heap.size w (w.alloc (.cells #[.int .u64 12800000000000000000, .int .u64 0, .int .i64 8] 93)) := (Below.refl _ w).alloc (Nat.le_refl _) _
  have e1 : ((((39999999999999999 : Nat)) : Int)) = 39999999999999999 := rfl
  have e2 : ((((40000000000000004 : Nat)) : Int)) = 40000000000000004 := rfl
  rw [e1, orbit1a] at hU1
  rw [e2, orbit1b] at hU2
  clear t0 t1 e1 e2
  go_enter Tryd.func55, Tryd.ntmps55
  go_wp2_with fail
  refine hL.mono ?_
  rintro e w1 ⟨rfl, rfl⟩
  clear hL
  go_wp2_with fail
  refine (log2_any _ (17) (by omega) (by omega)).mono ?_
  rintro e w2 ⟨rfl, rfl⟩
  go_wp2_with fail
  refine hP.mono ?_
  rintro e w3 ⟨rfl, rfl⟩
  clear hP
  go_wp2_with fail
  refine hU1.mono ?_
  rintro e w4 ⟨rfl, rfl⟩
  clear hU1
  go_wp2_with fail
  refine (nudge0_any _ 39999999999999999 (by omega) (by omega)).mono ?_
  rintro e w5 ⟨rfl, rfl⟩
  go_wp2_with fail
  refine (ceil_any _ 39999999999999999 (by omega) (by omega)).mono ?_
  rintro e w6 ⟨rfl, rfl⟩
  go_wp2_with fail
  refine hU2.mono ?_
  rintro e w7 ⟨rfl, rfl⟩
  clear hU2
  go_wp2_with fail
  refine (nudge0_any _ 40000000000000005 (by omega) (by omega)).mono ?_
  rintro e w8 ⟨rfl, rfl⟩
  go_wp2_with fail
  refine (floor_any _ 40000000000000005 (by omega) (by omega)).mono ?_
  rintro e w9 ⟨rfl, rfl⟩
  go_wp2
  go_ret2
  exact ⟨rfl, hb⟩
@[go_sem] theorem oddbit2 : bits .and .i64 7629394531250000 1 = 0 := by decide
@[go_sem] theorem orbit2a : bits .or .u64 39999999999999997 1 = 39999999999999997 := by decide
@[go_sem] theorem orbit2b : bits .or .u64 40000000000000002 1 = 40000000000000003 := by decide
theorem short2_any (w : World) (t0 : w.cell? ⟨5, 686, none⟩ = some (.int .u64 12089258196146291748)) (t1 : w.cell? ⟨5, 687, none⟩ = some (.int .u64 17307473159717249708)) :
    Calls Tryd.prog 55 #[.int .u64 15625000000000000000, .int .i64 (6)] w fun e w' => e = .returned (.tuple #[.int .u64 1000000000000000, .int .i64 (6)]) ∧ Below w.heap.size w w' := by
  have hL := log10_any w (17) (by omega) (by omega)
  have hP := prescale2_any w t0 t1
  have hU1 := uscale8_any (w.alloc (.cells #[.int .u64 12089258196146291748, .int .u64 17307473159717249708, .int .i64 8] 93)) w.heap.size 15624999999999998976 12089258196146291748 (by omega) (by omega) (World.cell?_alloc_new w _ _ _) (World.cell?_alloc_new w _ _ _) 39999999999999997 (by decide) (by decide)
  have hU2 := uscale8_any (w.alloc (.cells #[.int .u64 12089258196146291748, .int .u64 17307473159717249708, .int .i64 8] 93)) w.heap.size 15625000000000001024 12089258196146291748 (by omega) (by omega) (World.cell?_alloc_new w _ _ _) (World.cell?_alloc_new w _ _ _) 40000000000000002 (by decide) (by decide)
  have hb : Below w.heap.size w (w.alloc (.cells #[.int .u64 12089258196146291748, .int .u64 17307473159717249708, .int .i64 8] 93)) := (Below.refl _ w).alloc (Nat.le_refl _) _
  have e1 : ((((39999999999999997 : Nat)) : Int)) = 39999999999999997 := rfl
  have e2 : ((((40000000000000002 : Nat)) : Int)) = 40000000000000002 := rfl
  rw [e1, orbit2a] at hU1
  rw [e2, orbit2b] at hU2
  clear t0 t1 e1 e2
  go_enter Tryd.func55, Tryd.ntmps55
  go_wp2_with fail
  refine hL.mono ?_
  rintro e w1 ⟨rfl, rfl⟩
  clear hL
  go_wp2_with fail
  refine (log2_any _ (-5) (by omega) (by omega)).mono ?_
  rintro e w2 ⟨rfl, rfl⟩
  go_wp2_with fail
  refine hP.mono ?_
  rintro e w3 ⟨rfl, rfl⟩
  clear hP
  go_wp2_with fail
  refine hU1.mono ?_
  rintro e w4 ⟨rfl, rfl⟩
  clear hU1
  go_wp2_with fail
  refine (nudge0_any _ 39999999999999997 (by omega) (by omega)).mono ?_
  rintro e w5 ⟨rfl, rfl⟩
  go_wp2_with fail
  refine (ceil_any _ 39999999999999997 (by omega) (by omega)).mono ?_
  rintro e w6 ⟨rfl, rfl⟩
  go_wp2_with fail
  refine hU2.mono ?_
  rintro e w7 ⟨rfl, rfl⟩
  clear hU2
  go_wp2_with fail
  refine (nudge0_any _ 40000000000000003 (by omega) (by omega)).mono ?_
  rintro e w8 ⟨rfl, rfl⟩
  go_wp2_with fail
  refine (floor_any _ 40000000000000003 (by omega) (by omega)).mono ?_
  rintro e w9 ⟨rfl, rfl⟩
  go_wp2
  go_ret2
  exact ⟨rfl, hb⟩
end Go.Proofs.YtlhfdklfkfodkabDoor.Ff
