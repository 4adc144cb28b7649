/- What the library's ParseFloat answers of the text 0.1. -/
import Derived.Test.YtklgemnmihpkcaaGreatDoorFm
import Derived.WalkMore
set_option maxRecDepth 100000
namespace Go.Proofs.YtklgemnmihpkcaaGreatDoor
open Go.RowKit Go.Lib Go.Sort

@[go_sem] theorem lo46 : bits .or .u8 46 32 = 46 := by decide
theorem lower46 (w : World) : Calls Tryz.prog 87 #[.int .u8 46] w fun e w' => e = .returned (.int .u8 46) ∧ w' = w := by
  go_enter Tryz.func87, Tryz.ntmps87
  go_wp2
  go_ret
  exact ⟨rfl, rfl⟩

theorem special01 (w : World) : Calls Tryz.prog 71 #[.string ⟨#[48, 46, 49]⟩] w fun e w' => e = .returned (.tuple #[.float .f64 0, .int .i64 0, .bool false]) ∧ w' = w := by
  go_enter Tryz.func71, Tryz.ntmps71
  go_wp2
  go_ret3
  exact ⟨rfl, rfl⟩

theorem exact01 (w : World) (hv : Vars w) : Calls Tryz.prog 82 #[.int .u64 1, .int .i64 (-1), .bool false] w fun e w' => e = .returned (.tuple #[.float .f64 4591870180066957722, .bool true]) ∧ w' = w := by
  obtain ⟨b, o, sp, c, h1, h2⟩ := hv.f10
  have h3 := hv.info
  clear hv
  have hq : floatBits .quo .f64 (floatOfInt .f64 1) 4621819117588971520 = some 4591870180066957722 := by decide +kernel
  have hA : Addr.add ⟨b, o, sp⟩ 1 = ⟨b, o + 1, none⟩ := by simp [Addr.add]
  have hQ := fun (w : World) (t : TypeId) => run_float_arith (P := Tryz.prog) w .quo t .f64 _ _ _ hq
  clear hq
  go_enter Tryz.func82, Tryz.ntmps82
  go_wp2
  go_ret2
  exact ⟨rfl, rfl⟩

theorem results_tmp7 {fn : Func} {t1 t2 t3 t4 t5 t6 t7 : Tmp} (h : fn.results = #[.tmp t1, .tmp t2, .tmp t3, .tmp t4, .tmp t5, .tmp t6, .tmp t7]) (tmps : Array Value) (P : Program) (w : World) :
    (results fn tmps).run P w = .ok (.tuple #[tmps.getD t1 undef, tmps.getD t2 undef, tmps.getD t3 undef, tmps.getD t4 undef, tmps.getD t5 undef, tmps.getD t6 undef, tmps.getD t7 undef]) w := by
  simp [results, h]

set_option maxHeartbeats 4000000 in
theorem read01 (w : World) : Calls Tryz.prog 72 #[.string ⟨#[48, 46, 49]⟩] w fun e w' => e = .returned (.tuple #[.int .u64 1, .int .i64 (-1), .bool false, .bool false, .bool false, .int .i64 3, .bool true]) ∧ w' = w := by
  have hL := lower46 w
  go_enter Tryz.func72, Tryz.ntmps72
  go_wp2_with fail
  go_step3
  go_wp2_with fail
  refine hL.mono ?_
  rintro e w1 ⟨rfl, rfl⟩
  clear hL
  go_wp2_with fail
  go_step3
  go_wp2_with fail
  go_loop [2, 5, 7, 9, 13, 14, 15, 16, 17] (fun m tr i un sd sg nd nm dp => (m = .int .u64 0 ∧ tr = .bool false ∧ i = .int .i64 0 ∧ un = .bool false ∧ sd = .bool false ∧ sg = .bool false ∧ nd = .int .i64 0 ∧ nm = .int .i64 0 ∧ dp = .int .i64 (0)) ∨ (m = .int .u64 0 ∧ tr = .bool false ∧ i = .int .i64 1 ∧ un = .bool false ∧ sd = .bool false ∧ sg = .bool true ∧ nd = .int .i64 0 ∧ nm = .int .i64 0 ∧ dp = .int .i64 (-1)) ∨ (m = .int .u64 0 ∧ tr = .bool false ∧ i = .int .i64 2 ∧ un = .bool false ∧ sd = .bool true ∧ sg = .bool true ∧ nd = .int .i64 0 ∧ nm = .int .i64 0 ∧ dp = .int .i64 (0)) ∨ (m = .int .u64 1 ∧ tr = .bool false ∧ i = .int .i64 3 ∧ un = .bool false ∧ sd = .bool true ∧ sg = .bool true ∧ nd = .int .i64 1 ∧ nm = .int .i64 1 ∧ dp = .int .i64 (0))) (fun _ _ i _ _ _ _ _ _ => 3 - (RowKit.intOf i).toNat)
  case atStart => exact .inl ⟨rfl, rfl, rfl, rfl, rfl, rfl, rfl, rfl, rfl⟩
  case round =>
    rcases hrel with ⟨rfl, rfl, rfl, rfl, rfl, rfl, rfl, rfl, rfl⟩ | ⟨rfl, rfl, rfl, rfl, rfl, rfl, rfl, rfl, rfl⟩ | ⟨rfl, rfl, rfl, rfl, rfl, rfl, rfl, rfl, rfl⟩ | ⟨rfl, rfl, rfl, rfl, rfl, rfl, rfl, rfl, rfl⟩
    · go_wp2
      go_round
      case rel => exact .inr (.inl ⟨rfl, rfl, rfl, rfl, rfl, rfl, rfl, rfl, rfl⟩)
      case measure => simp [RowKit.intOf]
    · go_wp2
      go_round
      case rel => exact .inr (.inr (.inl ⟨rfl, rfl, rfl, rfl, rfl, rfl, rfl, rfl, rfl⟩))
      case measure => simp [RowKit.intOf]
    · go_wp2
      go_round
      case rel => exact .inr (.inr (.inr ⟨rfl, rfl, rfl, rfl, rfl, rfl, rfl, rfl, rfl⟩))
      case measure => simp [RowKit.intOf]
    · go_wp2
      refine bodyPost_ret (results_tmp7 rfl _ _ _) rfl ?_
      exact ⟨rfl, rfl⟩

set_option maxHeartbeats 4000000 in
theorem atof01 (w : World) (hv : Vars w) : Calls Tryz.prog 52 #[.string ⟨#[48, 46, 49]⟩] w fun e w' => e = .returned (.tuple #[.float .f64 4591870180066957722, .int .i64 3, .nilIface]) ∧ w' = w := by
  have hS := special01 w
  have hR := read01 w
  have hE := exact01 w hv
  have ho := hv.opt
  have hB := bool2u_any w false
  clear hv
  go_enter Tryz.func52, Tryz.ntmps52
  go_wp2_with fail
  refine hS.mono ?_
  rintro e w1 ⟨rfl, rfl⟩
  go_wp2_with fail
  refine hR.mono ?_
  rintro e w2 ⟨rfl, rfl⟩
  clear hS hR
  go_wp2_with fail
  refine hB.mono ?_
  rintro e w3 ⟨rfl, rfl⟩
  clear hB
  go_wp2_with fail
  refine hE.mono ?_
  rintro e w4 ⟨rfl, rfl⟩
  clear hE ho
  go_wp2
  go_ret3
  exact ⟨rfl, rfl⟩

theorem parse01 (w : World) (hv : Vars w) : Calls Tryz.prog 35 #[.string ⟨#[48, 46, 49]⟩, .int .i64 64] w fun e w' => e = .returned (.tuple #[.float .f64 4591870180066957722, .nilIface]) ∧ w' = w := by
  have h1 : Calls Tryz.prog 44 #[.string ⟨#[48, 46, 49]⟩, .int .i64 64] w fun e w' => e = .returned (.tuple #[.float .f64 4591870180066957722, .int .i64 3, .nilIface]) ∧ w' = w := by
    have hA := atof01 w hv
    clear hv
    go_enter Tryz.func44, Tryz.ntmps44
    go_wp2_with fail
    refine hA.mono ?_
    rintro e w1 ⟨rfl, rfl⟩
    clear hA
    go_wp2
    go_ret3
    exact ⟨rfl, rfl⟩
  have h2 : Calls Tryz.prog 41 #[.string ⟨#[48, 46, 49]⟩, .int .i64 64] w fun e w' => e = .returned (.tuple #[.float .f64 4591870180066957722, .nilIface]) ∧ w' = w := by
    clear hv
    go_enter Tryz.func41, Tryz.ntmps41
    go_wp2_with fail
    refine h1.mono ?_
    rintro e w1 ⟨rfl, rfl⟩
    clear h1
    go_wp2
    go_ret2
    exact ⟨rfl, rfl⟩
  clear h1 hv
  go_enter Tryz.func35, Tryz.ntmps35
  go_wp2_with fail
  refine h2.mono ?_
  rintro e w1 ⟨rfl, rfl⟩
  clear h2
  go_wp2
  go_ret2
  exact ⟨rfl, rfl⟩

set_option maxHeartbeats 1000000 in
theorem fparse01 (w : World) (hv : Vars w) : Calls Tryz.prog 20 #[.string ⟨#[48, 46, 49]⟩] w fun e w' => e = .returned (.tuple #[.float .f64 4591870180066957722, .int .i64 0]) ∧ Below w.heap.size w w' := by
  have hP := parse01 w hv
  have hT := text1_any w hv
  clear hv
  go_enter Tryz.func20, Tryz.ntmps20
  go_wp2_with fail
  refine hP.mono ?_
  rintro e w1 ⟨rfl, rfl⟩
  clear hP
  go_wp2_with fail
  refine hT.mono ?_
  rintro e w2 ⟨rfl, hb⟩
  clear hT
  go_wp2_with fail
  refine (canon_any w2 _).mono ?_
  rintro e w3 ⟨rfl, rfl⟩
  have hc : canonB 4591870180066957722 = 4591870180066957722 := by decide
  rw [hc]
  go_wp2
  go_ret2
  exact ⟨rfl, hb⟩

set_option maxHeartbeats 1000000 in
theorem wakes_any (w : World) (hv : Vars w) : Calls Tryz.prog 9 #[] w fun e w' => e = .returned (.bool true) ∧ Below w.heap.size w w' := by
  have HV : Hid (Vars w) := hv
  have hP := fparse01 w hv
  clear hv
  go_enter Tryz.func9, Tryz.ntmps9
  go_wp2_with fail
  refine hP.mono ?_
  rintro e w1 ⟨rfl, hb1⟩
  clear hP
  have HV1 : Hid (Vars w1) := HV.out.on hb1
  have hs1 := hb1.size
  have hK0 := key_any w1 0 (by omega)
  have hk0 : keyB 0 = 9223372036854775808 := by decide
  rw [hk0] at hK0
  have hK1 := key_any w1 9223372036854775808 (by omega)
  have hk1 : keyB 9223372036854775808 = 9223372036854775807 := by decide
  rw [hk1] at hK1
  have hF := rfrom_any w1 9223372036854775808
  have hT := text2_any w1 HV1.out
  clear hk0 hk1
  go_wp2_with fail
  refine hK0.mono ?_
  rintro e w2 ⟨rfl, rfl⟩
  clear hK0
  go_wp2_with fail
  refine hF.mono ?_
  rintro e w3 ⟨rfl, rfl⟩
  clear hF
  go_wp2_with fail
  refine hK1.mono ?_
  rintro e w4 ⟨rfl, rfl⟩
  clear hK1
  go_wp2_with fail
  refine hT.mono ?_
  rintro e w5 ⟨rfl, hb5⟩
  clear hT
  have ho : FloatKind.f64.format.order 4591870180066957722 4591870180066957722 = some .eq := by decide +kernel
  go_wp2
  go_ret
  exact ⟨rfl, hb1.trans (hb5.mono hs1)⟩
end Go.Proofs.YtklgemnmihpkcaaGreatDoor
