
/- What flt.Text answers of 0.1 and of 1e21. -/
import Derived.Test.YtlhfdklfkfodkabDoorFt
set_option maxRecDepth 100000
namespace Go.Proofs.YtlhfdklfkfodkabDoor.Ff
open Go.RowKit Go.Lib Go.Sort

@[go_sem] theorem mx324 : max (3 : Int) 24 = 24 := by decide
def c24 : Array Value := (List.replicate 24 (.int .u8 0)).toArray
theorem own24 (w : World) : Own (w.alloc (.cells c24 5)) w.heap.size (.slice (some ⟨w.heap.size, 0, none⟩) 0 24) [] :=
  World.ownsRow_made w c24 24 (Nat.le_refl _) (by decide) rfl
theorem make24 (w : World) : (Instr.makeSlice 25 (.int .i64 0) (.int .i64 24)).run Tryd.prog w = .ok (.slice (some ⟨w.heap.size, 0, none⟩) 0 24) (w.alloc (.cells c24 5)) := by
  obtain ⟨i0, hi, hz0, hz1, hz2⟩ := info_parts info5
  have h := run_make (P := Tryd.prog) w 25 5 i0 (.int .u8 0) Tryd.underlying25 hi hz0 .i64 .i64 0 24 (by omega) (by omega) (by rw [hz2]; omega) (by omega)
  have e2 : madeCells (Value.int .u8 0).cells (24 * 1) = c24 := by
    apply Array.ext'
    exact toList_madeCells_one _ _
  rw [h, hz1, show (24 : Int).toNat = 24 from rfl, e2]
  rfl

set_option maxHeartbeats 1000000 in
theorem fmt1_any (w : World) (hv : Vars w) :
    Calls Tryd.prog 30 #[.float .f64 4591870180066957722, .int .u8 103, .int .i64 (-1), .int .i64 64] w fun e w' => e = .returned (.string ⟨#[48, 46, 49]⟩) ∧ Below w.heap.size w w' := by
  have hO := own24 w
  have hb : Below w.heap.size w (w.alloc (.cells c24 5)) := (Below.refl _ w).alloc (Nat.le_refl _) _
  have hF := ftoa1_any _ w.heap.size _ hO (by simp) (hv.on hb)
  clear hO hv
  have HM := make24 w
  generalize c24 = cc at *
  go_enter Tryd.func30, Tryd.ntmps30
  go_wp2_with fail
  refine hF.mono ?_
  rintro e w1 ⟨v1, rfl, ho, hb1⟩
  have hc := conv_any ho.rd
  clear hF HM
  go_wp2
  go_ret
  exact ⟨rfl, hb.trans hb1⟩

theorem text1_any (w : World) (hv : Vars w) :
    Calls Tryd.prog 15 #[.float .f64 4591870180066957722] w fun e w' => e = .returned (.string ⟨#[48, 46, 49]⟩) ∧ Below w.heap.size w w' := by
  have h : Calls Tryd.prog 23 #[.float .f64 4591870180066957722, .int .u8 103, .int .i64 (-1), .int .i64 64] w fun e w' => e = .returned (.string ⟨#[48, 46, 49]⟩) ∧ Below w.heap.size w w' := by
    have hF := fmt1_any w hv
    clear hv
    go_enter Tryd.func23, Tryd.ntmps23
    go_wp2_with fail
    refine hF.mono ?_
    rintro e w1 ⟨rfl, hb⟩
    clear hF
    go_wp2
    go_ret
    exact ⟨rfl, hb⟩
  clear hv
  go_enter Tryd.func15, Tryd.ntmps15
  go_wp2_with fail
  refine h.mono ?_
  rintro e w1 ⟨rfl, hb⟩
  clear h
  go_wp2
  go_ret
  exact ⟨rfl, hb⟩

set_option maxHeartbeats 1000000 in
theorem fmt2_any (w : World) (hv : Vars w) :
    Calls Tryd.prog 30 #[.float .f64 4921056587992461136, .int .u8 103, .int .i64 (-1), .int .i64 64] w fun e w' => e = .returned (.string ⟨#[49, 101, 43, 50, 49]⟩) ∧ Below w.heap.size w w' := by
  have hO := own24 w
  have hb : Below w.heap.size w (w.alloc (.cells c24 5)) := (Below.refl _ w).alloc (Nat.le_refl _) _
  have hF := ftoa2_any _ w.heap.size _ hO (by simp) (hv.on hb)
  clear hO hv
  have HM := make24 w
  generalize c24 = cc at *
  go_enter Tryd.func30, Tryd.ntmps30
  go_wp2_with fail
  refine hF.mono ?_
  rintro e w1 ⟨v1, rfl, ho, hb1⟩
  have hc := conv_any ho.rd
  clear hF HM
  go_wp2
  go_ret
  exact ⟨rfl, hb.trans hb1⟩

theorem text2_any (w : World) (hv : Vars w) :
    Calls Tryd.prog 15 #[.float .f64 4921056587992461136] w fun e w' => e = .returned (.string ⟨#[49, 101, 43, 50, 49]⟩) ∧ Below w.heap.size w w' := by
  have h : Calls Tryd.prog 23 #[.float .f64 4921056587992461136, .int .u8 103, .int .i64 (-1), .int .i64 64] w fun e w' => e = .returned (.string ⟨#[49, 101, 43, 50, 49]⟩) ∧ Below w.heap.size w w' := by
    have hF := fmt2_any w hv
    clear hv
    go_enter Tryd.func23, Tryd.ntmps23
    go_wp2_with fail
    refine hF.mono ?_
    rintro e w1 ⟨rfl, hb⟩
    clear hF
    go_wp2
    go_ret
    exact ⟨rfl, hb⟩
  clear hv
  go_enter Tryd.func15, Tryd.ntmps15
  go_wp2_with fail
  refine h.mono ?_
  rintro e w1 ⟨rfl, hb⟩
  clear h
  go_wp2
  go_ret
  exact ⟨rfl, hb⟩
end Go.Proofs.YtlhfdklfkfodkabDoor.Ff
