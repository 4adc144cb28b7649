/- tape.insist gives up by panic; tape.guarded recovers. -/
import Derived.Test.YthgkkmcpmhfehaaChecked
import Derived.WalkKit
import Derived.Defers
import Derived.Recover
import Derived.WalkLawsBesides
namespace Go.Proofs.Ythgkkmcpmhfehaa
open Go.RowKit

/-- A giving up. -/
def gup (n : Int) : List PanicEntry := [{ v := .iface 32 (.int .i64 n), recovered := false }]

theorem insist_ok (w : World) : Calls Try.prog 89 #[.int .i64 0] w fun e w' => e = .returned (.tuple #[]) ∧ w' = w := by
  go_enter Try.func89, Try.ntmps89
  go_wp2
  go_end0
  exact ⟨rfl, rfl⟩
theorem insist_no (w : World) (n : Int) (hn : ¬ n = 0) : Calls Try.prog 89 #[.int .i64 n] w fun e w' => e = .panicked (gup n) ∧ w' = w := by
  go_enter Try.func89, Try.ntmps89
  go_wp2
  exact ⟨rfl, rfl, rfl⟩

theorem assert34 (n : Int) (w : World) : (Instr.typeAssert (.iface 32 (.int .i64 n)) 20 32 true).run Try.prog w = .ok (.tuple #[.int .i64 n, .bool true]) w := by
  simp [Instr.typeAssert, Sem.run_bind, underlying, Try.underlying32, Result.andThen]

set_option maxRecDepth 100000 in
theorem catch_p (p : Addr) (x : Value) (n : Int) (w : World) (hc : w.cell? p = some x) (hx : x = .int .i64 0) (hz : w.frozen? p = false) :
    CallsD Try.prog 86 #[.pointer (some p)] (.panicking (gup n)) w fun e u' w' =>
      e = .returned (.tuple #[]) ∧ u' = .panicking [{ v := .iface 32 (.int .i64 n), recovered := true }] ∧ w' = w.setCell p (.int .i64 n) := by
  subst hx
  refine callsD_of_wpS Try.func86 rfl fun c₀ cs hu => ?_
  apply wpS_seq
  apply wpS_region
  simp [wpOpsS, go_sem, recoverD, hu, Try.ntmps86, Exit.thenS, gup]
  refine wpS_of_wp ?_
  simp only [Array.replicate_succ, Array.replicate_zero, List.push_toArray, List.append_toArray, List.nil_append, List.cons_append, List.setIfInBounds_toArray, List.set_cons_succ, List.set_cons_zero]
  have hta := assert34
  go_wp2
  simp [bodyPostS, results, Try.results86]
theorem catch_i (p : Addr) (w : World) :
    CallsD Try.prog 86 #[.pointer (some p)] .returning w fun e u' w' => e = .returned (.tuple #[]) ∧ u' = .returning ∧ w' = w := by
  refine callsD_of_wpS Try.func86 rfl fun c₀ cs hu => ?_
  apply wpS_seq
  apply wpS_region
  simp [wpOpsS, go_sem, recoverD, hu, Try.ntmps86, Exit.thenS]
  refine wpS_of_wp ?_
  simp only [Array.replicate_succ, Array.replicate_zero, List.push_toArray, List.append_toArray, List.nil_append, List.cons_append, List.setIfInBounds_toArray, List.set_cons_succ, List.set_cons_zero]
  go_wp2
  cases c₀
  simp_all [bodyPostS, results, Try.results86]

theorem guarded_any (f : Nat) (eg : ∀ args w, (callFunc f args).run Try.prog w = .ok (.enter f args) w) (cap : Array Value) (w : World) (A : World → Prop) (G : Int → World → Prop)
    (hc : Calls Try.prog f cap (w.alloc (.cells #[.int .i64 0] 32)) fun e w2 => (w2.cell? ⟨w.heap.size, 0, none⟩ = some (.int .i64 0) ∧ w2.frozen? ⟨w.heap.size, 0, none⟩ = false) ∧
      ((e = .returned (.tuple #[]) ∧ A w2) ∨ (∃ n, e = .panicked (gup n) ∧ G n w2))) :
    Calls Try.prog 72 #[.func (.func f) #[] cap] w fun e w' => (e = .returned (.int .i64 0) ∧ ∃ w2, A w2 ∧ w' = w2.setCell ⟨w.heap.size, 0, none⟩ (.int .i64 0)) ∨
      (∃ n, e = .returned (.int .i64 n) ∧ ∃ w2, G n w2 ∧ w' = w2.setCell ⟨w.heap.size, 0, none⟩ (.int .i64 n)) := by
  have hmf : ∀ (fn : Fn) (first cap : Array Value) (w : World), (Instr.makeFunc fn first cap).run Try.prog w = .ok (.func fn first cap) w := fun _ _ _ _ => rfl
  go_enter_defers Try.func72, Try.ntmps72
  go_wp2_with fail
  refine hc.mono ?_
  rintro e w2 ⟨⟨c0, z0⟩, ⟨rfl, hA⟩ | ⟨n, rfl, hG⟩⟩
  · go_wp2
    refine leaves_cons (f := 86) (args := #[.pointer (some ⟨w.heap.size, 0, none⟩)]) (by simp) (by simp [go_sem]) ?_
    refine (catch_i ⟨w.heap.size, 0, none⟩ _).mono ?_
    rintro e u' w'' ⟨rfl, rfl, rfl⟩
    have e1 := World.cell?_setCell_same _ _ (Value.int .i64 0) c0
    simp only [Leaves, settle, results, Try.results72]
    refine ⟨.int .i64 0, by simp [go_sem, e1], .inl ⟨rfl, w2, hA, rfl⟩⟩
  · refine leaves_cons (f := 86) (args := #[.pointer (some ⟨w.heap.size, 0, none⟩)]) (by simp) (by simp [go_sem]) ?_
    refine (catch_p ⟨w.heap.size, 0, none⟩ _ n _ c0 rfl z0).mono ?_
    rintro e u' w'' ⟨rfl, rfl, rfl⟩
    have e1 := World.cell?_setCell_same _ _ (Value.int .i64 n) c0
    change Leaves Try.prog Try.f72 _ _ [] .returning _
    simp only [Leaves, results, Try.results72]
    refine ⟨.int .i64 n, by simp [go_sem, e1], .inr ⟨n, rfl, w2, hG, rfl⟩⟩
end Go.Proofs.Ythgkkmcpmhfehaa
