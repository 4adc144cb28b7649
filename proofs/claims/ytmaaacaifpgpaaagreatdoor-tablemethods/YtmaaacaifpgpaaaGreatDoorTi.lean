
/- table.insist gives up by panic, table.guarded recovers; table's reader: cut, num, short, long, integer. Conditions: those that each row states. -/
import Derived.Test.YtmaaacaifpgpaaaGreatDoorTh
import Derived.Defers
import Derived.Recover
import Derived.WalkLawsBesides
namespace Go.Proofs.YtmaaacaifpgpaaaGreatDoor
open Go.RowKit Go.Lib
set_option maxRecDepth 100000
set_option linter.unusedSimpArgs false

/-- A giving up. -/
def gup (n : Int) : List PanicEntry := [{ v := .iface 32 (.int .i64 n), recovered := false }]

theorem insist_ok (w : World) (n : Int) : Calls Tryz.prog 33 #[.bool true, .int .i64 n] w fun e w' => e = .returned (.tuple #[]) ∧ w' = w := by
  go_enter Tryz.func33, Tryz.ntmps33
  go_wp2
  go_end0
  exact ⟨rfl, rfl⟩
theorem insist_no (w : World) (n : Int) : Calls Tryz.prog 33 #[.bool false, .int .i64 n] w fun e w' => e = .panicked (gup n) ∧ w' = w := by
  go_enter Tryz.func33, Tryz.ntmps33
  go_wp2
  exact ⟨rfl, rfl, rfl⟩

theorem assert26 (n : Int) (w : World) : (Instr.typeAssert (.iface 32 (.int .i64 n)) 20 32 true).run Tryz.prog w = .ok (.tuple #[.int .i64 n, .bool true]) w := by
  simp [Instr.typeAssert, Sem.run_bind, underlying, Tryz.underlying32, Result.andThen]

set_option maxRecDepth 100000 in
theorem catch_p (p : Addr) (x : Value) (n : Int) (w : World) (hc : w.cell? p = some x) (hx : x = .int .i64 0) (hz : w.frozen? p = false) :
    CallsD Tryz.prog 32 #[.pointer (some p)] (.panicking (gup n)) w fun e u' w' =>
      e = .returned (.tuple #[]) ∧ u' = .panicking [{ v := .iface 32 (.int .i64 n), recovered := true }] ∧ w' = w.setCell p (.int .i64 n) := by
  subst hx
  refine callsD_of_wpS Tryz.func32 rfl fun c₀ cs hu => ?_
  apply wpS_seq
  apply wpS_region
  simp [wpOpsS, go_sem, recoverD, hu, Tryz.ntmps32, Exit.thenS, gup]
  refine wpS_of_wp ?_
  simp only [Array.replicate_succ, Array.replicate_zero, List.push_toArray, List.append_toArray, List.nil_append, List.cons_append, List.setIfInBounds_toArray, List.set_cons_succ, List.set_cons_zero]
  have hta := assert26
  go_wp2
  simp [bodyPostS, results, Tryz.results32]
theorem catch_i (p : Addr) (w : World) :
    CallsD Tryz.prog 32 #[.pointer (some p)] .returning w fun e u' w' => e = .returned (.tuple #[]) ∧ u' = .returning ∧ w' = w := by
  refine callsD_of_wpS Tryz.func32 rfl fun c₀ cs hu => ?_
  apply wpS_seq
  apply wpS_region
  simp [wpOpsS, go_sem, recoverD, hu, Tryz.ntmps32, Exit.thenS]
  refine wpS_of_wp ?_
  simp only [Array.replicate_succ, Array.replicate_zero, List.push_toArray, List.append_toArray, List.nil_append, List.cons_append, List.setIfInBounds_toArray, List.set_cons_succ, List.set_cons_zero]
  go_wp2
  cases c₀
  simp_all [bodyPostS, results, Tryz.results32]

theorem guarded_any (f : Nat) (eg : ∀ args w, (callFunc f args).run Tryz.prog w = .ok (.enter f args) w) (cap : Array Value) (w : World) (A : World → Prop) (G : Int → World → Prop)
    (hc : Calls Tryz.prog f cap (w.alloc (.cells #[.int .i64 0] 32)) fun e w2 => (w2.cell? ⟨w.heap.size, 0, none⟩ = some (.int .i64 0) ∧ w2.frozen? ⟨w.heap.size, 0, none⟩ = false) ∧
      ((e = .returned (.tuple #[]) ∧ A w2) ∨ (∃ n, e = .panicked (gup n) ∧ G n w2))) :
    Calls Tryz.prog 16 #[.func (.func f) #[] cap] w fun e w' => (e = .returned (.int .i64 0) ∧ ∃ w2, A w2 ∧ w' = w2.setCell ⟨w.heap.size, 0, none⟩ (.int .i64 0)) ∨
      (∃ n, e = .returned (.int .i64 n) ∧ ∃ w2, G n w2 ∧ w' = w2.setCell ⟨w.heap.size, 0, none⟩ (.int .i64 n)) := by
  have hmf : ∀ (fn : Fn) (first cap : Array Value) (w : World), (Instr.makeFunc fn first cap).run Tryz.prog w = .ok (.func fn first cap) w := fun _ _ _ _ => rfl
  go_enter_defers Tryz.func16, Tryz.ntmps16
  go_wp2_with fail
  refine hc.mono ?_
  rintro e w2 ⟨⟨c0, z0⟩, ⟨rfl, hA⟩ | ⟨n, rfl, hG⟩⟩
  · go_wp2
    refine leaves_cons (f := 32) (args := #[.pointer (some ⟨w.heap.size, 0, none⟩)]) (by simp) (by simp [go_sem]) ?_
    refine (catch_i ⟨w.heap.size, 0, none⟩ _).mono ?_
    rintro e u' w'' ⟨rfl, rfl, rfl⟩
    have e1 := World.cell?_setCell_same _ _ (Value.int .i64 0) c0
    simp only [Leaves, settle, results, Tryz.results16]
    refine ⟨.int .i64 0, by simp [go_sem, e1], .inl ⟨rfl, w2, hA, rfl⟩⟩
  · refine leaves_cons (f := 32) (args := #[.pointer (some ⟨w.heap.size, 0, none⟩)]) (by simp) (by simp [go_sem]) ?_
    refine (catch_p ⟨w.heap.size, 0, none⟩ _ n _ c0 rfl z0).mono ?_
    rintro e u' w'' ⟨rfl, rfl, rfl⟩
    have e1 := World.cell?_setCell_same _ _ (Value.int .i64 n) c0
    change Leaves Tryz.prog Tryz.f16 _ _ [] .returning _
    simp only [Leaves, results, Tryz.results16]
    refine ⟨.int .i64 n, by simp [go_sem, e1], .inr ⟨n, rfl, w2, hG, rfl⟩⟩

/-- The program's reader: what is left. -/
structure Cr (w : World) (b : Nat) (s : List UInt8) : Prop where
  c0 : w.cell? ⟨b, 0, none⟩ = some (str s)
  f0 : w.frozen? ⟨b, 0, none⟩ = false
set_option maxHeartbeats 400000 in
theorem cut_ok (w : World) (b n : Nat) (s : List UInt8) (hr : Cr w b s) (hs : s.length ≤ 140737488355328) (h : n ≤ s.length) :
    Calls Tryz.prog 67 #[.pointer (some ⟨b, 0, none⟩), .int .u64 n] w fun e w' => e = .returned (str (s.take n)) ∧ Cr w' b (s.drop n) ∧ But w w' b := by
  obtain ⟨c0, f0⟩ := hr
  have fin : ∀ w', w' = w.setCell ⟨b, 0, none⟩ (str (s.drop n)) → Cr w' b (s.drop n) ∧ But w w' b := by
    rintro w' rfl
    exact ⟨⟨World.cell?_setCell_same (h := c0) .., by rw [World.frozen?_setCell]; exact f0⟩, But.set w b 0 _⟩
  have hz : decide ((n : Int) ≤ (s.length : Int)) = true := by simp; omega
  have hz2 : (n : Int) ≤ (s.length : Int) := by omega
  have u1 : IntKind.u64.wrap (s.length : Int) = (s.length : Int) := by rw [IntKind.wrap_u64]; omega
  clear hs
  go_enter Tryz.func67, Tryz.ntmps67
  go_wp2_with (first | (go_at_call 33; refine (insist_ok _ _).mono ?_; rintro e w' ⟨rfl, rfl⟩))
  go_ret
  have e1 : (⟨s.toArray⟩ : ByteArray).extract 0 n = ⟨(s.take n).toArray⟩ := by
    apply ByteArray.ext
    simp [ByteArray.data_extract, List.extract_eq_take_drop]
  have e2 : (⟨s.toArray⟩ : ByteArray).extract n s.length = ⟨(s.drop n).toArray⟩ := by
    apply ByteArray.ext
    simp [ByteArray.data_extract, List.extract_eq_take_drop]
    rw [List.take_of_length_le (by simp)]
  refine ⟨?_, fin _ (by rw [e2])⟩
  show Ending.returned (.string _) = _
  rw [e1]
theorem cut_no (w : World) (b n : Nat) (s : List UInt8) (hr : Cr w b s) (hs : s.length ≤ 140737488355328) (h : s.length < n) :
    Calls Tryz.prog 67 #[.pointer (some ⟨b, 0, none⟩), .int .u64 n] w fun e w' => e = .panicked (gup 11) ∧ w' = w := by
  obtain ⟨c0, f0⟩ := hr
  have hz : decide (n ≤ s.length) = false := by simp; omega
  have u1 : IntKind.u64.wrap (s.length : Int) = (s.length : Int) := by rw [IntKind.wrap_u64]; omega
  clear hs h
  obtain ⟨g, hg⟩ : ∃ g, gup 11 = g := ⟨_, rfl⟩
  have I := fun w => insist_no w 11
  rw [hg] at I ⊢
  clear hg
  go_enter Tryz.func67, Tryz.ntmps67
  go_wp2_with fail
  refine (I _).mono ?_
  rintro e w' ⟨rfl, rfl⟩
  exact ⟨rfl, rfl, rfl⟩
/-- What table's reader answers and leaves, or that it gives up. -/
def cutP (s : List UInt8) (n : Nat) : Option (List UInt8 × List UInt8) := if n ≤ s.length then some (s.take n, s.drop n) else none

set_option maxHeartbeats 400000 in
theorem integer_any (w : World) (n : Int) : Calls Tryz.prog 87 #[.int .i64 n] w fun e w' => e = .returned (.agg #[.int .i64 1, .int .i64 n, str [], .float .f64 0]) ∧ Below w.heap.size w w' := by
  have kR := Blk.new w Z4 42
  have hb := below_new w (.cells Z4 42)
  go_enter Tryz.func87, Tryz.ntmps87
  go_wp2_with (refine wpl_put rfl (.tmp 2) (.tmp 4) rfl w.heap.size _ rfl rfl kR (by kernel_rfl) rfl (by kernel_rfl) ?_)
  intro W' kW gW sW
  go_wp2
  exact ret58 Tryz.results87 kW rfl rfl ⟨rfl, hb.grown gW (by simp) (fun k hk => by injection hk with hk; omega)⟩
/-- cut, in one. -/
theorem cut_any (w : World) (b n : Nat) (s : List UInt8) (hr : Cr w b s) (hs : s.length ≤ 140737488355328) :
    Calls Tryz.prog 67 #[.pointer (some ⟨b, 0, none⟩), .int .u64 n] w fun e w' =>
      But w w' b ∧ ((n ≤ s.length ∧ e = .returned (str (s.take n)) ∧ Cr w' b (s.drop n)) ∨ (s.length < n ∧ e = .panicked (gup 11) ∧ Cr w' b s)) := by
  by_cases h : n ≤ s.length
  · exact (cut_ok w b n s hr hs h).mono fun e w' ⟨h1, h2, h3⟩ => ⟨h3, .inl ⟨h, h1, h2⟩⟩
  · exact (cut_no w b n s hr hs (by omega)).mono fun e w' ⟨h1, h2⟩ => ⟨by subst h2; exact But.refl _ _, .inr ⟨by omega, h1, by subst h2; exact hr⟩⟩
end Go.Proofs.YtmaaacaifpgpaaaGreatDoor
