
/- What read answers of bytes: it gives no panic on. Conditions: those that each row states. -/
import Derived.Test.YtfdbekfbbihdgaaDoorSk
import Derived.Test.YtfdbekfbbihdgaaDoorPv
namespace Go.Proofs.YtfdbekfbbihdgaaDoor
open Go.RowKit Go.Lib
set_option maxRecDepth 100000
set_option linter.unusedSimpArgs false

theorem assert28 (n : Int) (w : World) : (Instr.typeAssert (.iface 28 (.int .i64 n)) 20 28 true).run Tryd.prog w = .ok (.tuple #[.int .i64 n, .bool true]) w := by
  simp [Instr.typeAssert, Sem.run_bind, underlying, Tryd.underlying28, Result.andThen]
theorem catch_p (p : Addr) (x : Value) (n : Int) (w : World) (hc : w.cell? p = some x) (hx : x = .int .i64 0) (hz : w.frozen? p = false) :
    CallsD Tryd.prog 36 #[.pointer (some p)] (.panicking (gup n)) w fun e u' w' =>
      e = .returned (.tuple #[]) ∧ u' = .panicking [{ v := .iface 28 (.int .i64 n), recovered := true }] ∧ w' = w.setCell p (.int .i64 n) := by
  subst hx
  refine callsD_of_wpS Tryd.func36 rfl fun c₀ cs hu => ?_
  apply wpS_seq
  apply wpS_region
  simp [wpOpsS, go_sem, recoverD, hu, Tryd.ntmps36, Exit.thenS, gup]
  refine wpS_of_wp ?_
  simp only [Array.replicate_succ, Array.replicate_zero, List.push_toArray, List.append_toArray, List.nil_append, List.cons_append, List.setIfInBounds_toArray, List.set_cons_succ, List.set_cons_zero]
  have hta := assert28
  go_wp2
  simp [bodyPostS, results, Tryd.results36]
theorem catch_i (p : Addr) (w : World) :
    CallsD Tryd.prog 36 #[.pointer (some p)] .returning w fun e u' w' => e = .returned (.tuple #[]) ∧ u' = .returning ∧ w' = w := by
  refine callsD_of_wpS Tryd.func36 rfl fun c₀ cs hu => ?_
  apply wpS_seq
  apply wpS_region
  simp [wpOpsS, go_sem, recoverD, hu, Tryd.ntmps36, Exit.thenS]
  refine wpS_of_wp ?_
  simp only [Array.replicate_succ, Array.replicate_zero, List.push_toArray, List.append_toArray, List.nil_append, List.cons_append, List.setIfInBounds_toArray, List.set_cons_succ, List.set_cons_zero]
  go_wp2
  cases c₀
  simp_all [bodyPostS, results, Tryd.results36]
theorem Alb.lowB {B B' b : Nat} {w w' : World} (h : Alb B w w' b) (hB : B' ≤ b ∧ B' ≤ B) : Below B' w w' := ⟨h.os, h.tape, h.output, h.size, fun k hk => h.block k (by omega) (by omega)⟩
theorem opw_put {ty : TypeId} {K : Act → World → Prop} {o : Oper} {a : Act} {w : World} {Q : Exit → Act → World → Prop} (x y : Operand) (ho : o.op = .store ty x y)
    (g : Nat) (cells : Array Value) (hx : a.eval x = .pointer (some ⟨g, 0, none⟩)) (hy : a.eval y = .agg cells)
    {t : TypeId} {old : Array Value} (hg : Blk w g old t) (hi : (Tryd.prog.info? ty).map (·.size) = some cells.size)
    (hfit : old.size = cells.size) (h1 : cells.all (·.oneCell') = true)
    (h : ∀ W', Blk W' g cells t → w.grownBy W' (some g) → W'.heap.size = w.heap.size → K (a.put o.dst undef) W') : o.wp Tryd.prog a w K Q := by
  have hst := run_storeCells_at Tryd.prog g 0 t cells.toList 0 old w hg.h (by simp; omega) (fun v hv => (Array.all_eq_true_iff_forall_mem.1 h1) v (by simpa using hv))
  simp only [Nat.add_zero, Nat.zero_add, Array.length_toList] at hst
  have hrun : (storeVar ty ⟨g, 0, none⟩ (.agg cells)).run Tryd.prog w = .ok () (w.setRow g cells) := by
    cases hq : Tryd.prog.info? ty with
    | none => simp [hq] at hi
    | some i =>
      have hs : cells.size = i.size := by simp [hq] at hi; omega
      have e : (old.toList.take 0 ++ cells.toList ++ old.toList.drop cells.size).toArray = cells := by
        rw [List.drop_eq_nil_of_le (by simp; omega)]; simp
      rw [e] at hst
      simp [storeVar, sizeOf, typeInfo, hq, Value.cells, ← hs, hst]
  unfold Oper.wp execOp
  simp only [ho, hx, hy, Instr.storeAt, Instr.sureAddr, Sem.run_bind, Sem.run_pure, Result.andThen_ok, hrun]
  exact h _ (hg.row _) (grown_setRow w g _) (by simp [World.setRow])
/-- Where nothing panics. -/
theorem wp_calm {c : Code} {K : Act → World → Prop} {Q : Exit → Act → World → Prop} {a : Act} {w : World} (h : c.wp Tryd.prog (Exit.then K fun _ _ _ => False) a w) : c.wp Tryd.prog (Exit.then K Q) a w :=
  Code.wp_mono (fun e a w h => by cases e <;> first | exact h | exact False.elim h) h
/-- What read answers. -/
def ReadP (w : World) (s : Bs) (R : Except Int (Fr × Bs)) (e : Ending) (w' : World) : Prop :=
  Below w.heap.size w w' ∧ ((∃ f r hv, R = .ok (f, r) ∧ e = .returned (.tuple #[frV f.cmd hv f.body, .int .i64 ((s.length : Int) - (r.length : Int)), .int .i64 0]) ∧ OwnH w' w.heap.size hv f.hs) ∨
    (∃ g, R = .error g ∧ e = .returned (.tuple #[frV [] (.slice none 0 0) [], .int .i64 0, .int .i64 g])))
set_option maxHeartbeats 2000000 in
theorem read_any (w : World) (s : Bs) (hs : s.length ≤ 100000000) (hV : Vars w.heap.size w) :
    Calls Tryd.prog 26 #[str s] w fun e w' => ReadP w s (readL s) e w' := by
  have hlen : ∀ f r, readL s = .ok (f, r) → r.length < s.length := fun f r h => readL_len h
  obtain ⟨R, hR⟩ : ∃ R, readL s = R := ⟨_, rfl⟩
  rw [hR] at hlen ⊢
  have hmf : ∀ (fn : Fn) (first cap : Array Value) (w : World), (Instr.makeFunc fn first cap).run Tryd.prog w = .ok (.func fn first cap) w := fun _ _ _ _ => rfl
  have b1 := below_new w (.cells FR 24)
  have k1 := Blk.new w FR 24
  have s1 : (w.alloc (.cells FR 24)).heap.size = w.heap.size + 1 := by simp
  generalize hw1 : w.alloc (.cells FR 24) = w1 at *
  have b2 := b1.trans ((below_new w1 (.cells #[.int .i64 0] 28)).mono b1.size)
  have k2 := Blk.new w1 #[.int .i64 0] 28
  have k12 := k1.alloc (.cells #[.int .i64 0] 28)
  have s2 : (w1.alloc (.cells #[.int .i64 0] 28)).heap.size = w.heap.size + 2 := by simp [s1]
  rw [s1] at k2
  generalize hw2 : w1.alloc (.cells #[.int .i64 0] 28) = w2 at *
  have b3 := b2.trans ((below_new w2 (.cells #[str s] 60)).mono b2.size)
  have k3 := Blk.new w2 #[str s] 60
  have k23 := k2.alloc (.cells #[str s] 60)
  have k13 := k12.alloc (.cells #[str s] 60)
  have s3 : (w2.alloc (.cells #[str s] 60)).heap.size = w.heap.size + 3 := by simp [s2]
  rw [s2] at k3
  generalize hw3 : w2.alloc (.cells #[str s] 60) = w3 at *
  have hc : Cr w3 (w.heap.size + 2) s := ⟨k3.cell 0, k3.frozen 0⟩
  have F := frame_any w3 (w.heap.size + 2) w.heap.size s hc (by omega) hs (hV.on b3) (by omega)
  rw [hR] at F
  clear hR hc
  go_enter_defers Tryd.func26, Tryd.ntmps26
  go_wp2_with fail
  refine F.mono ?_
  rintro e w4 ⟨hA4, ⟨f, r, hv, rfl, rfl, ho4, hc4⟩ | ⟨g, rfl, rfl⟩⟩
  · have k14 := k13.alb hA4 (by omega)
    have k24 := k23.alb hA4 (by omega)
    have s4 := hA4.size
    have hr := hlen f r rfl
    obtain ⟨fc, fh, fb⟩ := f
    dsimp only at ho4
    obtain ⟨ha, hn, hcp, rfl⟩ := ho4.shape
    have B4 : Below w.heap.size w w4 := ⟨hA4.os.trans b3.os, hA4.tape.trans b3.tape, hA4.output.trans b3.output, Nat.le_trans b3.size hA4.size, fun k hk => (hA4.block k (by omega) (by omega)).trans (b3.block k hk)⟩
    clear F k3 k1 k2 k12 k13 k23 b1 b2 b3 hA4 hlen
    go_wp2_with (refine wpl_put rfl (.tmp 2) (.tmp 9) rfl w.heap.size _ rfl rfl k14 (by kernel_rfl) rfl (by kernel_rfl) ?_)
    intro w5 k5 g5 s5
    have k25 := k24.grown g5 (by simp)
    have B5 := B4.grown g5 (by omega) (fun k hk => by cases hk; omega)
    have ho5 := ho4.grown g5 (fun k hk => by cases hk; omega)
    have c5 : w5.cell? ⟨w.heap.size + 2, 0, none⟩ = some (str r) := by
      have := hc4.c0
      rw [World.cell?, g5.block _ (by simp; omega) (by simp)]
      exact this
    clear k14 k24 B4 ho4 hc4 g5
    go_upto_region 4 with fail
    refine wp_calm ?_
    refine wp_region_held (S := fun W => Blk W w.heap.size #[str fc, .slice ha hn hcp, str fb] 24 ∧ W.cell? ⟨w.heap.size + 2, 0, none⟩ = some (str r)) hmix ?_
    show wpAnyH _ _ _ _ _ _ _ _ (World.drew _)
    have hS : Blk w5.drew w.heap.size #[str fc, .slice ha hn hcp, str fb] 24 ∧ w5.drew.cell? ⟨w.heap.size + 2, 0, none⟩ = some (str r) := ⟨⟨k5.h⟩, c5⟩
    have k26 : Blk w5.drew (w.heap.size + 1) #[.int .i64 0] 28 := ⟨k25.h⟩
    have B6 := B5.drew
    have ho6 := ho5.up (Below.refl _ w5).drew
    clear k5 c5 k25 B5 ho5 s5
    generalize w5.drew = w6 at *
    refine tks [0, 1, 2, 3, 4, 5, 6] [.agg #[str fc, .slice ha hn hcp, str fb], str s, .int .i64 (s.length : Int), .pointer (some ⟨w.heap.size + 2, 0, none⟩), str r, .int .i64 (r.length : Int), .int .i64 ((s.length : Int) - (r.length : Int))] 3 ?_ hS ?_
    · simp only [tkY, tkf]
      refine ⟨.yes ?_, .yes ?_, .yes ?_, .yes ?_, .yes ?_, .yes ?_, .yes ?_, trivial⟩
      all_goals
        rintro W' ⟨hW1, hW2⟩
        have d0 := hW1.cell 0
        have d1 := hW1.cell 1
        have d2 := hW1.cell 2
        simp only [List.getElem?_toArray, List.getElem?_cons_zero, List.getElem?_cons_succ] at d0 d1 d2
        go_simp
        try (rw [IntKind.wrap_i64]; omega)
    simp only [tkA, tkf]
    refine ak 7 (fun K hK => ?_)
    refine opw_put (.tmp 2) (.tmp 10) rfl w.heap.size _ rfl rfl hS.1 (by kernel_rfl) rfl (by kernel_rfl) ?_
    intro w7 k7 g7 s7
    have hl1 := hS.1.lt
    have hl2 := k26.lt
    have c7 : w7.cell? ⟨w.heap.size + 2, 0, none⟩ = some (str r) := by
      rw [World.cell?, g7.block _ (World.block_lt_of_cell? w6 ⟨w.heap.size + 2, 0, none⟩ hS.2) (by simp)]
      exact hS.2
    have k27 := k26.grown g7 (by simp)
    have B7 := B6.grown g7 (by omega) (fun k hk => by cases hk; omega)
    have ho7 := ho6.grown g7 (fun k hk => by cases hk; omega)
    refine hK _ _ ⟨k7, c7⟩ ?_
    clear hK K hS k26 B6 ho6 g7 s7 hl1
    refine ak 8 (fun K hK => ?_)
    go_wp2_with fail
    refine hK _ _ ⟨k7, c7⟩ ?_
    clear hK K
    refine ak 9 (fun K hK => ?_)
    refine opw_set (.tmp 4) (.const (.int .i64 0)) rfl (w.heap.size + 1) 0 _ rfl rfl k27 (by kernel_rfl) rfl rfl (by simp) ?_
    intro w8 k28 g8 s8
    have hl7 := k7.lt
    have k8 := k7.grown g8 (by simp)
    have c8 : w8.cell? ⟨w.heap.size + 2, 0, none⟩ = some (str r) := by
      rw [World.cell?, g8.block _ (World.block_lt_of_cell? w7 ⟨w.heap.size + 2, 0, none⟩ c7) (by simp)]
      exact c7
    have B8 := B7.grown g8 (by omega) (fun k hk => by cases hk; omega)
    have ho8 := ho7.grown g8 (fun k hk => by cases hk; omega)
    have k28 : Blk w8 (w.heap.size + 1) #[.int .i64 0] 28 := k28
    refine hK _ _ ⟨k8, c8⟩ ?_
    clear hK K k7 c7 k27 B7 ho7 g8 s8 c8
    refine wpAnyH_done (by kernel_rfl) ?_ _
    go_wp2_with fail
    have d0 := k8.cell 0
    have d1 := k8.cell 1
    have d2 := k8.cell 2
    have e1 := k28.cell 0
    simp only [List.getElem?_toArray, List.getElem?_cons_zero, List.getElem?_cons_succ] at d0 d1 d2 e1
    refine leaves_cons (f := 36) (args := #[.pointer (some ⟨w.heap.size + 1, 0, none⟩)]) (by simp) (by simp [go_sem]) ?_
    refine (catch_i ⟨w.heap.size + 1, 0, none⟩ _).mono ?_
    rintro e u' w'' ⟨rfl, rfl, rfl⟩
    simp only [Leaves, settle, results, Tryd.results26]
    exact ⟨.tuple #[frV fc (.slice ha hn hcp) fb, .int .i64 ((s.length : Int) - (r.length : Int)), .int .i64 0], by simp [go_sem, e1, d0, d1, d2], B8, .inl ⟨⟨fc, fh, fb⟩, r, _, rfl, rfl, ho8.low (by omega)⟩⟩
  · have k14 := k13.alb hA4 (by omega)
    have k24 := k23.alb hA4 (by omega)
    have s4 := hA4.size
    have B4 : Below w.heap.size w w4 := ⟨hA4.os.trans b3.os, hA4.tape.trans b3.tape, hA4.output.trans b3.output, Nat.le_trans b3.size hA4.size, fun k hk => (hA4.block k (by omega) (by omega)).trans (b3.block k hk)⟩
    have c0 := k24.cell 0
    simp only [List.getElem?_toArray, List.getElem?_cons_zero, List.getElem?_cons_succ] at c0
    refine leaves_cons (f := 36) (args := #[.pointer (some ⟨w.heap.size + 1, 0, none⟩)]) (by simp) (by simp [go_sem]) ?_
    refine (catch_p ⟨w.heap.size + 1, 0, none⟩ _ g _ c0 rfl (k24.frozen 0)).mono ?_
    rintro e u' w'' ⟨rfl, rfl, rfl⟩
    have k15 := k14.setO (g' := w.heap.size + 1) (j := 0) (by omega) (.int .i64 g)
    have k25 := k24.set 0 (.int .i64 g)
    have d0 := k15.cell 0
    have d1 := k15.cell 1
    have d2 := k15.cell 2
    have e1 := k25.cell 0
    simp only [List.getElem?_toArray, List.getElem?_cons_zero, List.getElem?_cons_succ] at d0 d1 d2
    have e1 : (w4.setCell ⟨w.heap.size + 1, 0, none⟩ (.int .i64 g)).cell? ⟨w.heap.size + 1, 0, none⟩ = some (.int .i64 g) := e1
    change Leaves Tryd.prog Tryd.f26 _ _ [] .returning _
    simp only [Leaves, results, Tryd.results26]
    refine ⟨.tuple #[frV [] (.slice none 0 0) [], .int .i64 0, .int .i64 g], by simp [go_sem, e1, d0, d1, d2], ?_, .inr ⟨g, rfl, rfl⟩⟩
    exact B4.trans ((Alb.but (B := w4.heap.size) (But.set w4 (w.heap.size + 1) 0 _)).lowB (by omega))
end Go.Proofs.YtfdbekfbbihdgaaDoor
