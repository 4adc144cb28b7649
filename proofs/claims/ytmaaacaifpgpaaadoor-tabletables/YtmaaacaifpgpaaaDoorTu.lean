
/- table.Take. Conditions: those that each row states. -/
import Derived.Test.YtmaaacaifpgpaaaDoorTt
import Derived.Test.YtmaaacaifpgpaaaDoorTp
namespace Go.Proofs.YtmaaacaifpgpaaaDoor
open Go.RowKit Go.Lib
set_option maxRecDepth 100000
set_option linter.unusedSimpArgs false

theorem ctab_left {s r : List UInt8} {L : List Pr} (h : ctab s = some (L, r)) : r.length ≤ s.length := by
  unfold ctab at h
  split at h
  · cases h
  · unfold cutP at h
    split at h
    · cases h
    · rename_i t r' hc
      split at hc
      · injection hc with hc
        injection hc with _ hc
        cases ho : tabO t with
        | none => rw [ho] at h; cases h
        | some L' =>
          rw [ho] at h
          injection h with h
          injection h with _ h
          rw [← h, ← hc, List.length_drop, List.length_drop]
          omega
      · cases hc
set_option maxHeartbeats 1000000 in
theorem take1_any (w : World) (a : Nat) (s : List UInt8) (kB : Blk w a #[str s] 9) (kL : Blk w (a + 1) #[.slice none 0 0] 22) (kS : Blk w (a + 2) #[.int .i64 0] 3) (kE : Blk w (a + 3) #[.int .i64 0] 26) (hs : s.length ≤ 140737488355328) :
    Calls Tryd.prog 29 #[.pointer (some ⟨a, 0, none⟩), .pointer (some ⟨a + 1, 0, none⟩), .pointer (some ⟨a + 2, 0, none⟩)] w fun e w' => Below a w w' ∧ Blk w' (a + 3) #[.int .i64 0] 26 ∧
      ((∃ v L r, ctab s = some (L, r) ∧ e = .returned (.tuple #[]) ∧ OwnP w' (a + 4) v L ∧ Blk w' (a + 1) #[v] 22 ∧ Blk w' (a + 2) #[.int .i64 ((s.length - r.length : Nat) : Int)] 3) ∨
       (ctab s = none ∧ e = .panicked (gup 11) ∧ Blk w' (a + 1) #[.slice none 0 0] 22 ∧ Blk w' (a + 2) #[.int .i64 0] 3)) := by
  have c0 := kB.cell 0
  simp only [List.getElem?_toArray, List.getElem?_cons_zero] at c0
  obtain ⟨q, hq⟩ : ∃ q, w.heap.size = q := ⟨_, rfl⟩
  have haq : a + 4 ≤ q := by have := kE.lt; omega
  obtain ⟨gu, hg⟩ : ∃ gu, gup 11 = gu := ⟨_, rfl⟩
  have CT := fun w b h1 h2 => ctable_any w b s h1 h2 hs
  rw [hg] at CT ⊢
  go_enter Tryd.func29, Tryd.ntmps29
  go_wp2_with fail
  have hb1 := below_new w (.cells #[str s] 63)
  have hR := Cr.new w s 63
  rw [hq] at hR hb1
  have kB1 := kB.below hb1 (by omega)
  have kL1 := kL.below hb1 (by omega)
  have kS1 := kS.below hb1 (by omega)
  have kE1 := kE.below hb1 (by omega)
  have hs1 : (w.alloc (.cells #[str s] 63)).heap.size = q + 1 := by simp; omega
  clear kB kL kS kE c0
  generalize (w.alloc (.cells #[str s] 63)) = w1 at *
  refine (CT w1 q hR (by omega)).mono ?_
  rintro e w2 ⟨a2, ⟨v, L, r, hct, rfl, ho, hc2⟩ | ⟨hct, rfl⟩⟩
  · have key : ∀ {g cs t}, Blk w1 g cs t → g < q → Blk w2 g cs t := fun h hlt => h.alb a2 (by omega)
    have kB2 := key kB1 (by omega)
    have kL2 := key kL1 (by omega)
    have kS2 := key kS1 (by omega)
    have kE2 := key kE1 (by omega)
    have b2 : Below a w w2 := (hb1.mono (by omega)).trans ⟨a2.os, a2.tape, a2.output, a2.size, fun k hk => a2.block k (by omega) (by omega)⟩
    have hrl := ctab_left hct
    obtain ⟨ad, cp, hv⟩ := ho.rd.shape
    generalize L.length = n at *
    have HC : Hid (ctab s = some (L, r)) := hct
    clear key kB1 kL1 kS1 kE1 a2 hb1 hR hct CT
    have c0 := kB2.cell 0
    have c1 := hc2.c0
    simp only [List.getElem?_toArray, List.getElem?_cons_zero] at c0
    subst hv
    have hrz : (r.length : Int) ≤ (s.length : Int) := by omega
    go_wp2_with (refine wpl_set rfl (.tmp 1) (.tmp 8) rfl (a + 1) 0 _ rfl rfl kL2 (by kernel_rfl) rfl rfl (by simp) ?_)
    intro w3 kL3 g3 s3
    have kS3 := kS2.grown g3 (by simp)
    have kE3 := kE2.grown g3 (by simp)
    have b3 : Below a w w3 := b2.grown g3 (by have := kB2.lt; omega) (fun k hk => by injection hk with hk; omega)
    have o3 : OwnP w3 (a + 4) (.slice ad n cp) L := by
      obtain ⟨hl, ho⟩ := ho
      refine ⟨hl, ?_⟩
      rcases ho with h | ⟨g, cap, cur, hv, hg, hc, h⟩
      · exact .inl h
      · refine .inr ⟨g, cap, cur, hv, by omega, ?_, h⟩
        rw [g3.block g (Array.getElem?_eq_some_iff.1 hc).1 (fun e => by injection e with e; omega)]
        exact hc
    clear kL2 kS2 kE2 kB2 g3 s3 b2 c0 c1 hc2 ho
    go_wp2_with (refine wpl_set rfl (.tmp 2) (.tmp 14) rfl (a + 2) 0 _ rfl rfl kS3 (by kernel_rfl) rfl rfl (by simp) ?_)
    intro w4 kS4 g4 s4
    have kL4 := kL3.grown g4 (by simp)
    have kE4 := kE3.grown g4 (by simp)
    have b4 : Below a w w4 := b3.grown g4 (by have := kE3.lt; omega) (fun k hk => by injection hk with hk; omega)
    have o4 : OwnP w4 (a + 4) (.slice ad n cp) L := by
      obtain ⟨hl, ho⟩ := o3
      refine ⟨hl, ?_⟩
      rcases ho with h | ⟨g, cap, cur, hv, hg, hc, h⟩
      · exact .inl h
      · refine .inr ⟨g, cap, cur, hv, hg, ?_, h⟩
        rw [g4.block g (Array.getElem?_eq_some_iff.1 hc).1 (fun e => by injection e with e; omega)]
        exact hc
    clear kL3 kS3 kE3 g4 s4 b3 o3
    go_wp2_with fail
    go_end0
    have e1 : (s.length : Int) - (r.length : Int) = ((s.length - r.length : Nat) : Int) := by omega
    refine ⟨b4, kE4, .inl ⟨_, _, _, HC.out, rfl, o4, kL4, ?_⟩⟩
    rw [← e1]
    exact kS4
  · have key : ∀ {g cs t}, Blk w1 g cs t → g < q → Blk w2 g cs t := fun h hlt => h.alb a2 (by omega)
    have b2 : Below a w w2 := (hb1.mono (by omega)).trans ⟨a2.os, a2.tape, a2.output, a2.size, fun k hk => a2.block k (by omega) (by omega)⟩
    exact ⟨rfl, b2, key kE1 (by omega), .inr ⟨hct, rfl, key kL1 (by omega), key kS1 (by omega)⟩⟩
theorem opw_set {ty : TypeId} {K : Act → World → Prop} {o : Oper} {a : Act} {w : World} {Q : Exit → Act → World → Prop} (x y : Operand) (ho : o.op = .store ty x y)
    (g j : Nat) (u : Value) (hx : a.eval x = .pointer (some ⟨g, j, none⟩)) (hy : a.eval y = u)
    {t : TypeId} {old : Array Value} (hg : Blk w g old t) (hi : (Tryd.prog.info? ty).map (·.size) = some 1) (hu : u.cells = #[u]) (h1 : u.oneCell' = true) (hj : j < old.size)
    (h : ∀ W', Blk W' g (old.setIfInBounds j u) t → w.grownBy W' (some g) → W'.heap.size = w.heap.size → K (a.put o.dst undef) W') : o.wp Tryd.prog a w K Q := by
  have hst := run_storeCells_at Tryd.prog g j t [u] 0 old w hg.h (by simp; omega) (fun v hv => by simp at hv; subst hv; exact h1)
  simp only [Nat.add_zero, List.length_singleton] at hst
  have hrun : (storeVar ty ⟨g, j, none⟩ u).run Tryd.prog w = .ok () (w.setRow g (old.toList.take j ++ [u] ++ old.toList.drop (j + 1)).toArray) := by
    cases hq : Tryd.prog.info? ty with
    | none => simp [hq] at hi
    | some i =>
      have hs : i.size = 1 := by simpa [hq] using hi
      simp [storeVar, sizeOf, typeInfo, hq, hu, hs, hst]
  have e : (old.toList.take j ++ [u] ++ old.toList.drop (j + 1)).toArray = old.setIfInBounds j u := by
    apply Array.ext'
    rw [Array.toList_setIfInBounds]
    simp [List.set_eq_take_append_cons_drop, hj]
  rw [e] at hrun
  unfold Oper.wp execOp
  simp only [ho, hx, hy, Instr.storeAt, Instr.sureAddr, Sem.run_bind, Sem.run_pure, Result.andThen_ok, hrun]
  exact h _ (hg.row _) (grown_setRow w g _) (by simp [World.setRow])
theorem OwnP.grown {w w' : World} {B : Nat} {v : Value} {l : List Pr} {row : Option Nat} (h : OwnP w B v l) (hg : w.grownBy w' row) (hr : ∀ k, row = some k → k < B) : OwnP w' B v l := by
  obtain ⟨hl, ho⟩ := h
  refine ⟨hl, ?_⟩
  rcases ho with h | ⟨g, cap, cur, hv, hgB, hc, h⟩
  · exact .inl h
  · refine .inr ⟨g, cap, cur, hv, hgB, ?_, h⟩
    rw [hg.block g (Array.getElem?_eq_some_iff.1 hc).1 (fun e => by have := hr g e.symm; omega)]
    exact hc
/-- What Take answers: the properties, how many bytes they have, the error. -/
def TkP (w' : World) (B : Nat) (s : List UInt8) (v : Value) (z n : Int) : Prop :=
  (∃ L r, ctab s = some (L, r) ∧ n = 0 ∧ OwnP w' B v L ∧ z = ((s.length - r.length : Nat) : Int)) ∨ (ctab s = none ∧ n = 11 ∧ v = .slice none 0 0 ∧ z = 0)
theorem TkP.grown {w w' : World} {B : Nat} {s : List UInt8} {v : Value} {z n : Int} {row : Option Nat} (h : TkP w B s v z n) (hg : w.grownBy w' row) (hr : ∀ k, row = some k → k < B) : TkP w' B s v z n := by
  rcases h with ⟨L, r, h1, h2, h3, h4⟩ | h
  · exact .inl ⟨L, r, h1, h2, h3.grown hg hr, h4⟩
  · exact .inr h
theorem TkP.low {w : World} {B B' : Nat} {s : List UInt8} {v : Value} {z n : Int} (h : TkP w B s v z n) (hB : B' ≤ B) : TkP w B' s v z n := by
  rcases h with ⟨L, r, h1, h2, h3, h4⟩ | h
  · exact .inl ⟨L, r, h1, h2, h3.low hB, h4⟩
  · exact .inr h
set_option maxHeartbeats 1000000 in
theorem ttake_any (w : World) (s : List UInt8) (hs : s.length ≤ 140737488355328) :
    Calls Tryd.prog 12 #[str s] w fun e w' => ∃ v z n, e = .returned (.tuple #[v, .int .i64 z, .int .i64 n]) ∧ TkP w' w.heap.size s v z n ∧ Below w.heap.size w w' := by
  obtain ⟨a, ha⟩ : ∃ a, w.heap.size = a := ⟨_, rfl⟩
  have hb3 : Below a w (((w.alloc (Obj.cells #[str s] 9)).alloc (Obj.cells #[Value.slice none 0 0] 22)).alloc (Obj.cells #[Value.int IntKind.i64 0] 3)) := by
    rw [← ha]
    exact ((below_new w _).trans ((below_new _ _).mono (by simp))).trans ((below_new _ _).mono (by simp; omega))
  obtain ⟨w3, hw3⟩ : ∃ w3, (((w.alloc (Obj.cells #[str s] 9)).alloc (Obj.cells #[Value.slice none 0 0] 22)).alloc (Obj.cells #[Value.int IntKind.i64 0] 3)) = w3 := ⟨_, rfl⟩
  have hs3 : w3.heap.size = a + 3 := by rw [← hw3]; simp; omega
  have kB3 : Blk w3 a #[str s] 9 := by rw [← hw3, ← ha]; exact ((Blk.new w _ _).alloc _).alloc _
  have kL3 : Blk w3 (a + 1) #[.slice none 0 0] 22 := by
    have := (Blk.new (w.alloc (Obj.cells #[str s] 9)) #[Value.slice none 0 0] 22).alloc (Obj.cells #[Value.int IntKind.i64 0] 3)
    rw [World.size_alloc, ha, hw3] at this
    exact this
  have kS3 : Blk w3 (a + 2) #[.int .i64 0] 3 := by
    have := Blk.new ((w.alloc (Obj.cells #[str s] 9)).alloc (Obj.cells #[Value.slice none 0 0] 22)) #[Value.int IntKind.i64 0] 3
    rw [World.size_alloc, World.size_alloc, ha, hw3] at this
    exact this
  rw [hw3] at hb3
  have hb4 := below_new w3 (.cells #[.int .i64 0] 26)
  have T := take1_any (w3.alloc (.cells #[.int .i64 0] 26)) a s (kB3.alloc _) (kL3.alloc _) (kS3.alloc _) (by have := Blk.new w3 #[Value.int .i64 0] 26; rw [hs3] at this; exact this) hs
  have G := guarded_any 29 (enters_of Tryd.func29 (by kernel_rfl) rfl) #[.pointer (some ⟨a, 0, none⟩), .pointer (some ⟨a + 1, 0, none⟩), .pointer (some ⟨a + 2, 0, none⟩)] w3
    (fun w2 => Below a w w2 ∧ a + 4 ≤ w2.heap.size ∧ ∃ v L r, ctab s = some (L, r) ∧ OwnP w2 (a + 4) v L ∧ Blk w2 (a + 1) #[v] 22 ∧ Blk w2 (a + 2) #[.int .i64 ((s.length - r.length : Nat) : Int)] 3)
    (fun n w2 => n = 11 ∧ Below a w w2 ∧ a + 4 ≤ w2.heap.size ∧ ctab s = none ∧ Blk w2 (a + 1) #[.slice none 0 0] 22 ∧ Blk w2 (a + 2) #[.int .i64 0] 3) (T.mono fun e w2 ⟨h1, h2, h3⟩ => ⟨by
      rw [hs3]
      exact ⟨h2.cell 0, h2.frozen 0⟩, by
      have hbA : Below a w w2 := (hb3.trans (hb4.mono (by omega))).trans h1
      have hsz : a + 4 ≤ w2.heap.size := by have := h2.lt; omega
      rcases h3 with ⟨v, L, r, h4, h5, h6, h7, h8⟩ | ⟨h4, h5, h6, h7⟩
      · exact .inl ⟨h5, hbA, hsz, v, L, r, h4, h6, h7, h8⟩
      · exact .inr ⟨11, h5, rfl, hbA, hsz, h4, h6, h7⟩⟩)
  have G2 : Calls Tryd.prog 28 #[.func (.func 29) #[] #[.pointer (some ⟨a, 0, none⟩), .pointer (some ⟨a + 1, 0, none⟩), .pointer (some ⟨a + 2, 0, none⟩)]] w3 fun e w' => ∃ ad nn cp z n, e = .returned (.int .i64 n) ∧ TkP w' (a + 4) s (.slice ad nn cp) z n ∧ Blk w' (a + 1) #[.slice ad nn cp] 22 ∧ Blk w' (a + 2) #[.int .i64 z] 3 ∧ Below a w w' := by
    refine G.mono ?_
    rintro e w' (⟨rfl, w2, ⟨hbA, hsz, v, L, r, h4, h6, h7, h8⟩, rfl⟩ | ⟨n, rfl, w2, ⟨rfl, hbA, hsz, h4, h6, h7⟩, rfl⟩)
    · obtain ⟨ad, cp, rfl⟩ := h6.rd.shape
      have hbt : But w2 (w2.setCell ⟨w3.heap.size, 0, none⟩ (.int .i64 0)) w3.heap.size := But.set _ _ _ _
      refine ⟨ad, L.length, cp, _, 0, rfl, .inl ⟨L, r, h4, rfl, (h6.albB (H := w2.heap.size) (b := w3.heap.size) (fun k hk => (World.ownsRow.lt h6 k hk).2) (.but hbt) (by omega)), rfl⟩, h7.but hbt (by omega), h8.but hbt (by omega), hbA.trans (hbt.below (by omega))⟩
    · have hbt : But w2 (w2.setCell ⟨w3.heap.size, 0, none⟩ (.int .i64 11)) w3.heap.size := But.set _ _ _ _
      exact ⟨none, 0, 0, 0, 11, rfl, .inr ⟨h4, rfl, rfl, rfl⟩, h6.but hbt (by omega), h7.but hbt (by omega), hbA.trans (hbt.below (by omega))⟩
  clear G T hb4 hb3 kB3 kL3 kS3 hs3
  go_enter Tryd.func12, Tryd.ntmps12
  go_wp2_with fail
  refine G2.mono ?_
  rintro e W ⟨ad, nn, cp, z, n, rfl, hT, kL, kS, hB⟩
  clear G2 hw3
  go_upto_region 2 with fail
  refine wp_region_held (S := fun W' => Blk W' (a + 1) #[.slice ad nn cp] 22 ∧ Blk W' (a + 2) #[.int .i64 z] 3) hmix ?_
  show wpAnyH _ _ _ _ _ _ _ _ (World.drew _)
  have hS : Blk W.drew (a + 1) #[.slice ad nn cp] 22 ∧ Blk W.drew (a + 2) #[.int .i64 z] 3 := ⟨⟨kL.h⟩, ⟨kS.h⟩⟩
  refine tks [0, 1, 2] [.slice ad nn cp, .int .i64 z, .int .i64 n] 3 ?_ hS ?_
  · simp only [tkY, tkf]
    refine ⟨.yes ?_, .yes ?_, .yes ?_, trivial⟩
    all_goals
      intro W' hW'
      have k0 := hW'.1.cell 0
      have k1 := hW'.2.cell 0
      simp only [List.getElem?_toArray, List.getElem?_cons_zero] at k0 k1
      go_simp
  simp only [tkA, tkf]
  have hTd : TkP W.drew (a + 4) s (.slice ad nn cp) z n := hT
  have hBd : Below a w W.drew := hB.drew
  generalize W.drew = W1 at *
  refine ak 3 (fun K hK => ?_)
  refine opw_set (.tmp 2) (.tmp 7) rfl (a + 1) 0 _ rfl rfl hS.1 (by kernel_rfl) rfl rfl (by simp) ?_
  intro W2 k2 g2 s2
  have hS2 : Blk W2 (a + 1) #[.slice ad nn cp] 22 ∧ Blk W2 (a + 2) #[.int .i64 z] 3 := ⟨k2, hS.2.grown g2 (by simp)⟩
  have hB2 : Below a w W2 := hBd.grown g2 (by have := hS.1.lt; omega) (fun k hk => by injection hk with hk; omega)
  refine hK _ _ hS2 ?_
  clear hK K
  refine ak 4 (fun K hK => ?_)
  refine opw_set (.tmp 3) (.tmp 8) rfl (a + 2) 0 _ rfl rfl hS2.2 (by kernel_rfl) rfl rfl (by simp) ?_
  intro W3 k3 g3 s3
  have hS3 : Blk W3 (a + 1) #[.slice ad nn cp] 22 ∧ Blk W3 (a + 2) #[.int .i64 z] 3 := ⟨hS2.1.grown g3 (by simp), k3⟩
  have hB3 : Below a w W3 := hB2.grown g3 (by have := hS.1.lt; omega) (fun k hk => by injection hk with hk; omega)
  refine hK _ _ hS3 ?_
  clear hK K
  have hT3 := (hTd.grown g2 (fun k hk => by injection hk with hk; omega)).grown g3 (fun k hk => by injection hk with hk; omega)
  refine ak 5 (fun K hK => ?_)
  go_wp2_with fail
  refine hK _ _ hS3 ?_
  clear hK K
  refine wpAnyH_done (by kernel_rfl) ?_ _
  have k0 := hS3.1.cell 0
  have k1 := hS3.2.cell 0
  simp only [List.getElem?_toArray, List.getElem?_cons_zero] at k0 k1
  go_wp2_with fail
  refine bodyPost_ret (v := .tuple #[.slice ad nn cp, .int .i64 z, .int .i64 n]) (by simp [results, Tryd.results12, go_sem, k0, k1]) rfl ?_
  exact ⟨_, _, _, rfl, hT3.low (by omega), by rw [ha]; exact hB3⟩
end Go.Proofs.YtmaaacaifpgpaaaDoor
