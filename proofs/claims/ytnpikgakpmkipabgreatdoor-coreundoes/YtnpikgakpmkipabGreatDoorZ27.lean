/- core.Do: what an operation makes of a core. Conditions: those that each row states. -/
import Derived.Test.YtnpikgakpmkipabGreatDoorZ15
import Derived.Test.YtnpikgakpmkipabGreatDoorZ04
import Derived.Test.YtnpikgakpmkipabGreatDoorZ03
import Derived.Test.YtnpikgakpmkipabGreatDoorZ26
import Derived.Test.YtnpikgakpmkipabGreatDoorZ19
import Derived.Test.YtnpikgakpmkipabGreatDoorZ12
import Derived.Test.YtnpikgakpmkipabGreatDoorZ21
namespace Go.Proofs.YtnpikgakpmkipabGreatDoor
open Go.RowKit Go.Lib
set_option maxRecDepth 100000
set_option linter.unusedSimpArgs false
set_option linter.unusedVariables false
structure OwC (w : World) (B : Nat) (c : Cor) (qv bv sv kv cv : Value) : Prop where
 q : OQc w B qv c.queues
 b : OBc w B bv c.binds
 s : OSc w B sv c.subs
 k : OKc w B kv c.kept
 c : OCw w B cv c.clients
def nilV (n : Int) : Value := .tuple #[.agg #[.int .i64 0, .slice none 0 0, .slice none 0 0, .slice none 0 0, .slice none 0 0, .slice none 0 0], .slice none 0 0, .int .i64 n]
def DoA (w : World) (c : Cor) (o : Opr) (e : Ending) (w' : World) : Prop :=
 ((∃ r qv bv sv kv cv ov, doC c o = .ok r ∧ e = .returned (.tuple #[corV r.1 qv bv sv kv cv, ov, .int .i64 0]) ∧ OwC w' w.heap.size r.1 qv bv sv kv cv ∧ OOc w' w.heap.size ov r.2) ∨ (∃ n, doC c o = .error n ∧ n ≠ 0 ∧ e = .returned (nilV n))) ∧ Below w.heap.size w w'
theorem ret30t {fn : Func} {p u u2 : Tmp} {tmps : Array Value} {W : World} {g : Nat} {cs : Array Value} {v v2 : Value} {R : Ending → World → Prop} (hf : fn.results = #[.cell p 30, .tmp u, .tmp u2]) (h : Blk W g cs 30) (hs : cs.size = 6)
  (hp : tmps.getD p undef = .pointer (some ⟨g, 0, none⟩)) (hu : tmps.getD u undef = v) (hu2 : tmps.getD u2 undef = v2) (hR : R (.returned (.tuple #[.agg cs, v, v2])) W) : bodyPost Tryz.prog fn R .ret { tmps := tmps, defers := [] } W := by
 refine bodyPost_ret (v := .tuple #[.agg cs, v, v2]) ?_ rfl hR
 have e1 := run_loadVar_row (P := Tryz.prog) W g 30 30 cs (0, 0) _ h.h Tryz.underlying30 rfl (by rw [hs]; kernel_rfl)
 have hp' : tmps[p]?.getD undef = .pointer (some ⟨g, 0, none⟩) := by simpa using hp
 have hu' : tmps[u]?.getD undef = v := by simpa using hu
 have hu2' : tmps[u2]?.getD undef = v2 := by simpa using hu2
 simp [results, hf, hp', hu', hu2', asAddr, e1]
theorem opF_some {k : Int} (h : 1 ≤ k ∧ k ≤ 14) : ∃ f, opF k = .func (.func f) #[] #[] := by
 have hk' : k = 1 ∨ k = 2 ∨ k = 3 ∨ k = 4 ∨ k = 5 ∨ k = 6 ∨ k = 7 ∨ k = 8 ∨ k = 9 ∨ k = 10 ∨ k = 11 ∨ k = 12 ∨ k = 13 ∨ k = 14 := by omega
 rcases hk' with h | h | h | h | h | h | h | h | h | h | h | h | h | h <;> subst h <;> exact ⟨_, rfl⟩
def NZ {α : Type} (x : Except Int α) : Prop := ∀ n, x = .error n → n ≠ 0
theorem nz_ok {α : Type} (a : α) : NZ (.ok a : Except Int α) := fun n h => by cases h
theorem nz_err {α : Type} {m : Int} (hm : m ≠ 0) : NZ (.error m : Except Int α) := fun n h => by injection h with h; omega
theorem nz_ins {β : Type} {b : Bool} {n : Int} {k : Except Int β} (hn : n ≠ 0) (hk : NZ k) : NZ (ins b n k) := by
 unfold ins
 split
 ·exact hk
 ·exact nz_err hn
theorem nz_bnd {α β : Type} {x : Except Int α} {f : α → Except Int β} (hx : NZ x) (hf : ∀ a, NZ (f a)) : NZ (bnd x f) := by
 cases x with
 | error n => exact nz_err (hx n rfl)
 | ok a => exact hf a
theorem nz_sure {β : Type} {n : Int} {k : β} : NZ (sureE n k) := by
 unfold sureE
 split
 ·exact nz_ok _
 ·rename_i h
  exact nz_err h
theorem nz_ite {β : Type} {p : Prop} [Decidable p] {x y : Except Int β} (hx : NZ x) (hy : NZ y) : NZ (if p then x else y) := by
 split
 ·exact hx
 ·exact hy
theorem nz_noO {x : Except Int Cor} (h : NZ x) : NZ (noO x) := nz_bnd h fun _ => nz_ok _
theorem nz_en {α : Type} {o : α → α → Int} {most : Int} {x : α} {l : List α} : NZ (enE o most x l) := nz_ins (by decide) (nz_ok _)
theorem nz_named {c : Cor} {n : List UInt8} : NZ (namedC c n) := by
 unfold namedC
 split
 ·exact nz_ok _
 ·exact nz_err (by decide)
theorem nz_map {f : Que → Except Int Que} (hf : ∀ q, NZ (f q)) : ∀ l, NZ (mapE f l)
 | [] => nz_ok _
 | q :: l => nz_bnd (hf q) fun _ => nz_bnd (nz_map hf l) fun _ => nz_ok _
theorem nz_hand {q : Que} {conn sub : Int} {hold : Bool} : NZ (handQ q conn sub hold) := nz_sure
theorem nz_pumpQ {subs : List Sbs} : ∀ (n : Nat) (q : Que), NZ (pumpQ subs n q)
 | 0, q => nz_ok _
 | n + 1, q => by
  unfold pumpQ
  split
  ·exact nz_ok _
  ·split
   ·exact nz_ok _
   ·exact nz_bnd nz_hand fun _ => nz_bnd (nz_pumpQ n _) fun _ => nz_ok _
theorem nz_pumpL {subs : List Sbs} {now : Int} : ∀ l, NZ (pumpL subs now l)
 | [] => nz_ok _
 | q :: l => nz_bnd (nz_bnd nz_sure fun _ => nz_pumpQ _ _) fun _ => nz_bnd (nz_pumpL l) fun _ => nz_ok _
theorem nz_pump {c : Cor} : NZ (pumpC c) := nz_bnd (nz_pumpL _) fun _ => nz_ok _
theorem nz_retain {c : Cor} {m : Msg} : NZ (retainC c m) := nz_ite (nz_ok _) (nz_bnd nz_en fun _ => nz_ok _)
theorem nz_pub2 {c : Cor} {o : Opr} : NZ (publish2 c o) :=
 nz_ins (by decide) (nz_bnd (nz_ite (nz_ok _) (nz_bnd (nz_map (fun q => by unfold pushE; exact nz_ite nz_sure (nz_ok _)) _) fun _ => nz_ok _)) fun _ => nz_ite nz_retain (nz_ok _))
theorem nz_new {c : Cor} {n : List UInt8} {pk : Int} : NZ (isNewC c n pk) := nz_ins (by decide) (nz_ins (by decide) (nz_ite (nz_ok _) (nz_bnd nz_en fun _ => nz_bnd nz_en fun _ => nz_ok _)))
theorem nz_declare {c : Cor} {o : Opr} : NZ (declareC c o) := by
 unfold declareC
 split
 ·exact nz_ins (by decide) (nz_ok _)
 ·exact nz_bnd nz_sure fun _ => nz_bnd nz_en fun _ => nz_ok _
theorem nz_release {c : Cor} {o : Opr} : NZ (releaseC c o) := by
 unfold releaseC
 refine nz_ins (by decide) ?_
 split
 ·exact nz_ok _
 ·exact nz_ite (nz_ins (by decide) (nz_ok _)) (nz_ok _)
theorem nz_unsub {c : Cor} {o : Opr} : NZ (unsubscribeC c o) := by
 unfold unsubscribeC
 split
 ·exact nz_err (by decide)
 ·exact nz_bnd nz_named fun _ => nz_bnd nz_sure fun _ => nz_ok _
theorem nz_settle {c : Cor} {o : Opr} {b : Bool} : NZ (settleK c o b) := nz_bnd nz_named fun _ => nz_bnd nz_sure fun _ => nz_ok _
theorem nz_act {c : Cor} {o : Opr} : NZ (actC c o) := by
 unfold actC
 refine nz_ite (nz_noO nz_declare) (nz_ite (nz_noO (nz_ins (by decide) (nz_ok _))) (nz_ite ?_ (nz_ite (nz_noO (nz_ins (by decide) (nz_ok _))) (nz_ite (nz_noO ?_) (nz_ite (nz_noO nz_release) (nz_ite (nz_noO (nz_ins (by decide) (nz_ok _))) (nz_ite (nz_noO ?_) (nz_ite (nz_noO nz_unsub) (nz_ite ?_ (nz_ite (nz_noO nz_settle) (nz_ite (nz_noO nz_settle) (nz_ite (nz_noO ?_) (nz_noO (nz_ins (by decide) (nz_ok _)))))))))))))))
 ·exact nz_ins (by decide) (nz_ins (by decide) (nz_bnd nz_en fun _ => nz_ite (nz_ins (by decide) (nz_ok _)) (nz_ok _)))
 ·exact nz_ins (by decide) (nz_ite nz_pub2 (nz_bnd nz_new fun _ => nz_ite nz_pub2 (nz_ok _)))
 ·exact nz_ins (by decide) (nz_ins (by decide) (nz_ins (by decide) (nz_bnd nz_en fun _ => nz_ok _)))
 ·exact nz_ins (by decide) (nz_bnd nz_named fun _ => nz_bnd nz_sure fun _ => nz_bnd nz_hand fun _ => nz_ok _)
 ·exact nz_ins (by decide) (nz_bnd (nz_map (fun q => nz_sure) _) fun _ => nz_ok _)
theorem nz_run {c : Cor} {o : Opr} : NZ (runE c o) := nz_bnd nz_act fun _ => nz_bnd nz_pump fun _ => nz_ok _
theorem doC_run {c : Cor} {o : Opr} (hk : 1 ≤ o.kind ∧ o.kind ≤ 14) (hg : goodC c = true) : doC c o = runE c o := by
 unfold doC runE
 rw [hg]
 simp [ins, hk.1, hk.2]
structure DK (w W : World) (gc gx gr : Nat) (cs os : Array Value) : Prop where
 b : Below w.heap.size w W
 c : Blk W gc cs 30
 o : Blk W gx os 35
 r : Blk W gr coZ 30
theorem DK.on {w W W' : World} {gc gx gr : Nat} {cs os : Array Value} (h : DK w W gc gx gr cs os) (hb : Below W.heap.size W W') : DK w W' gc gx gr cs os := ⟨nxt h.b hb, h.c.on hb, h.o.on hb, h.r.on hb⟩
theorem below_set1 {W W' : World} {V0 : Value} {t : TypeId} (hg : (W.alloc (.cells #[V0] t)).grownBy W' (some W.heap.size)) : Below W.heap.size W W' := ((Below.refl W.heap.size W).alloc (Nat.le_refl _) (.cells #[V0] t)).grown hg (by simp) (fun k hk => by injection hk with hk; omega)
theorem n72 (w : World) : (binOp .eql 72 .nilFunc .nilFunc).run Tryz.prog w = .ok (.bool true) w := by kernel_rfl
theorem f72 (f : Nat) (w : World) : (binOp .eql 72 (.func (.func f) #[] #[]) .nilFunc).run Tryz.prog w = .ok (.bool false) w := by kernel_rfl
theorem ta_new {w5 : World} {B : Nat} {c : Cor} {q5 b5 s5 k5 c5 : Value} (o5 : OwnC5 w5 B c q5 b5 s5 k5 c5) (hB : B ≤ w5.heap.size) : ∃ zs, ∀ W, Below (w5.alloc (.cells #[.int .i64 c.now, q5, b5, s5, k5, c5, .slice none 0 0] 77)).heap.size (w5.alloc (.cells #[.int .i64 c.now, q5, b5, s5, k5, c5, .slice none 0 0] 77)) W → TA W B w5.heap.size c [] q5 b5 s5 k5 c5 (.slice none 0 0) zs := by
 obtain ⟨zs, ez, hz, ha⟩ := o5.c
 have b6 := (Below.refl w5.heap.size w5).alloc (Nat.le_refl _) (.cells #[.int .i64 c.now, q5, b5, s5, k5, c5, .slice none 0 0] 77)
 have k6 : KX 0 w5 (w5.alloc (.cells #[.int .i64 c.now, q5, b5, s5, k5, c5, .slice none 0 0] 77)) := .of_below b6
 have hz6 : OwnZ 88 2 (ClR (OwnNu (w5.alloc (.cells #[.int .i64 c.now, q5, b5, s5, k5, c5, .slice none 0 0] 77)) B)) (w5.alloc (.cells #[.int .i64 c.now, q5, b5, s5, k5, c5, .slice none 0 0] 77)) B c5 zs := by
  refine (hz.keep (k6.kt _ (by decide))).imp ?_
  rintro ys x ⟨pv, h3, h4⟩
  exact ⟨pv, h3, h4.keep (k6.kt _ (by decide))⟩
 refine ⟨zs, fun W hb => TA.on ⟨⟨Blk.new w5 _ 77, hB, OQc.kx o5.q k6 (by decide), OBc.kx o5.b k6 (by decide), OSc.kx o5.s k6 (by decide), OKc.kx o5.k k6 (by decide), ⟨zs, ez, hz6⟩, ⟨[], rfl, World.ownsRow_nil .., by simp⟩⟩, ez, hz6, ha.on k6.size⟩ hb⟩
theorem T.kx {e : TypeId} {w w' : World} {B g : Nat} {c : Cor} {os : List Ot} (h : T w B g c os) (k : KX e w w') (he : (tyT e = false ∧ 131 ≠ e) ∧ (133 ≠ e ∧ 66 ≠ e)) : T w' B g c os := by
 obtain ⟨qv, bv, sv, kv, cv, ov, h⟩ := h
 exact ⟨qv, bv, sv, kv, cv, ov, h.kx k he⟩
theorem Tv.owc {w : World} {B A g : Nat} {c : Cor} {os : List Ot} {qv bv sv kv cv ov : Value} (h : Tv w B g c os qv bv sv kv cv ov) (hA : A ≤ B) : OwC w A c qv bv sv kv cv ∧ OOc w A ov os :=
 ⟨⟨OwnL.low0 h.q hA (fun _ _ h => OwnQ.low h hA), OwnL.low0 h.b hA (fun _ _ h => h), OwnL.low0 h.s hA (fun _ _ h => h), OwnL.low0 h.k hA (fun _ _ ⟨pv, h4, h5⟩ => ⟨pv, h4, h5.low hA⟩), OwnL.low0 h.c hA (fun _ _ ⟨pv, h4, h5⟩ => ⟨pv, h4, h5.low hA⟩)⟩, OwnL.low0 h.o hA (fun _ _ ⟨pv, h4, h5⟩ => ⟨pv, h4, h5.low hA⟩)⟩
theorem e34 : ∀ args w, (callFunc 34 args).run Tryz.prog w = .ok (.enter 34 args) w := fun args w => by go_simp
theorem Tv.one {w : World} {B g : Nat} {c : Cor} {os : List Ot} {qv bv sv kv cv ov : Value} (h : Tv w B g c os qv bv sv kv cv ov) : (qv.oneCell' = true ∧ bv.oneCell' = true ∧ sv.oneCell' = true) ∧ kv.oneCell' = true ∧ cv.oneCell' = true ∧ ov.oneCell' = true := by
 obtain ⟨_, _, _, e1⟩ := OwnL.shape h.q
 obtain ⟨_, _, _, e2⟩ := OwnL.shape h.b
 obtain ⟨_, _, _, e3⟩ := OwnL.shape h.s
 obtain ⟨_, _, _, e4⟩ := OwnL.shape h.k
 obtain ⟨_, _, _, e5⟩ := OwnL.shape h.c
 obtain ⟨_, _, _, e6⟩ := OwnL.shape h.o
 subst e1 e2 e3 e4 e5 e6
 exact ⟨⟨rfl, rfl, rfl⟩, rfl, rfl, rfl⟩
set_option maxHeartbeats 4000000 in
theorem do_any (w : World) (hV : To.Vars w) (v : Value) (c : Cor) (hc : RdC w v c) (hs : SmC c ∧ SmK c) (o : Opr) (pv : Value) (ho : OpOk w.heap.size w o pv) :
  Calls Tryz.prog 10 #[v, opV o pv] w fun e w' => DoA w c o e w' := by
 obtain ⟨qv, bv, sv, kv, cv, rfl, hc⟩ := hc
 have HC : Hid (RdC5 w c qv bv sv kv cv ∧ (SmC c ∧ SmK c) ∧ OpOk w.heap.size w o pv ∧ To.Vars w) := ⟨hc, hs, ho, hV⟩
 clear hc hs ho hV
 unfold corV opV
 have hK0 : DK w (((w.alloc (.cells #[.int .i64 c.now, qv, bv, sv, kv, cv] 30)).alloc (.cells (opA o pv) 35)).alloc (.cells coZ 30)) w.heap.size (w.heap.size + 1) (w.heap.size + 1 + 1) #[.int .i64 c.now, qv, bv, sv, kv, cv] (opA o pv) := by
  refine ⟨(((Below.refl _ w).alloc (Nat.le_refl _) _).alloc (by simp) _).alloc (by simp; omega) _, ((Blk.new w _ 30).alloc _).alloc _, ?_, ?_⟩
  ·have h := (Blk.new (w.alloc (.cells #[.int .i64 c.now, qv, bv, sv, kv, cv] 30)) (opA o pv) 35).alloc (.cells coZ 30)
   rw [World.size_alloc] at h
   exact h
  ·have h := Blk.new ((w.alloc (.cells #[.int .i64 c.now, qv, bv, sv, kv, cv] 30)).alloc (.cells (opA o pv) 35)) coZ 30
   rw [World.size_alloc, World.size_alloc] at h
   exact h
 go_enter Tryz.func10, Tryz.ntmps10
 go_upto_region 1 with fail
 generalize ((w.alloc (.cells #[.int .i64 c.now, qv, bv, sv, kv, cv] 30)).alloc (.cells (opA o pv) 35)).alloc (.cells coZ 30) = w1 at *
 obtain ⟨gr, egr⟩ : ∃ x, w.heap.size + 1 + 1 = x := ⟨_, rfl⟩
 rw [egr] at hK0 ⊢
 obtain ⟨gx, egx⟩ : ∃ x, w.heap.size + 1 = x := ⟨_, rfl⟩
 rw [egx] at hK0 egr ⊢
 obtain ⟨gc, egc⟩ : ∃ x, w.heap.size = x := ⟨_, rfl⟩
 have HG : Hid (w.heap.size ≤ gc ∧ w.heap.size ≤ gx ∧ w.heap.size ≤ gr) := ⟨by omega, by omega, by omega⟩
 have hK1 : DK w w1 gc gx gr #[.int .i64 c.now, qv, bv, sv, kv, cv] (opA o pv) := by rw [← egc]; exact hK0
 rw [egc]
 clear egr egx hK0 egc
 have d0 : w1.cell? ⟨gx, 0, none⟩ = some (.int .i64 o.kind) := hK1.o.cell 0
 have H1 := operation_any w1 o.kind
 have K1 : Hid (DK w w1 gc gx gr #[.int .i64 c.now, qv, bv, sv, kv, cv] (opA o pv)) := hK1
 clear hK1
 go_wp2_with fail
 refine H1.mono ?_
 rintro e w2 ⟨rfl, b2⟩
 clear H1 d0
 have K2 : Hid (DK w w2 gc gx gr #[.int .i64 c.now, qv, bv, sv, kv, cv] (opA o pv)) := K1.out.on b2
 clear K1 b2
 by_cases hk : 1 ≤ o.kind ∧ o.kind ≤ 14
 rotate_left
 ·rw [opF_out (by omega)]
  have HD : Hid (doC c o = .error 1) := by
   show doC c o = _
   have h1 : (decide (1 ≤ o.kind) && decide (o.kind ≤ 14)) = false := by
    rw [Bool.eq_false_iff]
    intro h
    simp only [Bool.and_eq_true, decide_eq_true_eq] at h
    exact hk h
   unfold doC
   rw [h1]
   rfl
  clear hk
  go_wp2_with (refine wpl_set rfl (.tmp 7) (.tmp 12) rfl w2.heap.size 0 _ rfl rfl (Blk.new w2 #[.nilFunc] 72) (by kernel_rfl) rfl rfl (by decide) ?_)
  intro w3 k3 g3 s3
  have K3 : Hid (DK w w3 gc gx gr #[.int .i64 c.now, qv, bv, sv, kv, cv] (opA o pv)) := K2.out.on (below_set1 g3)
  have c3 : w3.cell? ⟨w2.heap.size, 0, none⟩ = some .nilFunc := k3.cell 0
  have n3 := n72 w3
  obtain ⟨ga, ega⟩ : ∃ x, w2.heap.size = x := ⟨_, rfl⟩
  rw [ega] at c3 ⊢
  clear ega K2 k3 g3 s3
  go_wp2_with (refine wpl_put rfl (.tmp 4) (.tmp 20) rfl gr _ rfl rfl K3.out.r (by kernel_rfl) rfl (by simp [Value.oneCell']) ?_)
  intro w9 k9 g9 s9
  go_wp2_with fail
  exact ret30t rfl k9 rfl rfl rfl rfl ⟨.inr ⟨1, HD.out, by decide, rfl⟩, K3.out.b.grown g9 K3.out.b.size (fun k hk => by injection hk with hk; have := HG.out; omega)⟩
 obtain ⟨f, hf⟩ := opF_some hk
 rw [hf]
 have HK : Hid ((1 ≤ o.kind ∧ o.kind ≤ 14) ∧ opF o.kind = .func (.func f) #[] #[]) := ⟨hk, hf⟩
 clear hk hf
 go_wp2_with (refine wpl_set rfl (.tmp 7) (.tmp 12) rfl w2.heap.size 0 _ rfl rfl (Blk.new w2 #[.nilFunc] 72) (by kernel_rfl) rfl rfl (by decide) ?_)
 intro w3 k3 g3 s3
 have K3 : Hid (DK w w3 gc gx gr #[.int .i64 c.now, qv, bv, sv, kv, cv] (opA o pv)) := K2.out.on (below_set1 g3)
 have kA : Blk w3 w2.heap.size #[.func (.func f) #[] #[]] 72 := by simpa using k3
 obtain ⟨ga, ega⟩ : ∃ x, w2.heap.size = x := ⟨_, rfl⟩
 rw [ega] at kA ⊢
 clear ega K2 k3 g3 s3
 have c3 : w3.cell? ⟨ga, 0, none⟩ = some (.func (.func f) #[] #[]) := kA.cell 0
 have n3 := f72 f w3
 obtain ⟨d0, d1, d2, d3, d4, d5⟩ := K3.out.c.c6
 have H1 := goodCore_any w3 (HC.out.2.2.2.below K3.out.b) _ c ⟨qv, bv, sv, kv, cv, rfl, HC.out.1.on K3.out.b⟩ HC.out.2.1.1
 unfold corV at H1
 have KA : Hid (Blk w3 ga #[.func (.func f) #[] #[]] 72) := kA
 clear kA
 go_wp2_with fail
 refine H1.mono ?_
 rintro e w4 ⟨rfl, b4⟩
 have K4 : Hid (DK w w4 gc gx gr #[.int .i64 c.now, qv, bv, sv, kv, cv] (opA o pv)) := K3.out.on b4
 have KB : Hid (Blk w4 ga #[.func (.func f) #[] #[]] 72) := KA.out.on b4
 clear H1 c3 d0 d1 d2 d3 d4 d5 K3 KA b4
 have K3 := K4
 clear K4
 cases hgc : goodC c
 ·have HD : Hid (doC c o = .error 1) := by
   show doC c o = _
   unfold doC
   rw [hgc]
   simp [ins]
  clear hgc
  go_wp2_with (refine wpl_put rfl (.tmp 4) (.tmp 20) rfl gr _ rfl rfl K3.out.r (by kernel_rfl) rfl (by simp [Value.oneCell']) ?_)
  intro w9 k9 g9 s9
  go_wp2_with fail
  exact ret30t rfl k9 rfl rfl rfl rfl ⟨.inr ⟨1, HD.out, by decide, rfl⟩, K3.out.b.grown g9 K3.out.b.size (fun k hk => by injection hk with hk; have := HG.out; omega)⟩
 have HGC : Hid (goodC c = true) := hgc
 clear hgc
 go_upto_region 4 with fail
 obtain ⟨d0, d1, d2, d3, d4, d5⟩ := K3.out.c.c6
 have H1 := copyC_any w4 _ c ⟨qv, bv, sv, kv, cv, rfl, HC.out.1.on K3.out.b⟩ HC.out.2.1.2
 unfold corV at H1
 go_wp2_with fail
 refine H1.mono ?_
 rintro e w5 ⟨q5, b5, s5, k5, c5, rfl, o5, hb5⟩
 clear H1 d0 d1 d2 d3 d4 d5
 obtain ⟨⟨a1, n1, m1, e1⟩, ⟨a2, n2, m2, e2⟩, ⟨a3, n3', m3, e3⟩, ⟨a4, n4, m4, e4⟩⟩ := And.intro (OwnL.shape o5.q) (And.intro (OwnL.shape o5.b) (And.intro (OwnL.shape o5.s) (OwnL.shape o5.k)))
 obtain ⟨a5, n5, m5, e5⟩ : ∃ a n m, c5 = Value.slice a n m := by
  obtain ⟨zs, _, hz, _⟩ := o5.c
  obtain ⟨a, m, e⟩ := hz.rd.len
  exact ⟨a, _, m, e⟩
 obtain ⟨zs, hTA⟩ := ta_new o5 hb5.size
 have kT0 : Blk ((w5.alloc (.cells #[.int .i64 c.now, q5, b5, s5, k5, c5, .slice none 0 0] 77)).alloc (.cells #[.pointer none] 75)) (w5.heap.size + 1) #[.pointer none] 75 := by
  have h := Blk.new (w5.alloc (.cells #[.int .i64 c.now, q5, b5, s5, k5, c5, .slice none 0 0] 77)) #[.pointer none] 75
  rw [World.size_alloc] at h
  exact h
 have HO5 : Hid (Below w4.heap.size w4 w5 ∧ ∀ W, Below (w5.alloc (.cells #[.int .i64 c.now, q5, b5, s5, k5, c5, .slice none 0 0] 77)).heap.size (w5.alloc (.cells #[.int .i64 c.now, q5, b5, s5, k5, c5, .slice none 0 0] 77)) W → TA W w4.heap.size w5.heap.size c [] q5 b5 s5 k5 c5 (.slice none 0 0) zs) := ⟨hb5, hTA⟩
 clear o5 hb5 hTA
 subst e1 e2 e3 e4 e5
 go_wp2_with (refine wpl_set rfl (.tmp 8) (.tmp 24) rfl (w5.heap.size + 1) 0 _ rfl rfl kT0 (by kernel_rfl) rfl rfl (by decide) ?_)
 intro w7 k7 g7 s7
 have b67 : Below (w5.alloc (.cells #[.int .i64 c.now, .slice a1 n1 m1, .slice a2 n2 m2, .slice a3 n3' m3, .slice a4 n4 m4, .slice a5 n5 m5, .slice none 0 0] 77)).heap.size (w5.alloc (.cells #[.int .i64 c.now, .slice a1 n1 m1, .slice a2 n2 m2, .slice a3 n3' m3, .slice a4 n4 m4, .slice a5 n5 m5, .slice none 0 0] 77)) w7 := below_set1 (by rw [World.size_alloc]; exact g7)
 have b57 : Below w5.heap.size w5 w7 := nxt ((Below.refl w5.heap.size w5).alloc (Nat.le_refl _) _) b67
 have hT7 := HO5.out.2 w7 b67
 have b47 : Below w4.heap.size w4 w7 := nxt HO5.out.1 b57
 have kT : Blk w7 (w5.heap.size + 1) #[.pointer (some ⟨w5.heap.size, 0, none⟩)] 75 := by simpa using k7
 have K7 : Hid (DK w w7 gc gx gr #[.int .i64 c.now, qv, bv, sv, kv, cv] (opA o pv)) := K3.out.on b47
 have KC : Hid (Blk w7 ga #[.func (.func f) #[] #[]] 72) := KB.out.on b47
 obtain ⟨B, eB⟩ : ∃ x, w4.heap.size = x := ⟨_, rfl⟩
 rw [eB] at hT7 b47
 have HB : Hid (w.heap.size ≤ B) := by
  show w.heap.size ≤ B
  rw [← eB]
  exact K3.out.b.size
 have HV : Hid (VB B w7) := by
  show VB B w7
  rw [← eB]
  exact (VB.of (HC.out.2.2.2.below K3.out.b)).on (by rw [eB]; exact b47)
 have HR : Hid (OpOk B w7 o pv) := ⟨HC.out.2.2.1.one, fun W hb => HC.out.2.2.1.rd W (nxt K3.out.b (by rw [eB]; exact b47.trans hb)), HC.out.2.2.1.len, HC.out.2.2.1.n⟩
 obtain ⟨g, eg⟩ : ∃ x, w5.heap.size = x := ⟨_, rfl⟩
 obtain ⟨gt, egt⟩ : ∃ x, w5.heap.size + 1 = x := ⟨_, rfl⟩
 rw [egt] at kT
 rw [eg] at kT hT7
 rw [egt]
 clear eg egt eB b47 b57 b67 HO5 k7 g7 s7 kT0 K3 KB
 have HT7 : Hid (TA w7 B g c [] (.slice a1 n1 m1) (.slice a2 n2 m2) (.slice a3 n3' m3) (.slice a4 n4 m4) (.slice a5 n5 m5) (.slice none 0 0) zs ∧ Blk w7 gt #[.pointer (some ⟨g, 0, none⟩)] 75) := ⟨hT7, kT⟩
 clear hT7 kT
 have H33 := guarded_any 34 e34 #[.pointer (some ⟨ga, 0, none⟩), .pointer (some ⟨gt, 0, none⟩), .pointer (some ⟨gx, 0, none⟩)] w7 (fun W => ∃ r, runE c o = .ok r ∧ T W B g r.1 r.2 ∧ FrT B (w7.alloc (.cells #[.int .i64 0] 37)) W) (fun n W => runE c o = .error n ∧ FrT B (w7.alloc (.cells #[.int .i64 0] 37)) W) (by
  have b8 := (Below.refl w7.heap.size w7).alloc (Nat.le_refl _) (.cells #[.int .i64 0] 37)
  have k8 := Blk.new w7 #[.int .i64 0] 37
  have hB8 : B ≤ w7.heap.size := HT7.out.1.t.lt
  refine (do1_any _ B g ga gt gx c _ _ _ _ _ _ zs (HT7.out.1.on b8) ((goodC_iff c).1 HGC.out) (HV.out.on (b8.mono hB8)) o pv ⟨HR.out.one, fun W hb => HR.out.rd W ((b8.mono hB8).trans hb), HR.out.len, HR.out.n⟩ HK.out.1 (by rw [HK.out.2]; exact KC.out.on b8) (HT7.out.2.on b8) (K7.out.o.on b8)).mono ?_
  rintro e W h
  rcases h with ⟨r, h1, he, h3, h4⟩ | ⟨n, h1, he, h4⟩
  ·have kc := k8.kt (h4.kt 37 rfl)
   exact ⟨⟨kc.cell 0, kc.frozen 0⟩, .inl ⟨he, r, h1, by simpa using h3, h4⟩⟩
  ·have kc := k8.kt (h4.kt 37 rfl)
   exact ⟨⟨kc.cell 0, kc.frozen 0⟩, .inr ⟨n, he, h1, h4⟩⟩)
 have HF : Hid (∀ W (u : Value), FrT B (w7.alloc (.cells #[.int .i64 0] 37)) W → (Below w.heap.size w (W.setCell ⟨w7.heap.size, 0, none⟩ u) ∧ KX 37 W (W.setCell ⟨w7.heap.size, 0, none⟩ u)) ∧ Blk (W.setCell ⟨w7.heap.size, 0, none⟩ u) gr coZ 30 ∧ Blk (W.setCell ⟨w7.heap.size, 0, none⟩ u) gt #[.pointer (some ⟨g, 0, none⟩)] 75) := fun W u hf => by
  have b8 := (Below.refl w7.heap.size w7).alloc (Nat.le_refl _) (.cells #[.int .i64 0] 37)
  have k8 := (Blk.new w7 #[.int .i64 0] 37).kt (hf.kt 37 rfl)
  have hB7 : w.heap.size ≤ w7.heap.size := K7.out.b.size
  have h1 := (nxt K7.out.b b8).trans (hf.below.mono HB.out)
  exact ⟨⟨h1.setCell (p := ⟨w7.heap.size, 0, none⟩) hB7 u, .cell k8 u⟩, ((K7.out.r.on b8).kt (hf.kt 30 rfl)).kt (kt_setCell k8 (by decide) u), ((HT7.out.2.on b8).kt (hf.kt 75 rfl)).kt (kt_setCell k8 (by decide) u)⟩
 have hmf : ∀ (fn : Fn) (first cap : Array Value) (w : World), (Instr.makeFunc fn first cap).run Tryz.prog w = .ok (.func fn first cap) w := fun _ _ _ _ => rfl
 clear HT7 HV HR KC K7
 go_wp2_with fail
 refine H33.mono ?_
 rintro e w9 h9
 clear H33
 rcases h9 with ⟨rfl, W, ⟨r, hr, T9, F9⟩, he⟩ | ⟨n, rfl, W, ⟨hr, F9⟩, he⟩
 rotate_left
 ·have hF := HF.out W (.int .i64 n) F9
  rw [← he] at hF
  have hn : ¬ n = 0 := nz_run n hr
  have HD : Hid (doC c o = .error n ∧ n ≠ 0) := ⟨by rw [doC_run HK.out.1 HGC.out, hr], hn⟩
  have kr := hF.2.1
  have HF9 : Hid (Below w.heap.size w w9) := hF.1.1
  clear hF he F9 hr HF
  go_wp2_with (refine wpl_put rfl (.tmp 4) (.tmp 29) rfl gr _ rfl rfl kr (by kernel_rfl) rfl (by simp [Value.oneCell']) ?_)
  intro wE kE gE sE
  go_wp2_with fail
  exact ret30t rfl kE rfl rfl rfl rfl ⟨.inr ⟨n, HD.out.1, HD.out.2, rfl⟩, HF9.out.grown gE HF9.out.size (fun k hk => by injection hk with hk; have := HG.out; omega)⟩
 have hF := HF.out W (.int .i64 0) F9
 have T9' := T9.kx hF.1.2 (by decide)
 rw [← he] at hF T9'
 obtain ⟨q9, b9, s9, k9, c9, o9, T9''⟩ := T9'
 have HD : Hid (doC c o = .ok r) := by
  show doC c o = _
  rw [doC_run HK.out.1 HGC.out, hr]
 have H9 : Hid (Tv w9 B g r.1 r.2 q9 b9 s9 k9 c9 o9 ∧ Below w.heap.size w w9 ∧ Blk w9 gr coZ 30 ∧ Blk w9 gt #[.pointer (some ⟨g, 0, none⟩)] 75) := ⟨T9'', hF.1.1, hF.2.1, hF.2.2⟩
 clear hF he F9 hr HF T9 T9''
 go_upto_region 8 with fail
 refine rh (fun W => Blk W g #[.int .i64 r.1.now, q9, b9, s9, k9, c9, o9] 77 ∧ Blk W gt #[.pointer (some ⟨g, 0, none⟩)] 75) ?_
 have hS : Blk (World.drew w9) g #[.int .i64 r.1.now, q9, b9, s9, k9, c9, o9] 77 ∧ Blk (World.drew w9) gt #[.pointer (some ⟨g, 0, none⟩)] 75 := ⟨⟨H9.out.1.blk.h⟩, ⟨H9.out.2.2.2.h⟩⟩
 have h9 : Tv (World.drew w9) B g r.1 r.2 q9 b9 s9 k9 c9 o9 ∧ Below w.heap.size w (World.drew w9) := ⟨H9.out.1.drew, H9.out.2.1.drew⟩
 have kr : Blk (World.drew w9) gr coZ 30 := ⟨H9.out.2.2.1.h⟩
 have h1 := h9.1.one
 clear H9
 generalize World.drew w9 = wD at *
 refine tks [0, 1, 2, 3, 4, 5, 6, 7] [.pointer (some ⟨g, 0, none⟩), .pointer (some ⟨g, 0, none⟩), .pointer (some ⟨g, 0, none⟩), .agg #[.int .i64 r.1.now, q9, b9, s9, k9, c9], .pointer (some ⟨g, 0, none⟩), .pointer (some ⟨g, 0, none⟩), .pointer (some ⟨g, 6, none⟩), o9] 3 ?_ hS ?_
 ·simp only [tkY, tkf]
  refine ⟨.yes ?_, .yes ?_, .yes ?_, .yes ?_, .yes ?_, .yes ?_, .yes ?_, .yes ?_, trivial⟩
  all_goals
   intro W' hW'
   have := hW'.2.ce 0
   have := hW'.1.ce 0
   have := hW'.1.ce 1
   have := hW'.1.ce 2
   have := hW'.1.ce 3
   have := hW'.1.ce 4
   have := hW'.1.ce 5
   have := hW'.1.ce 6
   go_simp
 simp only [tkA, tkf]
 refine ak 8 fun K hK => ?_
 refine opw_putAt (.tmp 4) (.tmp 34) rfl gr 0 #[.int .i64 r.1.now, q9, b9, s9, k9, c9] rfl ?_ kr (by kernel_rfl) (by simp) (by simp [h1.1.1, h1.1.2.1, h1.1.2.2, h1.2.1, h1.2.2.1, show (Value.int .i64 r.1.now).oneCell' = true from rfl]) ?_
 ·skip
  simp only [Act.eval, Act.put]
  rfl
 intro w10 k10 g10 s10
 refine hK _ _ ⟨hS.1.kt (kt_grown kr g10 (by decide)), hS.2.kt (kt_grown kr g10 (by decide))⟩ ?_
 have hS' := And.intro (hS.1.kt (kt_grown kr g10 (by decide))) (hS.2.kt (kt_grown kr g10 (by decide)))
 clear hK K hS
 have hS := hS'
 clear hS'
 try simp only [tkf]
 refine tks [9, 10] [o9, .int .i64 0] 0 ?_ hS ?_
 ·simp only [tkY, tkf]
  refine ⟨.yes ?_, .yes ?_, trivial⟩
  all_goals
   intro W' hW'
   go_simp
 simp only [tkA, tkf]
 refine ad ?_
 have k10' : Blk w10 gr #[.int .i64 r.1.now, q9, b9, s9, k9, c9] 30 := by simpa using k10
 have T10 := h9.1.kx (KX.put kr g10) (by decide)
 have HX : Hid (DoA w c o (.returned (.tuple #[corV r.1 q9 b9 s9 k9 c9, o9, .int .i64 0])) w10) := ⟨.inl ⟨r, q9, b9, s9, k9, c9, o9, HD.out, rfl, (T10.owc HB.out).1, (T10.owc HB.out).2⟩, h9.2.grown g10 h9.2.size (fun k hk => by injection hk with hk; have := HG.out; omega)⟩
 clear h9 kr T10 g10 s10 k10 hS
 go_wp2_with fail
 exact ret30t rfl k10' rfl rfl rfl rfl HX.out
theorem OwC.kx {w w' : World} {B : Nat} {c : Cor} {qv bv sv kv cv : Value} (h : OwC w B c qv bv sv kv cv) {e : TypeId} (k : KX e w w') (he : ((82 ≠ e ∧ 131 ≠ e) ∧ (133 ≠ e ∧ 66 ≠ e)) ∧ (43 ≠ e ∧ 85 ≠ e) ∧ (33 ≠ e ∧ 88 ≠ e) ∧ 3 ≠ e) : OwC w' B c qv bv sv kv cv :=
 ⟨h.q.kx k he.1, h.b.kx k he.2.1.1, h.s.kx k he.2.1.2, h.k.kx k ⟨he.2.2.1.1, he.1.2.2⟩, h.c.kx k ⟨he.2.2.1.2, he.2.2.2⟩⟩
theorem OwC.on {w w' : World} {B : Nat} {c : Cor} {qv bv sv kv cv : Value} (h : OwC w B c qv bv sv kv cv) (hb : Bw w w') : OwC w' B c qv bv sv kv cv := h.kx (e := 0) (.of_below hb) (by decide)
theorem OwC.low {w : World} {A B : Nat} {c : Cor} {qv bv sv kv cv : Value} (h : OwC w B c qv bv sv kv cv) (hA : A ≤ B) : OwC w A c qv bv sv kv cv :=
 ⟨OwnL.low0 h.q hA (fun _ _ h => OwnQ.low h hA), OwnL.low0 h.b hA (fun _ _ h => h), OwnL.low0 h.s hA (fun _ _ h => h), OwnL.low0 h.k hA (fun _ _ ⟨pv, h4, h5⟩ => ⟨pv, h4, h5.low hA⟩), OwnL.low0 h.c hA (fun _ _ ⟨pv, h4, h5⟩ => ⟨pv, h4, h5.low hA⟩)⟩
theorem OwC.rd {w : World} {B : Nat} {c : Cor} {qv bv sv kv cv : Value} (h : OwC w B c qv bv sv kv cv) : RdC5 w c qv bv sv kv cv := by
 obtain ⟨⟨zq, e1, h1⟩, ⟨zb, e2, h2⟩, ⟨zs, e3, h3⟩, ⟨zk, e4, h4⟩, ⟨zc, e5, h5⟩⟩ := h
 refine ⟨⟨zq, e1, h1.rd.imp fun _ _ h => OwnQ.rd h⟩, ⟨zb, e2, h2.rd⟩, ⟨zs, e3, h3.rd⟩, ⟨zk, e4, h4.rd.imp ?_⟩, ⟨zc, e5, h5.rd.imp ?_⟩⟩
 ·rintro vs m ⟨pv, h6, h7⟩
  exact ⟨pv, h6, h7.rd⟩
 ·rintro vs m ⟨pv, h6, zs, h7, h8⟩
  exact ⟨pv, h6, zs, h7, h8.rd⟩
theorem OwC.one {w : World} {B : Nat} {c : Cor} {qv bv sv kv cv : Value} (h : OwC w B c qv bv sv kv cv) : (qv.oneCell' = true ∧ bv.oneCell' = true ∧ sv.oneCell' = true) ∧ kv.oneCell' = true ∧ cv.oneCell' = true := by
 obtain ⟨_, _, _, e1⟩ := OwnL.shape h.q
 obtain ⟨_, _, _, e2⟩ := OwnL.shape h.b
 obtain ⟨_, _, _, e3⟩ := OwnL.shape h.s
 obtain ⟨_, _, _, e4⟩ := OwnL.shape h.k
 obtain ⟨_, _, _, e5⟩ := OwnL.shape h.c
 subst e1 e2 e3 e4 e5
 exact ⟨⟨rfl, rfl, rfl⟩, rfl, rfl⟩
theorem owc_zero (w : World) (B : Nat) : OwC w B zeroC (.slice none 0 0) (.slice none 0 0) (.slice none 0 0) (.slice none 0 0) (.slice none 0 0) :=
 ⟨⟨[], rfl, World.ownsRow_nil .., by simp⟩, ⟨[], rfl, World.ownsRow_nil .., by simp⟩, ⟨[], rfl, World.ownsRow_nil .., by simp⟩, ⟨[], rfl, World.ownsRow_nil .., by simp⟩, ⟨[], rfl, World.ownsRow_nil .., by simp⟩⟩
theorem props16 {m : Msg} (h : msgB m = true) : m.props.length ≤ 16 := by
 simp only [msgB, Bool.and_eq_true] at h
 have h1 := h.1.2
 unfold validL at h1
 simp only [Bool.and_eq_true, decide_eq_true_eq] at h1
 omega
theorem small_good {q : Que} (h : goodQ q = true) : Small q := by
 have hp := (goodQ_iff q).1 h
 have h2 := hp.len
 have h3 := hp.dep
 simp only [depB, Bool.and_eq_true, decide_eq_true_eq] at h3
 unfold lenQ at h2
 refine ⟨by omega, by omega, fun x hx => ?_, fun x hx => ?_⟩
 ·have := hp.it x hx
  simp only [itmB, Bool.and_eq_true] at this
  have := props16 this.2
  omega
 ·have := hp.ht x hx
  simp only [hldB, itmB, Bool.and_eq_true] at this
  have h4 : msgB x.itm.msg = true := by simp_all
  have := props16 h4
  omega
theorem sm_good {c : Cor} (h : GoodC c) : SmC c ∧ SmK c := by
 have h1 := h.ql
 have h2 := h.bl
 have h3 := h.sl
 have h4 := h.kl
 have h5 := h.cl
 have hq : ∀ q ∈ c.queues, lenQ q ≤ 1000000 := fun q hq => by
  obtain ⟨i, hi, rfl⟩ := List.getElem_of_mem hq
  exact good_len h hi
 have hc : ∀ k ∈ c.clients, k.packets.length ≤ 100000 := fun k hk => by
  have := (cliB_parts.1 (h.cg k hk)).2.2.1
  omega
 refine ⟨⟨by omega, by omega, by omega, by omega, by omega, hq, fun k hk => ?_⟩, ⟨by omega, by omega, by omega, by omega, by omega, fun q hq => small_good (h.qg q hq), fun m hm => ?_, hc⟩⟩
 ·have := hc k hk
  omega
 ·have h6 := h.kg m hm
  simp only [kepB, Bool.and_eq_true] at h6
  have := props16 h6.1
  omega
theorem do_good (w : World) (hV : To.Vars w) (B : Nat) (c : Cor) (qv bv sv kv cv : Value) (hc : OwC w B c qv bv sv kv cv) (hg : GoodC c) (o : Opr) (pv : Value) (ho : OpOk w.heap.size w o pv) :
  Calls Tryz.prog 10 #[corV c qv bv sv kv cv, opV o pv] w fun e w' => DoA w c o e w' := do_any w hV _ c ⟨_, _, _, _, _, rfl, hc.rd⟩ (sm_good hg) o pv ho
def opL (o : Opr) (pv : Value) : List Value := [.int .i64 o.kind, .int .i64 o.conn, .int .i64 o.sub, .int .i64 o.n, tx o.queue, tx o.text, .bool o.dur, .bool o.auto, .bool o.keep, tx o.msg.topic, tx o.msg.body, pv, .bool o.msg.dur, .int .i64 o.msg.til]
def InO (o : Opr) : Prop := (-9223372036854775808 ≤ o.n ∧ o.n ≤ 9223372036854775807) ∧ o.msg.props.length ≤ 2513169434916
def OpR (w : World) (vs : List Value) (o : Opr) : Prop := ∃ pv, vs = opL o pv ∧ RdP w pv o.msg.props
def RdOs (w : World) (v : Value) (zs : Zs Opr) : Prop := RdZ 14 (OpR w) w v zs ∧ ∀ z ∈ zs, InO z.2
theorem RdOs.at {w : World} {a : Option Addr} {n c : Nat} {zs : Zs Opr} (h : RdOs w (.slice a n c) zs) {i : Nat} (hi : i < zs.length) :
  ∃ b o pv, a = some ⟨b, o, none⟩ ∧ RdP w pv (zs[i]).2.msg.props ∧ InO (zs[i]).2 ∧ ∀ W, Bw w W → ∀ j u, (opL (zs[i]).2 pv)[j]? = some u → W.cell? ⟨b, o + i * 14 + j, none⟩ = some u := by
 obtain ⟨b, o, c', e, hc⟩ := h.1.some (by omega)
 have ea : a = some ⟨b, o, none⟩ := by
  injection e with e1 e2 e3
 obtain ⟨hk, pv, hv, hR⟩ := h.1.2 _ (List.getElem_mem hi)
 subst ea
 have h1 := h.1.cells hi
 rw [hv] at h1
 refine ⟨b, o, pv, rfl, hR, h.2 _ (List.getElem_mem hi), fun W hb j u hu => ?_⟩
 have h2 := h1 j _ hu
 rw [hb.cell (World.block_lt_of_cell? w _ h2), h2]
theorem wpl_appOn {ops : Array Oper} {rest : List Oper} {o : Oper} {a : Act} {Q : Exit → Act → World → Prop} (hgd : o.guard = none) (s x : Operand)
  (ho : o.op = .call { callee := .builtin .append, args := #[s, x], argTypes := #[36, 36] }) (B : Nat) (v vx : Value) (zs zs2 : Zs Ot) (R : List Value → Ot → Prop) (w : World)
  (hs : a.eval s = v) (hown : OwnZ 61 11 R w B v zs) (hx : a.eval x = vx) (hsrc : RdZ 11 R w vx zs2) (hn : zs.length + zs2.length ≤ 100000) (hB : B ≤ w.heap.size)
  (h : ∀ v' w', OwnZ 61 11 R w' B v' (zs ++ zs2) → w.grownBy w' v.ownBlock → wpList Tryz.prog ops Q rest (a.put o.dst v') w') : wpList Tryz.prog ops Q (o :: rest) a w := by
 refine wpList_plain hgd fun K hK => ?_
 obtain ⟨i0, hi, hz0, hz1, hz2⟩ := info_parts info61o
 have hall : ∀ y ∈ zs ++ zs2, (y.1.length = 11 ∧ ∀ u ∈ y.1, u.oneCell' = true) ∧ R y.1 y.2 := fun y hy => by
  rcases List.mem_append.1 hy with hy | hy
  ·exact hown.2 y hy
  ·exact hsrc.2 y hy
 rcases hsrc.1 with ⟨⟨ad, c, rfl⟩, rfl⟩ | ⟨b, off, c, rfl, hc, hcell⟩
 ·have hrun : (Builtin.append_ #[36, 36] o.type #[v, .slice ad 0 c]).run Tryz.prog w = .ok v w := by
   rcases hown.1.2 with ⟨rfl, _⟩ | ⟨g, cap, cur, rfl, _, _, hnc, _⟩
   ·cases ad <;> simp [Builtin.append_, run_underlying Tryz.underlying36, sizeOf, typeInfo, hi, Builtin.lenOf, Builtin.firstCells, loadCells, loadCellsFrom]
   ·cases ad <;> simp [Builtin.append_, run_underlying Tryz.underlying36, sizeOf, typeInfo, hi, Builtin.lenOf, Builtin.firstCells, hnc, storeCells, loadCells, loadCellsFrom]
  unfold Oper.wp execOp
  simp only [ho, resolve, invoke, builtin, Sem.run_bind, Sem.run_pure, Result.andThen_ok, List.map_toArray, List.map_cons, List.map_nil, hs, hx, hrun]
  exact hK _ _ (h v w (by rw [List.append_nil]; exact hown) (World.grownBy.refl _ _))
 ·have hk : ∀ z ∈ zs2, z.1.length = 11 := fun z hz => (hsrc.2 z hz).1.1
  refine wp_append_own _ s x 36 ho B 61 i0 (.agg #[.int .i64 0, .int .i64 0, .int .i64 0, .string ⟨#[]⟩, .bool false, .bool false, .string ⟨#[]⟩, .string ⟨#[]⟩, .slice none 0 0, .bool false, .int .i64 0]) 11 120 Tryz.underlying36 hi hz0 hz1 hz2 rfl (by decide) v zs.length (cellsZ zs) hs hown.1 ⟨b, off, none⟩ zs2.length c (cellsZ zs2) hx (cellsZ_len hk) ?_ ?_ (by unfold maxLen; omega) (by omega) hB ?_
  ·intro j u hj
   rw [Addr.add_lit]
   exact hcell j u hj
  ·intro u hu
   simp only [cellsZ, List.mem_flatMap] at hu
   obtain ⟨z, hz, hu⟩ := hu
   exact (hsrc.2 z hz).1.2 u hu
  ·intro v' w' h1 h2 _
   refine hK _ _ (h v' w' ⟨?_, hall⟩ h2)
   rw [cellsZ_app, List.length_append]
   exact h1
theorem runC_take {c : Cor} {l : List Opr} {r : Cor × List Ot} (h : runC c l = .ok r) (i : Nat) (hi : i < l.length) : ∃ r1 r2, runC c (l.take i) = .ok r1 ∧ doC r1.1 l[i] = .ok r2 ∧ runC c (l.take (i + 1)) = .ok (r2.1, r1.2 ++ r2.2) := by
 have e : l = l.take i ++ l[i] :: l.drop (i + 1) := by simp
 rw [e, runC_app] at h
 obtain ⟨r1, h1, h2⟩ := bnd_ok.1 h
 obtain ⟨r3, h3, _⟩ := bnd_ok.1 h2
 unfold runC at h3
 obtain ⟨r2, h4, _⟩ := bnd_ok.1 h3
 refine ⟨r1, r2, h1, h4, ?_⟩
 rw [List.take_succ_eq_append_getElem hi, runC_app, h1]
 show bnd (runC r1.1 [l[i]]) _ = _
 unfold runC
 rw [h4]
 simp [bnd, runC]
theorem run_good {c : Cor} (hg : GoodC c) : ∀ {l : List Opr} {r : Cor × List Ot}, runC c l = .ok r → GoodC r.1 := by
 intro l
 induction l generalizing c with
 | nil =>
  intro r h
  injection h with h
  rw [← h]
  exact hg
 | cons o l ih =>
  intro r h
  unfold runC at h
  obtain ⟨r1, h1, h2⟩ := bnd_ok.1 h
  obtain ⟨r2, h3, h4⟩ := bnd_ok.1 h2
  injection h4 with h4
  rw [← h4]
  exact ih (doC_ok h1).2.1 (r := r2) h3
structure RnS (w W : World) (av : Value) (r : Cor × List Ot) : Prop where
 a : Blk W w.heap.size coZ 30
 k : ∃ q1 b1 s1 k1 c1, Blk W (w.heap.size + 1) #[.int .i64 r.1.now, q1, b1, s1, k1, c1] 30 ∧ OwC W w.heap.size r.1 q1 b1 s1 k1 c1
 o : OOc W w.heap.size av r.2
 l : Bw w W
theorem OOc.rd {w : World} {B : Nat} {v : Value} {l : List Ot} (h : OOc w B v l) : ∃ zs : Zs Ot, zs.map (·.2) = l ∧ RdZ 11 (OtR (OwnP w B)) w v zs := by
 obtain ⟨zs, e, h1⟩ := h
 exact ⟨zs, e, h1.rd⟩
theorem OOc.low {w : World} {A B : Nat} {v : Value} {l : List Ot} (h : OOc w B v l) (hA : A ≤ B) : OOc w A v l := OwnL.low0 h hA (fun _ _ ⟨pv, h4, h5⟩ => ⟨pv, h4, h5.low hA⟩)
theorem op_one {o : Opr} {pv : Value} (h : pv.oneCell' = true) : (opL o pv).toArray.all (·.oneCell') = true := by
 unfold opL
 simp only [List.all_toArray, List.all_cons, List.all_nil, h, Bool.and_true]
 rfl
theorem cor_one {c : Cor} {w : World} {B : Nat} {qv bv sv kv cv : Value} (h : OwC w B c qv bv sv kv cv) : (#[Value.int .i64 c.now, qv, bv, sv, kv, cv]).all (·.oneCell') = true := by
 have h1 := h.one
 simp only [List.all_toArray, List.all_cons, List.all_nil, h1.1.1, h1.1.2.1, h1.1.2.2, h1.2.1, h1.2.2, Bool.and_true]
 rfl
theorem opok_of {w W : World} {o : Opr} {pv : Value} (h : RdP w pv o.msg.props) (hi : InO o) (hb : Bw w W) : OpOk W.heap.size W o pv :=
 ⟨h.one, fun W' hb' => h.on (nxt hb hb'), hi.2, hi.1⟩
set_option maxHeartbeats 4000000 in
theorem run_any (w : World) (hV : To.Vars w) (v : Value) (zs : Zs Opr) (h : RdOs w v zs) (hn : zs.length ≤ 1000) (r : Cor × List Ot) (hr : runC zeroC (zs.map (·.2)) = .ok r) (hl : ∀ i r', runC zeroC ((zs.map (·.2)).take i) = .ok r' → r'.2.length ≤ 50000) :
  Calls Tryz.prog 29 #[v] w fun e w' => ∃ q1 b1 s1 k1 c1 ov, e = .returned (.tuple #[corV r.1 q1 b1 s1 k1 c1, ov, .bool true]) ∧ OwC w' w.heap.size r.1 q1 b1 s1 k1 c1 ∧ OOc w' w.heap.size ov r.2 ∧ Bw w w' := by
 obtain ⟨va, vc, rfl⟩ := h.1.len
 obtain ⟨n, en⟩ : ∃ n, zs.length = n := ⟨_, rfl⟩
 rw [en] at h hn ⊢
 have HI : Hid (RdOs w (.slice va n vc) zs ∧ zs.length = n ∧ To.Vars w ∧ runC zeroC (zs.map (·.2)) = .ok r ∧ ∀ i r', runC zeroC ((zs.map (·.2)).take i) = .ok r' → r'.2.length ≤ 50000) := ⟨h, en, hV, hr, hl⟩
 clear h en hV hr hl
 go_enter Tryz.func29, Tryz.ntmps29
 have k0 := Blk.new w coZ 30
 have b0 := (Below.refl w.heap.size w).alloc (Nat.le_refl _) (.cells coZ 30)
 have R0 : Hid (RnS w ((w.alloc (.cells coZ 30)).alloc (.cells coZ 30)) (.slice none 0 0) (zeroC, [])) := by
  have k2 := Blk.new (w.alloc (.cells coZ 30)) coZ 30
  rw [World.size_alloc] at k2
  exact ⟨k0.alloc _, ⟨_, _, _, _, _, k2, owc_zero _ _⟩, ⟨[], rfl, World.ownsRow_nil .., by simp⟩, b0.alloc (by simp) _⟩
 clear k0 b0
 go_upto_region 4 with fail
 generalize (w.alloc (.cells coZ 30)).alloc (.cells coZ 30) = w1 at *
 go_loopg [6, 15] n (fun gg s6 s15 wr => ∃ i : Nat, i ≤ n ∧ n - i ≤ gg ∧ s15 = .int .i64 i ∧ Hid (∃ r', runC zeroC ((zs.map (·.2)).take i) = .ok r' ∧ RnS w wr s6 r'))
 case atStart => exact ⟨0, Nat.zero_le _, by omega, rfl, ⟨_, rfl, R0.out⟩⟩
 case round =>
  obtain ⟨i, hi, hg, rfl, HR⟩ := hrel
  clear R0
  obtain ⟨wt, hwt⟩ : ∃ W, W = wr := ⟨_, rfl⟩
  subst hwt
  by_cases hlt : i < n
  ·have hltz : (i : Int) < (n : Int) := by omega
   have hiz : i < zs.length := by rw [HI.out.2.1]; exact hlt
   obtain ⟨r0, hr0, hR⟩ := HR.out
   obtain ⟨r1, r2, f1, f2, f3⟩ := runC_take HI.out.2.2.2.1 i (by rw [List.length_map]; exact hiz)
   rw [hr0] at f1
   injection f1 with f1
   subst f1
   rw [List.getElem_map] at f2
   have hgd : GoodC r0.1 := run_good good_zero hr0
   have hl1 := HI.out.2.2.2.2 _ _ hr0
   have hl2 := HI.out.2.2.2.2 _ _ f3
   obtain ⟨b, o, pv, rfl, hp, hin, C⟩ := HI.out.1.at hiz
   generalize (zs[i]).2 = x at *
   have HS : Hid (RnS w wt u6 r0) := hR
   have HF : Hid (runC zeroC ((zs.map (·.2)).take (i + 1)) = .ok (r2.1, r0.2 ++ r2.2) ∧ doC r0.1 x = .ok r2 ∧ GoodC r0.1 ∧ RdP w pv x.msg.props ∧ InO x ∧ r0.2.length ≤ 50000 ∧ (r0.2 ++ r2.2).length ≤ 50000) := ⟨f3, f2, hgd, hp, hin, hl1, hl2⟩
   have hone := hp.one
   clear HR hR hr0 f2 f3 hgd hp hin hl1 hl2
   have e0 : wt.cell? ⟨b, o + i * 14, none⟩ = some (.int .i64 x.kind) := C wt HS.out.l 0 _ rfl
   have e1 : wt.cell? ⟨b, o + i * 14 + 1, none⟩ = some (.int .i64 x.conn) := C wt HS.out.l 1 _ rfl
   have e2 : wt.cell? ⟨b, o + i * 14 + 2, none⟩ = some (.int .i64 x.sub) := C wt HS.out.l 2 _ rfl
   have e3 : wt.cell? ⟨b, o + i * 14 + 3, none⟩ = some (.int .i64 x.n) := C wt HS.out.l 3 _ rfl
   have e4 : wt.cell? ⟨b, o + i * 14 + 4, none⟩ = some (tx x.queue) := C wt HS.out.l 4 _ rfl
   have e5 : wt.cell? ⟨b, o + i * 14 + 5, none⟩ = some (tx x.text) := C wt HS.out.l 5 _ rfl
   have e6 : wt.cell? ⟨b, o + i * 14 + 6, none⟩ = some (.bool x.dur) := C wt HS.out.l 6 _ rfl
   have e7 : wt.cell? ⟨b, o + i * 14 + 7, none⟩ = some (.bool x.auto) := C wt HS.out.l 7 _ rfl
   have e8 : wt.cell? ⟨b, o + i * 14 + 8, none⟩ = some (.bool x.keep) := C wt HS.out.l 8 _ rfl
   have e9 : wt.cell? ⟨b, o + i * 14 + 9, none⟩ = some (tx x.msg.topic) := C wt HS.out.l 9 _ rfl
   have e10 : wt.cell? ⟨b, o + i * 14 + 10, none⟩ = some (tx x.msg.body) := C wt HS.out.l 10 _ rfl
   have e11 : wt.cell? ⟨b, o + i * 14 + 11, none⟩ = some (pv) := C wt HS.out.l 11 _ rfl
   have e12 : wt.cell? ⟨b, o + i * 14 + 12, none⟩ = some (.bool x.msg.dur) := C wt HS.out.l 12 _ rfl
   have e13 : wt.cell? ⟨b, o + i * 14 + 13, none⟩ = some (.int .i64 x.msg.til) := C wt HS.out.l 13 _ rfl
   go_wp2_with (refine wpl_fresh rfl (.tmp 8) (.tmp 18) rfl (opA x pv) _ rfl rfl (by kernel_rfl) rfl (op_one (o := x) hone) ?_)
   intro w2 k2 b2 s2
   clear e0 e1 e2 e3 e4 e5 e6 e7 e8 e9 e10 e11 e12 e13 s2 C
   obtain ⟨q1, v1, s1, k1, c1, kC, oC⟩ := HS.out.k
   have kC2 := kC.on b2
   have oC2 := oC.on b2
   have l2 := nxt HS.out.l b2
   have HC := do_good w2 (HI.out.2.2.1.below l2) _ r0.1 q1 v1 s1 k1 c1 oC2 HF.out.2.2.1 x pv (opok_of HF.out.2.2.2.1 HF.out.2.2.2.2.1 l2)
   unfold corV opV at HC
   have HS2 : Hid (Blk w2 w.heap.size coZ 30 ∧ OOc w2 w.heap.size u6 r0.2 ∧ Bw w w2) := ⟨HS.out.a.on b2, HS.out.o.kx (e := 0) (.of_below b2) (by decide), l2⟩
   have HK2 : Hid (Blk w2 (w.heap.size + 1) #[.int .i64 r0.1.now, q1, v1, s1, k1, c1] 30) := kC2
   obtain ⟨c0, c1', c2, c3, c4, c5⟩ := kC2.c6
   obtain ⟨d0, d1, d2, d3, d4, d5, d6, d7, d8, d9, d10, d11, d12, d13⟩ := k2.c14
   clear HS kC oC kC2 oC2 l2 k2 b2 hone
   obtain ⟨gx, egx⟩ : ∃ g, wt.heap.size = g := ⟨_, rfl⟩
   rw [egx] at d0 d1 d2 d3 d4 d5 d6 d7 d8 d9 d10 d11 d12 d13 ⊢
   clear egx
   go_wp2_with fail
   refine HC.mono ?_
   rintro e w3 ⟨hD, b3⟩
   clear HC c0 c1' c2 c3 c4 c5 d0 d1 d2 d3 d4 d5 d6 d7 d8 d9 d10 d11 d12 d13
   rcases hD with ⟨r3, q3, v3, s3, k3, c3, o3, hd, he, oC3, oO3⟩ | ⟨m, hd, _, _⟩
   rotate_left
   ·rw [HF.out.2.1] at hd
    cases hd
   rw [HF.out.2.1] at hd
   injection hd with hd
   subst hd
   subst he
   unfold corV
   go_wp2_with (refine wpl_fresh rfl (.tmp 9) (.tmp 23) rfl #[.int .i64 r2.1.now, q3, v3, s3, k3, c3] _ rfl rfl (by kernel_rfl) rfl (cor_one oC3) ?_)
   intro w4 k4 b4 s4
   have K4 := (HK2.out.on b3).on b4
   have oC4 := (oC3.on b4).low (HS2.out.2.2.size)
   have oO4 : OOc w4 w.heap.size o3 r2.2 := (OOc.kx oO3 (e := 0) (.of_below b4) (by decide)).low (HS2.out.2.2.size)
   have HS4 : Hid (Blk w4 w.heap.size coZ 30 ∧ OOc w4 w.heap.size u6 r0.2 ∧ Bw w w4) := ⟨(HS2.out.1.on b3).on b4, ((HS2.out.2.1.kx (e := 0) (.of_below b3) (by decide)).kx (e := 0) (.of_below b4) (by decide)), nxt (nxt HS2.out.2.2 b3) b4⟩
   have hw34 : w.heap.size + 1 < w3.heap.size := (HK2.out.on b3).lt
   clear HS2 HK2 oC3 oO3 b3 b4 s4
   obtain ⟨gy, egy⟩ : ∃ g, w3.heap.size = g := ⟨_, rfl⟩
   rw [egy] at k4 hw34 ⊢
   clear egy
   obtain ⟨c0, c1', c2, c4', c5', c6'⟩ := k4.c6
   go_wp2_with (refine wpl_put rfl (.tmp 5) (.tmp 30) rfl (w.heap.size + 1) #[.int .i64 r2.1.now, q3, v3, s3, k3, c3] rfl rfl K4 (by kernel_rfl) rfl (cor_one oC4) ?_)
   intro w5 k5 g5 s5
   clear c0 c1' c2 c4' c5' c6'
   have kx5 : KX 30 w4 w5 := .put K4 g5
   have oC5 := oC4.kx kx5 (by decide)
   have oO5 := oO4.kx kx5 (by decide)
   have oA5 := HS4.out.2.1.kx kx5 (by decide)
   have l5 := HS4.out.2.2.grown g5 HS4.out.2.2.size (fun k hk => by injection hk with hk; omega)
   have a5 := HS4.out.1.grown g5 (by simp)
   clear HS4 K4 oC4 oO4 k4 s5 hw34
   obtain ⟨zA, eA, hA⟩ := oA5
   obtain ⟨zB, eB, hB⟩ := oO5.rd
   have hlen : zA.length + zB.length ≤ 100000 := by
    have h1 := congrArg List.length eA
    have h2 := congrArg List.length eB
    rw [List.length_map] at h1 h2
    have h3 := HF.out.2.2.2.2.2.2
    rw [List.length_append] at h3
    omega
   go_wp2_with (refine wpl_appOn rfl (.tmp 31) (.tmp 32) rfl w.heap.size u6 o3 zA zB _ w5 rfl hA rfl hB hlen l5.size ?_)
   intro v6 w6 o6 g6
   have kx6 : KX 61 w5 w6 := .of_grown hA.1 g6
   have HS6 : Hid (∃ r', runC zeroC ((zs.map (·.2)).take (i + 1)) = .ok r' ∧ RnS w w6 v6 r') := by
    refine ⟨(r2.1, r0.2 ++ r2.2), HF.out.1, a5.kt (kx6.kt _ (by decide)), ⟨_, _, _, _, _, k5.kt (kx6.kt _ (by decide)), oC5.kx kx6 (by decide)⟩, ⟨zA ++ zB, by rw [List.map_append, eA, eB], o6.imp ?_⟩, l5.grown g6 l5.size (fun k hk => (World.ownsRow.lt hA.1 k hk).1)⟩
    rintro vs y ⟨pv', h1, h2⟩
    exact ⟨pv', h1, h2.keep (kx6.kt _ (by decide))⟩
   clear kx6 o6 g6 hA hB eA eB hlen oC5 oO5 a5 l5 k5 kx5 g5 HF
   go_wp2_with fail
   go_roundg (n - (i + 1))
   case measure => omega
   case rel => exact ⟨i + 1, by omega, by omega, by go_num, HS6.out⟩
  ·have hltz : ¬ (i : Int) < (n : Int) := by omega
   obtain ⟨r0, hr0, hR⟩ := HR.out
   have e0 : r0 = r := by
    rw [List.take_of_length_le (by rw [List.length_map, HI.out.2.1]; omega), HI.out.2.2.2.1] at hr0
    injection hr0 with hr0
    exact hr0.symm
   subst e0
   obtain ⟨q1, v1, s1, k1, c1, kC, oC⟩ := hR.k
   have HX : Hid (OwC wt w.heap.size r0.1 q1 v1 s1 k1 c1 ∧ OOc wt w.heap.size u6 r0.2 ∧ Bw w wt) := ⟨oC, hR.o, hR.l⟩
   have ka := hR.a
   have hco := cor_one oC
   obtain ⟨c0, c1', c2, c3, c4, c5⟩ := kC.c6
   clear HR hR hr0 oC kC
   go_wp2_with (refine wpl_put rfl (.tmp 2) (.tmp 35) rfl w.heap.size #[.int .i64 r0.1.now, q1, v1, s1, k1, c1] rfl rfl ka (by kernel_rfl) rfl hco ?_)
   intro w5 k5 g5 s5
   have kx5 : KX 30 wt w5 := .put ka g5
   have HY : Hid (OwC w5 w.heap.size r0.1 q1 v1 s1 k1 c1 ∧ OOc w5 w.heap.size u6 r0.2 ∧ Bw w w5) := ⟨HX.out.1.kx kx5 (by decide), HX.out.2.1.kx kx5 (by decide), HX.out.2.2.grown g5 HX.out.2.2.size (fun k hk => by injection hk with hk; omega)⟩
   clear HX ka hco c0 c1' c2 c3 c4 c5 g5 s5 kx5
   go_wp2_with fail
   exact ret30t rfl k5 rfl rfl rfl rfl ⟨_, _, _, _, _, _, rfl, HY.out⟩
def wkM : Msg := ⟨[97, 46, 98], [], [], false, 0⟩
def wk1 : Opr := ⟨1, 0, 0, 2, [113], [], false, false, false, zeroM⟩
def wk2 : Opr := ⟨3, 0, 0, 0, [113], [97, 46, 42], false, false, false, zeroM⟩
def wk3 : Opr := ⟨5, 0, 0, 0, [], [], false, false, false, wkM⟩
def wk4 : Opr := ⟨8, 1, 4, 1, [113], [], false, false, false, zeroM⟩
def wk7 : Opr := ⟨11, 1, 0, 1, [113], [], false, false, false, zeroM⟩
def wkL : List Opr := [wk1, wk2, wk3, wk4, wk3]
def wkB : Bool :=
 match runC zeroC wkL with
 | .ok r => (match r.2 with
  | [y] => decide (y.tag = 1) && decide (y.sub = 4)
  | _ => false) && (match doC r.1 wk3 with
  | .ok _ => false
  | .error n => decide (n = 35)) && (match doC r.1 wk7 with
  | .ok r2 => (match r2.2 with
   | [y] => decide (y.tag = 2)
   | _ => false)
  | .error _ => false)
 | .error _ => false
theorem wkB_true : wkB = true := by kernel_rfl
def wkT : Bool := (List.range 6).all fun i => match runC zeroC (wkL.take i) with
 | .ok r => decide (r.2.length ≤ 50000)
 | .error _ => true
theorem wkT_true : wkT = true := by kernel_rfl
structure WkR (r : Cor × List Ot) (y : Ot) (r2 : Cor × List Ot) (y2 : Ot) : Prop where
 run : runC zeroC wkL = .ok r
 small : ∀ i r', runC zeroC (wkL.take i) = .ok r' → r'.2.length ≤ 50000
 out : r.2 = [y]
 tag : y.tag = 1
 sub : y.sub = 4
 deep : doC r.1 wk3 = .error 35
 ack : doC r.1 wk7 = .ok r2
 out2 : r2.2 = [y2]
 tag2 : y2.tag = 2
theorem wk_all : ∃ r y r2 y2, WkR r y r2 y2 := by
 have h := wkB_true
 unfold wkB at h
 have ht := wkT_true
 unfold wkT at ht
 have hs : ∀ i r', runC zeroC (wkL.take i) = .ok r' → r'.2.length ≤ 50000 := fun i r' hr => by
  rw [List.all_eq_true] at ht
  by_cases hi : i < 6
  ·have h1 := ht i (List.mem_range.2 hi)
   rw [hr] at h1
   simpa using h1
  ·have h1 := ht 5 (by decide)
   rw [show wkL.take i = wkL.take 5 from by rw [List.take_of_length_le (by simp [wkL]; omega), List.take_of_length_le (by simp [wkL])]] at hr
   rw [hr] at h1
   simpa using h1
 cases hr : runC zeroC wkL with
 | error n =>
  rw [hr] at h
  cases h
 | ok r =>
  rw [hr] at h
  simp only [Bool.and_eq_true] at h
  obtain ⟨⟨h1, h2⟩, h3⟩ := h
  cases ho : r.2 with
  | nil =>
   rw [ho] at h1
   cases h1
  | cons y l =>
   cases l with
   | cons a b =>
    rw [ho] at h1
    cases h1
   | nil =>
    rw [ho] at h1
    simp only [Bool.and_eq_true, decide_eq_true_eq] at h1
    cases hd : doC r.1 wk3 with
    | ok z =>
     rw [hd] at h2
     cases h2
    | error n =>
     rw [hd] at h2
     simp only [decide_eq_true_eq] at h2
     subst h2
     cases ha : doC r.1 wk7 with
     | error n =>
      rw [ha] at h3
      cases h3
     | ok r2 =>
      rw [ha] at h3
      simp only at h3
      cases ho2 : r2.2 with
      | nil =>
       rw [ho2] at h3
       cases h3
      | cons y2 l2 =>
       cases l2 with
       | cons a b =>
        rw [ho2] at h3
        cases h3
       | nil =>
        rw [ho2] at h3
        simp only [decide_eq_true_eq] at h3
        exact ⟨r, y, r2, y2, hr, hs, ho, h1.1, h1.2, hd, ha, ho2, h3⟩
theorem OOc.first {W : World} {B : Nat} {v : Value} {y : Ot} (h : OOc W B v [y]) : ∃ b o c pv, v = .slice (some ⟨b, o, none⟩) 1 c ∧ ∀ W', Bw W W' → ∀ j u, (otV y pv)[j]? = some u → W'.cell? ⟨b, o + j, none⟩ = some u := by
 obtain ⟨zs, e, h1⟩ := h
 have hl : zs.length = 1 := by
  have := congrArg List.length e
  rw [List.length_map] at this
  exact this
 have h0 : 0 < zs.length := by omega
 obtain ⟨b, o, c, ev, hc⟩ := h1.rd.some (by omega)
 have e0 : (zs[0]).2 = y := by
  have h2 : (zs.map (·.2))[0]'(by rw [List.length_map]; omega) = y := by simp [e]
  rwa [List.getElem_map] at h2
 obtain ⟨_, pv, hv, _⟩ := h1.2 _ (List.getElem_mem h0)
 rw [e0] at hv
 subst ev
 have h3 := h1.rd.cells h0
 rw [hv] at h3
 refine ⟨b, o, c, pv, by rw [hl], fun W' hb j u hu => ?_⟩
 have h2 := h3 j _ hu
 rw [Nat.zero_mul, Nat.add_zero] at h2
 rw [hb.cell (World.block_lt_of_cell? W _ h2), h2]
theorem rdp_nil (w : World) : RdP w (.slice none 0 0) [] := OwnP.rd (B := 0) (World.ownsRow_nil ..)
def wkZ : Zs Opr := wkL.map fun o => (opL o (.slice none 0 0), o)
theorem wkZ_rd {W : World} {b : Nat} (h : Blk W b (cellsZ wkZ).toArray 35) : RdOs W (.slice (some ⟨b, 0, none⟩) 5 5) wkZ := by
 refine ⟨⟨.inr ⟨b, 0, 5, rfl, by decide, fun j u hj => ?_⟩, fun z hz => ?_⟩, fun z hz => ?_⟩
 ·rw [Nat.zero_add, h.cell j]
  simpa using hj
 ·obtain ⟨o, ho, rfl⟩ := List.mem_map.1 hz
  simp only [wkL, List.mem_cons, List.not_mem_nil, or_false] at ho
  rcases ho with rfl | rfl | rfl | rfl | rfl
  all_goals exact ⟨⟨rfl, by simp [opL, Value.oneCell']⟩, _, rfl, rdp_nil W⟩
 ·obtain ⟨o, ho, rfl⟩ := List.mem_map.1 hz
  simp only [wkL, List.mem_cons, List.not_mem_nil, or_false] at ho
  rcases ho with rfl | rfl | rfl | rfl | rfl
  all_goals exact ⟨by decide, by decide⟩
theorem wkZ_map : wkZ.map (·.2) = wkL := rfl
set_option maxHeartbeats 4000000 in
theorem wakes_any (w : World) (hV : To.Vars w) : Calls Tryz.prog 9 #[] w fun e w' => e = .returned (.bool true) ∧ Bw w w' := by
 obtain ⟨r, y, r2, y2, HW⟩ := wk_all
 have HR : Hid (WkR r y r2 y2 ∧ To.Vars w) := ⟨HW, hV⟩
 clear HW hV
 go_enter Tryz.func9, Tryz.ntmps9
 go_wp2_with (refine wpl_fresh rfl (.tmp 1) (.tmp 11) rfl _ _ rfl rfl (by kernel_rfl) rfl (by simp [Value.oneCell']) ?_)
 intro w1 k1 b1 s1
 obtain ⟨c0, c1, c2, c3, c4⟩ := k1.c5
 obtain ⟨gm, egm⟩ : ∃ x, w.heap.size = x := ⟨_, rfl⟩
 have HM : Hid (w.heap.size = gm) := egm
 rw [egm] at k1 c0 c1 c2 c3 c4 ⊢
 clear egm s1
 have HB1 : Hid (Bw w w1 ∧ Blk w1 gm #[.string ⟨#[97, 46, 98]⟩, .string ⟨#[]⟩, .slice none 0 0, .bool false, .int .i64 0] 33) := ⟨b1, k1⟩
 clear b1 k1
 go_wp2_with fail
 have b2 : Bw w1 (w1.alloc (.cells (cellsZ wkZ).toArray 35)) := (Below.refl w1.heap.size w1).alloc (Nat.le_refl _) _
 have HC := run_any (w1.alloc (.cells (cellsZ wkZ).toArray 35)) (HR.out.2.below (nxt HB1.out.1 b2)) _ wkZ (wkZ_rd (Blk.new w1 (cellsZ wkZ).toArray 35)) (by decide) r (by rw [wkZ_map]; exact HR.out.1.run) (by rw [wkZ_map]; exact HR.out.1.small)
 refine HC.mono ?_
 rintro e w3 ⟨q3, v3, s3, k3, c3, o3, rfl, oC, oO, b3⟩
 have HB3 : Hid (Bw w w3 ∧ Blk w3 gm #[.string ⟨#[97, 46, 98]⟩, .string ⟨#[]⟩, .slice none 0 0, .bool false, .int .i64 0] 33) := ⟨nxt (nxt HB1.out.1 b2) b3, (HB1.out.2.on b2).on b3⟩
 rw [HR.out.1.out] at oO
 obtain ⟨b, o, cc, pv, rfl, hO⟩ := oO.first
 clear HC HB1 b2 b3 c0 c1 c2 c4
 unfold corV
 go_wp2_with (refine wpl_fresh rfl (.tmp 2) (.tmp 22) rfl #[.int .i64 r.1.now, q3, v3, s3, k3, c3] _ rfl rfl (by kernel_rfl) rfl (cor_one oC) ?_)
 intro w4 k4 b4 s4
 have e1 : w4.cell? ⟨b, o + 1, none⟩ = some (.int .i64 4) := by
  rw [← HR.out.1.sub]
  exact hO w4 b4 1 _ rfl
 have e2 : w4.cell? ⟨b, o + 2, none⟩ = some (.int .i64 1) := by
  rw [← HR.out.1.tag]
  exact hO w4 b4 2 _ rfl
 have oC4 := oC.on b4
 have HB4 : Hid (Bw w w4 ∧ Blk w4 gm #[.string ⟨#[97, 46, 98]⟩, .string ⟨#[]⟩, .slice none 0 0, .bool false, .int .i64 0] 33) := ⟨nxt HB3.out.1 b4, HB3.out.2.on b4⟩
 clear HB3 hO oO oC b4 s4
 obtain ⟨gc, egc⟩ : ∃ x, w3.heap.size = x := ⟨_, rfl⟩
 rw [egc] at k4 ⊢
 clear egc
 go_upto_region 5 with fail
 obtain ⟨m0, m1, m2, m3, m4⟩ := HB4.out.2.c5
 obtain ⟨d0, d1, d2, d3, d4, d5⟩ := k4.c6
 have hgr : GoodC r.1 := run_good good_zero HR.out.1.run
 have HC := do_good w4 (HR.out.2.below HB4.out.1) _ r.1 q3 v3 s3 k3 c3 oC4 hgr wk3 (.slice none 0 0) (opok_of (rdp_nil w4) ⟨by decide, by decide⟩ (.refl _ _))
 unfold corV opV at HC
 have HK4 : Hid (Blk w4 gc #[.int .i64 r.1.now, q3, v3, s3, k3, c3] 30 ∧ OwC w4 (w1.alloc (.cells (cellsZ wkZ).toArray 35)).heap.size r.1 q3 v3 s3 k3 c3 ∧ GoodC r.1) := ⟨k4, oC4, hgr⟩
 clear k4 oC4 hgr e1 e2
 go_wp2_with fail
 refine HC.mono ?_
 rintro e w5 ⟨hD, b5⟩
 rcases hD with ⟨_, _, _, _, _, _, _, hd, _⟩ | ⟨n, hd, _, he⟩
 ·rw [HR.out.1.deep] at hd
  cases hd
 rw [HR.out.1.deep] at hd
 injection hd with hd
 subst hd
 subst he
 unfold nilV
 have HB5 : Hid (Bw w w5 ∧ Blk w5 gc #[.int .i64 r.1.now, q3, v3, s3, k3, c3] 30 ∧ OwC w5 (w1.alloc (.cells (cellsZ wkZ).toArray 35)).heap.size r.1 q3 v3 s3 k3 c3) := ⟨nxt HB4.out.1 b5, HK4.out.1.on b5, HK4.out.2.1.on b5⟩
 clear HC HB4 b5 m0 m1 m2 m3 m4 d0 d1 d2 d3 d4 d5
 go_upto_region 6 with fail
 have b6 : Bw w5 (w5.alloc (.cells coZ 30)) := (Below.refl w5.heap.size w5).alloc (Nat.le_refl _) _
 have HB6 : Hid (Bw w (w5.alloc (.cells coZ 30)) ∧ Blk (w5.alloc (.cells coZ 30)) gc #[.int .i64 r.1.now, q3, v3, s3, k3, c3] 30 ∧ OwC (w5.alloc (.cells coZ 30)) (w1.alloc (.cells (cellsZ wkZ).toArray 35)).heap.size r.1 q3 v3 s3 k3 c3) := ⟨nxt HB5.out.1 b6, HB5.out.2.1.on b6, HB5.out.2.2.on b6⟩
 clear b6 HB5
 generalize w5.alloc (.cells coZ 30) = w6 at *
 obtain ⟨d0, d1, d2, d3, d4, d5⟩ := HB6.out.2.1.c6
 have HC := do_good w6 (HR.out.2.below HB6.out.1) _ r.1 q3 v3 s3 k3 c3 HB6.out.2.2 HK4.out.2.2 wk7 (.slice none 0 0) (opok_of (rdp_nil w6) ⟨by decide, by decide⟩ (.refl _ _))
 unfold corV opV at HC
 go_wp2_with fail
 refine HC.mono ?_
 rintro e w7 ⟨hD, b7⟩
 rcases hD with ⟨r7, q7, v7, s7, k7, c7, o7, hd, he, oC7, oO7⟩ | ⟨n, hd, _, _⟩
 rotate_left
 ·rw [HR.out.1.ack] at hd
  cases hd
 rw [HR.out.1.ack] at hd
 injection hd with hd
 subst hd
 subst he
 unfold corV
 rw [HR.out.1.out2] at oO7
 obtain ⟨b', o', cc', pv', rfl, hO⟩ := oO7.first
 have HB7 : Hid (Bw w w7) := nxt HB6.out.1 b7
 clear HC HB6 HK4 b7 d0 d1 d2 d3 d4 d5 oO7
 go_wp2_with (refine wpl_fresh rfl (.tmp 8) (.tmp 58) rfl #[.int .i64 r2.1.now, q7, v7, s7, k7, c7] _ rfl rfl (by kernel_rfl) rfl (cor_one oC7) ?_)
 intro w8 k8 b8 s8
 have e2 : w8.cell? ⟨b', o' + 2, none⟩ = some (.int .i64 2) := by
  rw [← HR.out.1.tag2]
  exact hO w8 b8 2 _ rfl
 have HB8 : Hid (Bw w w8) := nxt HB7.out b8
 clear HB7 hO oC7 k8 b8 s8
 go_wp2_with fail
 go_ret
 exact ⟨rfl, HB8.out⟩
end Go.Proofs.YtnpikgakpmkipabGreatDoor
