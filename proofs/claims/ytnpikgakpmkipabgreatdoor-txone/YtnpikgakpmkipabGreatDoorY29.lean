/- trivetlaw12.wakes. Conditions: those that each row states. -/
import Derived.Test.YtnpikgakpmkipabGreatDoorY04
import Derived.Test.YtnpikgakpmkipabGreatDoorY28
import Derived.Test.YtnpikgakpmkipabGreatDoorY27
import Derived.Test.YtnpikgakpmkipabGreatDoorY21
import Derived.Test.YtnpikgakpmkipabGreatDoorY03
import Derived.Test.YtnpikgakpmkipabGreatDoorY11
import Derived.Test.YtnpikgakpmkipabGreatDoorY15
namespace Go.Proofs.YtnpikgakpmkipabGreatDoor
open Go.RowKit Go.Lib
set_option maxRecDepth 100000
set_option linter.unusedSimpArgs false
set_option linter.unusedVariables false
def wjA : Opr := op0 1 1 [113] []
def wjO : Opr := ⟨5, 0, 0, 0, [113], [], false, false, false, ⟨[97], [], [], false, 0⟩⟩
def wjB : Bool := match doC zeroC wjA with
 | .error _ => false
 | .ok r => match doC r.1 wjO with
  | .error _ => false
  | .ok r2 => (match doC r2.1 wjO with
   | .error n => decide (n = 35)
   | .ok _ => false) && decide (r2.1.queues.map (fun q => q.items.length) = [1])
theorem wjB_true : wjB = true := by kernel_rfl
structure WjR (r r2 : Cor × List Ot) : Prop where
 a : doC zeroC wjA = .ok r
 b : doC r.1 wjO = .ok r2
 c : doC r2.1 wjO = .error 35
 d : r2.1.queues.map (fun q => q.items.length) = [1]
theorem wj_all : ∃ r r2, WjR r r2 := by
 have h := wjB_true
 unfold wjB at h
 cases ha : doC zeroC wjA with
 | error n =>
  rw [ha] at h
  cases h
 | ok r =>
  rw [ha] at h
  cases hb : doC r.1 wjO with
  | error n =>
   simp only [hb] at h
   cases h
  | ok r2 =>
   simp only [hb, Bool.and_eq_true, decide_eq_true_eq] at h
   cases hc : doC r2.1 wjO with
   | ok r3 =>
    rw [hc] at h
    cases h.1
   | error n =>
    rw [hc] at h
    simp only [decide_eq_true_eq] at h
    refine ⟨r, r2, ha, hb, ?_, h.2⟩
    rw [hc, h.1]
theorem wj_two {r r2 : Cor × List Ot} (h : WjR r r2) : FailAt r.1 [wjO, wjO] 1 35 := by
 refine ⟨by decide, (r2.1, r2.2 ++ []), ?_, h.c⟩
 show bnd (doC r.1 wjO) _ = _
 rw [h.b]
 rfl
theorem wj_one {r r2 : Cor × List Ot} (h : WjR r r2) : runC r.1 [wjO] = .ok (r2.1, r2.2 ++ []) := by
 show bnd (doC r.1 wjO) _ = _
 rw [h.b]
 rfl
def wjZ (k : Nat) : Zs Opr := List.replicate k (opL wjO (.slice none 0 0), wjO)
theorem wjZ_rd {W : World} {b k : Nat} (hk : 0 < k) (h : Blk W b (cellsZ (wjZ k)).toArray 35) : RdOs W (.slice (some ⟨b, 0, none⟩) k k) (wjZ k) := by
 have hl : (wjZ k).length = k := List.length_replicate ..
 refine ⟨⟨.inr ⟨b, 0, k, by rw [hl], by rw [hl]; exact Nat.le_refl _, fun j u hj => ?_⟩, fun z hz => ?_⟩, fun z hz => ?_⟩
 ·rw [Nat.zero_add, h.cell j]
  simpa using hj
 ·have e := List.eq_of_mem_replicate hz
  subst e
  exact ⟨⟨rfl, by simp [opL, Value.oneCell']⟩, _, rfl, rdp_nil W⟩
 ·have e := List.eq_of_mem_replicate hz
  subst e
  exact ⟨by decide, by decide⟩
theorem first_queue {W : World} {B : Nat} {v : Value} {l : List Que} (h : OQc W B v l) (hl : l.map (fun q => q.items.length) = [1]) : ∃ b o c a c', v = .slice (some ⟨b, o, none⟩) 1 c ∧ W.cell? ⟨b, o + 5, none⟩ = some (.slice a 1 c') := by
 obtain ⟨zs, e, h1⟩ := h
 have hz : zs.length = 1 := by
  have h2 := congrArg List.length hl
  rw [List.length_map, ← e, List.length_map] at h2
  exact h2
 obtain ⟨a, c, ev⟩ := h1.rd.len
 have hr := h1.rd
 rw [hz] at ev
 subst ev
 obtain ⟨b, o, u0, u1, u2, u3, u4, u5, u6, rfl, _, r1, _, C⟩ := el7_at hr (i := 0) (by omega)
 obtain ⟨iv, hv, e2, hi, _⟩ := r1
 unfold queV at e2
 injection e2 with e2
 injection e2 with e2
 injection e2 with _ e2
 injection e2 with _ e2
 injection e2 with _ e2
 injection e2 with _ e2
 injection e2 with _ e2
 injection e2 with e2 _
 subst e2
 obtain ⟨ai, ci, rfl⟩ := hi.rd.len
 have hc := (C W (.refl _ _)).2.2.2.2.2.1
 have hil : (zs[0]).2.items.length = 1 := by
  have h3 : l = [(zs[0]).2] := by
   rw [← e]
   match zs, hz with
   | [z], _ => rfl
  rw [h3] at hl
  simpa using hl
 rw [hil] at hc
 exact ⟨b, o, c, ai, ci, rfl, by simpa using hc⟩
set_option maxHeartbeats 8000000 in
theorem wakes12_any (w : World) (hV : To.Vars w) : Calls Tryz.prog 14 #[] w fun e w' => e = .returned (.bool true) ∧ Bw w w' := by
 obtain ⟨r, r2, HW⟩ := wj_all
 have HR : Hid (WjR r r2 ∧ To.Vars w) := ⟨HW, hV⟩
 clear HW hV
 go_enter Tryz.func14, Tryz.ntmps14
 have HC := do_good w HR.out.2 w.heap.size zeroC (.slice none 0 0) (.slice none 0 0) (.slice none 0 0) (.slice none 0 0) (.slice none 0 0) (owc_zero _ _) good_zero wjA (.slice none 0 0) (opok_of (rdp_nil w) ⟨by decide, by decide⟩ (.refl _ _))
 unfold corV opV at HC
 go_wp2_with fail
 refine HC.mono ?_
 rintro e w1 ⟨hD, b1⟩
 rcases hD with ⟨r3, q3, v3, s3, k3, c3, o3, hd, he, oC3, oO3⟩ | ⟨n, hd, _, _⟩
 rotate_left
 ·rw [HR.out.1.a] at hd
  cases hd
 rw [HR.out.1.a] at hd
 injection hd with hd
 subst hd
 subst he
 unfold corV
 clear HC oO3
 go_wp2_with (refine wpl_fresh rfl (.tmp 1) (.tmp 16) rfl #[.int .i64 r.1.now, q3, v3, s3, k3, c3] _ rfl rfl (by kernel_rfl) rfl (cor_one oC3) ?_)
 intro w2 k2 b2 s2
 obtain ⟨gc, egc⟩ : ∃ x, w1.heap.size = x := ⟨_, rfl⟩
 rw [egc] at k2 ⊢
 have oC2 := oC3.on b2
 have L2 : Hid (Bw w w2) := nxt b1 b2
 have HG : Hid (GoodC r.1) := (doC_ok HR.out.1.a).2.1
 clear egc oC3 b1 b2 s2
 go_wp2_with (refine wpl_fresh rfl (.tmp 4) (.tmp 22) rfl #[.int .i64 5, .int .i64 0, .int .i64 0, .int .i64 0, tx [113], tx [], .bool false, .bool false, .bool false, tx [97], tx [], .slice none 0 0, .bool false, .int .i64 0] _ rfl rfl (by kernel_rfl) rfl (by simp [Value.oneCell', show ∀ l, (tx l).oneCell' = true from fun _ => rfl]) ?_)
 intro w3 ko b3 s3'
 obtain ⟨go, ego⟩ : ∃ x, w2.heap.size = x := ⟨_, rfl⟩
 rw [ego] at ko ⊢
 have k3' := k2.on b3
 have oC3 := oC2.on b3
 have L3 : Hid (Bw w w3) := nxt L2.out b3
 clear ego L2 k2 oC2 b3 s3'
 go_upto_region 5 with fail
 obtain ⟨c0, c1, c2, c3', c4, c5⟩ := k3'.c6
 obtain ⟨d0, d1, d2, d3, d4, d5, d6, d7, d8, d9, d10, d11, d12, d13⟩ := ko.c14
 have b4 : Bw w3 (w3.alloc (.cells (cellsZ (wjZ 2)).toArray 35)) := (Below.refl w3.heap.size w3).alloc (Nat.le_refl _) _
 have HC := run12_any (w3.alloc (.cells (cellsZ (wjZ 2)).toArray 35)) (HR.out.2.below (nxt L3.out b4)) _ r.1 q3 v3 s3 k3 c3 (oC3.on b4) HG.out _ (wjZ 2) (wjZ_rd (by decide) (Blk.new w3 (cellsZ (wjZ 2)).toArray 35)) (by decide)
 unfold corV at HC
 have HK : Hid (Blk w3 gc #[.int .i64 r.1.now, q3, v3, s3, k3, c3] 30 ∧ OwC w3 w.heap.size r.1 q3 v3 s3 k3 c3 ∧ Blk w3 go #[.int .i64 5, .int .i64 0, .int .i64 0, .int .i64 0, tx [113], tx [], .bool false, .bool false, .bool false, tx [97], tx [], .slice none 0 0, .bool false, .int .i64 0] 35 ∧ Bw w3 (w3.alloc (.cells (cellsZ (wjZ 2)).toArray 35))) := ⟨k3', oC3, ko, b4⟩
 clear k3' oC3 ko b4
 go_wp2_with fail
 refine HC.mono ?_
 rintro e w5 ⟨hT, b5⟩
 have hF := wj_two HR.out.1
 rcases hT with ⟨r5, _, _, _, _, _, _, hr, _⟩ | ⟨i, m, hf, hm, he⟩
 ·have h1 := fail_run hF
  have hr' : runC r.1 [wjO, wjO] = .ok r5 := hr
  rw [h1] at hr'
  cases hr'
 have hf' : FailAt r.1 [wjO, wjO] i m := hf
 obtain ⟨e1, e2⟩ := fail_one hf' hF
 subst e1 e2
 subst he
 unfold nil4
 clear HC hF hf hf' hm c0 c1 c2 c3' c4 c5 d0 d1 d2 d3 d4 d5 d6 d7 d8 d9 d10 d11 d12 d13
 have b6 : Bw w5 (w5.alloc (.cells coZ 30)) := (Below.refl w5.heap.size w5).alloc (Nat.le_refl _) _
 have bb : Bw w3 (w5.alloc (.cells coZ 30)) := nxt (nxt HK.out.2.2.2 b5) b6
 have HZ : Hid (Blk (w5.alloc (.cells coZ 30)) w5.heap.size coZ 30) := Blk.new w5 coZ 30
 have HK6 : Hid (Blk (w5.alloc (.cells coZ 30)) gc #[.int .i64 r.1.now, q3, v3, s3, k3, c3] 30 ∧ OwC (w5.alloc (.cells coZ 30)) w.heap.size r.1 q3 v3 s3 k3 c3 ∧ Blk (w5.alloc (.cells coZ 30)) go #[.int .i64 5, .int .i64 0, .int .i64 0, .int .i64 0, tx [113], tx [], .bool false, .bool false, .bool false, tx [97], tx [], .slice none 0 0, .bool false, .int .i64 0] 35 ∧ Bw w (w5.alloc (.cells coZ 30))) := ⟨HK.out.1.on bb, HK.out.2.1.on bb, HK.out.2.2.1.on bb, nxt L3.out bb⟩
 clear HK b5 b6 bb L3
 go_upto_region 6 with fail
 generalize w5.alloc (.cells coZ 30) = w6 at *
 obtain ⟨gz, egz⟩ : ∃ x, w5.heap.size = x := ⟨_, rfl⟩
 rw [egz] at HZ ⊢
 clear egz
 obtain ⟨c0, c1, c2, c3', c4, c5⟩ := HK6.out.1.c6
 obtain ⟨d0, d1, d2, d3, d4, d5, d6, d7, d8, d9, d10, d11, d12, d13⟩ := HK6.out.2.2.1.c14
 have b7 : Bw w6 (w6.alloc (.cells (cellsZ (wjZ 1)).toArray 35)) := (Below.refl w6.heap.size w6).alloc (Nat.le_refl _) _
 have HC := run12_any (w6.alloc (.cells (cellsZ (wjZ 1)).toArray 35)) (HR.out.2.below (nxt HK6.out.2.2.2 b7)) _ r.1 q3 v3 s3 k3 c3 (HK6.out.2.1.on b7) HG.out _ (wjZ 1) (wjZ_rd (by decide) (Blk.new w6 (cellsZ (wjZ 1)).toArray 35)) (by decide)
 unfold corV at HC
 have HB7 : Hid (Bw w6 (w6.alloc (.cells (cellsZ (wjZ 1)).toArray 35))) := b7
 clear b7
 go_wp2_with fail
 refine HC.mono ?_
 rintro e w8 ⟨hT, b8⟩
 have h1 := wj_one HR.out.1
 rcases hT with ⟨r8, q8, v8, s8, k8, c8, o8, hr, he, oC8, oO8⟩ | ⟨i, m, hf, hm, he⟩
 rotate_left
 ·have hf' : FailAt r.1 [wjO] i m := hf
  rw [fail_run hf'] at h1
  cases h1
 have hr' : runC r.1 [wjO] = .ok r8 := hr
 rw [h1] at hr'
 injection hr' with hr'
 subst hr'
 subst he
 unfold corV
 clear HC h1 hr c0 c1 c2 c3' c4 c5 d0 d1 d2 d3 d4 d5 d6 d7 d8 d9 d10 d11 d12 d13 oO8
 obtain ⟨bq, oq, cq, ai, ci, rfl, hcl⟩ := first_queue oC8.q HR.out.1.d
 have Z8 := (HZ.out.on HB7.out).on b8
 have L8 : Hid (Bw w w8) := nxt (nxt HK6.out.2.2.2 HB7.out) b8
 clear HK6 HZ HB7 b8
 go_wp2_with (refine wpl_fresh rfl (.tmp 8) (.tmp 38) rfl #[.int .i64 r2.1.now, .slice (some ⟨bq, oq, none⟩) 1 cq, v8, s8, k8, c8] _ rfl rfl (by kernel_rfl) rfl (cor_one oC8) ?_)
 intro w9 k9 b9 s9
 obtain ⟨g9, eg9⟩ : ∃ x, w8.heap.size = x := ⟨_, rfl⟩
 rw [eg9] at k9 ⊢
 have z1 : w9.cell? ⟨gz, 1, none⟩ = some (.slice none 0 0) := (Z8.on b9).cell 1
 have e1 : w9.cell? ⟨g9, 1, none⟩ = some (.slice (some ⟨bq, oq, none⟩) 1 cq) := k9.cell 1
 have e2 : w9.cell? ⟨bq, oq + 5, none⟩ = some (.slice ai 1 ci) := by
  rw [b9.cell (World.block_lt_of_cell? w8 _ hcl), hcl]
 have L9 : Hid (Bw w w9) := nxt L8.out b9
 clear L8 Z8 k9 b9 s9 eg9 hcl oC8
 go_wp2_with fail
 go_ret
 exact ⟨rfl, L9.out⟩
def RdOt (w : World) (v : Value) (l : List Ot) : Prop := RdL 11 (OtR (RdP w)) w v l
theorem OOc.rdo {w : World} {B : Nat} {v : Value} {l : List Ot} (h : OOc w B v l) : RdOt w v l := by
 obtain ⟨zs, e, h1⟩ := h.rd
 refine ⟨zs, e, h1.imp ?_⟩
 rintro vs y ⟨pv, h2, h3⟩
 exact ⟨pv, h2, h3.rd⟩
theorem RdOt.on {w w' : World} {v : Value} {l : List Ot} (h : RdOt w v l) (hb : Bw w w') : RdOt w' v l := by
 obtain ⟨zs, e, h1⟩ := h
 refine ⟨zs, e, (h1.on hb).imp ?_⟩
 rintro vs y ⟨pv, h2, h3⟩
 exact ⟨pv, h2, h3.on hb⟩
theorem ot_at {w : World} {a : Option Addr} {n c : Nat} {zs : Zs Ot} (h : RdZ 11 (OtR (RdP w)) w (.slice a n c) zs) {i : Nat} (hi : i < zs.length) :
  ∃ b o pv, a = some ⟨b, o, none⟩ ∧ RdP w pv (zs[i]).2.msg.props ∧ ∀ W, Bw w W → ∀ j u, (otV (zs[i]).2 pv)[j]? = some u → W.cell? ⟨b, o + i * 11 + j, none⟩ = some u := by
 obtain ⟨b, o, c', e, hc⟩ := h.some (by omega)
 have ea : a = some ⟨b, o, none⟩ := by
  injection e with e1 e2 e3
 obtain ⟨hk, pv, hv, hR⟩ := h.2 _ (List.getElem_mem hi)
 subst ea
 have h1 := h.cells hi
 rw [hv] at h1
 refine ⟨b, o, pv, rfl, hR, fun W hb j u hu => ?_⟩
 have h2 := h1 j _ hu
 rw [hb.cell (World.block_lt_of_cell? w _ h2), h2]
set_option maxHeartbeats 8000000 in
theorem sameOuts_any (w : World) (l : List Ot) (v v' : Value) (h : RdOt w v l) (h' : RdOt w v' l) (hl : l.length ≤ 100000) (hm : ∀ x ∈ l, msgB x.msg = true) :
  Calls Tryz.prog 24 #[v, v'] w fun e w' => e = .returned (.bool true) ∧ Bw w w' := by
 obtain ⟨zq, ezq, hzq⟩ := h
 obtain ⟨yq, eyq, hyq⟩ := h'
 obtain ⟨wq, mq, rfl⟩ := hzq.len
 obtain ⟨dq, tq, rfl⟩ := hyq.len
 obtain ⟨nq, enq⟩ : ∃ n, l.length = n := ⟨_, rfl⟩
 have lzq : zq.length = nq := by rw [← enq, ← ezq, List.length_map]
 have lyq : yq.length = nq := by rw [← enq, ← eyq, List.length_map]
 rw [lzq] at hzq ⊢
 rw [lyq] at hyq ⊢
 rw [enq] at hl
 have Hq : Hid (RdZ 11 (OtR (RdP w)) w (.slice wq nq mq) zq ∧ RdZ 11 (OtR (RdP w)) w (.slice dq nq tq) yq ∧ zq.map (·.2) = l ∧ yq.map (·.2) = l ∧ zq.length = nq ∧ yq.length = nq ∧ ∀ x ∈ l, msgB x.msg = true) := ⟨hzq, hyq, ezq, eyq, lzq, lyq, hm⟩
 clear hzq hyq ezq eyq lzq lyq enq hm
 go_enter Tryz.func24, Tryz.ntmps24
 go_upto_region 4 with fail
 go_loopg [5, 6, 7, 15] nq (fun gg _ _ _ s15 wr => ∃ kk : Nat, kk ≤ nq ∧ nq - kk ≤ gg ∧ s15 = .int .i64 kk ∧ Hid (Bw w wr))
 case atStart => exact ⟨0, Nat.zero_le _, by omega, rfl, .refl _ _⟩
 case round =>
  obtain ⟨kk, hkk, hgg, rfl, HS⟩ := hrel
  obtain ⟨wr, hwr⟩ : ∃ W, W = wr := ⟨_, rfl⟩
  subst hwr
  by_cases hlt : kk < nq
  ·have hltz : (kk : Int) < (nq : Int) := by omega
   obtain ⟨hz, hy, ez, ey, lz, ly, hm⟩ := Hq.out
   obtain ⟨b1, o1, pv1, rfl, r1, C1⟩ := ot_at hz (i := kk) (by omega)
   obtain ⟨b2, o2, pv2, rfl, r2, C2⟩ := ot_at hy (i := kk) (by omega)
   have hql : kk < l.length := by rw [← ez, List.length_map]; omega
   have x1 : (zq[kk]'(by omega)).2 = l[kk] := by simp only [← ez, List.getElem_map]
   have x2 : (yq[kk]'(by omega)).2 = l[kk] := by simp only [← ey, List.getElem_map]
   rw [x1] at r1 C1
   rw [x2] at r2 C2
   have hmm := hm _ (List.getElem_mem hql)
   have hp16 := props16 hmm
   generalize l[kk] = x at *
   obtain ⟨pa, pac, rfl⟩ := r1.shape
   obtain ⟨pb, pbc, rfl⟩ := r2.shape
   have HA := fun (W : World) (b : Bw w W) => sameMsg_same W x.msg (.slice pa x.msg.props.length pac) (.slice pb x.msg.props.length pbc) (r1.on b) (r2.on b) (by omega)
   unfold msgV at HA
   clear r1 r2 hz hy ez ey lz ly hql x1 x2 hm hmm
   go_upto_region 6 with fail
   go_cut [6, 7] (fun s6 s7 wX => ∃ g6 g7 : Nat, s6 = .pointer (some ⟨g6, 0, none⟩) ∧ s7 = .pointer (some ⟨g7, 0, none⟩) ∧ Hid (Bw w wX ∧ Blk wX g6 #[.int .i64 x.conn, .int .i64 x.sub, .int .i64 x.tag, tx x.queue, .bool x.again, .bool x.kept, tx x.msg.topic, tx x.msg.body, .slice pa x.msg.props.length pac, .bool x.msg.dur, .int .i64 x.msg.til] 61 ∧ Blk wX g7 #[.int .i64 x.conn, .int .i64 x.sub, .int .i64 x.tag, tx x.queue, .bool x.again, .bool x.kept, tx x.msg.topic, tx x.msg.body, .slice pb x.msg.props.length pbc, .bool x.msg.dur, .int .i64 x.msg.til] 61))
   case first =>
    refine rh (fun W => Bw w W) ?_
    have hS : Bw w (World.drew wr) := HS.out.drew
    clear HS
    generalize wr.drew = w4 at *
    refine tks [0, 1, 2, 3, 4, 5, 6, 7] [.slice (some ⟨b1, o1, none⟩) nq mq, .int .i64 kk, .pointer (some ⟨b1, o1 + kk * 11, none⟩), .agg #[.int .i64 x.conn, .int .i64 x.sub, .int .i64 x.tag, tx x.queue, .bool x.again, .bool x.kept, tx x.msg.topic, tx x.msg.body, .slice pa x.msg.props.length pac, .bool x.msg.dur, .int .i64 x.msg.til], .slice (some ⟨b2, o2, none⟩) nq tq, .int .i64 kk, .pointer (some ⟨b2, o2 + kk * 11, none⟩), .agg #[.int .i64 x.conn, .int .i64 x.sub, .int .i64 x.tag, tx x.queue, .bool x.again, .bool x.kept, tx x.msg.topic, tx x.msg.body, .slice pb x.msg.props.length pbc, .bool x.msg.dur, .int .i64 x.msg.til]] 4 ?_ hS ?_
    ·simp only [tkY, tkf]
     refine ⟨.yes ?_, .yes ?_, .yes ?_, .yes ?_, .yes ?_, .yes ?_, .yes ?_, .yes ?_, trivial⟩
     all_goals
      intro W' hW'
      have : W'.cell? ⟨b1, o1 + kk * 11, none⟩ = some (.int .i64 x.conn) := C1 W' hW' 0 _ rfl
      have : W'.cell? ⟨b1, o1 + kk * 11 + 1, none⟩ = some (.int .i64 x.sub) := C1 W' hW' 1 _ rfl
      have : W'.cell? ⟨b1, o1 + kk * 11 + 2, none⟩ = some (.int .i64 x.tag) := C1 W' hW' 2 _ rfl
      have : W'.cell? ⟨b1, o1 + kk * 11 + 3, none⟩ = some (tx x.queue) := C1 W' hW' 3 _ rfl
      have : W'.cell? ⟨b1, o1 + kk * 11 + 4, none⟩ = some (.bool x.again) := C1 W' hW' 4 _ rfl
      have : W'.cell? ⟨b1, o1 + kk * 11 + 5, none⟩ = some (.bool x.kept) := C1 W' hW' 5 _ rfl
      have : W'.cell? ⟨b1, o1 + kk * 11 + 6, none⟩ = some (tx x.msg.topic) := C1 W' hW' 6 _ rfl
      have : W'.cell? ⟨b1, o1 + kk * 11 + 7, none⟩ = some (tx x.msg.body) := C1 W' hW' 7 _ rfl
      have : W'.cell? ⟨b1, o1 + kk * 11 + 8, none⟩ = some (.slice pa x.msg.props.length pac) := C1 W' hW' 8 _ rfl
      have : W'.cell? ⟨b1, o1 + kk * 11 + 9, none⟩ = some (.bool x.msg.dur) := C1 W' hW' 9 _ rfl
      have : W'.cell? ⟨b1, o1 + kk * 11 + 10, none⟩ = some (.int .i64 x.msg.til) := C1 W' hW' 10 _ rfl
      have : W'.cell? ⟨b2, o2 + kk * 11, none⟩ = some (.int .i64 x.conn) := C2 W' hW' 0 _ rfl
      have : W'.cell? ⟨b2, o2 + kk * 11 + 1, none⟩ = some (.int .i64 x.sub) := C2 W' hW' 1 _ rfl
      have : W'.cell? ⟨b2, o2 + kk * 11 + 2, none⟩ = some (.int .i64 x.tag) := C2 W' hW' 2 _ rfl
      have : W'.cell? ⟨b2, o2 + kk * 11 + 3, none⟩ = some (tx x.queue) := C2 W' hW' 3 _ rfl
      have : W'.cell? ⟨b2, o2 + kk * 11 + 4, none⟩ = some (.bool x.again) := C2 W' hW' 4 _ rfl
      have : W'.cell? ⟨b2, o2 + kk * 11 + 5, none⟩ = some (.bool x.kept) := C2 W' hW' 5 _ rfl
      have : W'.cell? ⟨b2, o2 + kk * 11 + 6, none⟩ = some (tx x.msg.topic) := C2 W' hW' 6 _ rfl
      have : W'.cell? ⟨b2, o2 + kk * 11 + 7, none⟩ = some (tx x.msg.body) := C2 W' hW' 7 _ rfl
      have : W'.cell? ⟨b2, o2 + kk * 11 + 8, none⟩ = some (.slice pb x.msg.props.length pbc) := C2 W' hW' 8 _ rfl
      have : W'.cell? ⟨b2, o2 + kk * 11 + 9, none⟩ = some (.bool x.msg.dur) := C2 W' hW' 9 _ rfl
      have : W'.cell? ⟨b2, o2 + kk * 11 + 10, none⟩ = some (.int .i64 x.msg.til) := C2 W' hW' 10 _ rfl
      go_simp
    simp only [tkA, tkf]
    have kA := (Blk.new w4 #[.int .i64 0, .int .i64 0, .int .i64 0, .string ⟨#[]⟩, .bool false, .bool false, .string ⟨#[]⟩, .string ⟨#[]⟩, .slice none 0 0, .bool false, .int .i64 0] 61).alloc (.cells #[.int .i64 0, .int .i64 0, .int .i64 0, .string ⟨#[]⟩, .bool false, .bool false, .string ⟨#[]⟩, .string ⟨#[]⟩, .slice none 0 0, .bool false, .int .i64 0] 61)
    have kB : Blk ((w4.alloc (.cells #[.int .i64 0, .int .i64 0, .int .i64 0, .string ⟨#[]⟩, .bool false, .bool false, .string ⟨#[]⟩, .string ⟨#[]⟩, .slice none 0 0, .bool false, .int .i64 0] 61)).alloc (.cells #[.int .i64 0, .int .i64 0, .int .i64 0, .string ⟨#[]⟩, .bool false, .bool false, .string ⟨#[]⟩, .string ⟨#[]⟩, .slice none 0 0, .bool false, .int .i64 0] 61)) (w4.heap.size + 1) #[.int .i64 0, .int .i64 0, .int .i64 0, .string ⟨#[]⟩, .bool false, .bool false, .string ⟨#[]⟩, .string ⟨#[]⟩, .slice none 0 0, .bool false, .int .i64 0] 61 := by
     have h := Blk.new (w4.alloc (.cells #[.int .i64 0, .int .i64 0, .int .i64 0, .string ⟨#[]⟩, .bool false, .bool false, .string ⟨#[]⟩, .string ⟨#[]⟩, .slice none 0 0, .bool false, .int .i64 0] 61)) #[.int .i64 0, .int .i64 0, .int .i64 0, .string ⟨#[]⟩, .bool false, .bool false, .string ⟨#[]⟩, .string ⟨#[]⟩, .slice none 0 0, .bool false, .int .i64 0] 61
     rw [World.size_alloc] at h
     exact h
    have ba := (Below.refl w4.heap.size w4).alloc (Nat.le_refl _) (.cells #[.int .i64 0, .int .i64 0, .int .i64 0, .string ⟨#[]⟩, .bool false, .bool false, .string ⟨#[]⟩, .string ⟨#[]⟩, .slice none 0 0, .bool false, .int .i64 0] 61)
    have bb := ba.alloc (by simp) (.cells #[.int .i64 0, .int .i64 0, .int .i64 0, .string ⟨#[]⟩, .bool false, .bool false, .string ⟨#[]⟩, .string ⟨#[]⟩, .slice none 0 0, .bool false, .int .i64 0] 61)
    have hA := nxt hS ba
    have hB := nxt hS bb
    have hlo : w.heap.size ≤ w4.heap.size := hS.size
    refine wpAnyH_two (i := 8) (j := 9) (by kernel_rfl) rfl rfl (by rfl) (by rfl) (fun K hK => ?_) (fun K hK => ?_)
    ·go_simp
     refine hK _ _ hA ?_
     clear hK K
     try simp only [tkf]
     refine ak 9 fun K hK => ?_
     go_simp
     refine hK _ _ hB ?_
     clear hK K
     try simp only [tkf]
     generalize (w4.alloc (.cells #[.int .i64 0, .int .i64 0, .int .i64 0, .string ⟨#[]⟩, .bool false, .bool false, .string ⟨#[]⟩, .string ⟨#[]⟩, .slice none 0 0, .bool false, .int .i64 0] 61)).alloc (.cells #[.int .i64 0, .int .i64 0, .int .i64 0, .string ⟨#[]⟩, .bool false, .bool false, .string ⟨#[]⟩, .string ⟨#[]⟩, .slice none 0 0, .bool false, .int .i64 0] 61) = w5 at *
     refine ak 10 fun K hK => ?_
     refine opw_putAt (.tmp 6) (.tmp 21) rfl (w4.heap.size) 0 #[.int .i64 x.conn, .int .i64 x.sub, .int .i64 x.tag, tx x.queue, .bool x.again, .bool x.kept, tx x.msg.topic, tx x.msg.body, .slice pa x.msg.props.length pac, .bool x.msg.dur, .int .i64 x.msg.til] rfl ?_ kA (by kernel_rfl) (by simp) (by simp [show (tx x.queue).oneCell' = true from rfl, show (tx x.msg.topic).oneCell' = true from rfl, show (tx x.msg.body).oneCell' = true from rfl, Value.oneCell']) ?_
     ·skip
      simp only [Act.eval, Act.put]
      rfl
     intro w6 k6 g6 s6
     have hS6 : Bw w w6 := hB.grown g6 hB.size (fun k hk => by injection hk with hk; omega)
     have k11 := kB.grown g6 (by simp)
     refine hK _ _ hS6 ?_
     clear hK K
     try simp only [tkf]
     refine ak 11 fun K hK => ?_
     refine opw_putAt (.tmp 7) (.tmp 25) rfl (w4.heap.size + 1) 0 #[.int .i64 x.conn, .int .i64 x.sub, .int .i64 x.tag, tx x.queue, .bool x.again, .bool x.kept, tx x.msg.topic, tx x.msg.body, .slice pb x.msg.props.length pbc, .bool x.msg.dur, .int .i64 x.msg.til] rfl ?_ k11 (by kernel_rfl) (by simp) (by simp [show (tx x.queue).oneCell' = true from rfl, show (tx x.msg.topic).oneCell' = true from rfl, show (tx x.msg.body).oneCell' = true from rfl, Value.oneCell']) ?_
     ·skip
      simp only [Act.eval, Act.put]
      rfl
     intro w7 k7 g7 s7
     have hS7 : Bw w w7 := hS6.grown g7 hS6.size (fun k hk => by injection hk with hk; omega)
     have k10 := k6.grown g7 (by simp)
     refine hK _ _ hS7 ?_
     clear hK K
     try simp only [tkf]
     refine ad ?_
     go_wp2_with fail
     go_meet
     exact ⟨_, _, rfl, rfl, hS7, by simpa using k10, by simpa using k7⟩
    ·go_simp
     refine hK _ _ hA ?_
     clear hK K
     try simp only [tkf]
     refine ak 8 fun K hK => ?_
     go_simp
     refine hK _ _ hB ?_
     clear hK K
     try simp only [tkf]
     generalize (w4.alloc (.cells #[.int .i64 0, .int .i64 0, .int .i64 0, .string ⟨#[]⟩, .bool false, .bool false, .string ⟨#[]⟩, .string ⟨#[]⟩, .slice none 0 0, .bool false, .int .i64 0] 61)).alloc (.cells #[.int .i64 0, .int .i64 0, .int .i64 0, .string ⟨#[]⟩, .bool false, .bool false, .string ⟨#[]⟩, .string ⟨#[]⟩, .slice none 0 0, .bool false, .int .i64 0] 61) = w5 at *
     refine ak 10 fun K hK => ?_
     refine opw_putAt (.tmp 6) (.tmp 21) rfl (w4.heap.size + 1) 0 #[.int .i64 x.conn, .int .i64 x.sub, .int .i64 x.tag, tx x.queue, .bool x.again, .bool x.kept, tx x.msg.topic, tx x.msg.body, .slice pa x.msg.props.length pac, .bool x.msg.dur, .int .i64 x.msg.til] rfl ?_ kB (by kernel_rfl) (by simp) (by simp [show (tx x.queue).oneCell' = true from rfl, show (tx x.msg.topic).oneCell' = true from rfl, show (tx x.msg.body).oneCell' = true from rfl, Value.oneCell']) ?_
     ·skip
      simp only [Act.eval, Act.put]
      rfl
     intro w6 k6 g6 s6
     have hS6 : Bw w w6 := hB.grown g6 hB.size (fun k hk => by injection hk with hk; omega)
     have k11 := kA.grown g6 (by simp)
     refine hK _ _ hS6 ?_
     clear hK K
     try simp only [tkf]
     refine ak 11 fun K hK => ?_
     refine opw_putAt (.tmp 7) (.tmp 25) rfl (w4.heap.size) 0 #[.int .i64 x.conn, .int .i64 x.sub, .int .i64 x.tag, tx x.queue, .bool x.again, .bool x.kept, tx x.msg.topic, tx x.msg.body, .slice pb x.msg.props.length pbc, .bool x.msg.dur, .int .i64 x.msg.til] rfl ?_ k11 (by kernel_rfl) (by simp) (by simp [show (tx x.queue).oneCell' = true from rfl, show (tx x.msg.topic).oneCell' = true from rfl, show (tx x.msg.body).oneCell' = true from rfl, Value.oneCell']) ?_
     ·skip
      simp only [Act.eval, Act.put]
      rfl
     intro w7 k7 g7 s7
     have hS7 : Bw w w7 := hS6.grown g7 hS6.size (fun k hk => by injection hk with hk; omega)
     have k10 := k6.grown g7 (by simp)
     refine hK _ _ hS7 ?_
     clear hK K
     try simp only [tkf]
     refine ad ?_
     go_wp2_with fail
     go_meet
     exact ⟨_, _, rfl, rfl, hS7, by simpa using k10, by simpa using k7⟩
   case rest =>
    obtain ⟨g6, g7, rfl, rfl, HU⟩ := hcut
    clear HS C1 C2
    have c0 : wc.cell? ⟨g6, 0, none⟩ = some (.int .i64 x.conn) := HU.out.2.1.cell 0
    have c1 : wc.cell? ⟨g6, 1, none⟩ = some (.int .i64 x.sub) := HU.out.2.1.cell 1
    have c2 : wc.cell? ⟨g6, 2, none⟩ = some (.int .i64 x.tag) := HU.out.2.1.cell 2
    have c3 : wc.cell? ⟨g6, 3, none⟩ = some (tx x.queue) := HU.out.2.1.cell 3
    have c4 : wc.cell? ⟨g6, 4, none⟩ = some (.bool x.again) := HU.out.2.1.cell 4
    have c5 : wc.cell? ⟨g6, 5, none⟩ = some (.bool x.kept) := HU.out.2.1.cell 5
    have c6 : wc.cell? ⟨g6, 6, none⟩ = some (tx x.msg.topic) := HU.out.2.1.cell 6
    have c7 : wc.cell? ⟨g6, 7, none⟩ = some (tx x.msg.body) := HU.out.2.1.cell 7
    have c8 : wc.cell? ⟨g6, 8, none⟩ = some (.slice pa x.msg.props.length pac) := HU.out.2.1.cell 8
    have c9 : wc.cell? ⟨g6, 9, none⟩ = some (.bool x.msg.dur) := HU.out.2.1.cell 9
    have c10 : wc.cell? ⟨g6, 10, none⟩ = some (.int .i64 x.msg.til) := HU.out.2.1.cell 10
    have d0 : wc.cell? ⟨g7, 0, none⟩ = some (.int .i64 x.conn) := HU.out.2.2.cell 0
    have d1 : wc.cell? ⟨g7, 1, none⟩ = some (.int .i64 x.sub) := HU.out.2.2.cell 1
    have d2 : wc.cell? ⟨g7, 2, none⟩ = some (.int .i64 x.tag) := HU.out.2.2.cell 2
    have d3 : wc.cell? ⟨g7, 3, none⟩ = some (tx x.queue) := HU.out.2.2.cell 3
    have d4 : wc.cell? ⟨g7, 4, none⟩ = some (.bool x.again) := HU.out.2.2.cell 4
    have d5 : wc.cell? ⟨g7, 5, none⟩ = some (.bool x.kept) := HU.out.2.2.cell 5
    have d6 : wc.cell? ⟨g7, 6, none⟩ = some (tx x.msg.topic) := HU.out.2.2.cell 6
    have d7 : wc.cell? ⟨g7, 7, none⟩ = some (tx x.msg.body) := HU.out.2.2.cell 7
    have d8 : wc.cell? ⟨g7, 8, none⟩ = some (.slice pb x.msg.props.length pbc) := HU.out.2.2.cell 8
    have d9 : wc.cell? ⟨g7, 9, none⟩ = some (.bool x.msg.dur) := HU.out.2.2.cell 9
    have d10 : wc.cell? ⟨g7, 10, none⟩ = some (.int .i64 x.msg.til) := HU.out.2.2.cell 10
    have HM := HA wc HU.out.1
    clear HA
    go_wp2_with fail
    refine HM.mono ?_
    rintro e w8 ⟨rfl, b8⟩
    have HX : Hid (Bw w w8) := nxt HU.out.1 b8
    clear HM HU b8 c0 d0 c1 d1 c2 d2 c3 d3 c4 d4 c5 d5 c6 d6 c7 d7 c8 d8 c9 d9 c10 d10
    go_wp2_with fail
    go_roundg (nq - (kk + 1))
    case measure => omega
    case rel => exact ⟨kk + 1, by omega, by omega, by go_num, HX.out⟩
  ·have hltz : ¬ (kk : Int) < (nq : Int) := by omega
   go_wp2_with fail
   go_ret
   exact ⟨rfl, HS.out⟩
def LoR (zs : Zs Opr) (e : Ending) : Prop := ∃ b : Bool, e = .returned (.bool b) ∧ (b = false → zs.length ≤ 100)
set_option maxHeartbeats 4000000 in
theorem long_any (w : World) (v : Value) (zs : Zs Opr) (h : RdOs w v zs) (hn : zs.length ≤ 9223372036854775807) :
  Calls Tryz.prog 15 #[v] w fun e w' => LoR zs e ∧ Bw w w' := by
 obtain ⟨va, vc, rfl⟩ := h.1.len
 obtain ⟨n, en⟩ : ∃ n, zs.length = n := ⟨_, rfl⟩
 rw [en] at h hn ⊢
 have HI : Hid (RdOs w (.slice va n vc) zs ∧ zs.length = n) := ⟨h, en⟩
 have HLO : Hid (∀ b : Bool, (b = false → n ≤ 100) → LoR zs (.returned (.bool b))) := fun b hb => ⟨b, rfl, fun e => by rw [en]; exact hb e⟩
 clear h en
 go_enter Tryz.func15, Tryz.ntmps15
 go_upto_region 2 with fail
 go_loopg [4, 7] n (fun gg _ s7 wr => ∃ i : Nat, i ≤ n ∧ n - i ≤ gg ∧ s7 = .int .i64 i ∧ Hid (Bw w wr))
 case atStart => exact ⟨0, Nat.zero_le _, by omega, rfl, .refl _ _⟩
 case round =>
  obtain ⟨i, hi, hg, rfl, HR⟩ := hrel
  obtain ⟨wt, hwt⟩ : ∃ W, W = wr := ⟨_, rfl⟩
  subst hwt
  by_cases hlt : i < n
  ·have hltz : (i : Int) < (n : Int) := by omega
   have hiz : i < zs.length := by rw [HI.out.2]; exact hlt
   obtain ⟨b', o, pv, rfl, hp, hin, C⟩ := HI.out.1.at hiz
   generalize (zs[i]).2 = x at *
   obtain ⟨pa, pc, rfl⟩ := hp.shape
   have hone := hp.one
   clear hp hin
   have e0 : wt.cell? ⟨b', o + i * 14, none⟩ = some (.int .i64 x.kind) := C wt HR.out 0 _ rfl
   have e1 : wt.cell? ⟨b', o + i * 14 + 1, none⟩ = some (.int .i64 x.conn) := C wt HR.out 1 _ rfl
   have e2 : wt.cell? ⟨b', o + i * 14 + 2, none⟩ = some (.int .i64 x.sub) := C wt HR.out 2 _ rfl
   have e3 : wt.cell? ⟨b', o + i * 14 + 3, none⟩ = some (.int .i64 x.n) := C wt HR.out 3 _ rfl
   have e4 : wt.cell? ⟨b', o + i * 14 + 4, none⟩ = some (tx x.queue) := C wt HR.out 4 _ rfl
   have e5 : wt.cell? ⟨b', o + i * 14 + 5, none⟩ = some (tx x.text) := C wt HR.out 5 _ rfl
   have e6 : wt.cell? ⟨b', o + i * 14 + 6, none⟩ = some (.bool x.dur) := C wt HR.out 6 _ rfl
   have e7 : wt.cell? ⟨b', o + i * 14 + 7, none⟩ = some (.bool x.auto) := C wt HR.out 7 _ rfl
   have e8 : wt.cell? ⟨b', o + i * 14 + 8, none⟩ = some (.bool x.keep) := C wt HR.out 8 _ rfl
   have e9 : wt.cell? ⟨b', o + i * 14 + 9, none⟩ = some (tx x.msg.topic) := C wt HR.out 9 _ rfl
   have e10 : wt.cell? ⟨b', o + i * 14 + 10, none⟩ = some (tx x.msg.body) := C wt HR.out 10 _ rfl
   have e11 : wt.cell? ⟨b', o + i * 14 + 11, none⟩ = some (.slice pa x.msg.props.length pc) := C wt HR.out 11 _ rfl
   have e12 : wt.cell? ⟨b', o + i * 14 + 12, none⟩ = some (.bool x.msg.dur) := C wt HR.out 12 _ rfl
   have e13 : wt.cell? ⟨b', o + i * 14 + 13, none⟩ = some (.int .i64 x.msg.til) := C wt HR.out 13 _ rfl
   go_wp2_with (refine wpl_fresh rfl (.tmp 4) (.tmp 10) rfl (opA x (.slice pa x.msg.props.length pc)) _ rfl rfl (by kernel_rfl) rfl (op_one (o := x) hone) ?_)
   intro w2 k2 b2 s2
   clear e0 e1 e2 e3 e4 e5 e6 e7 e8 e9 e10 e11 e12 e13 s2 C hone
   have HS2 : Hid (Bw w w2) := nxt HR.out b2
   obtain ⟨d0, d1, d2, d3, d4, d5, d6, d7, d8, d9, d10, d11, d12, d13⟩ := k2.c14
   obtain ⟨gx, egx⟩ : ∃ g, wt.heap.size = g := ⟨_, rfl⟩
   rw [egx] at d0 d1 d2 d3 d4 d5 d6 d7 d8 d9 d10 d11 d12 d13 ⊢
   clear egx k2 b2 HR
   by_cases f1 : (1000 : Int) < (x.msg.props.length : Int)
   ·go_wp2_with fail
    go_ret
    exact ⟨HLO.out true (fun h => by cases h), HS2.out⟩
   ·clear d0 d1 d2 d3 d4 d5 d6 d7 d8 d9 d10 d12 d13
    go_wp2_with fail
    go_roundg (n - (i + 1))
    case measure => omega
    case rel => exact ⟨i + 1, by omega, by omega, by go_num, HS2.out⟩
  ·have hltz : ¬ (i : Int) < (n : Int) := by omega
   by_cases h100 : (100 : Int) < (n : Int)
   ·go_wp2_with fail
    go_ret
    exact ⟨HLO.out true (fun h => by cases h), HR.out⟩
   ·go_wp2_with fail
    go_ret
    exact ⟨HLO.out false (fun h => by omega), HR.out⟩
theorem behind_snoc (c : Cor) : ∀ (l : List Opr) (o : Opr), behindC c (l ++ [o]) = match doC (behindC c l) o with
  | .ok r => r.1
  | .error _ => behindC c l := by
 intro l
 induction l generalizing c with
 | nil =>
  intro o
  show behindC c [o] = match doC c o with
   | .ok r => r.1
   | .error _ => c
  unfold behindC
  cases doC c o <;> rfl
 | cons x l ih =>
  intro o
  have e : behindC c (x :: l ++ [o]) = match doC c x with
    | .ok r => behindC r.1 (l ++ [o])
    | .error _ => behindC c (l ++ [o]) := rfl
  have e2 : behindC c (x :: l) = match doC c x with
    | .ok r => behindC r.1 l
    | .error _ => behindC c l := rfl
  rw [e, e2]
  cases doC c x with
  | ok r => exact ih r.1 o
  | error n => exact ih c o
theorem behind_take {c : Cor} {l : List Opr} {i : Nat} (hi : i < l.length) : behindC c (l.take (i + 1)) = match doC (behindC c (l.take i)) l[i] with
  | .ok r => r.1
  | .error _ => behindC c (l.take i) := by
 rw [List.take_succ_eq_append_getElem hi]
 exact behind_snoc c _ _
def bhZ (zs : Zs Opr) (i : Nat) : Cor := behindC zeroC ((zs.map (·.2)).take i)
theorem bhZ_ok {zs : Zs Opr} {i : Nat} (hi : i < zs.length) {r : Cor × List Ot} (h : doC (bhZ zs i) (zs[i]).2 = .ok r) : bhZ zs (i + 1) = r.1 := by
 unfold bhZ at h ⊢
 rw [behind_take (by rw [List.length_map]; exact hi), List.getElem_map, h]
theorem bhZ_no {zs : Zs Opr} {i : Nat} (hi : i < zs.length) {m : Int} (h : doC (bhZ zs i) (zs[i]).2 = .error m) : bhZ zs (i + 1) = bhZ zs i := by
 have e := behind_take (c := zeroC) (l := zs.map (·.2)) (i := i) (by rw [List.length_map]; exact hi)
 unfold bhZ at h ⊢
 rw [e, List.getElem_map, h]
theorem bhZ_good (zs : Zs Opr) (i : Nat) : GoodC (bhZ zs i) ∧ Pumped (bhZ zs i) := behind_good good_zero pumped_zero _
theorem bhZ_all {zs : Zs Opr} {i : Nat} (hi : zs.length ≤ i) : bhZ zs i = behindC zeroC (zs.map (·.2)) := by
 unfold bhZ
 rw [List.take_of_length_le (by rw [List.length_map]; exact hi)]
set_option maxHeartbeats 8000000 in
theorem behind_any (w : World) (hV : To.Vars w) (v : Value) (zs : Zs Opr) (h : RdOs w v zs) (hn : zs.length ≤ 9223372036854775807) :
  Calls Tryz.prog 21 #[v] w fun e w' => ∃ q1 b1 s1 k1 c1, e = .returned (corV (behindC zeroC (zs.map (·.2))) q1 b1 s1 k1 c1) ∧ OwC w' w.heap.size (behindC zeroC (zs.map (·.2))) q1 b1 s1 k1 c1 ∧ Bw w w' := by
 obtain ⟨va, vc, rfl⟩ := h.1.len
 obtain ⟨n, en⟩ : ∃ n, zs.length = n := ⟨_, rfl⟩
 rw [en] at h hn ⊢
 have HI : Hid (RdOs w (.slice va n vc) zs ∧ zs.length = n ∧ To.Vars w) := ⟨h, en, hV⟩
 clear h en hV
 go_enter Tryz.func21, Tryz.ntmps21
 have k0 := Blk.new w coZ 30
 have b0 := (Below.refl w.heap.size w).alloc (Nat.le_refl _) (.cells coZ 30)
 have R0 : Hid (∃ c, c = bhZ zs 0 ∧ LwS w ((w.alloc (.cells coZ 30)).alloc (.cells coZ 30)) (w.heap.size + 1) c ∧ Blk ((w.alloc (.cells coZ 30)).alloc (.cells coZ 30)) w.heap.size coZ 30) := by
  have k2 := Blk.new (w.alloc (.cells coZ 30)) coZ 30
  rw [World.size_alloc] at k2
  exact ⟨zeroC, rfl, ⟨⟨_, _, _, _, _, k2, owc_zero _ _⟩, b0.alloc (by simp) _, by omega⟩, k0.alloc _⟩
 clear k0 b0
 go_upto_region 3 with fail
 generalize (w.alloc (.cells coZ 30)).alloc (.cells coZ 30) = w1 at *
 obtain ⟨kc, ekc⟩ : ∃ x, w.heap.size + 1 = x := ⟨_, rfl⟩
 have HKC : Hid (w.heap.size + 1 = kc) := ekc
 rw [ekc] at R0 ⊢
 clear ekc
 go_loopg [12] n (fun gg s12 wr => ∃ i : Nat, i ≤ n ∧ n - i ≤ gg ∧ s12 = .int .i64 i ∧ Hid (∃ c, c = bhZ zs i ∧ LwS w wr kc c ∧ Blk wr w.heap.size coZ 30))
 case atStart => exact ⟨0, Nat.zero_le _, by omega, rfl, R0.out⟩
 case round =>
  obtain ⟨i, hi, hg, rfl, HR⟩ := hrel
  clear R0
  obtain ⟨wt, hwt⟩ : ∃ W, W = wr := ⟨_, rfl⟩
  subst hwt
  obtain ⟨c, hc, hS, hZ⟩ := HR.out
  have HS : Hid (LwS w wt kc c) := hS
  have HZ : Hid (Blk wt w.heap.size coZ 30) := hZ
  have HC0 : Hid (c = bhZ zs i) := hc
  clear HR hc hS hZ
  by_cases hlt : i < n
  ·have hltz : (i : Int) < (n : Int) := by omega
   have hiz : i < zs.length := by rw [HI.out.2.1]; exact hlt
   obtain ⟨b', o, pv, rfl, hp, hin, C⟩ := HI.out.1.at hiz
   obtain ⟨x, exx⟩ : ∃ x, (zs[i]).2 = x := ⟨_, rfl⟩
   rw [exx] at hp hin C
   have HXX : Hid ((zs[i]).2 = x) := exx
   clear exx
   obtain ⟨pa, pc, rfl⟩ := hp.shape
   have HF : Hid (RdP w (.slice pa x.msg.props.length pc) x.msg.props ∧ InO x) := ⟨hp, hin⟩
   have hone := hp.one
   clear hp hin
   have e0 : wt.cell? ⟨b', o + i * 14, none⟩ = some (.int .i64 x.kind) := C wt HS.out.l 0 _ rfl
   have e1 : wt.cell? ⟨b', o + i * 14 + 1, none⟩ = some (.int .i64 x.conn) := C wt HS.out.l 1 _ rfl
   have e2 : wt.cell? ⟨b', o + i * 14 + 2, none⟩ = some (.int .i64 x.sub) := C wt HS.out.l 2 _ rfl
   have e3 : wt.cell? ⟨b', o + i * 14 + 3, none⟩ = some (.int .i64 x.n) := C wt HS.out.l 3 _ rfl
   have e4 : wt.cell? ⟨b', o + i * 14 + 4, none⟩ = some (tx x.queue) := C wt HS.out.l 4 _ rfl
   have e5 : wt.cell? ⟨b', o + i * 14 + 5, none⟩ = some (tx x.text) := C wt HS.out.l 5 _ rfl
   have e6 : wt.cell? ⟨b', o + i * 14 + 6, none⟩ = some (.bool x.dur) := C wt HS.out.l 6 _ rfl
   have e7 : wt.cell? ⟨b', o + i * 14 + 7, none⟩ = some (.bool x.auto) := C wt HS.out.l 7 _ rfl
   have e8 : wt.cell? ⟨b', o + i * 14 + 8, none⟩ = some (.bool x.keep) := C wt HS.out.l 8 _ rfl
   have e9 : wt.cell? ⟨b', o + i * 14 + 9, none⟩ = some (tx x.msg.topic) := C wt HS.out.l 9 _ rfl
   have e10 : wt.cell? ⟨b', o + i * 14 + 10, none⟩ = some (tx x.msg.body) := C wt HS.out.l 10 _ rfl
   have e11 : wt.cell? ⟨b', o + i * 14 + 11, none⟩ = some (.slice pa x.msg.props.length pc) := C wt HS.out.l 11 _ rfl
   have e12 : wt.cell? ⟨b', o + i * 14 + 12, none⟩ = some (.bool x.msg.dur) := C wt HS.out.l 12 _ rfl
   have e13 : wt.cell? ⟨b', o + i * 14 + 13, none⟩ = some (.int .i64 x.msg.til) := C wt HS.out.l 13 _ rfl
   go_wp2_with (refine wpl_fresh rfl (.tmp 5) (.tmp 15) rfl (opA x (.slice pa x.msg.props.length pc)) _ rfl rfl (by kernel_rfl) rfl (op_one (o := x) hone) ?_)
   intro w2 k2 b2 s2
   clear e0 e1 e2 e3 e4 e5 e6 e7 e8 e9 e10 e11 e12 e13 s2 C hone
   have HS2 : Hid (LwS w w2 kc c) := HS.out.on b2
   have HZ2 : Hid (Blk w2 w.heap.size coZ 30) := HZ.out.on b2
   obtain ⟨d0, d1, d2, d3, d4, d5, d6, d7, d8, d9, d10, d11, d12, d13⟩ := k2.c14
   obtain ⟨gx, egx⟩ : ∃ g, wt.heap.size = g := ⟨_, rfl⟩
   rw [egx] at d0 d1 d2 d3 d4 d5 d6 d7 d8 d9 d10 d11 d12 d13 ⊢
   clear egx k2 b2 HS HZ
   obtain ⟨q1, v1, s1, k1, c1, kC, oC⟩ := HS2.out.k
   have hgc : GoodC c := by rw [HC0.out]; exact (bhZ_good zs i).1
   have HC := do_good w2 (HI.out.2.2.below HS2.out.l) _ c q1 v1 s1 k1 c1 oC hgc x (.slice pa x.msg.props.length pc) (opok_of HF.out.1 HF.out.2 HS2.out.l)
   unfold corV opV at HC
   obtain ⟨c0, c1', c2, c3, c4, c5⟩ := kC.c6
   have HK2 : Hid (Blk w2 kc #[.int .i64 c.now, q1, v1, s1, k1, c1] 30 ∧ OwC w2 w.heap.size c q1 v1 s1 k1 c1) := ⟨kC, oC⟩
   clear kC oC hgc
   go_wp2_with fail
   refine HC.mono ?_
   rintro e w3 ⟨hD, b3⟩
   clear HC c0 c1' c2 c3 c4 c5 d0 d1 d2 d3 d4 d5 d6 d7 d8 d9 d10 d11 d12 d13
   rcases hD with ⟨r3, q3, v3, s3, k3, c3, o3, hd, he, oC3, oO3⟩ | ⟨m, hd, hm, he⟩
   rotate_left
   ·subst he
    unfold nilV
    have b4 : Bw w3 (w3.alloc (.cells coZ 30)) := (Below.refl w3.heap.size w3).alloc (Nat.le_refl _) _
    have HX : Hid (∃ c', c' = bhZ zs (i + 1) ∧ LwS w (w3.alloc (.cells coZ 30)) kc c' ∧ Blk (w3.alloc (.cells coZ 30)) w.heap.size coZ 30) := ⟨c, by
     rw [bhZ_no hiz (m := m) (by rw [← HC0.out, HXX.out]; exact hd)]
     exact HC0.out, (HS2.out.on b3).on b4, (HZ2.out.on b3).on b4⟩
    have hm' : ¬ m = 0 := hm
    clear b4 hd hm HS2 HK2 b3 HC0 HZ2
    go_wp2_with fail
    go_roundg (n - (i + 1))
    case measure => omega
    case rel => exact ⟨i + 1, by omega, by omega, by go_num, HX.out⟩
   subst he
   unfold corV
   have HT3 : Hid (r3.1 = bhZ zs (i + 1)) := (bhZ_ok hiz (r := r3) (by rw [← HC0.out, HXX.out]; exact hd)).symm
   clear hd
   go_wp2_with (refine wpl_fresh rfl (.tmp 6) (.tmp 20) rfl #[.int .i64 r3.1.now, q3, v3, s3, k3, c3] _ rfl rfl (by kernel_rfl) rfl (cor_one oC3) ?_)
   intro w4 k4 b4 s4
   have K4 := (HK2.out.1.on b3).on b4
   have Z4 := (HZ2.out.on b3).on b4
   have oC4 := (oC3.on b4).low (HS2.out.l.size)
   have l4 := nxt (nxt HS2.out.l b3) b4
   have hgk := HS2.out.g
   obtain ⟨gy, egy⟩ : ∃ g, w3.heap.size = g := ⟨_, rfl⟩
   rw [egy] at k4 ⊢
   clear egy oC3 oO3 b3 b4 s4 HS2 HK2 HZ2
   obtain ⟨c0, c1', c2, c4', c5', c6'⟩ := k4.c6
   go_wp2_with (refine wpl_put rfl (.tmp 3) (.tmp 25) rfl kc #[.int .i64 r3.1.now, q3, v3, s3, k3, c3] rfl rfl K4 (by kernel_rfl) rfl (cor_one oC4) ?_)
   intro w5 k5 g5 s5
   have HX : Hid (∃ c', c' = bhZ zs (i + 1) ∧ LwS w w5 kc c' ∧ Blk w5 w.heap.size coZ 30) := ⟨r3.1, HT3.out, ⟨⟨_, _, _, _, _, k5, oC4.kx (KX.put K4 g5) (by decide)⟩, l4.grown g5 l4.size (fun k hk => by injection hk with hk; omega), hgk⟩, Z4.grown g5 (by have := HKC.out; simp; omega)⟩
   clear c0 c1' c2 c4' c5' c6' k4 K4 oC4 l4 k5 g5 s5 HT3 HC0 hgk Z4
   go_wp2_with fail
   go_roundg (n - (i + 1))
   case measure => omega
   case rel => exact ⟨i + 1, by omega, by omega, by go_num, HX.out⟩
  ·have hltz : ¬ (i : Int) < (n : Int) := by omega
   obtain ⟨q1, v1, s1, k1, c1, kC, oC⟩ := HS.out.k
   have hcb : Hid (c = behindC zeroC (zs.map (·.2))) := by
    show c = _
    rw [HC0.out]
    exact bhZ_all (by rw [HI.out.2.1]; omega)
   have hZ := HZ.out
   obtain ⟨c0, c1', c2, c3, c4, c5⟩ := kC.c6
   have HL : Hid (Bw w wt) := HS.out.l
   have hone := cor_one oC
   clear HS HC0 HZ
   go_wp2_with (refine wpl_put rfl (.tmp 2) (.tmp 27) rfl w.heap.size #[.int .i64 c.now, q1, v1, s1, k1, c1] rfl rfl hZ (by kernel_rfl) rfl hone ?_)
   intro w5 k5 g5 s5
   clear c0 c1' c2 c3 c4 c5
   go_wp2_with fail
   have hcb := hcb.out
   subst hcb
   exact ret30 rfl k5 rfl rfl ⟨_, _, _, _, _, rfl, oC.kx (KX.put hZ g5) (by decide), HL.out.grown g5 HL.out.size (fun k hk => by injection hk with hk; omega)⟩
theorem RdOs.on {w W : World} {v : Value} {zs : Zs Opr} (h : RdOs w v zs) (hb : Bw w W) : RdOs W v zs := ⟨(h.1.on hb).imp (by
 rintro vs y ⟨pv, h1, h2⟩
 exact ⟨pv, h1, h2.on hb⟩), h.2⟩
theorem one_rd {W : World} {b : Nat} {o : Opr} {pv : Value} (hp : RdP W pv o.msg.props) (ho : InO o) (h : Blk W b (opL o pv).toArray 35) : RdOs W (.slice (some ⟨b, 0, none⟩) 1 1) [(opL o pv, o)] := by
 refine ⟨⟨.inr ⟨b, 0, 1, rfl, Nat.le_refl _, fun j u hj => ?_⟩, fun z hz => ?_⟩, fun z hz => ?_⟩
 ·rw [Nat.zero_add, h.cell j]
  simpa [cellsZ] using hj
 ·have e : z = (opL o pv, o) := by simpa using hz
  subst e
  refine ⟨⟨rfl, fun u hu => ?_⟩, _, rfl, hp⟩
  have := hp.one
  simp only [opL, List.mem_cons, List.not_mem_nil, or_false] at hu
  rcases hu with rfl | rfl | rfl | rfl | rfl | rfl | rfl | rfl | rfl | rfl | rfl | rfl | rfl | rfl <;> first | rfl | exact this
 ·have e : z = (opL o pv, o) := by simpa using hz
  subst e
  exact ho
theorem none_rd (W : World) : RdOs W (.slice none 0 0) [] := ⟨⟨.inl ⟨⟨none, 0, rfl⟩, rfl⟩, fun z hz => by cases hz⟩, fun z hz => by cases hz⟩
theorem rdot_nil (W : World) : RdOt W (.slice none 0 0) [] := ⟨[], rfl, ⟨.inl ⟨⟨none, 0, rfl⟩, rfl⟩, fun z hz => by cases hz⟩⟩
theorem fail_nil {c : Cor} {i : Nat} {m : Int} (h : FailAt c [] i m) : False := absurd h.lt (Nat.not_lt_zero i)
set_option maxHeartbeats 16000000 in
theorem txOne_law (w : World) (hV : To.Vars w) (v : Value) (zs : Zs Opr) (h : RdOs w v zs) (hn : zs.length ≤ 9223372036854775807) (x : Opr) (pv : Value) (hp : RdP w pv x.msg.props) (hx : InO x) :
  Calls Tryz.prog 8 #[v, .agg (opL x pv).toArray] w fun e w' => e = .returned (.bool true) ∧ Bw w w' := by
 obtain ⟨pa, pc, rfl⟩ := hp.shape
 have HI : Hid (RdOs w v zs ∧ zs.length ≤ 9223372036854775807 ∧ To.Vars w ∧ InO x) := ⟨h, hn, hV, hx⟩
 have HP : Hid (RdP w (.slice pa x.msg.props.length pc) x.msg.props) := hp
 clear h hn hV hx hp
 obtain ⟨np, enp⟩ : ∃ n, x.msg.props.length = n := ⟨_, rfl⟩
 rw [enp] at HP ⊢
 clear enp
 have b0 := (Below.refl w.heap.size w).alloc (Nat.le_refl _) (.cells (opA x (.slice pa np pc)) 35)
 have k0 := Blk.new w (opA x (.slice pa np pc)) 35
 show Calls Tryz.prog 8 #[v, .agg #[.int .i64 x.kind, .int .i64 x.conn, .int .i64 x.sub, .int .i64 x.n, tx x.queue, tx x.text, .bool x.dur, .bool x.auto, .bool x.keep, tx x.msg.topic, tx x.msg.body, .slice pa np pc, .bool x.msg.dur, .int .i64 x.msg.til]] w _
 go_enter Tryz.func8, Tryz.ntmps8
 go_upto_region 1 with fail
 generalize w.alloc (.cells (opA x (.slice pa np pc)) 35) = w1 at *
 obtain ⟨gx, egx⟩ : ∃ g, w.heap.size = g := ⟨_, rfl⟩
 have HGX : Hid (w.heap.size = gx) := egx
 rw [egx] at k0 ⊢
 clear egx
 have HW := wakes12_any w1 (HI.out.2.2.1.below b0)
 have HK1 : Hid (Blk w1 gx (opA x (.slice pa np pc)) 35 ∧ Bw w w1) := ⟨k0, b0⟩
 clear k0 b0
 go_wp2_with fail
 refine HW.mono ?_
 rintro e w2 ⟨rfl, b2⟩
 have HK2 : Hid (Blk w2 gx (opA x (.slice pa np pc)) 35 ∧ Bw w w2) := ⟨HK1.out.1.on b2, nxt HK1.out.2 b2⟩
 clear HW HK1 b2
 have HW := long_any w2 v zs (HI.out.1.on HK2.out.2) HI.out.2.1
 go_upto_region 3 with fail
 obtain ⟨d0, d1, d2, d3, d4, d5, d6, d7, d8, d9, d10, d11, d12, d13⟩ := HK2.out.1.c14
 clear d0 d1 d2 d3 d4 d5 d6 d7 d8 d9 d10 d11 d12 d13
 go_wp2_with fail
 refine HW.mono ?_
 rintro e w3 ⟨⟨lb, rfl, hlb⟩, b3⟩
 have HK3 : Hid (Blk w3 gx (opA x (.slice pa np pc)) 35 ∧ Bw w w3) := ⟨HK2.out.1.on b3, nxt HK2.out.2 b3⟩
 clear HW HK2 b3
 cases lb with
 | true =>
  clear hlb
  go_wp2_with fail
  go_ret
  exact ⟨rfl, HK3.out.2⟩
 | false =>
 clear hlb
 have d11 : w3.cell? ⟨gx, 11, none⟩ = some (.slice pa np pc) := HK3.out.1.cell 11
 by_cases h1000 : (1000 : Int) < (np : Int)
 ·go_wp2_with fail
  go_ret
  exact ⟨rfl, HK3.out.2⟩
 have HW := behind_any w3 (HI.out.2.2.1.below HK3.out.2) v zs (HI.out.1.on HK3.out.2) HI.out.2.1
 have HG : Hid (GoodC (behindC zeroC (zs.map (·.2)))) := (behind_good good_zero pumped_zero _).1
 generalize behindC zeroC (zs.map (·.2)) = c at *
 go_upto_region 5 with fail
 clear d11
 go_wp2_with fail
 refine HW.mono ?_
 rintro e w4 ⟨q1, v1, s1, k1, c1, rfl, oC, b4⟩
 unfold corV
 clear HW
 go_wp2_with (refine wpl_fresh rfl (.tmp 5) (.tmp 25) rfl #[.int .i64 c.now, q1, v1, s1, k1, c1] _ rfl rfl (by kernel_rfl) rfl (cor_one oC) ?_)
 intro w5 kC b5 s5
 have bb := nxt b4 b5
 have oC5 := (oC.on b5).low HK3.out.2.size
 have HX5 : Hid (Blk w5 gx (opA x (.slice pa np pc)) 35) := HK3.out.1.on bb
 have L : Hid (Bw w w5) := nxt HK3.out.2 bb
 have hgw : w.heap.size ≤ w4.heap.size := nxt HK3.out.2 b4 |>.size
 obtain ⟨gc, egc⟩ : ∃ g, w4.heap.size = g := ⟨_, rfl⟩
 rw [egc] at kC hgw ⊢
 have HGC : Hid (w.heap.size ≤ gc) := hgw
 clear egc HK3 b4 b5 s5 bb oC hgw
 have oC := oC5
 clear oC5
 go_upto_region 6 with fail
 obtain ⟨c0, c1', c2, c3, c4, c5⟩ := kC.c6
 obtain ⟨d0, d1, d2, d3, d4, d5, d6, d7, d8, d9, d10, d11, d12, d13⟩ := HX5.out.c14
 have hone : (.slice pa np pc : Value).oneCell' = true := rfl
 have b6 : Bw w5 (w5.alloc (.cells (opL x (.slice pa np pc)).toArray 35)) := (Below.refl w5.heap.size w5).alloc (Nat.le_refl _) _
 have hPL : RdP (w5.alloc (.cells (opL x (.slice pa np pc)).toArray 35)) (.slice pa np pc) x.msg.props := HP.out.on (nxt L.out b6)
 have HC := run12_any (w5.alloc (.cells (opL x (.slice pa np pc)).toArray 35)) (HI.out.2.2.1.below (nxt L.out b6)) _ c q1 v1 s1 k1 c1 (oC.on b6) HG.out _ [(opL x (.slice pa np pc), x)] (one_rd hPL HI.out.2.2.2 (Blk.new w5 _ 35)) (by simp)
 unfold corV at HC
 have HK5 : Hid (Blk w5 gc #[.int .i64 c.now, q1, v1, s1, k1, c1] 30 ∧ OwC w5 w.heap.size c q1 v1 s1 k1 c1 ∧ Bw w5 (w5.alloc (.cells (opL x (.slice pa np pc)).toArray 35))) := ⟨kC, oC, b6⟩
 clear kC oC b6 hPL
 go_wp2_with fail
 refine HC.mono ?_
 rintro e w7 ⟨hT, b7⟩
 clear HC c0 c1' c2 c3 c4 c5 d0 d1 d2 d3 d4 d5 d6 d7 d8 d9 d10 d11 d12 d13
 have b57 := nxt HK5.out.2.2 b7
 have kC := HK5.out.1.on b57
 have oC := HK5.out.2.1.on b57
 have kX := HX5.out.on b57
 have L7 : Hid (Bw w w7) := nxt L.out b57
 clear HK5 HX5 b57 L
 have L := L7
 clear L7
 rcases hT with ⟨r, q7, v7, s7, k7, c7, o7, hr, he, oC7, oO7⟩ | ⟨i, m, hf, hm, he⟩
 ·have hd : doC c x = .ok r := run_one hr
  have HD : Hid (doC c x = .ok r) := hd
  have HSM : Hid (r.2.length ≤ 100000 ∧ ∀ y ∈ r.2, msgB y.msg = true) := ⟨by have := do_outs hd; omega, do_msgs hd⟩
  have HGR : Hid (GoodC r.1) := (doC_ok hd).2.1
  subst he
  unfold corV
  obtain ⟨oa7, on7, oc7, rfl⟩ := OwnL.shape oO7
  clear hr hd b7
  go_wp2_with (refine wpl_fresh rfl (.tmp 6) (.tmp 31) rfl #[.int .i64 r.1.now, q7, v7, s7, k7, c7] _ rfl rfl (by kernel_rfl) rfl (cor_one oC7) ?_)
  intro w8 k8 b8 s8
  have kC8 := kC.on b8
  have hlt8 := kC.lt
  have oC8 := oC.on b8
  have kX8 := kX.on b8
  have oX8 := oC7.on b8
  have oO8 := oO7.on b8
  have L8 : Hid (Bw w w8) := nxt L.out b8
  obtain ⟨g8, eg8⟩ : ∃ g, w7.heap.size = g := ⟨_, rfl⟩
  rw [eg8] at k8 hlt8 ⊢
  have HNE : Hid (gc < g8 ∧ w.heap.size ≤ gc) := ⟨hlt8, HGC.out⟩
  clear kC oC kX oC7 oO7 b8 s8 eg8 L hlt8
  have L := L8
  clear L8
  go_upto_region 7 with fail
  obtain ⟨c0, c1', c2, c3, c4, c5⟩ := kC8.c6
  obtain ⟨d0, d1, d2, d3, d4, d5, d6, d7, d8, d9, d10, d11, d12, d13⟩ := kX8.c14
  have HC := do_good w8 (HI.out.2.2.1.below L.out) _ c q1 v1 s1 k1 c1 oC8 HG.out x (.slice pa np pc) (opok_of HP.out HI.out.2.2.2 L.out)
  unfold corV opV at HC
  have HK8 : Hid (Blk w8 gc #[.int .i64 c.now, q1, v1, s1, k1, c1] 30 ∧ OwC w8 w.heap.size c q1 v1 s1 k1 c1 ∧ Blk w8 g8 #[.int .i64 r.1.now, q7, v7, s7, k7, c7] 30 ∧ OwC w8 (w5.alloc (.cells (opL x (.slice pa np pc)).toArray 35)).heap.size r.1 q7 v7 s7 k7 c7 ∧ OOc w8 (w5.alloc (.cells (opL x (.slice pa np pc)).toArray 35)).heap.size (.slice oa7 on7 oc7) r.2) := ⟨kC8, oC8, k8, oX8, oO8⟩
  clear kC8 oC8 k8 oX8 oO8 kX8
  go_wp2_with fail
  refine HC.mono ?_
  rintro e w9 ⟨hD, b9⟩
  clear HC c0 c1' c2 c3 c4 c5 d0 d1 d2 d3 d4 d5 d6 d7 d8 d9 d10 d11 d12 d13
  rcases hD with ⟨r9, q9, v9, s9, k9, c9, o9, hd, he, oC9, oO9⟩ | ⟨m, hd, _, _⟩
  rotate_left
  ·rw [HD.out] at hd
   cases hd
  rw [HD.out] at hd
  injection hd with hd
  subst hd
  subst he
  unfold corV
  obtain ⟨oa9, on9, oc9, rfl⟩ := OwnL.shape oO9
  go_wp2_with (refine wpl_fresh rfl (.tmp 10) (.tmp 39) rfl #[.int .i64 r.1.now, q9, v9, s9, k9, c9] _ rfl rfl (by kernel_rfl) rfl (cor_one oC9) ?_)
  intro wA kA bA sA
  have bb := nxt b9 bA
  have kC := HK8.out.1.on bb
  have oC := HK8.out.2.1.on bb
  have k8 := HK8.out.2.2.1.on bb
  have oX8 := HK8.out.2.2.2.1.on bb
  have oO8 := HK8.out.2.2.2.2.on bb
  have oXA := oC9.on bA
  have oOA := oO9.on bA
  have LA : Hid (Bw w wA) := nxt L.out bb
  obtain ⟨gA, egA⟩ : ∃ g, w9.heap.size = g := ⟨_, rfl⟩
  rw [egA] at kA ⊢
  clear HK8 bb b9 bA sA egA oC9 oO9 L
  have L := LA
  clear LA
  have HC := sameCore wA r.1 _ _ _ _ _ _ _ _ _ _ oX8.rd oXA.rd HGR.out
  have HCO := fun (W : World) (b : Bw wA W) => sameOuts_any W r.2 _ _ (oO8.rdo.on b) (oOA.rdo.on b) HSM.out.1 HSM.out.2
  unfold corV at HC
  obtain ⟨e0, e1, e2, e3, e4, e5⟩ := k8.c6
  obtain ⟨f0, f1, f2, f3, f4, f5⟩ := kA.c6
  have HKA : Hid (Blk wA gc #[.int .i64 c.now, q1, v1, s1, k1, c1] 30 ∧ OwC wA w.heap.size c q1 v1 s1 k1 c1 ∧ Blk wA g8 #[.int .i64 r.1.now, q7, v7, s7, k7, c7] 30) := ⟨kC, oC, k8⟩
  clear kC oC k8 oX8 oO8 oXA oOA kA HD HSM HGR
  go_wp2_with fail
  refine HC.mono ?_
  rintro e wB ⟨rfl, bB⟩
  have HC2 := HCO wB bB
  have HBB : Hid (Bw wA wB) := bB
  clear HC HCO e0 e1 e2 e3 e4 e5 f0 f1 f2 f3 f4 f5 bB
  go_wp2_with fail
  refine HC2.mono ?_
  rintro e wD ⟨rfl, bD⟩
  have bb := nxt HBB.out bD
  have kC := HKA.out.1.on bb
  have oC := HKA.out.2.1.on bb
  have x6 := HKA.out.2.2.on bb
  have LD : Hid (Bw w wD) := nxt L.out bb
  clear HC2 HBB bD bb HKA L
  have L := LD
  clear LD
  go_upto_region 10 with fail
  obtain ⟨c0, c1', c2, c3, c4, c5⟩ := kC.c6
  have HC := run12_any wD (HI.out.2.2.1.below L.out) _ c q1 v1 s1 k1 c1 oC HG.out (.slice none 0 0) [] (none_rd _) (by decide)
  unfold corV at HC
  have HKC : Hid (Blk wD gc #[.int .i64 c.now, q1, v1, s1, k1, c1] 30 ∧ OwC wD w.heap.size c q1 v1 s1 k1 c1) := ⟨kC, oC⟩
  clear kC oC
  go_wp2_with fail
  refine HC.mono ?_
  rintro e wM ⟨hT, bM⟩
  rcases hT with ⟨rM, qM, vM, sM, kM, cM, oM, hrM, heM, oCM, oOM⟩ | ⟨i, m2, hfM, _, _⟩
  rotate_left
  ·exact absurd hfM (fun h => fail_nil h)
  have hrM' : (Except.ok (c, []) : Except Int (Cor × List Ot)) = .ok rM := hrM
  injection hrM' with hrM'
  subst hrM'
  subst heM
  unfold corV
  obtain ⟨oaM, ocM, rfl⟩ := OOc.none oOM
  have KC := HKC.out.1.on bM
  have OC := HKC.out.2.on bM
  have XM := x6.on bM
  have LM : Hid (Bw w wM) := nxt L.out bM
  clear HC hrM oOM HKC bM L c0 c1' c2 c3 c4 c5
  go_wp2_with (refine wpl_put rfl (.tmp 6) (.tmp 64) rfl g8 #[.int .i64 c.now, qM, vM, sM, kM, cM] rfl rfl XM (by kernel_rfl) rfl (cor_one oCM) ?_)
  intro wN kN gN sN
  have kx := KX.put XM gN
  have KN := KC.grown gN (by have := HNE.out; simp; omega)
  have ON := OC.kx kx (by decide)
  have ONM := oCM.kx kx (by decide)
  have LN : Hid (Bw w wN) := LM.out.grown gN LM.out.size (fun k hk => by injection hk with hk; have := HNE.out; omega)
  have HC := sameCore wN c _ _ _ _ _ _ _ _ _ _ ONM.rd ON.rd HG.out
  unfold corV at HC
  obtain ⟨e0, e1, e2, e3, e4, e5⟩ := kN.c6
  obtain ⟨f0, f1, f2, f3, f4, f5⟩ := KN.c6
  clear kN KN ON ONM KC OC oCM XM kx gN sN LM
  go_wp2_with fail
  refine HC.mono ?_
  rintro e wZ ⟨rfl, bZ⟩
  have HL : Hid (Bw w wZ) := nxt LN.out bZ
  clear HC e0 e1 e2 e3 e4 e5 f0 f1 f2 f3 f4 f5 bZ LN
  go_wp2_with fail
  go_ret
  exact ⟨rfl, HL.out⟩
 ·have hd := (fail_one1 hf).2
  have hi0 := (fail_one1 hf).1
  subst hi0
  have HD : Hid (doC c x = .error m) := hd
  have hm' : ¬ m = 0 := hm
  subst he
  unfold nil4
  have b8 : Bw w7 (w7.alloc (.cells coZ 30)) := (Below.refl w7.heap.size w7).alloc (Nat.le_refl _) _
  have k8 := Blk.new w7 coZ 30
  have kC8 := kC.on b8
  have hlt8 := kC.lt
  have oC8 := oC.on b8
  have kX8 := kX.on b8
  have L8 : Hid (Bw w (w7.alloc (.cells coZ 30))) := nxt L.out b8
  clear kC oC kX hf hd hm b7 b8 L
  have L := L8
  clear L8
  go_upto_region 7 with fail
  generalize w7.alloc (.cells coZ 30) = w8 at *
  obtain ⟨g8, eg8⟩ : ∃ g, w7.heap.size = g := ⟨_, rfl⟩
  rw [eg8] at k8 hlt8 ⊢
  have HNE : Hid (gc < g8 ∧ w.heap.size ≤ gc) := ⟨hlt8, HGC.out⟩
  clear eg8 hlt8
  obtain ⟨c0, c1', c2, c3, c4, c5⟩ := kC8.c6
  obtain ⟨d0, d1, d2, d3, d4, d5, d6, d7, d8, d9, d10, d11, d12, d13⟩ := kX8.c14
  have HC := do_good w8 (HI.out.2.2.1.below L.out) _ c q1 v1 s1 k1 c1 oC8 HG.out x (.slice pa np pc) (opok_of HP.out HI.out.2.2.2 L.out)
  unfold corV opV at HC
  have HK8 : Hid (Blk w8 gc #[.int .i64 c.now, q1, v1, s1, k1, c1] 30 ∧ OwC w8 w.heap.size c q1 v1 s1 k1 c1 ∧ Blk w8 g8 coZ 30) := ⟨kC8, oC8, k8⟩
  clear kC8 oC8 k8 kX8
  go_wp2_with fail
  refine HC.mono ?_
  rintro e w9 ⟨hD, b9⟩
  clear HC c0 c1' c2 c3 c4 c5 d0 d1 d2 d3 d4 d5 d6 d7 d8 d9 d10 d11 d12 d13
  rcases hD with ⟨r9, q9, v9, s9, k9, c9, o9, hd, he, oC9, oO9⟩ | ⟨m2, hd, _, he⟩
  ·rw [HD.out] at hd
   cases hd
  rw [HD.out] at hd
  injection hd with hd
  subst hd
  subst he
  unfold nilV
  have bA : Bw w9 (w9.alloc (.cells coZ 30)) := (Below.refl w9.heap.size w9).alloc (Nat.le_refl _) _
  have kA := Blk.new w9 coZ 30
  have bb := nxt b9 bA
  have kC := HK8.out.1.on bb
  have oC := HK8.out.2.1.on bb
  have k8 := HK8.out.2.2.on bb
  have LA : Hid (Bw w (w9.alloc (.cells coZ 30))) := nxt L.out bb
  clear HK8 bb b9 bA L HD
  have L := LA
  clear LA
  go_upto_region 8 with fail
  generalize w9.alloc (.cells coZ 30) = wA at *
  obtain ⟨gA, egA⟩ : ∃ g, w9.heap.size = g := ⟨_, rfl⟩
  rw [egA] at kA ⊢
  clear egA
  have HC := sameCore wA zeroC _ _ _ _ _ _ _ _ _ _ (owc_zero wA 0).rd (owc_zero wA 0).rd good_zero
  have HCO := fun (W : World) => sameOuts_any W [] _ _ (rdot_nil W) (rdot_nil W) (by decide) (fun y hy => by cases hy)
  unfold corV at HC
  obtain ⟨e0, e1, e2, e3, e4, e5⟩ := k8.c6
  obtain ⟨f0, f1, f2, f3, f4, f5⟩ := kA.c6
  have HKA : Hid (Blk wA gc #[.int .i64 c.now, q1, v1, s1, k1, c1] 30 ∧ OwC wA w.heap.size c q1 v1 s1 k1 c1 ∧ Blk wA g8 coZ 30) := ⟨kC, oC, k8⟩
  clear kC oC k8 kA
  go_wp2_with fail
  refine HC.mono ?_
  rintro e wB ⟨rfl, bB⟩
  have HC2 := HCO wB
  have HBB : Hid (Bw wA wB) := bB
  clear HC HCO e0 e1 e2 e3 e4 e5 f0 f1 f2 f3 f4 f5 bB
  go_wp2_with fail
  refine HC2.mono ?_
  rintro e wD ⟨rfl, bD⟩
  have bb := nxt HBB.out bD
  have kC := HKA.out.1.on bb
  have oC := HKA.out.2.1.on bb
  have x6 := HKA.out.2.2.on bb
  have LD : Hid (Bw w wD) := nxt L.out bb
  clear HC2 HBB bD bb HKA L
  have L := LD
  clear LD
  go_upto_region 10 with fail
  obtain ⟨c0, c1', c2, c3, c4, c5⟩ := kC.c6
  have HC := run12_any wD (HI.out.2.2.1.below L.out) _ c q1 v1 s1 k1 c1 oC HG.out (.slice none 0 0) [] (none_rd _) (by decide)
  unfold corV at HC
  have HKC : Hid (Blk wD gc #[.int .i64 c.now, q1, v1, s1, k1, c1] 30 ∧ OwC wD w.heap.size c q1 v1 s1 k1 c1) := ⟨kC, oC⟩
  clear kC oC
  go_wp2_with fail
  refine HC.mono ?_
  rintro e wM ⟨hT, bM⟩
  rcases hT with ⟨rM, qM, vM, sM, kM, cM, oM, hrM, heM, oCM, oOM⟩ | ⟨i, m2, hfM, _, _⟩
  rotate_left
  ·exact absurd hfM (fun h => fail_nil h)
  have hrM' : (Except.ok (c, []) : Except Int (Cor × List Ot)) = .ok rM := hrM
  injection hrM' with hrM'
  subst hrM'
  subst heM
  unfold corV
  obtain ⟨oaM, ocM, rfl⟩ := OOc.none oOM
  have KC := HKC.out.1.on bM
  have OC := HKC.out.2.on bM
  have XM := x6.on bM
  have LM : Hid (Bw w wM) := nxt L.out bM
  clear HC hrM oOM HKC bM L c0 c1' c2 c3 c4 c5
  go_wp2_with (refine wpl_put rfl (.tmp 6) (.tmp 64) rfl g8 #[.int .i64 c.now, qM, vM, sM, kM, cM] rfl rfl XM (by kernel_rfl) rfl (cor_one oCM) ?_)
  intro wN kN gN sN
  have kx := KX.put XM gN
  have KN := KC.grown gN (by have := HNE.out; simp; omega)
  have ON := OC.kx kx (by decide)
  have ONM := oCM.kx kx (by decide)
  have LN : Hid (Bw w wN) := LM.out.grown gN LM.out.size (fun k hk => by injection hk with hk; have := HNE.out; omega)
  have HC := sameCore wN c _ _ _ _ _ _ _ _ _ _ ONM.rd ON.rd HG.out
  unfold corV at HC
  obtain ⟨e0, e1, e2, e3, e4, e5⟩ := kN.c6
  obtain ⟨f0, f1, f2, f3, f4, f5⟩ := KN.c6
  clear kN KN ON ONM KC OC oCM XM kx gN sN LM
  go_wp2_with fail
  refine HC.mono ?_
  rintro e wZ ⟨rfl, bZ⟩
  have HL : Hid (Bw w wZ) := nxt LN.out bZ
  clear HC e0 e1 e2 e3 e4 e5 f0 f1 f2 f3 f4 f5 bZ LN
  go_wp2_with fail
  go_ret
  exact ⟨rfl, HL.out⟩
end Go.Proofs.YtnpikgakpmkipabGreatDoor
