/- trivetref11.At. Conditions: those that each row states. -/
import Derived.Test.YtnpikgakpmkipabGreatDoorZ04
import Derived.Test.YtnpikgakpmkipabGreatDoorZ27
import Derived.Test.YtnpikgakpmkipabGreatDoorZ21
import Derived.Test.YtnpikgakpmkipabGreatDoorZ15
import Derived.Test.YtnpikgakpmkipabGreatDoorZ29
namespace Go.Proofs.YtnpikgakpmkipabGreatDoor
open Go.RowKit Go.Lib
set_option maxRecDepth 100000
set_option linter.unusedSimpArgs false
set_option linter.unusedVariables false
def AtR (l : List Que) (n : List UInt8) (e : Ending) : Prop := ∃ r : Int, e = .returned (.int .i64 r) ∧ (r < 0 ↔ hasNm l n = false)
theorem shape5 {w : World} {c : Cor} {qv bv sv kv cv : Value} (h : RdC5 w c qv bv sv kv cv) : ∃ wb nb mb ws ns ms wk nk mk wc nc mc, bv = Value.slice wb nb mb ∧ sv = Value.slice ws ns ms ∧ kv = Value.slice wk nk mk ∧ cv = Value.slice wc nc mc := by
 obtain ⟨zb, _, hb⟩ := h.b
 obtain ⟨zs, _, hs⟩ := h.s
 obtain ⟨zk, _, hk⟩ := h.k
 obtain ⟨zc, _, hc⟩ := h.c
 obtain ⟨wb, mb, rfl⟩ := hb.len
 obtain ⟨ws, ms, rfl⟩ := hs.len
 obtain ⟨wk, mk, rfl⟩ := hk.len
 obtain ⟨wc, mc, rfl⟩ := hc.len
 exact ⟨wb, _, mb, ws, _, ms, wk, _, mk, wc, _, mc, rfl, rfl, rfl, rfl⟩
theorem que_first {w : World} {u0 u1 u2 u3 u4 u5 u6 : Value} {q : Que} (h : QuR (RdQ w) [u0, u1, u2, u3, u4, u5, u6] q) : u0 = tx q.name := by
 obtain ⟨iv, hv, e, _⟩ := h
 unfold queV at e
 injection e with e
 injection e with e
 injection e with e
set_option maxHeartbeats 4000000 in
theorem at_any (w : World) (c : Cor) (qv bv sv kv cv : Value) (hc : RdC5 w c qv bv sv kv cv) (hl : c.queues.length ≤ 1000) (n : List UInt8) :
  Calls Tryz.prog 11 #[corV c qv bv sv kv cv, tx n] w fun e w' => AtR c.queues n e ∧ Bw w w' := by
 obtain ⟨wb, nb, mb, ws, ns, ms, wk, nk, mk, wc, nc, mc, rfl, rfl, rfl, rfl⟩ := shape5 hc
 obtain ⟨zq, ezq, hzq⟩ := hc.q
 obtain ⟨wq, mq, rfl⟩ := hzq.len
 obtain ⟨nq, enq⟩ : ∃ k, zq.length = k := ⟨_, rfl⟩
 rw [enq] at hzq ⊢
 have hn : nq ≤ 1000 := by rw [← enq, ← List.length_map (f := (·.2)), ezq]; exact hl
 have HQ : Hid (RdZ 7 (QuR (RdQ w)) w (.slice wq nq mq) zq ∧ zq.map (·.2) = c.queues ∧ zq.length = nq) := ⟨hzq, ezq, enq⟩
 have b0 := (Below.refl w.heap.size w).alloc (Nat.le_refl _) (.cells #[.int .i64 c.now, .slice wq nq mq, .slice wb nb mb, .slice ws ns ms, .slice wk nk mk, .slice wc nc mc] 30)
 have k0 := Blk.new w #[.int .i64 c.now, .slice wq nq mq, .slice wb nb mb, .slice ws ns ms, .slice wk nk mk, .slice wc nc mc] 30
 clear hc hl hzq ezq enq
 unfold corV
 go_enter Tryz.func11, Tryz.ntmps11
 go_upto_region 1 with fail
 generalize w.alloc (.cells #[.int .i64 c.now, .slice wq nq mq, .slice wb nb mb, .slice ws ns ms, .slice wk nk mk, .slice wc nc mc] 30) = w1 at *
 have c1 : w1.cell? ⟨w.heap.size, 1, none⟩ = some (.slice wq nq mq) := k0.cell 1
 clear k0
 have HB0 : Hid (Bw w w1) := b0
 clear b0
 go_wp2_with fail
 clear c1
 go_loopg [5, 6, 10] nq (fun gg _ _ s10 wr => ∃ i : Nat, i ≤ nq ∧ nq - i ≤ gg ∧ s10 = .int .i64 i ∧ Hid ((∀ j (hj : j < zq.length), j < i → (zq[j]).2.name ≠ n) ∧ Bw w wr))
 case atStart => exact ⟨0, Nat.zero_le _, by omega, rfl, fun j _ h => absurd h (Nat.not_lt_zero j), HB0.out⟩
 case round =>
  obtain ⟨i, hi, hg, rfl, HR⟩ := hrel
  clear HB0
  obtain ⟨wt, hwt⟩ : ∃ W, W = wr := ⟨_, rfl⟩
  subst hwt
  by_cases hlt : i < nq
  ·have hltz : (i : Int) < (nq : Int) := by omega
   have hiz : i < zq.length := by rw [HQ.out.2.2]; exact hlt
   obtain ⟨b1, o1, u0, u1, u2, u3, u4, u5, u6, rfl, gz, r1, hone, C1⟩ := el7_at HQ.out.1 hiz
   obtain ⟨e0, e1, e2, e3, e4, e5, e6⟩ := C1 wt HR.out.2
   have eu := que_first r1
   obtain ⟨nm, enm⟩ : ∃ x, (zq[i]).2.name = x := ⟨_, rfl⟩
   rw [enm] at eu
   have HN : Hid ((zq[i]).2.name = nm) := enm
   subst eu
   clear C1 gz r1 enm
   go_wp2_with (refine wpl_fresh rfl (.tmp 6) (.tmp 14) rfl #[tx nm, u1, u2, u3, u4, u5, u6] _ rfl rfl (by kernel_rfl) rfl (by simp [hone.2.1, hone.2.2.1, hone.2.2.2.1, hone.2.2.2.2.1, hone.2.2.2.2.2.1, hone.2.2.2.2.2.2, show (tx nm).oneCell' = true from rfl]) ?_)
   intro w2 k2 b2 s2
   clear e0 e1 e2 e3 e4 e5 e6
   have d0 : w2.cell? ⟨wt.heap.size, 0, none⟩ = some (tx nm) := k2.cell 0
   obtain ⟨gx, egx⟩ : ∃ g, wt.heap.size = g := ⟨_, rfl⟩
   rw [egx] at d0 ⊢
   have HB2 : Hid (Bw w w2) := nxt HR.out.2 b2
   clear egx k2 b2 s2 hone
   by_cases hnm : nm = n
   ·subst hnm
    have HA : Hid (AtR c.queues nm (.returned (.int .i64 i))) := ⟨i, rfl, by
     have hh : hasNm c.queues nm = true := hasNm_iff.2 (List.mem_map.2 ⟨(zq[i]).2, by rw [← HQ.out.2.1]; exact List.mem_map.2 ⟨zq[i], List.getElem_mem hiz, rfl⟩, HN.out⟩)
     rw [hh]
     simp⟩
    go_wp2_with fail
    go_ret
    exact ⟨HA.out, HB2.out⟩
   ·have HX : Hid ((∀ j (hj : j < zq.length), j < i + 1 → (zq[j]).2.name ≠ n) ∧ Bw w w2) := ⟨fun j hj h1 => by
     by_cases e : j = i
     ·subst e
      rw [HN.out]
      exact hnm
     ·exact HR.out.1 j hj (by omega), HB2.out⟩
    clear HR HB2
    have hqb : (nm == n) = false := by simp [hnm]
    clear hnm
    go_wp2_with fail
    go_roundg (nq - (i + 1))
    case measure => omega
    case rel => exact ⟨i + 1, by omega, by omega, by go_num, HX.out⟩
  ·have hltz : ¬ (i : Int) < (nq : Int) := by omega
   have HA : Hid (AtR c.queues n (.returned (.int .i64 (-1)))) := ⟨-1, rfl, by
    have hh : hasNm c.queues n = false := by
     cases e : hasNm c.queues n with
     | false => rfl
     | true =>
      exfalso
      obtain ⟨q, hq, e1⟩ := List.mem_map.1 (hasNm_iff.1 e)
      rw [← HQ.out.2.1] at hq
      obtain ⟨z, hz, rfl⟩ := List.mem_map.1 hq
      obtain ⟨j, hj, rfl⟩ := List.getElem_of_mem hz
      have h1 := HQ.out.2.2
      exact HR.out.1 j hj (by omega) e1
    rw [hh]
    simp⟩
   go_wp2_with fail
   go_ret
   exact ⟨HA.out, HR.out.2⟩
structure UdC (c : Cor) : Prop where
 g : GoodC c
 p : Pumped c
theorem op0_ok2 (W : World) {k n : Int} {q x : List UInt8} (hn : -9223372036854775808 ≤ n ∧ n ≤ 9223372036854775807) : OpOk W.heap.size W (op0 k n q x) (.slice none 0 0) := opok_of (rdp_nil W) ⟨hn, by simp [op0, zeroM]⟩ (.refl _ _)
theorem oB_zero {a b : Bnd} : oB a b = 0 ↔ a.queue = b.queue ∧ a.pat = b.pat := by
 unfold oB or2
 rw [← cmpL_zero (x := a.queue), ← cmpL_zero (x := a.pat)]
 by_cases h : cmpL a.queue b.queue = 0 <;> simp [h]
set_option maxHeartbeats 8000000 in
theorem undoes_law (w : World) (hV : To.Vars w) (v : Value) (zs : Zs Opr) (h : RdOs w v zs) (nm pt : List UInt8) :
  Calls Tryz.prog 3 #[v, tx nm, tx pt] w fun e w' => e = .returned (.bool true) ∧ Bw w w' := by
 obtain ⟨va, vc, rfl⟩ := h.1.len
 obtain ⟨n, en⟩ : ∃ n, zs.length = n := ⟨_, rfl⟩
 rw [en] at h ⊢
 have HI : Hid (RdOs w (.slice va n vc) zs ∧ zs.length = n ∧ To.Vars w) := ⟨h, en, hV⟩
 have HW := wakes_any w hV
 clear h en hV
 go_enter Tryz.func3, Tryz.ntmps3
 go_wp2_with fail
 refine HW.mono ?_
 rintro e w0 ⟨rfl, b0⟩
 have HB0 : Hid (Bw w w0) := b0
 clear HW b0
 by_cases g1 : (60 : Int) < (n : Int)
 ·go_wp2_with fail
  go_ret
  exact ⟨rfl, HB0.out⟩
 have R0 : Hid (∃ c, UdC c ∧ LwS w (w0.alloc (.cells coZ 30)) w0.heap.size c) := by
  refine ⟨zeroC, ⟨good_zero, pumped_zero⟩, ⟨_, _, _, _, _, Blk.new w0 coZ 30, owc_zero _ _⟩, nxt HB0.out ((Below.refl w0.heap.size w0).alloc (Nat.le_refl _) _), HB0.out.size⟩
 clear HB0
 go_upto_region 7 with fail
 generalize w0.alloc (.cells coZ 30) = w1 at *
 obtain ⟨kc, ekc⟩ : ∃ x, w0.heap.size = x := ⟨_, rfl⟩
 rw [ekc] at R0 ⊢
 clear ekc
 go_loopg [36] n (fun gg s36 wr => ∃ i : Nat, i ≤ n ∧ n - i ≤ gg ∧ s36 = .int .i64 i ∧ Hid (∃ c, UdC c ∧ LwS w wr kc c))
 case atStart => exact ⟨0, Nat.zero_le _, by omega, rfl, R0.out⟩
 case round =>
  obtain ⟨i, hi, hg, rfl, HR⟩ := hrel
  clear R0
  obtain ⟨wt, hwt⟩ : ∃ W, W = wr := ⟨_, rfl⟩
  subst hwt
  obtain ⟨c, hc, hS⟩ := HR.out
  have HS : Hid (LwS w wt kc c) := hS
  have HC0 : Hid (UdC c) := hc
  clear HR hc hS
  by_cases hlt : i < n
  ·have hltz : (i : Int) < (n : Int) := by omega
   have hiz : i < zs.length := by rw [HI.out.2.1]; exact hlt
   obtain ⟨b', o, pv, rfl, hp, hin, C⟩ := HI.out.1.at hiz
   obtain ⟨x, exx⟩ : ∃ x, (zs[i]).2 = x := ⟨_, rfl⟩
   rw [exx] at hp hin C
   have HXX : Hid ((zs[i]).2 = x) := exx
   clear exx
   obtain ⟨pa, pc, rfl⟩ := hp.shape
   have HF : Hid (RdP w (.slice pa x.msg.props.length pc) x.msg.props ∧ InO x) := ⟨hp, hin⟩
   have hone := hp.one
   clear hp hin
   have e0 : wt.cell? ⟨b', o + i * 14, none⟩ = some (.int .i64 x.kind) := C wt HS.out.l 0 _ rfl
   have e1 : wt.cell? ⟨b', o + i * 14 + 1, none⟩ = some (.int .i64 x.conn) := C wt HS.out.l 1 _ rfl
   have e2 : wt.cell? ⟨b', o + i * 14 + 2, none⟩ = some (.int .i64 x.sub) := C wt HS.out.l 2 _ rfl
   have e3 : wt.cell? ⟨b', o + i * 14 + 3, none⟩ = some (.int .i64 x.n) := C wt HS.out.l 3 _ rfl
   have e4 : wt.cell? ⟨b', o + i * 14 + 4, none⟩ = some (tx x.queue) := C wt HS.out.l 4 _ rfl
   have e5 : wt.cell? ⟨b', o + i * 14 + 5, none⟩ = some (tx x.text) := C wt HS.out.l 5 _ rfl
   have e6 : wt.cell? ⟨b', o + i * 14 + 6, none⟩ = some (.bool x.dur) := C wt HS.out.l 6 _ rfl
   have e7 : wt.cell? ⟨b', o + i * 14 + 7, none⟩ = some (.bool x.auto) := C wt HS.out.l 7 _ rfl
   have e8 : wt.cell? ⟨b', o + i * 14 + 8, none⟩ = some (.bool x.keep) := C wt HS.out.l 8 _ rfl
   have e9 : wt.cell? ⟨b', o + i * 14 + 9, none⟩ = some (tx x.msg.topic) := C wt HS.out.l 9 _ rfl
   have e10 : wt.cell? ⟨b', o + i * 14 + 10, none⟩ = some (tx x.msg.body) := C wt HS.out.l 10 _ rfl
   have e11 : wt.cell? ⟨b', o + i * 14 + 11, none⟩ = some (.slice pa x.msg.props.length pc) := C wt HS.out.l 11 _ rfl
   have e12 : wt.cell? ⟨b', o + i * 14 + 12, none⟩ = some (.bool x.msg.dur) := C wt HS.out.l 12 _ rfl
   have e13 : wt.cell? ⟨b', o + i * 14 + 13, none⟩ = some (.int .i64 x.msg.til) := C wt HS.out.l 13 _ rfl
   go_wp2_with (refine wpl_fresh rfl (.tmp 9) (.tmp 39) rfl (opA x (.slice pa x.msg.props.length pc)) _ rfl rfl (by kernel_rfl) rfl (op_one (o := x) hone) ?_)
   intro w2 k2 b2 s2
   clear e0 e1 e2 e3 e4 e5 e6 e7 e8 e9 e10 e11 e12 e13 s2 C hone
   have HS2 : Hid (LwS w w2 kc c) := HS.out.on b2
   obtain ⟨d0, d1, d2, d3, d4, d5, d6, d7, d8, d9, d10, d11, d12, d13⟩ := k2.c14
   obtain ⟨gx, egx⟩ : ∃ g, wt.heap.size = g := ⟨_, rfl⟩
   rw [egx] at d0 d1 d2 d3 d4 d5 d6 d7 d8 d9 d10 d11 d12 d13 ⊢
   clear egx k2 b2 HS
   by_cases f1 : (1000 : Int) < (x.msg.props.length : Int)
   ·go_wp2_with fail
    go_ret
    exact ⟨rfl, HS2.out.l⟩
   obtain ⟨q1, v1, s1, k1, c1, kC, oC⟩ := HS2.out.k
   have HC := do_good w2 (HI.out.2.2.below HS2.out.l) _ c q1 v1 s1 k1 c1 oC HC0.out.g x (.slice pa x.msg.props.length pc) (opok_of HF.out.1 HF.out.2 HS2.out.l)
   unfold corV opV at HC
   obtain ⟨c0, c1', c2, c3, c4, c5⟩ := kC.c6
   have HK2 : Hid (Blk w2 kc #[.int .i64 c.now, q1, v1, s1, k1, c1] 30 ∧ OwC w2 w.heap.size c q1 v1 s1 k1 c1) := ⟨kC, oC⟩
   clear kC oC
   go_wp2_with fail
   refine HC.mono ?_
   rintro e w3 ⟨hD, b3⟩
   clear HC c0 c1' c2 c3 c4 c5 d0 d1 d2 d3 d4 d5 d6 d7 d8 d9 d10 d11 d12 d13
   rcases hD with ⟨r3, q3, v3, s3, k3, c3, o3, hd, he, oC3, oO3⟩ | ⟨m, hd, hm, he⟩
   rotate_left
   ·subst he
    unfold nilV
    have b4 : Bw w3 (w3.alloc (.cells coZ 30)) := (Below.refl w3.heap.size w3).alloc (Nat.le_refl _) _
    have HX : Hid (∃ c', UdC c' ∧ LwS w (w3.alloc (.cells coZ 30)) kc c') := ⟨c, HC0.out, (HS2.out.on b3).on b4⟩
    have hm' : ¬ m = 0 := hm
    clear b4 hd hm HS2 HK2 b3 HC0
    go_wp2_with fail
    go_roundg (n - (i + 1))
    case measure => omega
    case rel => exact ⟨i + 1, by omega, by omega, by go_num, HX.out⟩
   subst he
   unfold corV
   have HT3 : Hid (UdC r3.1) := ⟨(doC_ok hd).2.1, (doC_ok hd).2.2.1⟩
   clear hd
   go_wp2_with (refine wpl_fresh rfl (.tmp 10) (.tmp 49) rfl #[.int .i64 r3.1.now, q3, v3, s3, k3, c3] _ rfl rfl (by kernel_rfl) rfl (cor_one oC3) ?_)
   intro w4 k4 b4 s4
   have K4 := (HK2.out.1.on b3).on b4
   have oC4 := (oC3.on b4).low (HS2.out.l.size)
   have l4 := nxt (nxt HS2.out.l b3) b4
   have hgk := HS2.out.g
   obtain ⟨gy, egy⟩ : ∃ g, w3.heap.size = g := ⟨_, rfl⟩
   rw [egy] at k4 ⊢
   clear egy oC3 oO3 b3 b4 s4 HS2 HK2
   obtain ⟨c0, c1', c2, c4', c5', c6'⟩ := k4.c6
   go_wp2_with (refine wpl_put rfl (.tmp 7) (.tmp 54) rfl kc #[.int .i64 r3.1.now, q3, v3, s3, k3, c3] rfl rfl K4 (by kernel_rfl) rfl (cor_one oC4) ?_)
   intro w5 k5 g5 s5
   have HX : Hid (∃ c', UdC c' ∧ LwS w w5 kc c') := ⟨r3.1, HT3.out, ⟨_, _, _, _, _, k5, oC4.kx (KX.put K4 g5) (by decide)⟩, l4.grown g5 l4.size (fun k hk => by injection hk with hk; omega), hgk⟩
   clear c0 c1' c2 c4' c5' c6' k4 K4 oC4 l4 k5 g5 s5 HT3 HC0 hgk
   go_wp2_with fail
   go_roundg (n - (i + 1))
   case measure => omega
   case rel => exact ⟨i + 1, by omega, by omega, by go_num, HX.out⟩
  ·have hltz : ¬ (i : Int) < (n : Int) := by omega
   obtain ⟨q1, v1, s1, k1, c1, kC, oC⟩ := HS.out.k
   have L : Hid (Bw w wt) := HS.out.l
   have hgc := HC0.out.g
   have HG1 : Hid (GoodC c ∧ Pumped c) := ⟨HC0.out.g, HC0.out.p⟩
   have hql : c.queues.length ≤ 1000 := by have := hgc.ql; omega
   have hbl : c.binds.length ≤ 64 := by have := hgc.bl; omega
   clear HS HC0 hgc
   have HA := at_any wt c q1 v1 s1 k1 c1 oC.rd hql nm
   unfold corV at HA
   obtain ⟨c0, c1', c2, c3, c4, c5⟩ := kC.c6
   go_upto_region 15 with fail
   go_wp2_with fail
   refine HA.mono ?_
   rintro e wA ⟨⟨r, rfl, hr⟩, bA⟩
   have LA : Hid (Bw w wA) := nxt L.out bA
   have kA := kC.on bA
   have oA := oC.on bA
   clear L HA kC oC c0 c1' c2 c3 c4 c5 bA hql
   have L := LA
   clear LA
   obtain ⟨c0, c1', c2, c3, c4, c5⟩ := kA.c6
   by_cases hneg : r < 0
   ·have hnn : hasNm c.queues nm = false := hr.1 hneg
    have HN : Hid (hasNm c.queues nm = false) := hnn
    have HD := declare_do HG1.out.1 HG1.out.2 hnn
    clear hr hnn
    by_cases h1 : nameL nm = true
    ·by_cases h2 : (c.queues.length : Int) < 16
     ·rw [if_pos h1, if_pos h2] at HD
      have HD1 : Hid (doC c (op0 1 3 nm []) = .ok (decK c nm, [])) := HD
      have HD2 : Hid (doC (decK c nm) (op0 2 0 nm []) = .ok (c, [])) := remove_do HG1.out.1 HG1.out.2 HN.out h1 h2
      have HG2 : Hid (GoodC (decK c nm)) := (doC_ok HD).2.1
      clear HD HN h1 h2
      go_upto_region 16 with fail
      have HC := do_good wA (HI.out.2.2.below L.out) _ c q1 v1 s1 k1 c1 oA HG1.out.1 (op0 1 3 nm []) (.slice none 0 0) (op0_ok2 wA ⟨by decide, by decide⟩)
      unfold corV opV op0 zeroM at HC
      go_wp2_with fail
      refine HC.mono ?_
      rintro e w3 ⟨hD, b3⟩
      clear HC
      rcases hD with ⟨r3, q3, v3, s3, kk3, cc3, o3, hd, he, oC3, oO3⟩ | ⟨m, hd, _, _⟩
      rotate_left
      ·have hq : doC c (op0 1 3 nm []) = .error m := hd
       rw [HD1.out] at hq
       cases hq
      have hq : doC c (op0 1 3 nm []) = .ok r3 := hd
      rw [HD1.out] at hq
      injection hq with hq
      clear hd
      subst hq
      subst he
      obtain ⟨oaB, ocB, rfl⟩ := OOc.none oO3
      clear oO3
      obtain ⟨y1, ey1⟩ : ∃ y, decK c nm = y := ⟨_, rfl⟩
      have HEB : Hid (decK c nm = y1) := ey1
      simp only [ey1] at oC3
      unfold corV
      simp only [ey1]
      clear ey1
      go_wp2_with (refine wpl_fresh rfl (.tmp 13) (.tmp 65) rfl #[.int .i64 y1.now, q3, v3, s3, kk3, cc3] _ rfl rfl (by kernel_rfl) rfl (cor_one oC3) ?_)
      intro w4 kB b4 s4
      have bb := nxt b3 b4
      have L2 : Hid (Bw w w4) := nxt L.out bb
      have ownB := oC3.on b4
      obtain ⟨gB, egB⟩ : ∃ g, w3.heap.size = g := ⟨_, rfl⟩
      rw [egB] at kB ⊢
      clear egB oC3 b3 b4 s4 L
      have L := L2
      clear L2
      have kA4 := kA.on bb
      have oA4 := oA.on bb
      clear kA oA c0 c1' c2 c3 c4 c5 bb
      rw [HEB.out] at HD2 HG2
      obtain ⟨c0, c1', c2, c3, c4, c5⟩ := kB.c6
      go_upto_region 18 with fail
      have HC := do_good w4 (HI.out.2.2.below L.out) _ y1 q3 v3 s3 kk3 cc3 ownB HG2.out (op0 2 0 nm []) (.slice none 0 0) (op0_ok2 w4 ⟨by decide, by decide⟩)
      unfold corV opV op0 zeroM at HC
      go_wp2_with fail
      refine HC.mono ?_
      rintro e w5 ⟨hD, b3⟩
      clear HC
      rcases hD with ⟨r3, q5, v5, s5, kk5, cc5, o3, hd, he, oC3, oO3⟩ | ⟨m, hd, _, _⟩
      rotate_left
      ·have hq : doC y1 (op0 2 0 nm []) = .error m := hd
       rw [HD2.out] at hq
       cases hq
      have hq : doC y1 (op0 2 0 nm []) = .ok r3 := hd
      rw [HD2.out] at hq
      injection hq with hq
      clear hd
      subst hq
      subst he
      obtain ⟨oaC, ocC, rfl⟩ := OOc.none oO3
      clear oO3
      obtain ⟨y2, ey2⟩ : ∃ y, c = y := ⟨_, rfl⟩
      have HEC : Hid (c = y2) := ey2
      simp only [ey2] at oC3
      unfold corV
      simp only [ey2]
      clear ey2
      go_wp2_with (refine wpl_fresh rfl (.tmp 16) (.tmp 75) rfl #[.int .i64 y2.now, q5, v5, s5, kk5, cc5] _ rfl rfl (by kernel_rfl) rfl (cor_one oC3) ?_)
      intro w6 kC b4 s4
      have bb := nxt b3 b4
      have L2 : Hid (Bw w w6) := nxt L.out bb
      have ownC := oC3.on b4
      obtain ⟨gC, egC⟩ : ∃ g, w5.heap.size = g := ⟨_, rfl⟩
      rw [egC] at kC ⊢
      clear egC oC3 b3 b4 s4 L
      have L := L2
      clear L2
      have kA6 := kA4.on bb
      have oA6 := oA4.on bb
      clear kA4 oA4 c0 c1' c2 c3 c4 c5 bb kB ownB
      have hy : c = y2 := HEC.out
      clear HEC HD1 HD2
      subst hy
      have HC := sameCore w6 c _ _ _ _ _ _ _ _ _ _ ownC.rd oA6.rd HG1.out.1
      unfold corV at HC
      obtain ⟨e0, e1, e2, e3, e4, e5⟩ := kC.c6
      obtain ⟨f0, f1, f2, f3, f4, f5⟩ := kA6.c6
      clear kC kA6 oA6 ownC
      go_wp2_with fail
      refine HC.mono ?_
      rintro e w9 ⟨rfl, b9⟩
      have HL : Hid (Bw w w9) := nxt L.out b9
      clear HC e0 e1 e2 e3 e4 e5 f0 f1 f2 f3 f4 f5 b9 L
      go_wp2_with fail
      go_ret
      exact ⟨rfl, HL.out⟩
     ·rw [if_pos h1, if_neg h2] at HD
      have HD1 : Hid (doC c (op0 1 3 nm []) = .error 34) := HD
      clear HD HN h1 h2
      go_upto_region 16 with fail
      have HC := do_good wA (HI.out.2.2.below L.out) _ c q1 v1 s1 k1 c1 oA HG1.out.1 (op0 1 3 nm []) (.slice none 0 0) (op0_ok2 wA ⟨by decide, by decide⟩)
      unfold corV opV op0 zeroM at HC
      go_wp2_with fail
      refine HC.mono ?_
      rintro e w3 ⟨hD, b3⟩
      clear HC
      rcases hD with ⟨r3, _, _, _, _, _, o3, hd, he, oC3, oO3⟩ | ⟨m, hd, _, he⟩
      ·have hq : doC c (op0 1 3 nm []) = .ok r3 := hd
       rw [HD1.out] at hq
       cases hq
      have hq : doC c (op0 1 3 nm []) = .error m := hd
      rw [HD1.out] at hq
      injection hq with hq
      clear hd
      subst hq
      subst he
      unfold nilV
      have b4 : Bw w3 (w3.alloc (.cells coZ 30)) := (Below.refl w3.heap.size w3).alloc (Nat.le_refl _) _
      have L2 : Hid (Bw w (w3.alloc (.cells coZ 30))) := nxt (nxt L.out b3) b4
      clear b3 b4 L
      go_wp2_with fail
      go_ret
      exact ⟨rfl, L2.out⟩
    ·rw [if_neg h1] at HD
     have HD1 : Hid (doC c (op0 1 3 nm []) = .error 31) := HD
     clear HD HN h1
     go_upto_region 16 with fail
     have HC := do_good wA (HI.out.2.2.below L.out) _ c q1 v1 s1 k1 c1 oA HG1.out.1 (op0 1 3 nm []) (.slice none 0 0) (op0_ok2 wA ⟨by decide, by decide⟩)
     unfold corV opV op0 zeroM at HC
     go_wp2_with fail
     refine HC.mono ?_
     rintro e w3 ⟨hD, b3⟩
     clear HC
     rcases hD with ⟨r3, _, _, _, _, _, o3, hd, he, oC3, oO3⟩ | ⟨m, hd, _, he⟩
     ·have hq : doC c (op0 1 3 nm []) = .ok r3 := hd
      rw [HD1.out] at hq
      cases hq
     have hq : doC c (op0 1 3 nm []) = .error m := hd
     rw [HD1.out] at hq
     injection hq with hq
     clear hd
     subst hq
     subst he
     unfold nilV
     have b4 : Bw w3 (w3.alloc (.cells coZ 30)) := (Below.refl w3.heap.size w3).alloc (Nat.le_refl _) _
     have L2 : Hid (Bw w (w3.alloc (.cells coZ 30))) := nxt (nxt L.out b3) b4
     clear b3 b4 L
     go_wp2_with fail
     go_ret
     exact ⟨rfl, L2.out⟩
   ·have hnn : hasNm c.queues nm = true := by
     cases e : hasNm c.queues nm with
     | true => rfl
     | false => exact absurd (hr.2 e) hneg
    have HN : Hid (hasNm c.queues nm = true) := hnn
    clear hr hnn
    go_wp2_with (refine wpl_fresh rfl (.tmp 19) (.tmp 103) rfl #[tx nm, tx pt] _ rfl rfl (by kernel_rfl) rfl (by simp [show (tx nm).oneCell' = true from rfl, show (tx pt).oneCell' = true from rfl]) ?_)
    intro wB kB bB sB
    obtain ⟨gb, egb⟩ : ∃ g, wA.heap.size = g := ⟨_, rfl⟩
    rw [egb] at kB ⊢
    have LB : Hid (Bw w wB) := nxt L.out bB
    have kA2 := kA.on bB
    have oA2 := oA.on bB
    clear egb sB bB L kA oA c0 c1' c2 c3 c4 c5
    obtain ⟨zb, ezb, hzb⟩ := oA2.rd.b
    obtain ⟨wb, mb, ev1⟩ := hzb.len
    have elb : zb.length = c.binds.length := by rw [← ezb, List.length_map]
    obtain ⟨nb, enb⟩ : ∃ k, zb.length = k := ⟨_, rfl⟩
    rw [enb] at ev1
    subst ev1
    have hnb : nb ≤ 64 := by omega
    have HZ : Hid (RdZ 2 BnR wB (.slice wb nb mb) zb ∧ zb.map (·.2) = c.binds ∧ zb.length = nb) := ⟨hzb, ezb, enb⟩
    clear hzb ezb enb elb
    obtain ⟨c0, c1', c2, c3, c4, c5⟩ := kA2.c6
    go_upto_region 24 with fail
    clear c0 c1' c2 c3 c4 c5
    go_loopg [21, 107] nb (fun gg _ s107 wr => ∃ j : Nat, j ≤ nb ∧ nb - j ≤ gg ∧ s107 = .int .i64 j ∧ Hid ((∀ l (hl : l < zb.length), l < j → (zb[l]).2 ≠ ⟨nm, pt⟩) ∧ Bw wB wr))
    case atStart => exact ⟨0, Nat.zero_le _, by omega, rfl, fun j _ h => absurd h (Nat.not_lt_zero j), .refl _ _⟩
    case round =>
     obtain ⟨j, hj, hgj, rfl, HR⟩ := hrel
     obtain ⟨wj, hwj⟩ : ∃ W, W = wr := ⟨_, rfl⟩
     subst hwj
     have kBj := kB.on HR.out.2
     by_cases hlj : j < nb
     ·have hljz : (j : Int) < (nb : Int) := by omega
      have hjz : j < zb.length := by rw [HZ.out.2.2]; exact hlj
      obtain ⟨b1, o1, u0, u1, rfl, gz, r1, hone, C1⟩ := el2_at HZ.out.1 hjz
      obtain ⟨e0, e1⟩ := C1 wj HR.out.2
      obtain ⟨bq, ebq⟩ : ∃ x, (zb[j]).2 = x := ⟨_, rfl⟩
      have HE : Hid ((zb[j]).2 = bq) := ebq
      rw [ebq] at r1
      unfold BnR at r1
      injection r1 with r1 r2
      injection r2 with r2 _
      subst r1 r2
      clear C1 gz hone ebq
      go_wp2_with (refine wpl_fresh rfl (.tmp 21) (.tmp 110) rfl #[tx bq.queue, tx bq.pat] _ rfl rfl (by kernel_rfl) rfl (by simp [show (tx bq.queue).oneCell' = true from rfl, show (tx bq.pat).oneCell' = true from rfl]) ?_)
      intro w2 k2 b2 s2
      obtain ⟨gx, egx⟩ : ∃ g, wj.heap.size = g := ⟨_, rfl⟩
      rw [egx] at k2 ⊢
      have HB2 : Hid (Bw wB w2) := nxt HR.out.2 b2
      obtain ⟨d0, d1⟩ := k2.c2
      obtain ⟨f0, f1⟩ := (kBj.on b2).c2
      clear egx k2 b2 s2 e0 e1 kBj
      by_cases hq : bq.queue = nm ∧ bq.pat = pt
      ·obtain ⟨hq1, hq2⟩ := hq
       rw [hq1] at d0
       rw [hq2] at d1
       have HL : Hid (Bw w w2) := nxt LB.out HB2.out
       clear HB2 HR LB
       go_wp2_with fail
       go_ret
       exact ⟨rfl, HL.out⟩
      ·have HX : Hid ((∀ l (hl : l < zb.length), l < j + 1 → (zb[l]).2 ≠ ⟨nm, pt⟩) ∧ Bw wB w2) := ⟨fun l hl h1 => by
        by_cases e : l = j
        ·subst e
         rw [HE.out]
         exact fun e => hq (by rw [e]; exact ⟨rfl, rfl⟩)
        ·exact HR.out.1 l hl (by omega), HB2.out⟩
       clear HR HB2
       by_cases hq1 : bq.queue = nm
       ·have hq2 : ¬ bq.pat = pt := fun e => hq ⟨hq1, e⟩
        rw [hq1] at d0
        clear hq hq1
        go_wp2_with fail
        go_roundg (nb - (j + 1))
        case measure => omega
        case rel => exact ⟨j + 1, by omega, by omega, by go_num, HX.out⟩
       ·clear hq
        go_wp2_with fail
        go_roundg (nb - (j + 1))
        case measure => omega
        case rel => exact ⟨j + 1, by omega, by omega, by go_num, HX.out⟩
     ·have hljz : ¬ (j : Int) < (nb : Int) := by omega
      have hhb : hasL oB ⟨nm, pt⟩ c.binds = false := by
       simp only [hasL, List.any_eq_false, decide_eq_true_eq]
       intro y hy e
       rw [← HZ.out.2.1] at hy
       obtain ⟨z, hz, rfl⟩ := List.mem_map.1 hy
       obtain ⟨l, hl, rfl⟩ := List.getElem_of_mem hz
       have h1 := HZ.out.2.2
       obtain ⟨e1, e2⟩ := oB_zero.1 e
       refine HR.out.1 l hl (by omega) ?_
       cases hzz : (zb[l]).2 with
       | mk a b =>
        rw [hzz] at e1 e2
        have e1 : a = nm := e1
        have e2 : b = pt := e2
        rw [e1, e2]
      have HB := bind_do HG1.out.1 HG1.out.2 HN.out hhb
      have kJ := kA2.on HR.out.2
      have oJ := oA2.on HR.out.2
      have L : Hid (Bw w wj) := nxt LB.out HR.out.2
      have HHB : Hid (hasL oB ⟨nm, pt⟩ c.binds = false) := hhb
      clear HR kA2 oA2 LB hhb kB kBj HZ
      obtain ⟨c0, c1', c2, c3, c4, c5⟩ := kJ.c6
      by_cases h1 : pat pt = true
      ·by_cases h2 : (c.binds.length : Int) < 64
       ·rw [if_pos h1, if_pos h2] at HB
        have HD1 : Hid (doC c (op0 3 0 nm pt) = .ok (bndK c nm pt, [])) := HB
        have HD2 : Hid (doC (bndK c nm pt) (op0 4 0 nm pt) = .ok (c, [])) := unbind_do HG1.out.1 HG1.out.2 HN.out HHB.out h1 h2
        have HG2 : Hid (GoodC (bndK c nm pt)) := (doC_ok HB).2.1
        clear HB HN HHB h1 h2
        go_upto_region 29 with fail
        have HC := do_good wj (HI.out.2.2.below L.out) _ c q1 (.slice wb nb mb) s1 k1 c1 oJ HG1.out.1 (op0 3 0 nm pt) (.slice none 0 0) (op0_ok2 wj ⟨by decide, by decide⟩)
        unfold corV opV op0 zeroM at HC
        go_wp2_with fail
        refine HC.mono ?_
        rintro e w3 ⟨hD, b3⟩
        clear HC
        rcases hD with ⟨r3, q3, v3, s3, kk3, cc3, o3, hd, he, oC3, oO3⟩ | ⟨m, hd, _, _⟩
        rotate_left
        ·have hq : doC c (op0 3 0 nm pt) = .error m := hd
         rw [HD1.out] at hq
         cases hq
        have hq : doC c (op0 3 0 nm pt) = .ok r3 := hd
        rw [HD1.out] at hq
        injection hq with hq
        clear hd
        subst hq
        subst he
        obtain ⟨oaB, ocB, rfl⟩ := OOc.none oO3
        clear oO3
        obtain ⟨y1, ey1⟩ : ∃ y, bndK c nm pt = y := ⟨_, rfl⟩
        have HEB : Hid (bndK c nm pt = y1) := ey1
        simp only [ey1] at oC3
        unfold corV
        simp only [ey1]
        clear ey1
        go_wp2_with (refine wpl_fresh rfl (.tmp 22) (.tmp 121) rfl #[.int .i64 y1.now, q3, v3, s3, kk3, cc3] _ rfl rfl (by kernel_rfl) rfl (cor_one oC3) ?_)
        intro w4 kB b4 s4
        have bb := nxt b3 b4
        have L2 : Hid (Bw w w4) := nxt L.out bb
        have ownB := oC3.on b4
        obtain ⟨gB, egB⟩ : ∃ g, w3.heap.size = g := ⟨_, rfl⟩
        rw [egB] at kB ⊢
        clear egB oC3 b3 b4 s4 L
        have L := L2
        clear L2
        have kJ4 := kJ.on bb
        have oJ4 := oJ.on bb
        clear kJ oJ c0 c1' c2 c3 c4 c5 bb
        rw [HEB.out] at HD2 HG2
        obtain ⟨c0, c1', c2, c3, c4, c5⟩ := kB.c6
        go_upto_region 32 with fail
        have HC := do_good w4 (HI.out.2.2.below L.out) _ y1 q3 v3 s3 kk3 cc3 ownB HG2.out (op0 4 0 nm pt) (.slice none 0 0) (op0_ok2 w4 ⟨by decide, by decide⟩)
        unfold corV opV op0 zeroM at HC
        go_wp2_with fail
        refine HC.mono ?_
        rintro e w5 ⟨hD, b3⟩
        clear HC
        rcases hD with ⟨r3, q5, v5, s5, kk5, cc5, o3, hd, he, oC3, oO3⟩ | ⟨m, hd, _, _⟩
        rotate_left
        ·have hq : doC y1 (op0 4 0 nm pt) = .error m := hd
         rw [HD2.out] at hq
         cases hq
        have hq : doC y1 (op0 4 0 nm pt) = .ok r3 := hd
        rw [HD2.out] at hq
        injection hq with hq
        clear hd
        subst hq
        subst he
        obtain ⟨oaC, ocC, rfl⟩ := OOc.none oO3
        clear oO3
        obtain ⟨y2, ey2⟩ : ∃ y, c = y := ⟨_, rfl⟩
        have HEC : Hid (c = y2) := ey2
        simp only [ey2] at oC3
        unfold corV
        simp only [ey2]
        clear ey2
        go_wp2_with (refine wpl_fresh rfl (.tmp 25) (.tmp 143) rfl #[.int .i64 y2.now, q5, v5, s5, kk5, cc5] _ rfl rfl (by kernel_rfl) rfl (cor_one oC3) ?_)
        intro w6 kC b4 s4
        have bb := nxt b3 b4
        have L2 : Hid (Bw w w6) := nxt L.out bb
        have ownC := oC3.on b4
        obtain ⟨gC, egC⟩ : ∃ g, w5.heap.size = g := ⟨_, rfl⟩
        rw [egC] at kC ⊢
        clear egC oC3 b3 b4 s4 L
        have L := L2
        clear L2
        have kJ6 := kJ4.on bb
        have oJ6 := oJ4.on bb
        clear kJ4 oJ4 c0 c1' c2 c3 c4 c5 bb kB ownB
        have hy : c = y2 := HEC.out
        clear HEC HD1 HD2
        subst hy
        have HC := sameCore w6 c _ _ _ _ _ _ _ _ _ _ ownC.rd oJ6.rd HG1.out.1
        unfold corV at HC
        obtain ⟨e0, e1, e2, e3, e4, e5⟩ := kC.c6
        obtain ⟨f0, f1, f2, f3, f4, f5⟩ := kJ6.c6
        clear kC kJ6 oJ6 ownC
        go_wp2_with fail
        refine HC.mono ?_
        rintro e w9 ⟨rfl, b9⟩
        have HL : Hid (Bw w w9) := nxt L.out b9
        clear HC e0 e1 e2 e3 e4 e5 f0 f1 f2 f3 f4 f5 b9 L
        go_wp2_with fail
        go_ret
        exact ⟨rfl, HL.out⟩
       ·rw [if_pos h1, if_neg h2] at HB
        have HD1 : Hid (doC c (op0 3 0 nm pt) = .error 34) := HB
        clear HB HN HHB h1 h2
        go_upto_region 29 with fail
        have HC := do_good wj (HI.out.2.2.below L.out) _ c q1 (.slice wb nb mb) s1 k1 c1 oJ HG1.out.1 (op0 3 0 nm pt) (.slice none 0 0) (op0_ok2 wj ⟨by decide, by decide⟩)
        unfold corV opV op0 zeroM at HC
        go_wp2_with fail
        refine HC.mono ?_
        rintro e w3 ⟨hD, b3⟩
        clear HC
        rcases hD with ⟨r3, _, _, _, _, _, o3, hd, he, oC3, oO3⟩ | ⟨m, hd, _, he⟩
        ·have hq : doC c (op0 3 0 nm pt) = .ok r3 := hd
         rw [HD1.out] at hq
         cases hq
        have hq : doC c (op0 3 0 nm pt) = .error m := hd
        rw [HD1.out] at hq
        injection hq with hq
        clear hd
        subst hq
        subst he
        unfold nilV
        have b4 : Bw w3 (w3.alloc (.cells coZ 30)) := (Below.refl w3.heap.size w3).alloc (Nat.le_refl _) _
        have L2 : Hid (Bw w (w3.alloc (.cells coZ 30))) := nxt (nxt L.out b3) b4
        clear b3 b4 L
        go_wp2_with fail
        go_ret
        exact ⟨rfl, L2.out⟩
      ·rw [if_neg h1] at HB
       have HD1 : Hid (doC c (op0 3 0 nm pt) = .error 30) := HB
       have hpf : pat pt = false := by simpa using h1
       have HPF : Hid (pat pt = false) := hpf
       clear HB HN HHB h1 hpf
       go_upto_region 29 with fail
       have HC := do_good wj (HI.out.2.2.below L.out) _ c q1 (.slice wb nb mb) s1 k1 c1 oJ HG1.out.1 (op0 3 0 nm pt) (.slice none 0 0) (op0_ok2 wj ⟨by decide, by decide⟩)
       unfold corV opV op0 zeroM at HC
       go_wp2_with fail
       refine HC.mono ?_
       rintro e w3 ⟨hD, b3⟩
       clear HC
       rcases hD with ⟨r3, _, _, _, _, _, o3, hd, he, oC3, oO3⟩ | ⟨m, hd, _, he⟩
       ·have hq : doC c (op0 3 0 nm pt) = .ok r3 := hd
        rw [HD1.out] at hq
        cases hq
       have hq : doC c (op0 3 0 nm pt) = .error m := hd
       rw [HD1.out] at hq
       injection hq with hq
       clear hd
       subst hq
       subst he
       unfold nilV
       have b4 : Bw w3 (w3.alloc (.cells coZ 30)) := (Below.refl w3.heap.size w3).alloc (Nat.le_refl _) _
       have L2 : Hid (Bw w (w3.alloc (.cells coZ 30))) := nxt (nxt L.out b3) b4
       clear b3 b4 L
       have HP := To.pattern_any (w3.alloc (.cells coZ 30)) (HI.out.2.2.below L2.out) pt
       go_wp2_with fail
       refine HP.mono ?_
       rintro e w9 ⟨rfl, b9⟩
       rw [HPF.out]
       have HL : Hid (Bw w w9) := nxt L2.out b9
       clear HP b9 L2
       go_wp2_with fail
       go_ret
       exact ⟨rfl, HL.out⟩
end Go.Proofs.YtnpikgakpmkipabGreatDoor
