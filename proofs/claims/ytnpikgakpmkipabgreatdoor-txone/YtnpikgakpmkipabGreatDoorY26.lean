/- (*turn).pump, walked. Conditions: those that each row states. -/
import Derived.Test.YtnpikgakpmkipabGreatDoorY04
import Derived.Test.YtnpikgakpmkipabGreatDoorY03
import Derived.Test.YtnpikgakpmkipabGreatDoorY22
import Derived.Test.YtnpikgakpmkipabGreatDoorY17
import Derived.Test.YtnpikgakpmkipabGreatDoorY15
import Derived.Test.YtnpikgakpmkipabGreatDoorY23
import Derived.Test.YtnpikgakpmkipabGreatDoorY24
import Derived.Test.YtnpikgakpmkipabGreatDoorY25
import Derived.Test.YtnpikgakpmkipabGreatDoorY19
import Derived.Test.YtnpikgakpmkipabGreatDoorY21
import Derived.Test.YtnpikgakpmkipabGreatDoorY20
namespace Go.Proofs.YtnpikgakpmkipabGreatDoor
open Go.RowKit Go.Lib
set_option maxRecDepth 100000
set_option linter.unusedSimpArgs false
set_option linter.unusedVariables false
theorem InI.on {w W W' : World} {B g : Nat} {c : Cor} {os : List Ot} {qv bv sv kv cv : Value} {l : List Que} {i gq cap gp : Nat} {q1 qk : Que} {ok : List Ot} (h : InI w W B g c os qv bv sv kv cv l i gq cap gp q1 qk ok) (hb : Bw W W') : InI w W' B g c os qv bv sv kv cv l i gq cap gp q1 qk ok := by
 obtain ⟨ov, cur, iv, hv, h1, h2⟩ := h.t
 exact ⟨h.e, h.gd, h.nn, ⟨ov, cur, iv, hv, h1.on hb, h2.on hb⟩, h.f.trans (.of_below hb h1.lt), h.k.on hb⟩
set_option maxHeartbeats 8000000 in
theorem pump_any (w : World) (B g : Nat) (c : Cor) (os : List Ot) (hT : T w B g c os) (hg : GoodC c) (hV : VB B w) (hos : os.length ≤ 10000) :
  Calls Tryz.prog 35 #[.pointer (some ⟨g, 0, none⟩)] w fun e w' => Led w B g os (pumpC c) e w' := by
 obtain ⟨qv, bv, sv, kv, cv, ov0, hT⟩ := hT
 obtain ⟨n, hn⟩ : ∃ n, c.queues.length = n := ⟨_, rfl⟩
 have hql := hg.ql
 obtain ⟨qa, qn, qc, eqv⟩ := OwnL.shape hT.q
 have eqn : qn = n := by
  obtain ⟨zs, e, hz⟩ := hT.q
  obtain ⟨a, cc, e2⟩ := hz.rd.len
  rw [eqv] at e2
  injection e2 with _ e2 _
  have := congrArg List.length e
  rw [List.length_map] at this
  omega
 obtain ⟨c0, c1, c2, c3, c4, c5, c6⟩ := hT.blk.c7
 rw [eqv, eqn] at c1
 have HG0 : Hid (GoodC c) := hg
 have HT0 : Hid (∃ r, PuI w w B g c os qv bv sv kv cv 0 r) := ⟨([], []), rfl, ⟨ov0, by simpa using hT⟩, .refl _ _⟩
 have HQV : Hid (qv = .slice qa n qc) := by rw [eqv, eqn]; exact rfl
 clear hT hg eqv eqn
 go_enter Tryz.func35, Tryz.ntmps35
 go_wp2_with fail
 clear c0 c1 c2 c3 c4 c5 c6
 go_loopg [2, 3, 4, 5, 12] n (fun gg _ _ _ _ s12 wr => ∃ i : Nat, i ≤ n ∧ n - i ≤ gg ∧ s12 = .int .i64 i ∧ Hid (∃ r, PuI w wr B g c os qv bv sv kv cv i r))
 case atStart => exact ⟨0, Nat.zero_le _, by omega, rfl, HT0.out⟩
 case round =>
  obtain ⟨i, hi, hgg, rfl, HP⟩ := hrel
  by_cases hlt : i < n
  ·have hltz : (i : Int) < (n : Int) := by omega
   obtain ⟨r, hP⟩ := HP.out
   obtain ⟨ov, hT1⟩ := hP.t
   have HPU : Hid (pumpL c.subs c.now (c.queues.take i) = .ok r) := hP.e
   have hF1 := hP.f
   have hin : i < c.queues.length := by omega
   obtain ⟨hrl, hro⟩ := pumpL_len hP.e fun q hq => HG0.out.qg q (List.mem_of_mem_take hq)
   rw [List.length_take, Nat.min_eq_left (by omega)] at hrl hro
   have hpl : i < (r.1 ++ c.queues.drop i).length := by rw [List.length_append, List.length_drop]; omega
   obtain ⟨q, hq⟩ : ∃ q, c.queues[i] = q := ⟨_, rfl⟩
   have hqi : (r.1 ++ c.queues.drop i)[i] = q := by
    rw [List.getElem_append_right (by omega)]
    simp only [hrl, Nat.sub_self, List.getElem_drop, Nat.add_zero]
    exact hq
   have hgq : goodQ q = true := by rw [← hq]; exact HG0.out.qg _ (List.getElem_mem hin)
   have hbig := good_big hgq
   obtain ⟨gq, cap, cur, iv, hv, hEL1⟩ := hT1.el hpl
   obtain ⟨c0, c1, c2, c3, c4, c5, c6⟩ := hT1.blk.c7
   have eqv2 := hEL1.eq
   rw [HQV.out] at c1 eqv2
   injection eqv2 with ea en ec
   subst ea ec
   have hosr : (os ++ r.2).length ≤ 20000 := by rw [List.length_append]; omega
   have HX : Hid (Tv wr B g { c with queues := r.1 ++ c.queues.drop i } (os ++ r.2) qv bv sv kv cv ov ∧ FrT B w wr ∧ El wr B qv (r.1 ++ c.queues.drop i) i gq qc cur iv hv) := ⟨hT1, hF1, hEL1⟩
   have HLQ : Hid (gq < wr.heap.size) := hEL1.blk.lt
   clear hP hT1 hF1 hEL1 en
   have b2 := (Below.refl wr.heap.size wr).alloc (Nat.le_refl _) (.cells #[.pointer (some ⟨gq, i * 7, none⟩)] 122)
   have k2 := Blk.new wr #[.pointer (some ⟨gq, i * 7, none⟩)] 122
   go_upto_region 4 with fail
   generalize wr.alloc (.cells #[.pointer (some ⟨gq, i * 7, none⟩)] 122) = w2 at *
   obtain ⟨gp, egp⟩ : ∃ x, wr.heap.size = x := ⟨_, rfl⟩
   have HG : Hid (some gp ≠ some gq) := fun e => by injection e with e; have := HLQ.out; omega
   rw [egp] at k2 ⊢
   obtain ⟨hT1, hF1, hEL1⟩ := HX.out
   have hT2 := hT1.on b2
   have hF2 := hF1.trans (.of_below b2 hT1.lt)
   have hEL2 := hEL1.on b2
   clear hT1 hF1 hEL1 HX b2 c0 c1 c2 c3 c4 c5 c6 egp HP
   refine rh (fun W => Blk W g #[.int .i64 c.now, qv, bv, sv, kv, cv, ov] 77 ∧ Blk W gp #[.pointer (some ⟨gq, i * 7, none⟩)] 122) ?_
   have hS : Blk (World.drew w2) g #[.int .i64 c.now, qv, bv, sv, kv, cv, ov] 77 ∧ Blk (World.drew w2) gp #[.pointer (some ⟨gq, i * 7, none⟩)] 122 := ⟨⟨hT2.blk.h⟩, ⟨k2.h⟩⟩
   have hT3 := hT2.drew
   have hF3 := hF2.drew
   have hEL := hEL2.kx (e := 0) (w' := w2.drew) .drew (by decide)
   clear hT2 hF2 hEL2 k2
   generalize w2.drew = w3 at *
   have hOW := hEL.own
   rw [hqi] at hOW
   refine tks [0, 1, 2, 4, 5, 6, 7, 8] [.pointer (some ⟨gq, i * 7, none⟩), .pointer (some ⟨gq, i * 7, none⟩), .pointer (some ⟨gq, i * 7, none⟩), .pointer (some ⟨g, 0, none⟩), .pointer (some ⟨g, 0, none⟩), .pointer (some ⟨g, 0, none⟩), .pointer (some ⟨g, 0, none⟩), .int .i64 c.now] 7 ?_ hS ?_
   ·simp only [tkY, tkf]
    refine ⟨.yes ?_, .yes ?_, .yes ?_, .yes ?_, .yes ?_, .yes ?_, .yes ?_, .yes ?_, trivial⟩
    all_goals
     intro W' hW'
     have := hW'.2.ce 0
     have := hW'.1.ce 0
     go_simp
   simp only [tkA, tkf]
   refine ak 3 fun K hK => ?_
   obtain ⟨d0, d1, d2, d3, d4, d5, d6⟩ := hEL.c7 hpl hqi
   go_simp
   refine hK _ _ hS ?_
   clear hK K
   try simp only [tkf]
   refine ak 9 fun K hK => ?_
   go_simp
   refine (expire_any _ (hV.fr hF3).now _ q (OwnQ.rd hOW) c.now hbig).mono ?_
   rintro e w4 ⟨v4, rfl, o4, b4⟩
   obtain ⟨iv4, hv4, rfl, n4, o4'⟩ := own_open o4
   clear o4
   have hT4 := hT3.on b4
   have hF4 := hF3.trans (.of_below b4 hT3.lt)
   have hEL4 := hEL.on b4
   have hS4 : Blk w4 g #[.int .i64 c.now, qv, bv, sv, kv, cv, ov] 77 ∧ Blk w4 gp #[.pointer (some ⟨gq, i * 7, none⟩)] 122 := ⟨hS.1.on b4, hS.2.on b4⟩
   have o4 := o4'.low hT3.lt
   clear hT3 hF3 hEL hS b4 o4' hOW
   have hS := hS4
   clear hS4
   show K _ _
   refine hK _ _ hS ?_
   clear hK K
   try simp only [tkf]
   refine tks [10, 11] [queV (if relC q = 0 then expireQ q c.now else zeroQ) iv4 hv4, .int .i64 (relC q)] 3 ?_ hS ?_
   ·simp only [tkY, tkf]
    refine ⟨.yes ?_, .yes ?_, trivial⟩
    all_goals
     intro W' hW'
     go_simp
   simp only [tkA, tkf]
   refine ak 12 fun K hK => ?_
   go_simp
   refine (sure_any _ B _ _ o4 _).mono ?_
   rintro e w5 ⟨h5, b5⟩
   have hT5 := hT4.on b5
   have hF5 := hF4.trans (.of_below b5 hT4.lt)
   have hEL5 := hEL4.on b5
   have hS5 : Blk w5 g #[.int .i64 c.now, qv, bv, sv, kv, cv, ov] 77 ∧ Blk w5 gp #[.pointer (some ⟨gq, i * 7, none⟩)] 122 := ⟨hS.1.on b5, hS.2.on b5⟩
   have o5 := o4.on b5
   clear hT4 hF4 hEL4 hS b5 o4
   have hS := hS5
   clear hS5
   rcases h5 with ⟨h5, he⟩ | ⟨h5, he⟩
   rotate_left
   ·exact absurd (relC_ok hgq) h5
   subst he
   show K _ _
   rw [if_pos h5] at o5 ⊢
   refine hK _ _ hS ?_
   clear hK K
   try simp only [tkf]
   refine tks [13] [.pointer (some ⟨gq, i * 7, none⟩)] 1 ?_ hS ?_
   ·simp only [tkY, tkf]
    refine ⟨.yes ?_, trivial⟩
    all_goals
     intro W' hW'
     go_simp
   simp only [tkA, tkf]
   refine ak 14 fun K hK => ?_
   refine opw_putAt (.tmp 35) (.tmp 34) rfl gq (i * 7) (queV (expireQ q c.now) iv4 hv4).cells rfl ?_ hEL5.blk (by kernel_rfl) hEL5.fit (own_cells o5) ?_
   ·skip
    simp only [Act.eval, Act.put]
    rfl
   intro w6 k6 g6 s6
   obtain ⟨T6, F6, E6⟩ := hT5.put hEL5 o5 k6 g6
   have hS6 : Blk w6 g #[.int .i64 c.now, qv, bv, sv, kv, cv, ov] 77 ∧ Blk w6 gp #[.pointer (some ⟨gq, i * 7, none⟩)] 122 := ⟨T6.blk, hS.2.grown g6 HG.out⟩
   refine hK _ _ hS6 ?_
   clear hK K hS
   have hS := hS6
   clear hS6
   try simp only [tkf]
   refine ad ?_
   have hF6 := hF5.trans F6
   have hg1 : goodQ (expireQ q c.now) = true := (goodQ_iff _).2 (good_expire ((goodQ_iff _).1 hgq) _)
   have HIN : Hid (InI w w6 B g c (os ++ r.2) qv bv sv kv cv (r.1 ++ c.queues.drop i) i gq qc gp (expireQ q c.now) (expireQ q c.now) []) := by
    refine ⟨?_, hg1, by have := good_items hg1; simpa using this, ⟨_, _, _, _, by simpa using T6, E6⟩, hF6, hS.2⟩
    cases pumpQ c.subs (expireQ q c.now).items.length (expireQ q c.now) <;> rfl
   clear T6 E6 F6 hF6 hS hT5 hF5 hEL5 o5 k6 g6 s6 h5 n4
   go_wp2_with fail
   go_loopg [4, 5] (expireQ q c.now).items.length (fun g2 _ _ wy => ∃ qk : Que, ∃ ok : List Ot, qk.items.length ≤ g2 ∧ Hid (InI w wy B g c (os ++ r.2) qv bv sv kv cv (r.1 ++ c.queues.drop i) i gq qc gp (expireQ q c.now) qk ok))
   case atStart => exact ⟨_, _, Nat.le_refl _, HIN.out⟩
   case round =>
    obtain ⟨qk, ok, hqk, HII⟩ := hrel
    obtain ⟨ov2, cur2, iv2, hv2, T2, E2⟩ := HII.out.t
    have hpl2 : i < ((r.1 ++ c.queues.drop i).set i qk).length := by rw [List.length_set]; exact hpl
    have hgi : ((r.1 ++ c.queues.drop i).set i qk)[i] = qk := by simp
    obtain ⟨ia, ic, rfl⟩ : ∃ a cc, iv2 = .slice a qk.items.length cc := by
     have h1 := E2.own
     rw [hgi] at h1
     obtain ⟨iv', hv', e, h2, h3⟩ := h1
     injection e with e
     have e2 := congrArg Array.toList e
     simp at e2
     obtain ⟨a, cc, e3⟩ := h2.rd.len
     exact ⟨a, cc, by rw [e2.1, e3]⟩
    obtain ⟨d0, d1, d2, d3, d4, d5, d6⟩ := E2.c7 hpl2 hgi
    obtain ⟨c0, c1, c2, c3, c4, c5, c6⟩ := T2.blk.c7
    have kp0 := (HII.out.k.cell 0).trans (show _ = some (Value.pointer (some ⟨gq, i * 7, none⟩)) from rfl)
    have hsl := HG0.out.sl
    have HIX := index_any _ B sv c.subs T2.s (by omega) qv _ i gq qc cur2 _ hv2 E2 qk hpl2 hgi (good_big HII.out.gd) gp HII.out.k
    clear T2 E2
    by_cases hz : qk.items.length = 0
    ·have hz2 : decide ((qk.items.length : Int) > 0) = false := decide_eq_false (by omega)
     have HP2 : Hid (∃ r', PuI w wr B g c os qv bv sv kv cv (i + 1) r') := by
      obtain ⟨ov2, cur2, iv2, hv2, T2, E2⟩ := HII.out.t
      refine PuI.step HG0.out hin HPU.out ?_ ⟨ov2, T2⟩ HII.out.f
      unfold pumpE
      rw [hq, relC_ok hgq]
      exact HII.out.ends (.inl (List.length_eq_zero_iff.1 hz))
     clear HIX
     go_wp2_with fail
     go_roundg (n - (i + 1))
     case measure => omega
     case rel => exact ⟨i + 1, by omega, by omega, rfl, HP2.out⟩
    ·have hz2 : decide ((qk.items.length : Int) > 0) = true := decide_eq_true (by omega)
     have hne : qk.items ≠ [] := fun e => hz (by rw [e]; rfl)
     go_wp2_with fail
     refine HIX.mono ?_
     rintro e wz ⟨rfl, bz⟩
     clear HIX
     have hIz : InI w wz B g c (os ++ r.2) qv bv sv kv cv (r.1 ++ c.queues.drop i) i gq qc gp (expireQ q c.now) qk ok := HII.out.on bz
     have HIz : Hid (InI w wz B g c (os ++ r.2) qv bv sv kv cv (r.1 ++ c.queues.drop i) i gq qc gp (expireQ q c.now) qk ok) := hIz
     clear HII d0 d1 d2 d3 d4 d5 d6 c0 c1 c2 c3 c4 c5 c6 kp0 bz
     have hfi := find_idx (mayB qk) c.subs
     by_cases hfx : c.subs.findIdx (mayB qk) < c.subs.length
     ·rw [if_pos hfx]
      rw [List.getElem?_eq_getElem hfx] at hfi
      generalize c.subs.findIdx (mayB qk) = j at *
      obtain ⟨ov2, cur2, iv2, hv2, T2, E2⟩ := hIz.t
      obtain ⟨c0, c1, c2, c3, c4, c5, c6⟩ := T2.blk.c7
      have kp0 := (hIz.k.cell 0).trans (show _ = some (Value.pointer (some ⟨gq, i * 7, none⟩)) from rfl)
      obtain ⟨zs, ezs, hzs⟩ := T2.s
      have hzl : zs.length = c.subs.length := by rw [← ezs, List.length_map]
      obtain ⟨sa, scp, esv⟩ := hzs.rd.len
      have hrd := hzs.rd
      rw [esv] at hrd c3
      obtain ⟨sb, so, v0, v1, v2, v3, v4, rfl, hz1, hzR, hone, hcs⟩ := el5_at hrd (i := j) (by omega)
      obtain ⟨e0, e1, e2, e3, e4⟩ := hcs wz (Below.refl _ _)
      have hsj : (zs[j]'(by omega)).2 = c.subs[j] := by
       have e5 : (zs.map (·.2))[j]'(by rw [List.length_map]; omega) = c.subs[j] := by simp only [ezs]
       rw [← e5, List.getElem_map]
      rw [hsj] at hzR
      obtain ⟨s, hs⟩ : ∃ s, c.subs[j] = s := ⟨_, rfl⟩
      rw [hs] at hzR hfi
      unfold SbR at hzR
      injection hzR with z0 hzR
      injection hzR with z1 hzR
      injection hzR with z2 hzR
      injection hzR with z3 hzR
      injection hzR with z4 hzR
      subst z0 z1 z2 z3 z4
      rw [hzl] at c3
      have hjz : (j : Int) < (c.subs.length : Int) := by omega
      have hj0 : decide ((j : Int) < 0) = false := decide_eq_false (by omega)
      clear T2 E2 hzs hrd ezs hz1 hone hcs hsj hzR esv
      go_upto_region 8 with fail
      go_wp2_with (refine wpl_fresh rfl (.tmp 5) (.tmp 58) rfl _ _ rfl rfl (by kernel_rfl) rfl (by simp [Value.oneCell']) ?_)
      intro w9 k9 b9 s9
      have hI9 := HIz.out.on b9
      obtain ⟨ov9, cur9, iv9, hv9, T9, E9⟩ := hI9.t
      have kp9 := (hI9.k.cell 0).trans (show _ = some (Value.pointer (some ⟨gq, i * 7, none⟩)) from rfl)
      have hon := hI9.nn
      have HHD := hand_any w9 B g _ _ qv bv sv kv cv ov9 T9 i gq qc cur9 iv9 hv9 E9 qk hpl2 hgi (good_big hI9.gd) (hV.fr hI9.f) (by rw [List.length_append, List.length_append]; rw [List.length_append] at hosr; omega) s.conn s.sub (!s.auto)
      have HI9 : Hid (InI w w9 B g c (os ++ r.2) qv bv sv kv cv (r.1 ++ c.queues.drop i) i gq qc gp (expireQ q c.now) qk ok) := hI9
      obtain ⟨f0, f1, f2, f3, f4⟩ := k9.c5
      have HFI : Hid (c.subs.find? (mayB qk) = some s) := hfi
      clear T9 E9 hI9 hIz HIz k9 b9 s9 c0 c1 c2 c3 c4 c5 c6 kp0 e0 e1 e2 e3 e4 hfi
      go_wp2_with fail
      refine HHD.mono ?_
      intro e wF hF
      clear HHD f0 f1 f2 f3 f4 kp9
      have HST := HI9.out.step hne HFI.out
      rcases hF with ⟨r3, h7, he, ⟨ov3, cur3, iv3, hv3, T3, E3⟩, F3⟩ | ⟨m, h7, he, F3⟩
      ·subst he
       have HNX : Hid (InI w wF B g c (os ++ r.2) qv bv sv kv cv (r.1 ++ c.queues.drop i) i gq qc gp (expireQ q c.now) r3.1 (ok ++ [r3.2])) := by
        have hit : r3.1.items.length = qk.items.length - 1 := by rw [(handQ_ok h7).2, take_items, List.length_drop]
        refine ⟨?_, ?_, ?_, ⟨ov3, cur3, iv3, hv3, ?_, ?_⟩, HI9.out.f.trans F3, HI9.out.k.kt (F3.kt _ rfl)⟩
        ·rw [HST, h7, hit]
         show bnd (pumpQ c.subs (qk.items.length - 1) r3.1) _ = bnd (pumpQ c.subs (qk.items.length - 1) r3.1) _
         simp
        ·rw [(handQ_ok h7).2]
         exact (goodQ_iff _).2 (good_take ((goodQ_iff _).1 HI9.out.gd) (handQ_ok h7).1 _)
        ·rw [List.length_append, hit]
         have := HI9.out.nn
         simp
         omega
        ·simp only [List.set_set, List.append_assoc] at T3 ⊢
         exact T3
        ·simp only [List.set_set] at E3
         exact E3
       have hlt3 : r3.1.items.length < qk.items.length := by rw [(handQ_ok h7).2, take_items, List.length_drop]; omega
       clear T3 E3 F3 HI9 HST
       go_wp2_with fail
       go_roundg (qk.items.length - 1)
       case measure => omega
       case rel => exact ⟨r3.1, _, by omega, HNX.out⟩
      ·subst he
       refine ⟨rfl, .inr ⟨m, ?_, rfl, HI9.out.f.trans F3⟩⟩
       have hpe : pumpE c.subs c.now q = .error m := by
        unfold pumpE
        rw [relC_ok hgq]
        show pumpQ c.subs (expireQ q c.now).items.length (expireQ q c.now) = _
        rw [HST, h7]
        rfl
       have hpl3 := pumpL_err c.subs c.now hpe (c.queues.drop (i + 1)) _ r HPU.out
       rw [← hq, ← List.drop_eq_getElem_cons hin, List.take_append_drop] at hpl3
       unfold pumpC
       rw [hpl3]
       rfl
     ·rw [if_neg hfx]
      have HP2 : Hid (∃ r', PuI w wz B g c os qv bv sv kv cv (i + 1) r') := by
       obtain ⟨ov2, cur2, iv2, hv2, T2, E2⟩ := HIz.out.t
       refine PuI.step HG0.out hin HPU.out ?_ ⟨ov2, T2⟩ HIz.out.f
       unfold pumpE
       rw [hq, relC_ok hgq]
       exact HIz.out.ends (.inr (by rw [hfi]; exact List.getElem?_eq_none (by omega)))
      clear hIz hfi
      go_wp2_with fail
      go_roundg (n - (i + 1))
      case measure => omega
      case rel => exact ⟨i + 1, by omega, by omega, rfl, HP2.out⟩
  ·obtain rfl : i = n := by omega
   have hltz : ¬ ((i : Int) < (i : Int)) := by omega
   obtain ⟨r, hP⟩ := HP.out
   obtain ⟨ov, hT1⟩ := hP.t
   have HFIN : Hid (Led w B g os (pumpC c) (.returned (.tuple #[])) wr) := by
    have h1 := hP.e
    rw [List.take_of_length_le (by omega)] at h1
    refine .inl ⟨({ c with queues := r.1 }, r.2), ?_, rfl, ⟨qv, bv, sv, kv, cv, ov, ?_⟩, hP.f⟩
    ·unfold pumpC
     rw [h1]
     rfl
    ·rw [List.drop_of_length_le (by omega), List.append_nil] at hT1
     exact hT1
   clear hP hT1
   go_wp2_with fail
   go_end0
   exact HFIN.out
def opF : Int → Value
 | 1 => .func (.func 46) #[] #[]
 | 2 => .func (.func 47) #[] #[]
 | 3 => .func (.func 48) #[] #[]
 | 4 => .func (.func 49) #[] #[]
 | 5 => .func (.func 50) #[] #[]
 | 6 => .func (.func 51) #[] #[]
 | 7 => .func (.func 52) #[] #[]
 | 8 => .func (.func 53) #[] #[]
 | 9 => .func (.func 54) #[] #[]
 | 10 => .func (.func 55) #[] #[]
 | 11 => .func (.func 56) #[] #[]
 | 12 => .func (.func 58) #[] #[]
 | 13 => .func (.func 59) #[] #[]
 | 14 => .func (.func 60) #[] #[]
 | _ => .nilFunc
theorem opF_out {k : Int} (h : k < 1 ∨ 15 ≤ k) : opF k = .nilFunc := by
 unfold opF
 split <;> first | omega | rfl
set_option maxHeartbeats 8000000 in
theorem operation_any (w : World) (k : Int) : Calls Tryz.prog 30 #[.int .i64 k] w fun e w' => e = .returned (opF k) ∧ Bw w w' := by
 by_cases h0 : k < 0
 ·have hk := opF_out (k := k) (.inl (by omega))
  rw [hk]
  clear hk
  go_enter Tryz.func30, Tryz.ntmps30
  go_wp2_with (refine wpl_fresh rfl (.tmp 3) (.tmp 4) rfl _ _ rfl rfl (by kernel_rfl) rfl (by simp [Value.oneCell']) ?_)
  intro W1 k1 b1 s1
  go_wp2_with fail
  go_ret
  exact ⟨rfl, b1⟩
 ·by_cases h1 : k ≥ 15
  ·have hk := opF_out (k := k) (.inr (by omega))
   rw [hk]
   clear hk
   go_enter Tryz.func30, Tryz.ntmps30
   go_wp2_with (refine wpl_fresh rfl (.tmp 3) (.tmp 4) rfl _ _ rfl rfl (by kernel_rfl) rfl (by simp [Value.oneCell']) ?_)
   intro W1 k1 b1 s1
   go_wp2_with fail
   go_ret
   exact ⟨rfl, b1⟩
  ·have hcs : k = 0 ∨ k = 1 ∨ k = 2 ∨ k = 3 ∨ k = 4 ∨ k = 5 ∨ k = 6 ∨ k = 7 ∨ k = 8 ∨ k = 9 ∨ k = 10 ∨ k = 11 ∨ k = 12 ∨ k = 13 ∨ k = 14 := by omega
   clear h0 h1
   rcases hcs with rfl | rfl | rfl | rfl | rfl | rfl | rfl | rfl | rfl | rfl | rfl | rfl | rfl | rfl | rfl
   all_goals
    go_enter Tryz.func30, Tryz.ntmps30
    go_wp2_with (refine wpl_fresh rfl (.tmp 3) (.tmp 4) rfl _ _ rfl rfl (by kernel_rfl) rfl (by simp [Value.oneCell']) ?_)
    intro W1 k1 b1 s1
    obtain ⟨gX, egX⟩ : ∃ g, w.heap.size = g := ⟨_, rfl⟩
    have HB1 : Hid (Bw w W1) := b1
    clear b1
    rw [egX] at k1 ⊢
    have c0 : W1.cell? ⟨gX, 0, none⟩ = some (.nilFunc) := k1.cell 0
    have c1 : W1.cell? ⟨gX, 1, none⟩ = some (.func (.func 46) #[] #[]) := k1.cell 1
    have c2 : W1.cell? ⟨gX, 2, none⟩ = some (.func (.func 47) #[] #[]) := k1.cell 2
    have c3 : W1.cell? ⟨gX, 3, none⟩ = some (.func (.func 48) #[] #[]) := k1.cell 3
    have c4 : W1.cell? ⟨gX, 4, none⟩ = some (.func (.func 49) #[] #[]) := k1.cell 4
    have c5 : W1.cell? ⟨gX, 5, none⟩ = some (.func (.func 50) #[] #[]) := k1.cell 5
    have c6 : W1.cell? ⟨gX, 6, none⟩ = some (.func (.func 51) #[] #[]) := k1.cell 6
    have c7 : W1.cell? ⟨gX, 7, none⟩ = some (.func (.func 52) #[] #[]) := k1.cell 7
    have c8 : W1.cell? ⟨gX, 8, none⟩ = some (.func (.func 53) #[] #[]) := k1.cell 8
    have c9 : W1.cell? ⟨gX, 9, none⟩ = some (.func (.func 54) #[] #[]) := k1.cell 9
    have c10 : W1.cell? ⟨gX, 10, none⟩ = some (.func (.func 55) #[] #[]) := k1.cell 10
    have c11 : W1.cell? ⟨gX, 11, none⟩ = some (.func (.func 56) #[] #[]) := k1.cell 11
    have c12 : W1.cell? ⟨gX, 12, none⟩ = some (.func (.func 58) #[] #[]) := k1.cell 12
    have c13 : W1.cell? ⟨gX, 13, none⟩ = some (.func (.func 59) #[] #[]) := k1.cell 13
    have c14 : W1.cell? ⟨gX, 14, none⟩ = some (.func (.func 60) #[] #[]) := k1.cell 14
    go_wp2_with fail
    go_ret
    exact ⟨rfl, HB1.out⟩
theorem act_outs {c : Cor} {o : Opr} {r : Cor × List Ot} (hg : GoodC c) (h : actC c o = .ok r) : r.2.length ≤ 10000 := by
 have hn : ∀ {x : Except Int Cor}, noO x = .ok r → r.2.length ≤ 10000 := fun h => by rw [(noO_ok' h).2]; exact Nat.zero_le _
 unfold actC at h
 by_cases h1 : o.kind = 1
 ·rw [if_pos h1] at h
  exact hn h
 rw [if_neg h1] at h
 by_cases h2 : o.kind = 2
 ·rw [if_pos h2] at h
  exact hn h
 rw [if_neg h2] at h
 by_cases h3 : o.kind = 3
 ·rw [if_pos h3] at h
  unfold bindC at h
  obtain ⟨_, h⟩ := ins_ok.1 h
  obtain ⟨_, h⟩ := ins_ok.1 h
  obtain ⟨l, _, h⟩ := bnd_ok.1 h
  by_cases hk : o.keep = true
  ·rw [if_pos hk] at h
   obtain ⟨_, h⟩ := ins_ok.1 h
   injection h with h
   rw [← h]
   have h1 : (keptO c o).length ≤ c.kept.length := by
    unfold keptO
    rw [List.length_map]
    exact List.length_filter_le ..
   have h2 := hg.kl
   show (keptO c o).length ≤ 10000
   omega
  ·rw [if_neg hk] at h
   injection h with h
   rw [← h]
   exact Nat.zero_le _
 rw [if_neg h3] at h
 by_cases h4 : o.kind = 4
 ·rw [if_pos h4] at h
  exact hn h
 rw [if_neg h4] at h
 by_cases h5 : o.kind = 5
 ·rw [if_pos h5] at h
  exact hn h
 rw [if_neg h5] at h
 by_cases h6 : o.kind = 6
 ·rw [if_pos h6] at h
  exact hn h
 rw [if_neg h6] at h
 by_cases h7 : o.kind = 7
 ·rw [if_pos h7] at h
  exact hn h
 rw [if_neg h7] at h
 by_cases h8 : o.kind = 8
 ·rw [if_pos h8] at h
  exact hn h
 rw [if_neg h8] at h
 by_cases h9 : o.kind = 9
 ·rw [if_pos h9] at h
  exact hn h
 rw [if_neg h9] at h
 by_cases h10 : o.kind = 10
 ·rw [if_pos h10] at h
  unfold getC at h
  obtain ⟨_, h⟩ := ins_ok.1 h
  obtain ⟨q, _, h⟩ := bnd_ok.1 h
  obtain ⟨q1, _, h⟩ := bnd_ok.1 h
  obtain ⟨r1, _, h⟩ := bnd_ok.1 h
  injection h with h
  rw [← h]
  show 1 ≤ 10000
  omega
 rw [if_neg h10] at h
 by_cases h11 : o.kind = 11
 ·rw [if_pos h11] at h
  exact hn h
 rw [if_neg h11] at h
 by_cases h12 : o.kind = 12
 ·rw [if_pos h12] at h
  exact hn h
 rw [if_neg h12] at h
 by_cases h13 : o.kind = 13
 ·rw [if_pos h13] at h
  exact hn h
 rw [if_neg h13] at h
 exact hn h
structure OpOk (B : Nat) (w : World) (o : Opr) (pv : Value) : Prop where
 one : pv.oneCell' = true
 rd : ∀ W, Below B w W → RdP W pv o.msg.props
 len : o.msg.props.length ≤ 2513169434916
 n : -9223372036854775808 ≤ o.n ∧ o.n ≤ 9223372036854775807
theorem act_any (w : World) (B g : Nat) (c : Cor) (os : List Ot) (qv bv sv kv cv ov : Value) (zs : Zs Cli) (hT : TA w B g c os qv bv sv kv cv ov zs) (hg : GoodC c) (hV : VB B w) (hos : os.length ≤ 10000) (o : Opr) (pv : Value) (ho : OpOk B w o pv) (hk : 1 ≤ o.kind ∧ o.kind ≤ 14) :
  ∃ f, opF o.kind = .func (.func f) #[] #[] ∧ (∀ args w, (callFunc f args).run Tryz.prog w = .ok (.enter f args) w) ∧ Calls Tryz.prog f #[.pointer (some ⟨g, 0, none⟩), opV o pv] w fun e w' => Led w B g os (actC c o) e w' := by
 have hT' : T w B g c os := ⟨_, _, _, _, _, _, hT.t⟩
 have hk' : o.kind = 1 ∨ o.kind = 2 ∨ o.kind = 3 ∨ o.kind = 4 ∨ o.kind = 5 ∨ o.kind = 6 ∨ o.kind = 7 ∨ o.kind = 8 ∨ o.kind = 9 ∨ o.kind = 10 ∨ o.kind = 11 ∨ o.kind = 12 ∨ o.kind = 13 ∨ o.kind = 14 := by omega
 rcases hk' with h | h | h | h | h | h | h | h | h | h | h | h | h | h
 ·have e : actC c o = noO (declareC c o) := by simp [actC, h]
  rw [e, h]
  exact ⟨46, rfl, fun args w => by go_simp, declare_op w B g c os hT' hg hV o pv ho.one⟩
 ·have e : actC c o = noO (removeC c o) := by simp [actC, h]
  rw [e, h]
  exact ⟨47, rfl, fun args w => by go_simp, remove_op w B g c os hT' hg hV o pv ho.one⟩
 ·have e : actC c o = bindC c o := by simp [actC, h]
  rw [e, h]
  exact ⟨48, rfl, fun args w => by go_simp, bind_op w B g c os hT' hg hV hos o pv ho.one⟩
 ·have e : actC c o = noO (unbindC c o) := by simp [actC, h]
  rw [e, h]
  exact ⟨49, rfl, fun args w => by go_simp, unbind_any w B g c os hT' hg o pv ho.one⟩
 ·have e : actC c o = noO (publishC c o) := by simp [actC, h]
  rw [e, h]
  exact ⟨50, rfl, fun args w => by go_simp, publish_op w B g c os qv bv sv kv cv ov zs hT hg hV o pv ho.one ho.rd ho.len⟩
 ·have e : actC c o = noO (releaseC c o) := by simp [actC, h]
  rw [e, h]
  exact ⟨51, rfl, fun args w => by go_simp, release_op w B g c os qv bv sv kv cv ov zs hT hg o pv ho.one⟩
 ·have e : actC c o = noO (forgetC c o) := by simp [actC, h]
  rw [e, h]
  exact ⟨52, rfl, fun args w => by go_simp, forget_op w B g c os hT' hg hV o pv ho.one⟩
 ·have e : actC c o = noO (subscribeC c o) := by simp [actC, h]
  rw [e, h]
  exact ⟨53, rfl, fun args w => by go_simp, subscribe_op w B g c os hT' hg hV o pv ho.one⟩
 ·have e : actC c o = noO (unsubscribeC c o) := by simp [actC, h]
  rw [e, h]
  exact ⟨54, rfl, fun args w => by go_simp, unsubscribe_op w B g c os hT' hg hV o pv ho.one⟩
 ·have e : actC c o = getC c o := by simp [actC, h]
  rw [e, h]
  exact ⟨55, rfl, fun args w => by go_simp, get_op w B g c os hT' hg hV (by omega) o pv ho.one⟩
 ·have e : actC c o = noO (settleK c o false) := by simp [actC, h]
  rw [e, h]
  exact ⟨56, rfl, fun args w => by go_simp, ack_op w B g c os hT' hg hV o pv ho.one⟩
 ·have e : actC c o = noO (settleK c o o.auto) := by simp [actC, h]
  rw [e, h]
  exact ⟨58, rfl, fun args w => by go_simp, nack_op w B g c os hT' hg hV o pv ho.one⟩
 ·have e : actC c o = noO (detachC c o) := by simp [actC, h]
  rw [e, h]
  exact ⟨59, rfl, fun args w => by go_simp, detach_op w B g c os hT' hg hV o pv ho.one⟩
 ·have e : actC c o = noO (tickC c o) := by simp [actC, h]
  rw [e, h]
  exact ⟨60, rfl, fun args w => by go_simp, tick_op w B g c os hT' hg o pv ho.n⟩
def runE (c : Cor) (o : Opr) : Except Int (Cor × List Ot) := bnd (actC c o) fun r => bnd (pumpC r.1) fun r2 => .ok (r2.1, r.2 ++ r2.2)
set_option maxHeartbeats 2000000 in
theorem do1_any (w : World) (B g ga gt gx : Nat) (c : Cor) (qv bv sv kv cv ov : Value) (zs : Zs Cli) (hT : TA w B g c [] qv bv sv kv cv ov zs) (hg : GoodC c) (hV : VB B w) (o : Opr) (pv : Value) (ho : OpOk B w o pv) (hk : 1 ≤ o.kind ∧ o.kind ≤ 14)
  (kA : Blk w ga #[opF o.kind] 72) (kT : Blk w gt #[.pointer (some ⟨g, 0, none⟩)] 75) (kO : Blk w gx (opA o pv) 35) :
  Calls Tryz.prog 34 #[.pointer (some ⟨ga, 0, none⟩), .pointer (some ⟨gt, 0, none⟩), .pointer (some ⟨gx, 0, none⟩)] w fun e w' => Led w B g [] (runE c o) e w' := by
 obtain ⟨f, ef, hcf, HC⟩ := act_any w B g c [] qv bv sv kv cv ov zs hT hg hV (by simp) o pv ho hk
 rw [ef] at kA
 unfold opV at HC
 have HK : Hid (GoodC c ∧ VB B w ∧ Blk w gt #[.pointer (some ⟨g, 0, none⟩)] 75) := ⟨hg, hV, kT⟩
 obtain ⟨d0, d1, d2, d3, d4, d5, d6, d7, d8, d9, d10, d11, d12, d13⟩ := kO.c14
 have a0 : w.cell? ⟨ga, 0, none⟩ = some (.func (.func f) #[] #[]) := kA.cell 0
 have t0 : w.cell? ⟨gt, 0, none⟩ = some (.pointer (some ⟨g, 0, none⟩)) := kT.cell 0
 clear hT hg hV ho hk kA kT kO ef
 go_enter Tryz.func34, Tryz.ntmps34
 go_wp2_with fail
 refine HC.mono ?_
 rintro e w1 h1
 rcases h1 with ⟨r, h1, he, T1, F1⟩ | ⟨n, h1, he, F1⟩
 rotate_left
 ·subst he
  exact ⟨rfl, .inr ⟨n, by unfold runE; rw [h1]; rfl, rfl, F1⟩⟩
 subst he
 rw [List.nil_append] at T1
 have t1 : w1.cell? ⟨gt, 0, none⟩ = some (.pointer (some ⟨g, 0, none⟩)) := (HK.out.2.2.kt (F1.kt _ rfl)).cell 0
 have HP := pump_any w1 B g r.1 r.2 T1 (good_act (os := r.2) HK.out.1 h1) (HK.out.2.1.fr F1) (act_outs HK.out.1 h1)
 have H1 : Hid (actC c o = .ok r ∧ FrT B w w1) := ⟨h1, F1⟩
 clear HC h1 F1 T1 d0 d1 d2 d3 d4 d5 d6 d7 d8 d9 d10 d11 d12 d13 a0 t0 HK
 go_upto_region 1 with fail
 go_wp2_with fail
 refine HP.mono ?_
 rintro e w2 h2
 rcases h2 with ⟨r2, h2, he, T2, F2⟩ | ⟨n, h2, he, F2⟩
 rotate_left
 ·subst he
  exact ⟨rfl, .inr ⟨n, by unfold runE; rw [H1.out.1]; show bnd (pumpC r.1) _ = _; rw [h2]; rfl, rfl, H1.out.2.trans F2⟩⟩
 subst he
 have HX : Hid (Led w B g [] (runE c o) (.returned (.tuple #[])) w2) := .inl ⟨(r2.1, r.2 ++ r2.2), by unfold runE; rw [H1.out.1]; show bnd (pumpC r.1) _ = _; rw [h2]; rfl, rfl, by simpa using T2, H1.out.2.trans F2⟩
 clear HP h2 T2 F2 H1 t1
 go_wp2_with fail
 go_end0
 exact HX.out
structure OwC (w : World) (B : Nat) (c : Cor) (qv bv sv kv cv : Value) : Prop where
 q : OQc w B qv c.queues
 b : OBc w B bv c.binds
 s : OSc w B sv c.subs
 k : OKc w B kv c.kept
 c : OCw w B cv c.clients
def nilV (n : Int) : Value := .tuple #[.agg #[.int .i64 0, .slice none 0 0, .slice none 0 0, .slice none 0 0, .slice none 0 0, .slice none 0 0], .slice none 0 0, .int .i64 n]
def DoA (w : World) (c : Cor) (o : Opr) (e : Ending) (w' : World) : Prop :=
 ((∃ r qv bv sv kv cv ov, doC c o = .ok r ∧ e = .returned (.tuple #[corV r.1 qv bv sv kv cv, ov, .int .i64 0]) ∧ OwC w' w.heap.size r.1 qv bv sv kv cv ∧ OOc w' w.heap.size ov r.2) ∨ (∃ n, doC c o = .error n ∧ n ≠ 0 ∧ e = .returned (nilV n))) ∧ Below w.heap.size w w'
theorem ret30t {fn : Func} {p u u2 : Tmp} {tmps : Array Value} {W : World} {g : Nat} {cs : Array Value} {v v2 : Value} {R : Ending → World → Prop} (hf : fn.results = #[.cell p 30, .tmp u, .tmp u2]) (h : Blk W g cs 30) (hs : cs.size = 6)
  (hp : tmps.getD p undef = .pointer (some ⟨g, 0, none⟩)) (hu : tmps.getD u undef = v) (hu2 : tmps.getD u2 undef = v2) (hR : R (.returned (.tuple #[.agg cs, v, v2])) W) : bodyPost Tryz.prog fn R .ret { tmps := tmps, defers := [] } W := by
 refine bodyPost_ret (v := .tuple #[.agg cs, v, v2]) ?_ rfl hR
 have e1 := run_loadVar_row (P := Tryz.prog) W g 30 30 cs (0, 0) _ h.h Tryz.underlying30 rfl (by rw [hs]; kernel_rfl)
 have hp' : tmps[p]?.getD undef = .pointer (some ⟨g, 0, none⟩) := by simpa using hp
 have hu' : tmps[u]?.getD undef = v := by simpa using hu
 have hu2' : tmps[u2]?.getD undef = v2 := by simpa using hu2
 simp [results, hf, hp', hu', hu2', asAddr, e1]
theorem opF_some {k : Int} (h : 1 ≤ k ∧ k ≤ 14) : ∃ f, opF k = .func (.func f) #[] #[] := by
 have hk' : k = 1 ∨ k = 2 ∨ k = 3 ∨ k = 4 ∨ k = 5 ∨ k = 6 ∨ k = 7 ∨ k = 8 ∨ k = 9 ∨ k = 10 ∨ k = 11 ∨ k = 12 ∨ k = 13 ∨ k = 14 := by omega
 rcases hk' with h | h | h | h | h | h | h | h | h | h | h | h | h | h <;> subst h <;> exact ⟨_, rfl⟩
def NZ {α : Type} (x : Except Int α) : Prop := ∀ n, x = .error n → n ≠ 0
theorem nz_ok {α : Type} (a : α) : NZ (.ok a : Except Int α) := fun n h => by cases h
theorem nz_err {α : Type} {m : Int} (hm : m ≠ 0) : NZ (.error m : Except Int α) := fun n h => by injection h with h; omega
theorem nz_ins {β : Type} {b : Bool} {n : Int} {k : Except Int β} (hn : n ≠ 0) (hk : NZ k) : NZ (ins b n k) := by
 unfold ins
 split
 ·exact hk
 ·exact nz_err hn
theorem nz_bnd {α β : Type} {x : Except Int α} {f : α → Except Int β} (hx : NZ x) (hf : ∀ a, NZ (f a)) : NZ (bnd x f) := by
 cases x with
 | error n => exact nz_err (hx n rfl)
 | ok a => exact hf a
theorem nz_sure {β : Type} {n : Int} {k : β} : NZ (sureE n k) := by
 unfold sureE
 split
 ·exact nz_ok _
 ·rename_i h
  exact nz_err h
theorem nz_ite {β : Type} {p : Prop} [Decidable p] {x y : Except Int β} (hx : NZ x) (hy : NZ y) : NZ (if p then x else y) := by
 split
 ·exact hx
 ·exact hy
theorem nz_noO {x : Except Int Cor} (h : NZ x) : NZ (noO x) := nz_bnd h fun _ => nz_ok _
theorem nz_en {α : Type} {o : α → α → Int} {most : Int} {x : α} {l : List α} : NZ (enE o most x l) := nz_ins (by decide) (nz_ok _)
theorem nz_named {c : Cor} {n : List UInt8} : NZ (namedC c n) := by
 unfold namedC
 split
 ·exact nz_ok _
 ·exact nz_err (by decide)
theorem nz_map {f : Que → Except Int Que} (hf : ∀ q, NZ (f q)) : ∀ l, NZ (mapE f l)
 | [] => nz_ok _
 | q :: l => nz_bnd (hf q) fun _ => nz_bnd (nz_map hf l) fun _ => nz_ok _
theorem nz_hand {q : Que} {conn sub : Int} {hold : Bool} : NZ (handQ q conn sub hold) := nz_sure
theorem nz_pumpQ {subs : List Sbs} : ∀ (n : Nat) (q : Que), NZ (pumpQ subs n q)
 | 0, q => nz_ok _
 | n + 1, q => by
  unfold pumpQ
  split
  ·exact nz_ok _
  ·split
   ·exact nz_ok _
   ·exact nz_bnd nz_hand fun _ => nz_bnd (nz_pumpQ n _) fun _ => nz_ok _
theorem nz_pumpL {subs : List Sbs} {now : Int} : ∀ l, NZ (pumpL subs now l)
 | [] => nz_ok _
 | q :: l => nz_bnd (nz_bnd nz_sure fun _ => nz_pumpQ _ _) fun _ => nz_bnd (nz_pumpL l) fun _ => nz_ok _
theorem nz_pump {c : Cor} : NZ (pumpC c) := nz_bnd (nz_pumpL _) fun _ => nz_ok _
theorem nz_retain {c : Cor} {m : Msg} : NZ (retainC c m) := nz_ite (nz_ok _) (nz_bnd nz_en fun _ => nz_ok _)
theorem nz_pub2 {c : Cor} {o : Opr} : NZ (publish2 c o) :=
 nz_ins (by decide) (nz_bnd (nz_ite (nz_ok _) (nz_bnd (nz_map (fun q => by unfold pushE; exact nz_ite nz_sure (nz_ok _)) _) fun _ => nz_ok _)) fun _ => nz_ite nz_retain (nz_ok _))
theorem nz_new {c : Cor} {n : List UInt8} {pk : Int} : NZ (isNewC c n pk) := nz_ins (by decide) (nz_ins (by decide) (nz_ite (nz_ok _) (nz_bnd nz_en fun _ => nz_bnd nz_en fun _ => nz_ok _)))
theorem nz_declare {c : Cor} {o : Opr} : NZ (declareC c o) := by
 unfold declareC
 split
 ·exact nz_ins (by decide) (nz_ok _)
 ·exact nz_bnd nz_sure fun _ => nz_bnd nz_en fun _ => nz_ok _
theorem nz_release {c : Cor} {o : Opr} : NZ (releaseC c o) := by
 unfold releaseC
 refine nz_ins (by decide) ?_
 split
 ·exact nz_ok _
 ·exact nz_ite (nz_ins (by decide) (nz_ok _)) (nz_ok _)
theorem nz_unsub {c : Cor} {o : Opr} : NZ (unsubscribeC c o) := by
 unfold unsubscribeC
 split
 ·exact nz_err (by decide)
 ·exact nz_bnd nz_named fun _ => nz_bnd nz_sure fun _ => nz_ok _
theorem nz_settle {c : Cor} {o : Opr} {b : Bool} : NZ (settleK c o b) := nz_bnd nz_named fun _ => nz_bnd nz_sure fun _ => nz_ok _
theorem nz_act {c : Cor} {o : Opr} : NZ (actC c o) := by
 unfold actC
 refine nz_ite (nz_noO nz_declare) (nz_ite (nz_noO (nz_ins (by decide) (nz_ok _))) (nz_ite ?_ (nz_ite (nz_noO (nz_ins (by decide) (nz_ok _))) (nz_ite (nz_noO ?_) (nz_ite (nz_noO nz_release) (nz_ite (nz_noO (nz_ins (by decide) (nz_ok _))) (nz_ite (nz_noO ?_) (nz_ite (nz_noO nz_unsub) (nz_ite ?_ (nz_ite (nz_noO nz_settle) (nz_ite (nz_noO nz_settle) (nz_ite (nz_noO ?_) (nz_noO (nz_ins (by decide) (nz_ok _)))))))))))))))
 ·exact nz_ins (by decide) (nz_ins (by decide) (nz_bnd nz_en fun _ => nz_ite (nz_ins (by decide) (nz_ok _)) (nz_ok _)))
 ·exact nz_ins (by decide) (nz_ite nz_pub2 (nz_bnd nz_new fun _ => nz_ite nz_pub2 (nz_ok _)))
 ·exact nz_ins (by decide) (nz_ins (by decide) (nz_ins (by decide) (nz_bnd nz_en fun _ => nz_ok _)))
 ·exact nz_ins (by decide) (nz_bnd nz_named fun _ => nz_bnd nz_sure fun _ => nz_bnd nz_hand fun _ => nz_ok _)
 ·exact nz_ins (by decide) (nz_bnd (nz_map (fun q => nz_sure) _) fun _ => nz_ok _)
theorem nz_run {c : Cor} {o : Opr} : NZ (runE c o) := nz_bnd nz_act fun _ => nz_bnd nz_pump fun _ => nz_ok _
theorem doC_run {c : Cor} {o : Opr} (hk : 1 ≤ o.kind ∧ o.kind ≤ 14) (hg : goodC c = true) : doC c o = runE c o := by
 unfold doC runE
 rw [hg]
 simp [ins, hk.1, hk.2]
structure DK (w W : World) (gc gx gr : Nat) (cs os : Array Value) : Prop where
 b : Below w.heap.size w W
 c : Blk W gc cs 30
 o : Blk W gx os 35
 r : Blk W gr coZ 30
theorem DK.on {w W W' : World} {gc gx gr : Nat} {cs os : Array Value} (h : DK w W gc gx gr cs os) (hb : Below W.heap.size W W') : DK w W' gc gx gr cs os := ⟨nxt h.b hb, h.c.on hb, h.o.on hb, h.r.on hb⟩
theorem below_set1 {W W' : World} {V0 : Value} {t : TypeId} (hg : (W.alloc (.cells #[V0] t)).grownBy W' (some W.heap.size)) : Below W.heap.size W W' := ((Below.refl W.heap.size W).alloc (Nat.le_refl _) (.cells #[V0] t)).grown hg (by simp) (fun k hk => by injection hk with hk; omega)
theorem n72 (w : World) : (binOp .eql 72 .nilFunc .nilFunc).run Tryz.prog w = .ok (.bool true) w := by kernel_rfl
theorem f72 (f : Nat) (w : World) : (binOp .eql 72 (.func (.func f) #[] #[]) .nilFunc).run Tryz.prog w = .ok (.bool false) w := by kernel_rfl
theorem ta_new {w5 : World} {B : Nat} {c : Cor} {q5 b5 s5 k5 c5 : Value} (o5 : OwnC5 w5 B c q5 b5 s5 k5 c5) (hB : B ≤ w5.heap.size) : ∃ zs, ∀ W, Below (w5.alloc (.cells #[.int .i64 c.now, q5, b5, s5, k5, c5, .slice none 0 0] 77)).heap.size (w5.alloc (.cells #[.int .i64 c.now, q5, b5, s5, k5, c5, .slice none 0 0] 77)) W → TA W B w5.heap.size c [] q5 b5 s5 k5 c5 (.slice none 0 0) zs := by
 obtain ⟨zs, ez, hz, ha⟩ := o5.c
 have b6 := (Below.refl w5.heap.size w5).alloc (Nat.le_refl _) (.cells #[.int .i64 c.now, q5, b5, s5, k5, c5, .slice none 0 0] 77)
 have k6 : KX 0 w5 (w5.alloc (.cells #[.int .i64 c.now, q5, b5, s5, k5, c5, .slice none 0 0] 77)) := .of_below b6
 have hz6 : OwnZ 88 2 (ClR (OwnNu (w5.alloc (.cells #[.int .i64 c.now, q5, b5, s5, k5, c5, .slice none 0 0] 77)) B)) (w5.alloc (.cells #[.int .i64 c.now, q5, b5, s5, k5, c5, .slice none 0 0] 77)) B c5 zs := by
  refine (hz.keep (k6.kt _ (by decide))).imp ?_
  rintro ys x ⟨pv, h3, h4⟩
  exact ⟨pv, h3, h4.keep (k6.kt _ (by decide))⟩
 refine ⟨zs, fun W hb => TA.on ⟨⟨Blk.new w5 _ 77, hB, OQc.kx o5.q k6 (by decide), OBc.kx o5.b k6 (by decide), OSc.kx o5.s k6 (by decide), OKc.kx o5.k k6 (by decide), ⟨zs, ez, hz6⟩, ⟨[], rfl, World.ownsRow_nil .., by simp⟩⟩, ez, hz6, ha.on k6.size⟩ hb⟩
theorem T.kx {e : TypeId} {w w' : World} {B g : Nat} {c : Cor} {os : List Ot} (h : T w B g c os) (k : KX e w w') (he : (tyT e = false ∧ 131 ≠ e) ∧ (133 ≠ e ∧ 66 ≠ e)) : T w' B g c os := by
 obtain ⟨qv, bv, sv, kv, cv, ov, h⟩ := h
 exact ⟨qv, bv, sv, kv, cv, ov, h.kx k he⟩
theorem Tv.owc {w : World} {B A g : Nat} {c : Cor} {os : List Ot} {qv bv sv kv cv ov : Value} (h : Tv w B g c os qv bv sv kv cv ov) (hA : A ≤ B) : OwC w A c qv bv sv kv cv ∧ OOc w A ov os :=
 ⟨⟨OwnL.low0 h.q hA (fun _ _ h => OwnQ.low h hA), OwnL.low0 h.b hA (fun _ _ h => h), OwnL.low0 h.s hA (fun _ _ h => h), OwnL.low0 h.k hA (fun _ _ ⟨pv, h4, h5⟩ => ⟨pv, h4, h5.low hA⟩), OwnL.low0 h.c hA (fun _ _ ⟨pv, h4, h5⟩ => ⟨pv, h4, h5.low hA⟩)⟩, OwnL.low0 h.o hA (fun _ _ ⟨pv, h4, h5⟩ => ⟨pv, h4, h5.low hA⟩)⟩
theorem e34 : ∀ args w, (callFunc 34 args).run Tryz.prog w = .ok (.enter 34 args) w := fun args w => by go_simp
theorem Tv.one {w : World} {B g : Nat} {c : Cor} {os : List Ot} {qv bv sv kv cv ov : Value} (h : Tv w B g c os qv bv sv kv cv ov) : (qv.oneCell' = true ∧ bv.oneCell' = true ∧ sv.oneCell' = true) ∧ kv.oneCell' = true ∧ cv.oneCell' = true ∧ ov.oneCell' = true := by
 obtain ⟨_, _, _, e1⟩ := OwnL.shape h.q
 obtain ⟨_, _, _, e2⟩ := OwnL.shape h.b
 obtain ⟨_, _, _, e3⟩ := OwnL.shape h.s
 obtain ⟨_, _, _, e4⟩ := OwnL.shape h.k
 obtain ⟨_, _, _, e5⟩ := OwnL.shape h.c
 obtain ⟨_, _, _, e6⟩ := OwnL.shape h.o
 subst e1 e2 e3 e4 e5 e6
 exact ⟨⟨rfl, rfl, rfl⟩, rfl, rfl, rfl⟩
set_option maxHeartbeats 4000000 in
theorem do_any (w : World) (hV : To.Vars w) (v : Value) (c : Cor) (hc : RdC w v c) (hs : SmC c ∧ SmK c) (o : Opr) (pv : Value) (ho : OpOk w.heap.size w o pv) :
  Calls Tryz.prog 10 #[v, opV o pv] w fun e w' => DoA w c o e w' := by
 obtain ⟨qv, bv, sv, kv, cv, rfl, hc⟩ := hc
 have HC : Hid (RdC5 w c qv bv sv kv cv ∧ (SmC c ∧ SmK c) ∧ OpOk w.heap.size w o pv ∧ To.Vars w) := ⟨hc, hs, ho, hV⟩
 clear hc hs ho hV
 unfold corV opV
 have hK0 : DK w (((w.alloc (.cells #[.int .i64 c.now, qv, bv, sv, kv, cv] 30)).alloc (.cells (opA o pv) 35)).alloc (.cells coZ 30)) w.heap.size (w.heap.size + 1) (w.heap.size + 1 + 1) #[.int .i64 c.now, qv, bv, sv, kv, cv] (opA o pv) := by
  refine ⟨(((Below.refl _ w).alloc (Nat.le_refl _) _).alloc (by simp) _).alloc (by simp; omega) _, ((Blk.new w _ 30).alloc _).alloc _, ?_, ?_⟩
  ·have h := (Blk.new (w.alloc (.cells #[.int .i64 c.now, qv, bv, sv, kv, cv] 30)) (opA o pv) 35).alloc (.cells coZ 30)
   rw [World.size_alloc] at h
   exact h
  ·have h := Blk.new ((w.alloc (.cells #[.int .i64 c.now, qv, bv, sv, kv, cv] 30)).alloc (.cells (opA o pv) 35)) coZ 30
   rw [World.size_alloc, World.size_alloc] at h
   exact h
 go_enter Tryz.func10, Tryz.ntmps10
 go_upto_region 1 with fail
 generalize ((w.alloc (.cells #[.int .i64 c.now, qv, bv, sv, kv, cv] 30)).alloc (.cells (opA o pv) 35)).alloc (.cells coZ 30) = w1 at *
 obtain ⟨gr, egr⟩ : ∃ x, w.heap.size + 1 + 1 = x := ⟨_, rfl⟩
 rw [egr] at hK0 ⊢
 obtain ⟨gx, egx⟩ : ∃ x, w.heap.size + 1 = x := ⟨_, rfl⟩
 rw [egx] at hK0 egr ⊢
 obtain ⟨gc, egc⟩ : ∃ x, w.heap.size = x := ⟨_, rfl⟩
 have HG : Hid (w.heap.size ≤ gc ∧ w.heap.size ≤ gx ∧ w.heap.size ≤ gr) := ⟨by omega, by omega, by omega⟩
 have hK1 : DK w w1 gc gx gr #[.int .i64 c.now, qv, bv, sv, kv, cv] (opA o pv) := by rw [← egc]; exact hK0
 rw [egc]
 clear egr egx hK0 egc
 have d0 : w1.cell? ⟨gx, 0, none⟩ = some (.int .i64 o.kind) := hK1.o.cell 0
 have H1 := operation_any w1 o.kind
 have K1 : Hid (DK w w1 gc gx gr #[.int .i64 c.now, qv, bv, sv, kv, cv] (opA o pv)) := hK1
 clear hK1
 go_wp2_with fail
 refine H1.mono ?_
 rintro e w2 ⟨rfl, b2⟩
 clear H1 d0
 have K2 : Hid (DK w w2 gc gx gr #[.int .i64 c.now, qv, bv, sv, kv, cv] (opA o pv)) := K1.out.on b2
 clear K1 b2
 by_cases hk : 1 ≤ o.kind ∧ o.kind ≤ 14
 rotate_left
 ·rw [opF_out (by omega)]
  have HD : Hid (doC c o = .error 1) := by
   show doC c o = _
   have h1 : (decide (1 ≤ o.kind) && decide (o.kind ≤ 14)) = false := by
    rw [Bool.eq_false_iff]
    intro h
    simp only [Bool.and_eq_true, decide_eq_true_eq] at h
    exact hk h
   unfold doC
   rw [h1]
   rfl
  clear hk
  go_wp2_with (refine wpl_set rfl (.tmp 7) (.tmp 12) rfl w2.heap.size 0 _ rfl rfl (Blk.new w2 #[.nilFunc] 72) (by kernel_rfl) rfl rfl (by decide) ?_)
  intro w3 k3 g3 s3
  have K3 : Hid (DK w w3 gc gx gr #[.int .i64 c.now, qv, bv, sv, kv, cv] (opA o pv)) := K2.out.on (below_set1 g3)
  have c3 : w3.cell? ⟨w2.heap.size, 0, none⟩ = some .nilFunc := k3.cell 0
  have n3 := n72 w3
  obtain ⟨ga, ega⟩ : ∃ x, w2.heap.size = x := ⟨_, rfl⟩
  rw [ega] at c3 ⊢
  clear ega K2 k3 g3 s3
  go_wp2_with (refine wpl_put rfl (.tmp 4) (.tmp 20) rfl gr _ rfl rfl K3.out.r (by kernel_rfl) rfl (by simp [Value.oneCell']) ?_)
  intro w9 k9 g9 s9
  go_wp2_with fail
  exact ret30t rfl k9 rfl rfl rfl rfl ⟨.inr ⟨1, HD.out, by decide, rfl⟩, K3.out.b.grown g9 K3.out.b.size (fun k hk => by injection hk with hk; have := HG.out; omega)⟩
 obtain ⟨f, hf⟩ := opF_some hk
 rw [hf]
 have HK : Hid ((1 ≤ o.kind ∧ o.kind ≤ 14) ∧ opF o.kind = .func (.func f) #[] #[]) := ⟨hk, hf⟩
 clear hk hf
 go_wp2_with (refine wpl_set rfl (.tmp 7) (.tmp 12) rfl w2.heap.size 0 _ rfl rfl (Blk.new w2 #[.nilFunc] 72) (by kernel_rfl) rfl rfl (by decide) ?_)
 intro w3 k3 g3 s3
 have K3 : Hid (DK w w3 gc gx gr #[.int .i64 c.now, qv, bv, sv, kv, cv] (opA o pv)) := K2.out.on (below_set1 g3)
 have kA : Blk w3 w2.heap.size #[.func (.func f) #[] #[]] 72 := by simpa using k3
 obtain ⟨ga, ega⟩ : ∃ x, w2.heap.size = x := ⟨_, rfl⟩
 rw [ega] at kA ⊢
 clear ega K2 k3 g3 s3
 have c3 : w3.cell? ⟨ga, 0, none⟩ = some (.func (.func f) #[] #[]) := kA.cell 0
 have n3 := f72 f w3
 obtain ⟨d0, d1, d2, d3, d4, d5⟩ := K3.out.c.c6
 have H1 := goodCore_any w3 (HC.out.2.2.2.below K3.out.b) _ c ⟨qv, bv, sv, kv, cv, rfl, HC.out.1.on K3.out.b⟩ HC.out.2.1.1
 unfold corV at H1
 have KA : Hid (Blk w3 ga #[.func (.func f) #[] #[]] 72) := kA
 clear kA
 go_wp2_with fail
 refine H1.mono ?_
 rintro e w4 ⟨rfl, b4⟩
 have K4 : Hid (DK w w4 gc gx gr #[.int .i64 c.now, qv, bv, sv, kv, cv] (opA o pv)) := K3.out.on b4
 have KB : Hid (Blk w4 ga #[.func (.func f) #[] #[]] 72) := KA.out.on b4
 clear H1 c3 d0 d1 d2 d3 d4 d5 K3 KA b4
 have K3 := K4
 clear K4
 cases hgc : goodC c
 ·have HD : Hid (doC c o = .error 1) := by
   show doC c o = _
   unfold doC
   rw [hgc]
   simp [ins]
  clear hgc
  go_wp2_with (refine wpl_put rfl (.tmp 4) (.tmp 20) rfl gr _ rfl rfl K3.out.r (by kernel_rfl) rfl (by simp [Value.oneCell']) ?_)
  intro w9 k9 g9 s9
  go_wp2_with fail
  exact ret30t rfl k9 rfl rfl rfl rfl ⟨.inr ⟨1, HD.out, by decide, rfl⟩, K3.out.b.grown g9 K3.out.b.size (fun k hk => by injection hk with hk; have := HG.out; omega)⟩
 have HGC : Hid (goodC c = true) := hgc
 clear hgc
 go_upto_region 4 with fail
 obtain ⟨d0, d1, d2, d3, d4, d5⟩ := K3.out.c.c6
 have H1 := copyC_any w4 _ c ⟨qv, bv, sv, kv, cv, rfl, HC.out.1.on K3.out.b⟩ HC.out.2.1.2
 unfold corV at H1
 go_wp2_with fail
 refine H1.mono ?_
 rintro e w5 ⟨q5, b5, s5, k5, c5, rfl, o5, hb5⟩
 clear H1 d0 d1 d2 d3 d4 d5
 obtain ⟨⟨a1, n1, m1, e1⟩, ⟨a2, n2, m2, e2⟩, ⟨a3, n3', m3, e3⟩, ⟨a4, n4, m4, e4⟩⟩ := And.intro (OwnL.shape o5.q) (And.intro (OwnL.shape o5.b) (And.intro (OwnL.shape o5.s) (OwnL.shape o5.k)))
 obtain ⟨a5, n5, m5, e5⟩ : ∃ a n m, c5 = Value.slice a n m := by
  obtain ⟨zs, _, hz, _⟩ := o5.c
  obtain ⟨a, m, e⟩ := hz.rd.len
  exact ⟨a, _, m, e⟩
 obtain ⟨zs, hTA⟩ := ta_new o5 hb5.size
 have kT0 : Blk ((w5.alloc (.cells #[.int .i64 c.now, q5, b5, s5, k5, c5, .slice none 0 0] 77)).alloc (.cells #[.pointer none] 75)) (w5.heap.size + 1) #[.pointer none] 75 := by
  have h := Blk.new (w5.alloc (.cells #[.int .i64 c.now, q5, b5, s5, k5, c5, .slice none 0 0] 77)) #[.pointer none] 75
  rw [World.size_alloc] at h
  exact h
 have HO5 : Hid (Below w4.heap.size w4 w5 ∧ ∀ W, Below (w5.alloc (.cells #[.int .i64 c.now, q5, b5, s5, k5, c5, .slice none 0 0] 77)).heap.size (w5.alloc (.cells #[.int .i64 c.now, q5, b5, s5, k5, c5, .slice none 0 0] 77)) W → TA W w4.heap.size w5.heap.size c [] q5 b5 s5 k5 c5 (.slice none 0 0) zs) := ⟨hb5, hTA⟩
 clear o5 hb5 hTA
 subst e1 e2 e3 e4 e5
 go_wp2_with (refine wpl_set rfl (.tmp 8) (.tmp 24) rfl (w5.heap.size + 1) 0 _ rfl rfl kT0 (by kernel_rfl) rfl rfl (by decide) ?_)
 intro w7 k7 g7 s7
 have b67 : Below (w5.alloc (.cells #[.int .i64 c.now, .slice a1 n1 m1, .slice a2 n2 m2, .slice a3 n3' m3, .slice a4 n4 m4, .slice a5 n5 m5, .slice none 0 0] 77)).heap.size (w5.alloc (.cells #[.int .i64 c.now, .slice a1 n1 m1, .slice a2 n2 m2, .slice a3 n3' m3, .slice a4 n4 m4, .slice a5 n5 m5, .slice none 0 0] 77)) w7 := below_set1 (by rw [World.size_alloc]; exact g7)
 have b57 : Below w5.heap.size w5 w7 := nxt ((Below.refl w5.heap.size w5).alloc (Nat.le_refl _) _) b67
 have hT7 := HO5.out.2 w7 b67
 have b47 : Below w4.heap.size w4 w7 := nxt HO5.out.1 b57
 have kT : Blk w7 (w5.heap.size + 1) #[.pointer (some ⟨w5.heap.size, 0, none⟩)] 75 := by simpa using k7
 have K7 : Hid (DK w w7 gc gx gr #[.int .i64 c.now, qv, bv, sv, kv, cv] (opA o pv)) := K3.out.on b47
 have KC : Hid (Blk w7 ga #[.func (.func f) #[] #[]] 72) := KB.out.on b47
 obtain ⟨B, eB⟩ : ∃ x, w4.heap.size = x := ⟨_, rfl⟩
 rw [eB] at hT7 b47
 have HB : Hid (w.heap.size ≤ B) := by
  show w.heap.size ≤ B
  rw [← eB]
  exact K3.out.b.size
 have HV : Hid (VB B w7) := by
  show VB B w7
  rw [← eB]
  exact (VB.of (HC.out.2.2.2.below K3.out.b)).on (by rw [eB]; exact b47)
 have HR : Hid (OpOk B w7 o pv) := ⟨HC.out.2.2.1.one, fun W hb => HC.out.2.2.1.rd W (nxt K3.out.b (by rw [eB]; exact b47.trans hb)), HC.out.2.2.1.len, HC.out.2.2.1.n⟩
 obtain ⟨g, eg⟩ : ∃ x, w5.heap.size = x := ⟨_, rfl⟩
 obtain ⟨gt, egt⟩ : ∃ x, w5.heap.size + 1 = x := ⟨_, rfl⟩
 rw [egt] at kT
 rw [eg] at kT hT7
 rw [egt]
 clear eg egt eB b47 b57 b67 HO5 k7 g7 s7 kT0 K3 KB
 have HT7 : Hid (TA w7 B g c [] (.slice a1 n1 m1) (.slice a2 n2 m2) (.slice a3 n3' m3) (.slice a4 n4 m4) (.slice a5 n5 m5) (.slice none 0 0) zs ∧ Blk w7 gt #[.pointer (some ⟨g, 0, none⟩)] 75) := ⟨hT7, kT⟩
 clear hT7 kT
 have H33 := guarded_any 34 e34 #[.pointer (some ⟨ga, 0, none⟩), .pointer (some ⟨gt, 0, none⟩), .pointer (some ⟨gx, 0, none⟩)] w7 (fun W => ∃ r, runE c o = .ok r ∧ T W B g r.1 r.2 ∧ FrT B (w7.alloc (.cells #[.int .i64 0] 37)) W) (fun n W => runE c o = .error n ∧ FrT B (w7.alloc (.cells #[.int .i64 0] 37)) W) (by
  have b8 := (Below.refl w7.heap.size w7).alloc (Nat.le_refl _) (.cells #[.int .i64 0] 37)
  have k8 := Blk.new w7 #[.int .i64 0] 37
  have hB8 : B ≤ w7.heap.size := HT7.out.1.t.lt
  refine (do1_any _ B g ga gt gx c _ _ _ _ _ _ zs (HT7.out.1.on b8) ((goodC_iff c).1 HGC.out) (HV.out.on (b8.mono hB8)) o pv ⟨HR.out.one, fun W hb => HR.out.rd W ((b8.mono hB8).trans hb), HR.out.len, HR.out.n⟩ HK.out.1 (by rw [HK.out.2]; exact KC.out.on b8) (HT7.out.2.on b8) (K7.out.o.on b8)).mono ?_
  rintro e W h
  rcases h with ⟨r, h1, he, h3, h4⟩ | ⟨n, h1, he, h4⟩
  ·have kc := k8.kt (h4.kt 37 rfl)
   exact ⟨⟨kc.cell 0, kc.frozen 0⟩, .inl ⟨he, r, h1, by simpa using h3, h4⟩⟩
  ·have kc := k8.kt (h4.kt 37 rfl)
   exact ⟨⟨kc.cell 0, kc.frozen 0⟩, .inr ⟨n, he, h1, h4⟩⟩)
 have HF : Hid (∀ W (u : Value), FrT B (w7.alloc (.cells #[.int .i64 0] 37)) W → (Below w.heap.size w (W.setCell ⟨w7.heap.size, 0, none⟩ u) ∧ KX 37 W (W.setCell ⟨w7.heap.size, 0, none⟩ u)) ∧ Blk (W.setCell ⟨w7.heap.size, 0, none⟩ u) gr coZ 30 ∧ Blk (W.setCell ⟨w7.heap.size, 0, none⟩ u) gt #[.pointer (some ⟨g, 0, none⟩)] 75) := fun W u hf => by
  have b8 := (Below.refl w7.heap.size w7).alloc (Nat.le_refl _) (.cells #[.int .i64 0] 37)
  have k8 := (Blk.new w7 #[.int .i64 0] 37).kt (hf.kt 37 rfl)
  have hB7 : w.heap.size ≤ w7.heap.size := K7.out.b.size
  have h1 := (nxt K7.out.b b8).trans (hf.below.mono HB.out)
  exact ⟨⟨h1.setCell (p := ⟨w7.heap.size, 0, none⟩) hB7 u, .cell k8 u⟩, ((K7.out.r.on b8).kt (hf.kt 30 rfl)).kt (kt_setCell k8 (by decide) u), ((HT7.out.2.on b8).kt (hf.kt 75 rfl)).kt (kt_setCell k8 (by decide) u)⟩
 have hmf : ∀ (fn : Fn) (first cap : Array Value) (w : World), (Instr.makeFunc fn first cap).run Tryz.prog w = .ok (.func fn first cap) w := fun _ _ _ _ => rfl
 clear HT7 HV HR KC K7
 go_wp2_with fail
 refine H33.mono ?_
 rintro e w9 h9
 clear H33
 rcases h9 with ⟨rfl, W, ⟨r, hr, T9, F9⟩, he⟩ | ⟨n, rfl, W, ⟨hr, F9⟩, he⟩
 rotate_left
 ·have hF := HF.out W (.int .i64 n) F9
  rw [← he] at hF
  have hn : ¬ n = 0 := nz_run n hr
  have HD : Hid (doC c o = .error n ∧ n ≠ 0) := ⟨by rw [doC_run HK.out.1 HGC.out, hr], hn⟩
  have kr := hF.2.1
  have HF9 : Hid (Below w.heap.size w w9) := hF.1.1
  clear hF he F9 hr HF
  go_wp2_with (refine wpl_put rfl (.tmp 4) (.tmp 29) rfl gr _ rfl rfl kr (by kernel_rfl) rfl (by simp [Value.oneCell']) ?_)
  intro wE kE gE sE
  go_wp2_with fail
  exact ret30t rfl kE rfl rfl rfl rfl ⟨.inr ⟨n, HD.out.1, HD.out.2, rfl⟩, HF9.out.grown gE HF9.out.size (fun k hk => by injection hk with hk; have := HG.out; omega)⟩
 have hF := HF.out W (.int .i64 0) F9
 have T9' := T9.kx hF.1.2 (by decide)
 rw [← he] at hF T9'
 obtain ⟨q9, b9, s9, k9, c9, o9, T9''⟩ := T9'
 have HD : Hid (doC c o = .ok r) := by
  show doC c o = _
  rw [doC_run HK.out.1 HGC.out, hr]
 have H9 : Hid (Tv w9 B g r.1 r.2 q9 b9 s9 k9 c9 o9 ∧ Below w.heap.size w w9 ∧ Blk w9 gr coZ 30 ∧ Blk w9 gt #[.pointer (some ⟨g, 0, none⟩)] 75) := ⟨T9'', hF.1.1, hF.2.1, hF.2.2⟩
 clear hF he F9 hr HF T9 T9''
 go_upto_region 8 with fail
 refine rh (fun W => Blk W g #[.int .i64 r.1.now, q9, b9, s9, k9, c9, o9] 77 ∧ Blk W gt #[.pointer (some ⟨g, 0, none⟩)] 75) ?_
 have hS : Blk (World.drew w9) g #[.int .i64 r.1.now, q9, b9, s9, k9, c9, o9] 77 ∧ Blk (World.drew w9) gt #[.pointer (some ⟨g, 0, none⟩)] 75 := ⟨⟨H9.out.1.blk.h⟩, ⟨H9.out.2.2.2.h⟩⟩
 have h9 : Tv (World.drew w9) B g r.1 r.2 q9 b9 s9 k9 c9 o9 ∧ Below w.heap.size w (World.drew w9) := ⟨H9.out.1.drew, H9.out.2.1.drew⟩
 have kr : Blk (World.drew w9) gr coZ 30 := ⟨H9.out.2.2.1.h⟩
 have h1 := h9.1.one
 clear H9
 generalize World.drew w9 = wD at *
 refine tks [0, 1, 2, 3, 4, 5, 6, 7] [.pointer (some ⟨g, 0, none⟩), .pointer (some ⟨g, 0, none⟩), .pointer (some ⟨g, 0, none⟩), .agg #[.int .i64 r.1.now, q9, b9, s9, k9, c9], .pointer (some ⟨g, 0, none⟩), .pointer (some ⟨g, 0, none⟩), .pointer (some ⟨g, 6, none⟩), o9] 3 ?_ hS ?_
 ·simp only [tkY, tkf]
  refine ⟨.yes ?_, .yes ?_, .yes ?_, .yes ?_, .yes ?_, .yes ?_, .yes ?_, .yes ?_, trivial⟩
  all_goals
   intro W' hW'
   have := hW'.2.ce 0
   have := hW'.1.ce 0
   have := hW'.1.ce 1
   have := hW'.1.ce 2
   have := hW'.1.ce 3
   have := hW'.1.ce 4
   have := hW'.1.ce 5
   have := hW'.1.ce 6
   go_simp
 simp only [tkA, tkf]
 refine ak 8 fun K hK => ?_
 refine opw_putAt (.tmp 4) (.tmp 34) rfl gr 0 #[.int .i64 r.1.now, q9, b9, s9, k9, c9] rfl ?_ kr (by kernel_rfl) (by simp) (by simp [h1.1.1, h1.1.2.1, h1.1.2.2, h1.2.1, h1.2.2.1, show (Value.int .i64 r.1.now).oneCell' = true from rfl]) ?_
 ·skip
  simp only [Act.eval, Act.put]
  rfl
 intro w10 k10 g10 s10
 refine hK _ _ ⟨hS.1.kt (kt_grown kr g10 (by decide)), hS.2.kt (kt_grown kr g10 (by decide))⟩ ?_
 have hS' := And.intro (hS.1.kt (kt_grown kr g10 (by decide))) (hS.2.kt (kt_grown kr g10 (by decide)))
 clear hK K hS
 have hS := hS'
 clear hS'
 try simp only [tkf]
 refine tks [9, 10] [o9, .int .i64 0] 0 ?_ hS ?_
 ·simp only [tkY, tkf]
  refine ⟨.yes ?_, .yes ?_, trivial⟩
  all_goals
   intro W' hW'
   go_simp
 simp only [tkA, tkf]
 refine ad ?_
 have k10' : Blk w10 gr #[.int .i64 r.1.now, q9, b9, s9, k9, c9] 30 := by simpa using k10
 have T10 := h9.1.kx (KX.put kr g10) (by decide)
 have HX : Hid (DoA w c o (.returned (.tuple #[corV r.1 q9 b9 s9 k9 c9, o9, .int .i64 0])) w10) := ⟨.inl ⟨r, q9, b9, s9, k9, c9, o9, HD.out, rfl, (T10.owc HB.out).1, (T10.owc HB.out).2⟩, h9.2.grown g10 h9.2.size (fun k hk => by injection hk with hk; have := HG.out; omega)⟩
 clear h9 kr T10 g10 s10 k10 hS
 go_wp2_with fail
 exact ret30t rfl k10' rfl rfl rfl rfl HX.out
end Go.Proofs.YtnpikgakpmkipabGreatDoor
