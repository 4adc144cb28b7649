/- slices.IndexFunc of subscriptions; core.mayHave and the closure of (*turn).pump. Conditions: those that each row states. -/
import Derived.Test.YtnpikgakpmkipabGreatDoorZ04
import Derived.Test.YtnpikgakpmkipabGreatDoorZ03
import Derived.Test.YtnpikgakpmkipabGreatDoorZ21
import Derived.Test.YtnpikgakpmkipabGreatDoorZ09
import Derived.Test.YtnpikgakpmkipabGreatDoorZ12
import Derived.Test.YtnpikgakpmkipabGreatDoorZ14
import Derived.Test.YtnpikgakpmkipabGreatDoorZ02
namespace Go.Proofs.YtnpikgakpmkipabGreatDoor
open Go.RowKit Go.Lib
set_option maxRecDepth 100000
set_option linter.unusedSimpArgs false
set_option linter.unusedVariables false
set_option maxHeartbeats 2000000 in
theorem ixS {α : Type} (w : World) (v : Value) (zs : Zs α) (R : List Value → α → Prop) (h : RdZ 5 R w v zs) (hn : zs.length ≤ 1000000) (gg : Nat) (lb : Array Value) (eg : ∀ args w, (callFunc gg args).run Tryz.prog w = .ok (.enter gg args) w) (p : α → Bool)
  (hcall : ∀ W z, Below w.heap.size w W → z ∈ zs → Calls Tryz.prog gg (#[.agg z.1.toArray] ++ lb) W fun e W' => e = .returned (.bool (p z.2)) ∧ Below W.heap.size W W') :
  Calls Tryz.prog 92 #[v, .func (.func gg) #[] lb] w fun e w' => e = .returned (.int .i64 (if zs.findIdx (fun z : List Value × α => p z.2) < zs.length then (zs.findIdx (fun z : List Value × α => p z.2) : Int) else -1)) ∧ Below w.heap.size w w' := by
 obtain ⟨a, c, hv⟩ := h.len
 subst hv
 have hK1 : ∀ j (h : j < zs.length), j < zs.findIdx (fun z : List Value × α => p z.2) → p (zs[j]).2 = false := fun j h hj => by simpa using List.not_of_lt_findIdx hj
 have hK2 : ∀ h : zs.findIdx (fun z : List Value × α => p z.2) < zs.length, p (zs[zs.findIdx (fun z : List Value × α => p z.2)]).2 = true := fun h => List.findIdx_getElem (p := fun z : List Value × α => p z.2) (w := h)
 have hKn : zs.findIdx (fun z : List Value × α => p z.2) ≤ zs.length := List.findIdx_le_length
 generalize zs.findIdx (fun z : List Value × α => p z.2) = K at *
 have HK1 : Hid (∀ j (h : j < zs.length), j < K → p (zs[j]).2 = false) := hK1
 have HK2 : Hid (∀ h : K < zs.length, p (zs[K]).2 = true) := hK2
 clear hK1 hK2
 obtain ⟨n, hnn⟩ : ∃ n, zs.length = n := ⟨_, rfl⟩
 rw [hnn] at h hn hKn ⊢
 have HI : Hid (RdZ 5 R w (.slice a n c) zs) := h
 have NI : Hid (zs.length = n) := hnn
 have HC : Hid (∀ W z, Below w.heap.size w W → z ∈ zs → Calls Tryz.prog gg (#[.agg z.1.toArray] ++ lb) W fun e W' => e = .returned (.bool (p z.2)) ∧ Below W.heap.size W W') := hcall
 obtain ⟨ans, hans⟩ : ∃ ans : Int, (if K < n then (K : Int) else -1) = ans := ⟨_, rfl⟩
 have HA : Hid ((if K < n then (K : Int) else -1) = ans) := hans
 rw [hans]
 clear h hnn hcall hans
 go_enter Tryz.func92, Tryz.ntmps92
 go_wp2_with fail
 go_loopg [5, 8] n (fun g2 _ s8 wr => ∃ kk : Nat, kk ≤ K ∧ n - kk ≤ g2 ∧ s8 = .int .i64 kk ∧ Hid (Below w.heap.size w wr))
 case atStart => exact ⟨0, Nat.zero_le _, by omega, rfl, Below.refl _ _⟩
 case round =>
  obtain ⟨kk, hkk, hg, rfl, HS⟩ := hrel
  by_cases hlt : kk < n
  ·have hltz : (kk : Int) < (n : Int) := by omega
   obtain ⟨b, o, v0, v1, v2, v3, v4, rfl, hz1, hp, hone, hcs⟩ := el5_at HI.out (i := kk) (by rw [NI.out]; exact hlt)
   obtain ⟨c0, c1, c2, c3, c4⟩ := hcs wr HS.out
   have hcl := HC.out wr (zs[kk]'(by rw [NI.out]; exact hlt)) HS.out (List.getElem_mem _)
   rw [hz1] at hcl
   have HQ : Hid (kk < K → p (zs[kk]'(by rw [NI.out]; exact hlt)).2 = false) := HK1.out kk (by rw [NI.out]; exact hlt)
   have HQ2 : Hid (kk = K → p (zs[kk]'(by rw [NI.out]; exact hlt)).2 = true) := fun e => by subst e; exact HK2.out _
   generalize (zs[kk]'(by rw [NI.out]; exact hlt)).2 = x at *
   have hwr := HS.out.size
   clear hz1 hp hcs
   by_cases hkK : kk = K
   ·have hq := HQ2.out hkK
    have HE : Hid (ans = (kk : Int)) := by rw [← HA.out, if_pos (by omega), hkK]; exact rfl
    clear HQ HQ2 hkK
    go_wp2_with fail
    refine hcl.mono ?_
    rintro e w' ⟨rfl, b2⟩
    rw [hq]
    have HB : Hid (Below w.heap.size w w') := HS.out.trans (b2.mono hwr)
    clear hcl b2 c0 c1 c2 c3 c4
    go_wp2
    go_ret
    exact ⟨by rw [HE.out]; rfl, HB.out⟩
   ·have hq := HQ.out (by omega)
    clear HQ HQ2
    go_wp2_with fail
    refine hcl.mono ?_
    rintro e w' ⟨rfl, b2⟩
    rw [hq]
    have HB : Hid (Below w.heap.size w w') := HS.out.trans (b2.mono hwr)
    clear hcl b2 c0 c1 c2 c3 c4
    go_wp2
    go_roundg (n - (kk + 1))
    case measure => omega
    case rel => exact ⟨kk + 1, by omega, by omega, by go_num, HB.out⟩
  ·have hltz : ¬ (kk : Int) < (n : Int) := by omega
   have HE : Hid (ans = -1) := by rw [← HA.out, if_neg (by omega)]; exact rfl
   go_wp2
   go_ret
   exact ⟨by rw [HE.out]; rfl, HS.out⟩
set_option maxHeartbeats 2000000 in
theorem mayHave_any (w : World) (s : Sbs) (q : Que) (iv hv : Value) (hR : RdQ w (queV q iv hv) q) (ho : iv.oneCell' = true ∧ hv.oneCell' = true) (hbig : lenQ q ≤ 1000000) :
  Calls Tryz.prog 94 #[.agg #[.int .i64 s.conn, .int .i64 s.sub, tx s.queue, .int .i64 s.win, .bool s.auto], queV q iv hv] w fun e w' => e = .returned (.bool (mayB q s)) ∧ Below w.heap.size w w' := by
 have kS := (Blk.new w #[.int .i64 s.conn, .int .i64 s.sub, tx s.queue, .int .i64 s.win, .bool s.auto] 85).alloc (.cells (quA q iv hv) 82)
 have kQ := Blk.new (w.alloc (.cells #[.int .i64 s.conn, .int .i64 s.sub, tx s.queue, .int .i64 s.win, .bool s.auto] 85)) (quA q iv hv) 82
 have b0 : Below w.heap.size w ((w.alloc (.cells #[.int .i64 s.conn, .int .i64 s.sub, tx s.queue, .int .i64 s.win, .bool s.auto] 85)).alloc (.cells (quA q iv hv) 82)) := ((Below.refl _ w).alloc (Nat.le_refl _) _).alloc (by simp) _
 rw [World.size_alloc] at kQ
 have hmay : Hid (mayB q s = (decide (s.queue = q.name) && (s.auto || decide ((holdsQ q s.conn s.sub : Int) < s.win)))) := rfl
 unfold queV
 go_enter Tryz.func94, Tryz.ntmps94
 go_upto_region 1 with fail
 generalize (w.alloc (.cells #[.int .i64 s.conn, .int .i64 s.sub, tx s.queue, .int .i64 s.win, .bool s.auto] 85)).alloc (.cells (quA q iv hv) 82) = w1 at *
 obtain ⟨gs, egs⟩ : ∃ x, w.heap.size = x := ⟨_, rfl⟩
 obtain ⟨gq, egq⟩ : ∃ x, w.heap.size + 1 = x := ⟨_, rfl⟩
 rw [egq] at kQ ⊢
 rw [egs] at kS ⊢
 by_cases hn : s.queue = q.name
 ·cases ha : s.auto with
  | true =>
   rw [ha] at kS
   refine rh (fun W => Blk W gs #[.int .i64 s.conn, .int .i64 s.sub, tx s.queue, .int .i64 s.win, .bool true] 85 ∧ Blk W gq (quA q iv hv) 82) ?_
   have hS : Blk (World.drew w1) gs #[.int .i64 s.conn, .int .i64 s.sub, tx s.queue, .int .i64 s.win, .bool true] 85 ∧ Blk (World.drew w1) gq (quA q iv hv) 82 := ⟨⟨kS.h⟩, ⟨kQ.h⟩⟩
   have hbb := b0.drew
   clear b0 kS kQ
   generalize w1.drew = w2 at *
   rw [hn] at hS ⊢
   refine tks [0, 1, 2, 3, 4, 5, 6, 7, 8, 9, 10, 11, 12, 13, 14, 15, 16, 17, 18, 19, 20] [.pointer (some ⟨gs, 2, none⟩), tx q.name, .pointer (some ⟨gq, 0, none⟩), tx q.name, .bool true, .bool true, .pointer (some ⟨gs, 4, none⟩), .bool true, .bool true, undef, undef, undef, undef, undef, undef, undef, undef, undef, .bool true, .bool true, .bool true] 0 ?_ hS ?_
   ·simp only [tkY, tkf]
    refine ⟨.yes ?_, .yes ?_, .yes ?_, .yes ?_, .yes ?_, .yes ?_, .yes ?_, .yes ?_, .yes ?_, .no, .no, .no, .no, .no, .no, .no, .no, .no, .yes ?_, .yes ?_, .yes ?_, trivial⟩
    all_goals
     intro W' hW'
     have := hW'.1.ce 2
     have := hW'.2.ce 0
     have := hW'.1.ce 4
     go_simp
   simp only [tkA, tkf]
   refine ad ?_
   go_wp2_with fail
   go_ret
   exact ⟨by rw [hmay.out]; simp [hn, ha], hbb⟩
  | false =>
   rw [ha] at kS
   refine rh (fun W => Blk W gs #[.int .i64 s.conn, .int .i64 s.sub, tx s.queue, .int .i64 s.win, .bool false] 85 ∧ Blk W gq (quA q iv hv) 82) ?_
   have hS : Blk (World.drew w1) gs #[.int .i64 s.conn, .int .i64 s.sub, tx s.queue, .int .i64 s.win, .bool false] 85 ∧ Blk (World.drew w1) gq (quA q iv hv) 82 := ⟨⟨kS.h⟩, ⟨kQ.h⟩⟩
   have hbb := b0.drew
   clear b0 kS kQ
   generalize w1.drew = w2 at *
   rw [hn] at hS ⊢
   refine tks [0, 1, 2, 3, 4, 5, 6, 7, 8, 9, 10, 11, 12, 13, 15, 16] [.pointer (some ⟨gs, 2, none⟩), tx q.name, .pointer (some ⟨gq, 0, none⟩), tx q.name, .bool true, .bool true, .pointer (some ⟨gs, 4, none⟩), .bool false, .bool false, .agg #[tx q.name, .bool q.dur, .int .i64 q.depth, .int .i64 q.seq, .int .i64 q.tag, iv, hv], .pointer (some ⟨gs, 0, none⟩), .int .i64 s.conn, .pointer (some ⟨gs, 1, none⟩), .int .i64 s.sub, .pointer (some ⟨gs, 3, none⟩), .int .i64 s.win] 5 ?_ hS ?_
   ·simp only [tkY, tkf]
    refine ⟨.yes ?_, .yes ?_, .yes ?_, .yes ?_, .yes ?_, .yes ?_, .yes ?_, .yes ?_, .yes ?_, .yes ?_, .yes ?_, .yes ?_, .yes ?_, .yes ?_, .yes ?_, .yes ?_, trivial⟩
    all_goals
     intro W' hW'
     have := hW'.1.ce 2
     have := hW'.2.ce 0
     have := hW'.1.ce 4
     have := hW'.2.ce 1
     have := hW'.2.ce 2
     have := hW'.2.ce 3
     have := hW'.2.ce 4
     have := hW'.2.ce 5
     have := hW'.2.ce 6
     have := hW'.1.ce 0
     have := hW'.1.ce 1
     have := hW'.1.ce 3
     go_simp
   simp only [tkA, tkf]
   refine ak 14 fun K hK => ?_
   go_simp
   refine (holds_any _ _ q (RdQ.on hR hbb) s.conn s.sub hbig).mono ?_
   rintro e w4 ⟨rfl, b4⟩
   have hS4 := And.intro (hS.1.on b4) (hS.2.on b4)
   have hb4 := nxt hbb b4
   clear hS hbb b4
   have hS := hS4
   have hbb := hb4
   clear hS4 hb4
   show K _ _
   refine hK _ _ hS ?_
   clear hK K
   try simp only [tkf]
   refine tks [17, 18, 19, 20] [.bool (decide ((holdsQ q s.conn s.sub : Int) < s.win)), .bool (decide ((holdsQ q s.conn s.sub : Int) < s.win)), .bool (decide ((holdsQ q s.conn s.sub : Int) < s.win)), .bool (decide ((holdsQ q s.conn s.sub : Int) < s.win))] 0 ?_ hS ?_
   ·simp only [tkY, tkf]
    refine ⟨.yes ?_, .yes ?_, .yes ?_, .yes ?_, trivial⟩
    all_goals
     intro W' hW'
     go_simp
   simp only [tkA, tkf]
   refine ad ?_
   go_wp2_with fail
   go_ret
   exact ⟨by rw [hmay.out]; simp [hn, ha], hbb⟩
 ·have hne : ((⟨s.queue.toArray⟩ : ByteArray).toList == (⟨q.name.toArray⟩ : ByteArray).toList) = false := by
   rw [Go.ByteArray.toList_mk, Go.ByteArray.toList_mk]
   simpa using hn
  refine rh (fun W => Blk W gs #[.int .i64 s.conn, .int .i64 s.sub, tx s.queue, .int .i64 s.win, .bool s.auto] 85 ∧ Blk W gq (quA q iv hv) 82) ?_
  have hS : Blk (World.drew w1) gs #[.int .i64 s.conn, .int .i64 s.sub, tx s.queue, .int .i64 s.win, .bool s.auto] 85 ∧ Blk (World.drew w1) gq (quA q iv hv) 82 := ⟨⟨kS.h⟩, ⟨kQ.h⟩⟩
  have hbb := b0.drew
  clear b0 kS kQ
  generalize w1.drew = w2 at *
  refine tks [0, 1, 2, 3, 4, 5, 6, 7, 8, 9, 10, 11, 12, 13, 14, 15, 16, 17, 18, 19, 20] [.pointer (some ⟨gs, 2, none⟩), tx s.queue, .pointer (some ⟨gq, 0, none⟩), tx q.name, .bool false, .bool false, undef, undef, undef, undef, undef, undef, undef, undef, undef, undef, undef, undef, undef, .bool false, .bool false] 0 ?_ hS ?_
  ·simp only [tkY, tkf]
   refine ⟨.yes ?_, .yes ?_, .yes ?_, .yes ?_, .yes ?_, .yes ?_, .no, .no, .no, .no, .no, .no, .no, .no, .no, .no, .no, .no, .no, .yes ?_, .yes ?_, trivial⟩
   all_goals
    intro W' hW'
    have := hW'.1.ce 2
    have := hW'.2.ce 0
    have := hne
    go_simp
  simp only [tkA, tkf]
  refine ad ?_
  go_wp2_with fail
  go_ret
  exact ⟨by rw [hmay.out]; simp [hn], hbb⟩
set_option maxHeartbeats 2000000 in
theorem pump1_any (w : World) (s : Sbs) (q : Que) (iv hv : Value) (hR : RdQ w (queV q iv hv) q) (ho : iv.oneCell' = true ∧ hv.oneCell' = true) (hbig : lenQ q ≤ 1000000) (gp gq p : Nat) (cur : Array Value) (kp : Blk w gp #[.pointer (some ⟨gq, p * 7, none⟩)] 122) (kq : Blk w gq cur 82) (h7 : At7 cur (p * 7) (quA q iv hv).toList) :
  Calls Tryz.prog 93 #[.agg #[.int .i64 s.conn, .int .i64 s.sub, tx s.queue, .int .i64 s.win, .bool s.auto], .pointer (some ⟨gp, 0, none⟩)] w fun e w' => e = .returned (.bool (mayB q s)) ∧ Below w.heap.size w w' := by
 have kS := Blk.new w #[.int .i64 s.conn, .int .i64 s.sub, tx s.queue, .int .i64 s.win, .bool s.auto] 85
 have b0 := (Below.refl w.heap.size w).alloc (Nat.le_refl _) (.cells #[.int .i64 s.conn, .int .i64 s.sub, tx s.queue, .int .i64 s.win, .bool s.auto] 85)
 have kp1 := kp.on b0
 have kq1 := kq.on b0
 have h7 : Hid (At7 cur (p * 7) (quA q iv hv).toList) := h7
 clear kp kq
 go_enter Tryz.func93, Tryz.ntmps93
 go_upto_region 1 with fail
 generalize w.alloc (.cells #[.int .i64 s.conn, .int .i64 s.sub, tx s.queue, .int .i64 s.win, .bool s.auto] 85) = w1 at *
 obtain ⟨gs, egs⟩ : ∃ x, w.heap.size = x := ⟨_, rfl⟩
 rw [egs] at kS ⊢
 refine rh (fun W => (Blk W gs #[.int .i64 s.conn, .int .i64 s.sub, tx s.queue, .int .i64 s.win, .bool s.auto] 85 ∧ Blk W gp #[.pointer (some ⟨gq, p * 7, none⟩)] 122) ∧ Blk W gq cur 82) ?_
 have hS : (Blk (World.drew w1) gs #[.int .i64 s.conn, .int .i64 s.sub, tx s.queue, .int .i64 s.win, .bool s.auto] 85 ∧ Blk (World.drew w1) gp #[.pointer (some ⟨gq, p * 7, none⟩)] 122) ∧ Blk (World.drew w1) gq cur 82 := ⟨⟨⟨kS.h⟩, ⟨kp1.h⟩⟩, ⟨kq1.h⟩⟩
 have hbb := b0.drew
 clear b0 kS kp1 kq1
 generalize w1.drew = w2 at *
 refine tks [0, 1, 2, 3] [.agg #[.int .i64 s.conn, .int .i64 s.sub, tx s.queue, .int .i64 s.win, .bool s.auto], .pointer (some ⟨gq, p * 7, none⟩), .pointer (some ⟨gq, p * 7, none⟩), .agg #[tx q.name, .bool q.dur, .int .i64 q.depth, .int .i64 q.seq, .int .i64 q.tag, iv, hv]] 2 ?_ hS ?_
 ·simp only [tkY, tkf]
  refine ⟨.yes ?_, .yes ?_, .yes ?_, .yes ?_, trivial⟩
  all_goals
   intro W' hW'
   have := hW'.1.1.ce 0
   have := hW'.1.1.ce 1
   have := hW'.1.1.ce 2
   have := hW'.1.1.ce 3
   have := hW'.1.1.ce 4
   have := hW'.1.2.ce 0
   have := (hW'.2.cell (p * 7)).trans (h7.out 0 _ rfl)
   have := (hW'.2.cell (p * 7 + 1)).trans (h7.out 1 _ rfl)
   have := (hW'.2.cell (p * 7 + 2)).trans (h7.out 2 _ rfl)
   have := (hW'.2.cell (p * 7 + 3)).trans (h7.out 3 _ rfl)
   have := (hW'.2.cell (p * 7 + 4)).trans (h7.out 4 _ rfl)
   have := (hW'.2.cell (p * 7 + 5)).trans (h7.out 5 _ rfl)
   have := (hW'.2.cell (p * 7 + 6)).trans (h7.out 6 _ rfl)
   go_simp
 simp only [tkA, tkf]
 refine ak 4 fun K hK => ?_
 go_simp
 refine (mayHave_any _ s q iv hv (RdQ.on hR hbb) ho hbig).mono ?_
 rintro e w4 ⟨rfl, b4⟩
 have hS4 : (Blk w4 gs #[.int .i64 s.conn, .int .i64 s.sub, tx s.queue, .int .i64 s.win, .bool s.auto] 85 ∧ Blk w4 gp #[.pointer (some ⟨gq, p * 7, none⟩)] 122) ∧ Blk w4 gq cur 82 := ⟨⟨hS.1.1.on b4, hS.1.2.on b4⟩, hS.2.on b4⟩
 have hb4 := nxt hbb b4
 show K _ _
 refine hK _ _ hS4 ?_
 clear hK K
 try simp only [tkf]
 refine tks [5] [.bool (mayB q s)] 0 ?_ hS4 ?_
 ·simp only [tkY, tkf]
  refine ⟨.yes ?_, trivial⟩
  all_goals
   intro W' hW'
   go_simp
 simp only [tkA, tkf]
 refine ad ?_
 go_wp2_with fail
 go_ret
 exact ⟨rfl, by rw [← egs]; exact hb4⟩
theorem find_idx {α : Type} (p : α → Bool) : ∀ l : List α, l.find? p = l[l.findIdx p]?
 | [] => by simp
 | a :: l => by
  rw [List.find?_cons, List.findIdx_cons]
  cases h : p a with
  | true => simp
  | false => simp [find_idx p l]
theorem el_one {w : World} {B : Nat} {q : Que} {iv hv : Value} (h : OwnQ w B (queV q iv hv) q) : iv.oneCell' = true ∧ hv.oneCell' = true := by
 obtain ⟨iv', hv', e, h1, h2⟩ := h
 injection e with e
 have e2 := congrArg Array.toList e
 simp at e2
 obtain ⟨rfl, rfl⟩ := e2
 obtain ⟨ia, ic, ei⟩ := h1.rd.len
 obtain ⟨ja, jc, ej⟩ := h2.rd.len
 exact ⟨by rw [ei]; rfl, by rw [ej]; rfl⟩
theorem e93 : ∀ args w, (callFunc 93 args).run Tryz.prog w = .ok (.enter 93 args) w := fun args w => by go_simp
theorem index_any (w : World) (B : Nat) (sv : Value) (l : List Sbs) (hs : OSc w B sv l) (hn : l.length ≤ 1000) (qv : Value) (ql : List Que) (p gq cap : Nat) (cur : Array Value) (iv hv : Value) (hEL : El w B qv ql p gq cap cur iv hv) (q : Que) (hpl : p < ql.length) (hq : ql[p] = q) (hbig : lenQ q ≤ 1000000) (gp : Nat) (kp : Blk w gp #[.pointer (some ⟨gq, p * 7, none⟩)] 122) :
  Calls Tryz.prog 92 #[sv, .func (.func 93) #[] #[.pointer (some ⟨gp, 0, none⟩)]] w fun e w' => e = .returned (.int .i64 (if l.findIdx (mayB q) < l.length then (l.findIdx (mayB q) : Int) else -1)) ∧ Below w.heap.size w w' := by
 obtain ⟨zs, rfl, hz⟩ := hs
 have hOW := hEL.own
 have h7 := hEL.at7
 rw [hq] at hOW h7
 have e1 : (zs.map (·.2)).findIdx (mayB q) = zs.findIdx (fun z : List Value × Sbs => mayB q z.2) := by rw [List.findIdx_map]; rfl
 rw [e1, List.length_map]
 rw [List.length_map] at hn
 refine ixS w sv zs SbR hz.rd (by omega) 93 #[.pointer (some ⟨gp, 0, none⟩)] e93 (mayB q) fun W z bw hm => ?_
 have hR := (hz.2 z hm).2
 unfold SbR at hR
 rw [hR]
 exact pump1_any W z.2 q iv hv (RdQ.on (OwnQ.rd hOW) bw) (el_one hOW) hbig gp gq p cur (kp.on bw) (hEL.blk.on bw) h7
set_option maxHeartbeats 2000000 in
theorem ixB {α : Type} (w : World) (v : Value) (zs : Zs α) (R : List Value → α → Prop) (h : RdZ 2 R w v zs) (hn : zs.length ≤ 1000000) (gg : Nat) (lb : Array Value) (eg : ∀ args w, (callFunc gg args).run Tryz.prog w = .ok (.enter gg args) w) (p : α → Bool)
  (hcall : ∀ W z, Bw w W → z ∈ zs → Calls Tryz.prog gg (#[.agg z.1.toArray] ++ lb) W fun e W' => e = .returned (.bool (p z.2)) ∧ Bw W W') :
  Calls Tryz.prog 186 #[v, .func (.func gg) #[] lb] w fun e w' => e = .returned (.int .i64 (if zs.findIdx (fun z : List Value × α => p z.2) < zs.length then (zs.findIdx (fun z : List Value × α => p z.2) : Int) else -1)) ∧ Bw w w' := by
 obtain ⟨a, c, hv⟩ := h.len
 subst hv
 have hK1 : ∀ j (h : j < zs.length), j < zs.findIdx (fun z : List Value × α => p z.2) → p (zs[j]).2 = false := fun j h hj => by simpa using List.not_of_lt_findIdx hj
 have hK2 : ∀ h : zs.findIdx (fun z : List Value × α => p z.2) < zs.length, p (zs[zs.findIdx (fun z : List Value × α => p z.2)]).2 = true := fun h => List.findIdx_getElem (p := fun z : List Value × α => p z.2) (w := h)
 have hKn : zs.findIdx (fun z : List Value × α => p z.2) ≤ zs.length := List.findIdx_le_length
 generalize zs.findIdx (fun z : List Value × α => p z.2) = K at *
 have HK1 : Hid (∀ j (h : j < zs.length), j < K → p (zs[j]).2 = false) := hK1
 have HK2 : Hid (∀ h : K < zs.length, p (zs[K]).2 = true) := hK2
 clear hK1 hK2
 obtain ⟨n, hnn⟩ : ∃ n, zs.length = n := ⟨_, rfl⟩
 rw [hnn] at h hn hKn ⊢
 have HI : Hid (RdZ 2 R w (.slice a n c) zs) := h
 have NI : Hid (zs.length = n) := hnn
 have HC : Hid (∀ W z, Bw w W → z ∈ zs → Calls Tryz.prog gg (#[.agg z.1.toArray] ++ lb) W fun e W' => e = .returned (.bool (p z.2)) ∧ Bw W W') := hcall
 obtain ⟨ans, hans⟩ : ∃ ans : Int, (if K < n then (K : Int) else -1) = ans := ⟨_, rfl⟩
 have HA : Hid ((if K < n then (K : Int) else -1) = ans) := hans
 rw [hans]
 clear h hnn hcall hans
 go_enter Tryz.func186, Tryz.ntmps186
 go_wp2_with fail
 go_loopg [5, 8] n (fun g2 _ s8 wr => ∃ kk : Nat, kk ≤ K ∧ n - kk ≤ g2 ∧ s8 = .int .i64 kk ∧ Hid (Bw w wr))
 case atStart => exact ⟨0, Nat.zero_le _, by omega, rfl, Below.refl _ _⟩
 case round =>
  obtain ⟨kk, hkk, hg, rfl, HS⟩ := hrel
  by_cases hlt : kk < n
  ·have hltz : (kk : Int) < (n : Int) := by omega
   obtain ⟨b, o, v0, v1, rfl, hz1, hp, hone, hcs⟩ := el2_at HI.out (i := kk) (by rw [NI.out]; exact hlt)
   obtain ⟨c0, c1⟩ := hcs wr HS.out
   have hcl := HC.out wr (zs[kk]'(by rw [NI.out]; exact hlt)) HS.out (List.getElem_mem _)
   rw [hz1] at hcl
   have HQ : Hid (kk < K → p (zs[kk]'(by rw [NI.out]; exact hlt)).2 = false) := HK1.out kk (by rw [NI.out]; exact hlt)
   have HQ2 : Hid (kk = K → p (zs[kk]'(by rw [NI.out]; exact hlt)).2 = true) := fun e => by subst e; exact HK2.out _
   generalize (zs[kk]'(by rw [NI.out]; exact hlt)).2 = x at *
   have hwr := HS.out.size
   clear hz1 hp hcs
   by_cases hkK : kk = K
   ·have hq := HQ2.out hkK
    have HE : Hid (ans = (kk : Int)) := by rw [← HA.out, if_pos (by omega), hkK]; exact rfl
    clear HQ HQ2 hkK
    go_wp2_with fail
    refine hcl.mono ?_
    rintro e w' ⟨rfl, b2⟩
    rw [hq]
    have HB : Hid (Bw w w') := HS.out.trans (b2.mono hwr)
    clear hcl b2 c0 c1
    go_wp2
    go_ret
    exact ⟨by rw [HE.out]; rfl, HB.out⟩
   ·have hq := HQ.out (by omega)
    clear HQ HQ2
    go_wp2_with fail
    refine hcl.mono ?_
    rintro e w' ⟨rfl, b2⟩
    rw [hq]
    have HB : Hid (Bw w w') := HS.out.trans (b2.mono hwr)
    clear hcl b2 c0 c1
    go_wp2
    go_roundg (n - (kk + 1))
    case measure => omega
    case rel => exact ⟨kk + 1, by omega, by omega, by go_num, HB.out⟩
  ·have hltz : ¬ (kk : Int) < (n : Int) := by omega
   have HE : Hid (ans = -1) := by rw [← HA.out, if_neg (by omega)]; exact rfl
   go_wp2
   go_ret
   exact ⟨by rw [HE.out]; rfl, HS.out⟩
structure MidB {α : Type} (w W : World) (row : Nat) (cap n : Nat) (zs : Zs α) (p : α → Bool) (i j : Nat) : Prop where
 blk : ∃ cur, Blk W row cur 43 ∧ cur.size = cap * 2 ∧ cur.toList.take (i * 2) = cellsZ ((zs.take j).filter (fun z => !p z.2)) ∧ (cur.toList.drop (j * 2)).take ((n - j) * 2) = cellsZ (zs.drop j)
 num : i = ((zs.take j).filter (fun z => !p z.2)).length
 gr : w.grownBy W (some row)
theorem MidB.on {α : Type} {w W W' : World} {row cap n : Nat} {zs : Zs α} {p : α → Bool} {i j : Nat} (h : MidB w W row cap n zs p i j) (hb : Bw W W') : MidB w W' row cap n zs p i j := by
 obtain ⟨cur, h1, h2⟩ := h.blk
 exact ⟨⟨cur, h1.on hb, h2⟩, h.num, gb_trans h.gr (gb_below hb _)⟩
theorem MidB.skip {α : Type} {w W : World} {row cap n : Nat} {zs : Zs α} {p : α → Bool} {i j : Nat} (h : MidB w W row cap n zs p i j) (hk : ∀ z ∈ zs, z.1.length = 2) (hn : zs.length = n) (hj : j < zs.length) (hp : p (zs[j]).2 = true) : MidB w W row cap n zs p i (j + 1) := by
 obtain ⟨cur, h1, h2, h3, h4⟩ := h.blk
 have e : (zs.take (j + 1)).filter (fun z => !p z.2) = (zs.take j).filter (fun z => !p z.2) := by
  rw [List.take_succ_eq_append_getElem hj, List.filter_append]
  simp [hp]
 refine ⟨⟨cur, h1, h2, by rw [e]; exact h3, ?_⟩, by rw [e]; exact h.num, h.gr⟩
 have := congrArg (List.drop 2) h4
 have hd := cellsZ_drop (fun z hz => hk z (List.mem_of_mem_drop hz)) (zs := zs.drop j) 1
 rw [Nat.one_mul, List.drop_drop] at hd
 rw [hd, List.drop_take, List.drop_drop] at this
 rw [show (j + 1) * 2 = j * 2 + 2 by omega, show (n - (j + 1)) * 2 = (n - j) * 2 - 2 by omega]
 exact this
theorem MidB.cells {α : Type} {w W : World} {row cap n : Nat} {zs : Zs α} {p : α → Bool} {i j : Nat} (h : MidB w W row cap n zs p i j) (hk : ∀ z ∈ zs, z.1.length = 2) (hn : zs.length = n) (hj : j < zs.length) : ∀ t u, ((zs[j]).1)[t]? = some u → W.cell? ⟨row, j * 2 + t, none⟩ = some u := fun t u hu => by
 obtain ⟨cur, h1, h2, h3, h4⟩ := h.blk
 have ht : t < 2 := by
  have := (List.getElem?_eq_some_iff.1 hu).1
  rwa [hk _ (List.getElem_mem hj)] at this
 have e := cellsZ_at (fun z hz => hk z (List.mem_of_mem_drop hz)) (zs := zs.drop j) 0 (by rw [List.length_drop]; omega) t ht
 rw [Nat.zero_mul, Nat.zero_add, List.getElem_drop, ← h4, List.getElem?_take_of_lt (by omega), List.getElem?_drop] at e
 rw [h1.cell, ← hu]
 simpa using e
theorem MidB.keepit {α : Type} {w W W' : World} {row cap n : Nat} {zs : Zs α} {p : α → Bool} {i j : Nat} (h : MidB w W row cap n zs p i j) (hk : ∀ z ∈ zs, z.1.length = 2) (hn : zs.length = n) (hij : i < j) (hjn : n ≤ cap) (hj : j < zs.length) (hp : p (zs[j]).2 = false)
  {cur : Array Value} (hb : Blk W row cur 43) (cells : Array Value) (hc : cells.toList = (zs[j]).1) (hW : Blk W' row (cur.toList.take (i * 2) ++ cells.toList ++ cur.toList.drop (i * 2 + cells.size)).toArray 43) (hg : W.grownBy W' (some row)) : MidB w W' row cap n zs p (i + 1) (j + 1) := by
 obtain ⟨cur', h1, h2, h3, h4⟩ := h.blk
 have ec : cur' = cur := by
  have := h1.h
  rw [hb.h] at this
  injection this with e
  injection e with e _ _
  exact e.symm
 subst ec
 have hcs : cells.size = 2 := by rw [← Array.length_toList, hc, hk _ (List.getElem_mem hj)]
 have e : (zs.take (j + 1)).filter (fun z => !p z.2) = (zs.take j).filter (fun z => !p z.2) ++ [zs[j]] := by
  rw [List.take_succ_eq_append_getElem hj, List.filter_append]
  simp [hp]
 have hti : (cur'.toList.take (i * 2)).length = i * 2 := by rw [List.length_take, Array.length_toList]; omega
 refine ⟨⟨_, hW, ?_, ?_, ?_⟩, by rw [e, List.length_append, ← h.num]; rfl, gb_trans h.gr hg⟩
 ·simp
  omega
 ·have hl : (i + 1) * 2 = (cur'.toList.take (i * 2) ++ cells.toList).length := by rw [List.length_append, hti, Array.length_toList, hcs]; omega
  rw [List.toList_toArray, hl, List.take_left' rfl, e, cellsZ_app, h3, hc]
  simp [cellsZ]
 ·have hl : (cur'.toList.take (i * 2) ++ cells.toList).length = i * 2 + cells.size := by rw [List.length_append, hti, Array.length_toList]
  have hd : (cur'.toList.take (i * 2) ++ cells.toList ++ cur'.toList.drop (i * 2 + cells.size)).drop ((j + 1) * 2) = cur'.toList.drop ((j + 1) * 2) := by
   rw [List.drop_append, List.drop_of_length_le (by rw [hl, hcs]; omega), List.nil_append, List.drop_drop, hl]
   congr 1
   omega
  rw [List.toList_toArray, hd]
  have := congrArg (List.drop 2) h4
  have hd2 := cellsZ_drop (fun z hz => hk z (List.mem_of_mem_drop hz)) (zs := zs.drop j) 1
  rw [Nat.one_mul, List.drop_drop] at hd2
  rw [hd2, List.drop_take, List.drop_drop] at this
  rw [show (j + 1) * 2 = j * 2 + 2 by omega, show (n - (j + 1)) * 2 = (n - j) * 2 - 2 by omega]
  exact this
set_option maxHeartbeats 8000000 in
theorem dfB_any {α : Type} (w : World) (B : Nat) (v : Value) (zs : Zs α) (R : List Value → α → Prop) (h : OwnZ 43 2 R w B v zs) (hn : zs.length ≤ 1000) (gg : Nat) (lb : Array Value) (eg : ∀ args w, (callFunc gg args).run Tryz.prog w = .ok (.enter gg args) w) (p : α → Bool)
  (hcall : ∀ W z, w.grownBy W v.ownBlock → z ∈ zs → Calls Tryz.prog gg (#[.agg z.1.toArray] ++ lb) W fun e W' => e = .returned (.bool (p z.2)) ∧ Bw W W') :
  Calls Tryz.prog 116 #[v, .func (.func gg) #[] lb] w fun e w' => ∃ v', e = .returned v' ∧ OwnZ 43 2 R w' B v' (zs.filter (fun z => !p z.2)) ∧ w.grownBy w' v.ownBlock ∧ (v'.ownBlock = v.ownBlock) := by
 have hx := ixB w v zs R h.rd (by omega) gg lb eg p (fun W z hb hm => hcall W z (gb_below hb _) hm)
 by_cases hK : zs.findIdx (fun z : List Value × α => p z.2) < zs.length
 ·obtain ⟨g, cap, cur, rfl, hBg, kg, hc, hm, hs, ht⟩ := ownG_some kiB h (by omega)
  rw [if_pos hK] at hx
  have hk : ∀ z ∈ zs, z.1.length = 2 := fun z hz => (h.2 z hz).1.1
  have M0 : MidB w w g cap zs.length zs p (zs.findIdx (fun z : List Value × α => p z.2)) (zs.findIdx (fun z : List Value × α => p z.2)) := by
   refine ⟨⟨cur, kg, hs, ?_, ?_⟩, ?_, World.grownBy.refl _ _⟩
   ·rw [filt_take (fun z : List Value × α => p z.2), ← cellsZ_take hk, ← ht, List.take_take]
    congr 1
    omega
   ·rw [← cellsZ_drop hk, ← ht, List.drop_take]
    congr 1
    omega
   ·rw [filt_take (fun z : List Value × α => p z.2), List.length_take]
    omega
  have M1 := fun (W : World) (b : Bw w W) => (M0.on b).skip hk rfl hK (List.findIdx_getElem (p := fun z : List Value × α => p z.2) (w := hK))
  obtain ⟨K, hKK⟩ : ∃ K, zs.findIdx (fun z : List Value × α => p z.2) = K := ⟨_, rfl⟩
  rw [hKK] at hK hx M1
  have HZ : Hid (∀ z ∈ zs, (z.1.length = 2 ∧ ∀ u ∈ z.1, u.oneCell' = true) ∧ R z.1 z.2) := h.2
  have HK : Hid (∀ z ∈ zs, z.1.length = 2) := hk
  have HC : Hid (∀ W z, w.grownBy W (some g) → z ∈ zs → Calls Tryz.prog gg (#[.agg z.1.toArray] ++ lb) W fun e W' => e = .returned (.bool (p z.2)) ∧ Bw W W') := hcall
  obtain ⟨n, hnn⟩ : ∃ n, zs.length = n := ⟨_, rfl⟩
  have HN : Hid (zs.length = n) := hnn
  rw [hnn] at hx hc hn hK M1 ⊢
  have M2 : Hid (∀ (W : World), Bw w W → MidB w W g cap n zs p K (K + 1)) := M1
  clear h hcall hnn M0 M1 hs ht kg hKK hk
  go_enter Tryz.func116, Tryz.ntmps116
  go_wp2_with fail
  refine hx.mono ?_
  rintro e w1 ⟨rfl, b1⟩
  have M3 : Hid (MidB w w1 g cap n zs p K (K + 1)) := M2.out w1 b1
  have hK1 : ¬ ((K : Int) = -1) := by omega
  have hcp : cap ≤ 9223372036854775807 := by unfold maxLen at hm; exact hm
  clear hx M2 b1
  go_wp2_with fail
  go_loopg [5, 6, 7] n (fun g2 s5 s6 _ wr => ∃ i j : Nat, i < j ∧ j ≤ n ∧ n - j ≤ g2 ∧ s5 = .int .i64 i ∧ s6 = .int .i64 j ∧ Hid (MidB w wr g cap n zs p i j))
  case atStart => exact ⟨K, K + 1, by omega, by omega, by omega, rfl, by go_num, M3.out⟩
  case round =>
   obtain ⟨i, j, hij, hjn, hg2, rfl, rfl, HS⟩ := hrel
   clear M3
   by_cases hlt : j < n
   ·have hltz : (j : Int) < (n : Int) := by omega
    have hjz : j < zs.length := by rw [HN.out]; exact hlt
    obtain ⟨⟨hkl, hone⟩, hR⟩ := HZ.out (zs[j]) (List.getElem_mem hjz)
    obtain ⟨v0, v1, hv⟩ := list2 hkl
    have hcell := HS.out.cells HK.out HN.out hjz
    rw [hv] at hcell hone
    have HKP : Hid (∀ (W W' : World) (cur : Array Value) (i : Nat), MidB w W g cap n zs p i j → i < j → p (zs[j]).2 = false → Blk W g cur 43 → Blk W' g (cur.toList.take (i * 2) ++ [v0, v1] ++ cur.toList.drop (i * 2 + 2)).toArray 43 → W.grownBy W' (some g) → MidB w W' g cap n zs p (i + 1) (j + 1)) := fun W W' cur i h1 h2 h3 h4 h5 h6 =>
     h1.keepit HK.out HN.out h2 hc hjz h3 h4 #[v0, v1] (by rw [hv]) h5 h6
    have HSK : Hid (∀ (W : World) (i : Nat), MidB w W g cap n zs p i j → p (zs[j]).2 = true → MidB w W g cap n zs p i (j + 1)) := fun W i h1 h2 => h1.skip HK.out HN.out hjz h2
    have hcl := fun W (h : w.grownBy W (some g)) => HC.out W (zs[j]) h (List.getElem_mem hjz)
    rw [hv] at hcl
    generalize (zs[j]).2 = x at *
    have hal : (#[v0, v1] : Array Value).all (·.oneCell') = true := by
     rw [Array.all_eq_true_iff_forall_mem]
     intro u hu
     exact hone u (by simpa using hu)
    have a0 := hcell 0 _ rfl
    have a1 := hcell 1 _ rfl
    rw [Nat.add_zero] at a0
    clear hcell hv hkl hone hR
    obtain ⟨wt, hwt⟩ : ∃ W, W = wr := ⟨_, rfl⟩
    subst hwt
    go_wp2_with (refine wpl_fresh rfl (.tmp 7) (.tmp 25) rfl _ _ rfl rfl (by kernel_rfl) rfl hal ?_)
    intro w2 k2 b2 s2
    have S2 := HS.out.on b2
    have hclx := hcl w2 S2.gr
    obtain ⟨bi, hbi⟩ : ∃ b, wt.heap.size = b := ⟨_, rfl⟩
    have hgb : bi ≠ g := by
     obtain ⟨cur, kc, _⟩ := HS.out.blk
     have := kc.lt
     omega
    rw [hbi] at k2 ⊢
    clear a0 a1 HS b2 s2 hcl hbi
    go_wp2_with (refine wpList_load_row rfl 43 (.tmp 7) rfl bi rfl 43 _ (0, 0) _ k2.h Tryz.underlying43 rfl (by kernel_rfl) ?_)
    refine hclx.mono ?_
    rintro e w3 ⟨rfl, b3⟩
    have S3 := S2.on b3
    have k3 := k2.on b3
    clear hclx S2 k2 b3
    cases hq : p x with
    | true =>
     have S4 := HSK.out w3 i S3 hq
     clear S3 k3 HKP HSK
     go_wp2
     go_roundg (n - (j + 1))
     case measure => omega
     case rel => exact ⟨i, j + 1, by omega, by omega, by omega, rfl, by go_num, S4⟩
    | false =>
     obtain ⟨cur, kc, hcs, h3, h4⟩ := S3.blk
     have hin : (i : Int) < (n : Int) := by omega
     have HF := fun W' => HKP.out w3 W' cur i S3 hij hq kc
     clear HKP HSK S3 h3 h4
     go_wp2_with (first | (refine wpList_load_row rfl 43 (.tmp 7) rfl bi rfl 43 _ (0, 0) _ k3.h Tryz.underlying43 rfl (by kernel_rfl) ?_) | (refine wpl_putAt rfl (.tmp 33) (.tmp 32) rfl g (i * 2) _ rfl rfl kc (by kernel_rfl) (by simp; omega) hal ?_))
     intro w4 k4 g4 s4
     have S4 := HF w4 (by simpa [List.append_assoc] using k4) g4
     clear k3 kc k4 g4 s4 HF hcs
     go_wp2
     go_roundg (n - (j + 1))
     case measure => omega
     case rel => exact ⟨i + 1, j + 1, by omega, by omega, by omega, by go_num, by go_num, S4⟩
   ·have hltz : ¬ (j : Int) < (n : Int) := by omega
    have hje : j = n := by omega
    subst hje
    obtain ⟨cur, kc, hcs, h3, h4⟩ := HS.out.blk
    have hnum := HS.out.num
    have hgr := HS.out.gr
    have ezt : zs.take j = zs := List.take_of_length_le (by rw [HN.out]; exact Nat.le_refl _)
    rw [ezt] at h3 hnum
    obtain ⟨zz, hzz, hclr⟩ := run_clear_row (P := Tryz.prog) wr 25 43 0 (.agg #[.string ⟨#[]⟩, .string ⟨#[]⟩]) Tryz.underlying25 kiB.zr (by simp [Value.cells, Value.oneCell']) g (i * 2) (j - i) (cap - i) (by omega) _ kc.h (by rw [hcs]; simp [Value.cells]; omega)
    have e7 : (Value.agg #[.string ⟨#[]⟩, .string ⟨#[]⟩]).cells.size = 2 := rfl
    rw [e7] at hzz
    have k2 := kc.row (cur.toList.take (i * 2) ++ zz ++ cur.toList.drop (i * 2 + zz.length)).toArray
    have g2 := gb_trans hgr (grown_setRow wr g (cur.toList.take (i * 2) ++ zz ++ cur.toList.drop (i * 2 + zz.length)).toArray)
    obtain ⟨W2, hW2⟩ : ∃ W2, wr.setRow g (cur.toList.take (i * 2) ++ zz ++ cur.toList.drop (i * 2 + zz.length)).toArray = W2 := ⟨_, rfl⟩
    rw [hW2] at k2 g2 hclr
    have hfin : OwnZ 43 2 (R) W2 B (.slice (some ⟨g, 0, none⟩) i cap) (zs.filter (fun z => !p z.2)) := by
     have hm2 : ∀ z ∈ zs.filter (fun z => !p z.2), z ∈ zs := fun z hz => (List.mem_filter.1 hz).1
     refine ⟨⟨cellsZ_len (fun z hz => HK.out z (hm2 z hz)), .inr ⟨g, cap, _, by rw [hnum], hBg, k2.h, by omega, hm, ?_, ?_⟩⟩, fun z hz => HZ.out z (hm2 z hz)⟩
     ·simp
      omega
     ·rw [← hnum, List.toList_toArray, List.append_assoc, List.take_append_of_le_length (by rw [List.length_take, Array.length_toList, hcs]; omega), List.take_take, Nat.min_self, h3]
    have hi1 : i ≤ j := by omega
    have hi2 : i ≤ cap := by omega
    have hi3 : ¬ (cap = i) := by omega
    have hiz : (i : Int) ≤ (j : Int) := by omega
    clear HS kc hcs h3 h4 hgr hW2 k2 hnum hzz HZ HK HC HN
    go_wp2
    go_ret
    exact ⟨_, rfl, hfin, g2, rfl⟩
 ·rw [if_neg hK] at hx
  have e : zs.filter (fun z => !p z.2) = zs := filt_none (fun z : List Value × α => p z.2) zs hK
  obtain ⟨a, c, hv⟩ := h.rd.len
  have HO : Hid (OwnZ 43 2 (R) w B v zs) := h
  have HE : Hid (zs.filter (fun z => !p z.2) = zs) := e
  have HV : Hid (v = .slice a zs.length c) := hv
  clear h hcall e hK
  rw [hv] at hx ⊢
  obtain ⟨n, hnn⟩ : ∃ n, zs.length = n := ⟨_, rfl⟩
  have HNN : Hid (zs.length = n) := hnn
  rw [hnn] at hx ⊢
  clear hv hnn
  go_enter Tryz.func116, Tryz.ntmps116
  go_wp2_with fail
  refine hx.mono ?_
  rintro e w1 ⟨rfl, b1⟩
  go_wp2
  go_ret
  refine ⟨_, rfl, ?_, ?_, rfl⟩
  ·have h2 := HO.out.keep (.of_below b1)
   rw [HV.out] at h2
   rw [← HNN.out, HE.out]
   exact h2
  ·exact gb_below b1 _
end Go.Proofs.YtnpikgakpmkipabGreatDoor
namespace Go.Proofs.YtnpikgakpmkipabGreatDoor.To
open Go.RowKit Go.Lib
theorem covers_any (w : World) (b c b2 c2 : Nat) (p q : List (List UInt8)) (hp : RdS w b 0 p) (hq : RdS w b2 0 q) (hn : p.length ≤ 9223372036854775807) :
  Calls Tryz.prog 272 #[.slice (some ⟨b, 0, none⟩) p.length c, .slice (some ⟨b2, 0, none⟩) q.length c2] w fun e w' => e = .returned (.bool (cov p q)) ∧ w' = w := by
 obtain ⟨n, hnn⟩ : ∃ n, p.length = n := ⟨_, rfl⟩
 obtain ⟨m, hmm⟩ : ∃ m, q.length = m := ⟨_, rfl⟩
 rw [hnn] at hn ⊢
 rw [hmm]
 have HP : Hid (∀ j (h : j < p.length), w.cell? ⟨b, 0 + j, none⟩ = some (str p[j])) := hp.2
 have HQ : Hid (∀ j (h : j < q.length), w.cell? ⟨b2, 0 + j, none⟩ = some (str q[j])) := hq.2
 clear hp hq
 have HN : Hid (p.length = n) := hnn
 have HM : Hid (q.length = m) := hmm
 clear hnn hmm
 obtain ⟨r, hr⟩ : ∃ r, cov p q = r := ⟨_, rfl⟩
 rw [hr]
 have H0 : Hid (cov (p.drop 0) (q.drop 0) = r) := hr
 clear hr
 go_enter Tryz.func272, Tryz.ntmps272
 go_wp2_with fail
 go_loopg [5, 6, 9] n (fun gg _ _ s9 wr => ∃ kk : Nat, kk ≤ n ∧ kk ≤ m ∧ n - kk ≤ gg ∧ s9 = .int .i64 kk ∧ wr = w ∧ Hid (cov (p.drop kk) (q.drop kk) = r))
 case atStart => exact ⟨0, Nat.zero_le _, Nat.zero_le _, by omega, rfl, rfl, H0⟩
 case round =>
  obtain ⟨kk, hkk, hkm, hg, rfl, rfl, A⟩ := hrel
  by_cases hlt : kk < n
  ·have hltz : (kk : Int) < (n : Int) := by omega
   have hkl : kk < p.length := by have := HN.out; omega
   have hcell := HP.out kk hkl
   have C := cov_drop p q kk hkl
   rw [A.out] at C
   obtain ⟨y, hy⟩ : ∃ y, p[kk] = y := ⟨_, rfl⟩
   rw [hy] at hcell C
   clear hy
   rw [Nat.zero_add] at hcell
   have C : Hid _ := C
   cases e35 : (y == [35]) with
   | true =>
    have hr : r = true := by rw [C.out, if_pos (beq_iff_eq.1 e35)]
    have hr : Hid _ := hr
    clear C A H0 HP HQ HN HM hkm hg hkk hkl
    go_wp2
    go_ret
    exact ⟨ret_b hr.out.symm, rfl⟩
   | false =>
    have hy35 : Hid (¬ y = [35]) := by rw [beq_eq_false_iff_ne] at e35; exact e35
    by_cases hq2 : kk < m
    ·have hql : kk < q.length := by have := HM.out; omega
     have C : Hid (r = (q[kk] != [35] && (y == [42] || y == q[kk]) && cov (p.drop (kk + 1)) (q.drop (kk + 1)))) := by have := C.out; rw [if_neg hy35.out, dif_pos hql] at this; exact this
     have hcell2 := HQ.out kk hql
     obtain ⟨z, hz⟩ : ∃ z, q[kk] = z := ⟨_, rfl⟩
     rw [hz] at hcell2
     have C : Hid (r = (z != [35] && (y == [42] || y == z) && cov (p.drop (kk + 1)) (q.drop (kk + 1)))) := by have := C.out; rw [hz] at this; exact this
     clear hz
     rw [Nat.zero_add] at hcell2
     have hne : ((kk : Int) == (m : Int)) = false := by rw [beq_eq_false_iff_ne]; omega
     cases hz35 : (z == [35]) with
     | true =>
      have hr : r = false := by rw [C.out, bne, hz35]; rfl
      have hr : Hid _ := hr
      clear C A H0 HP HQ HN HM hy35 hkm hg hkk
      go_wp2
      go_ret
      exact ⟨ret_b hr.out.symm, rfl⟩
     | false =>
      have C : Hid (r = ((y == [42] || y == z) && cov (p.drop (kk + 1)) (q.drop (kk + 1)))) := by have := C.out; rw [bne, hz35] at this; exact this
      cases hy42 : (y == [42]) with
      | true =>
       have C : Hid (r = (cov (p.drop (kk + 1)) (q.drop (kk + 1)))) := by have := C.out; rw [hy42] at this; exact this
       go_wp2
       go_roundg (n - (kk + 1))
       case measure => omega
       case rel => exact ⟨kk + 1, by omega, by omega, by omega, by go_num, rfl, C.out.symm⟩
      | false =>
       cases hyz : (y == z) with
       | true =>
        have C : Hid (r = (cov (p.drop (kk + 1)) (q.drop (kk + 1)))) := by have := C.out; rw [hy42, hyz] at this; exact this
        go_wp2
        go_roundg (n - (kk + 1))
        case measure => omega
        case rel => exact ⟨kk + 1, by omega, by omega, by omega, by go_num, rfl, C.out.symm⟩
       | false =>
        have hr : r = false := by rw [C.out, hy42, hyz]; rfl
        have hr : Hid _ := hr
        clear C A H0 HP HQ HN HM hy35 hkm hg hkk
        go_wp2
        go_ret
        exact ⟨ret_b hr.out.symm, rfl⟩
    ·have hkm2 : kk = m := by omega
     have hr : r = false := by rw [C.out, if_neg hy35.out, dif_neg (by have := HM.out; omega)]
     have hr : Hid _ := hr
     have hkz : ((kk : Int) == (m : Int)) = true := by rw [beq_iff_eq]; omega
     clear C A H0 hq2 HP HQ HN HM hy35 hkm hg hkk hkl hkm2
     go_wp2
     go_ret
     exact ⟨ret_b hr.out.symm, rfl⟩
  ·have hltz : ¬ (kk : Int) < (n : Int) := by omega
   have : kk = n := by omega
   subst this
   have C := A.out
   rw [← HN.out, cov_end p q (by have := HN.out; have := HM.out; omega)] at C
   have C2 : r = ((kk : Int) == (m : Int)) := by rw [← C, HN.out, HM.out]; rw [Bool.eq_iff_iff, decide_eq_true_iff, beq_iff_eq]; omega
   have C2 : Hid _ := C2
   clear C
   go_wp2
   go_ret
   exact ⟨rfl, rfl⟩
theorem cover_any (w : World) (hv : Vars w) (a b : List UInt8) : Calls Tryz.prog 248 #[str a, str b] w fun e w' => e = .returned (.bool (covers a b)) ∧ Below w.heap.size w w' := by
 have hp := pattern_any w hv a
 cases ha : pat a with
 | false =>
  have e : Hid (covers a b = false) := by show covers a b = false; unfold covers; rw [ha]; rfl
  rw [ha] at hp
  generalize covers a b = r at *
  go_enter Tryz.func248, Tryz.ntmps248
  go_wp2_with (go_at_call 13; refine hp.mono ?_; rintro e w' ⟨rfl, hb⟩)
  go_ret
  exact ⟨ret_b e.out.symm, hb⟩
 | true =>
  rw [ha] at hp
  cases hb : pat b with
  | false =>
   have e : Hid (covers a b = false) := by show covers a b = false; unfold covers; rw [hb]; simp
   generalize covers a b = r at *
   go_enter Tryz.func248, Tryz.ntmps248
   go_wp2_with fail
   refine hp.mono ?_
   rintro e1 w1 ⟨rfl, hb1⟩
   have hp2 := pattern_any w1 (hv.below hb1) b
   rw [hb] at hp2
   go_wp2_with fail
   refine hp2.mono ?_
   rintro e2 w2 ⟨rfl, hb2⟩
   go_wp2
   go_ret
   exact ⟨ret_b e.out.symm, nxt hb1 hb2⟩
  | true =>
   have e : Hid (covers a b = cov (wordsL a) (wordsL b)) := by show covers a b = _; unfold covers; rw [ha, hb]; simp
   have h1 := pat_nums ha
   have h2 := pat_nums hb
   generalize covers a b = r at *
   go_enter Tryz.func248, Tryz.ntmps248
   go_wp2_with fail
   refine hp.mono ?_
   rintro e1 w1 ⟨rfl, hb1⟩
   have hv1 := hv.below hb1
   have hp2 := pattern_any w1 hv1 b
   rw [hb] at hp2
   go_wp2_with fail
   refine hp2.mono ?_
   rintro e2 w2 ⟨rfl, hb2⟩
   have hv2 := hv1.below hb2
   have hs := split_any w2 hv2 a (by omega)
   go_wp2_with fail
   refine hs.mono ?_
   rintro e3 w3 ⟨b3, rfl, hr3, hb3⟩
   have hs2 := split_any w3 (hv2.below hb3) b (by omega)
   go_wp2_with fail
   refine hs2.mono ?_
   rintro e4 w4 ⟨b4, rfl, hr4, hb4⟩
   have hc := covers_any w4 b3 (wordsL a).length b4 (wordsL b).length (wordsL a) (wordsL b) (hr3.below hb4 hr3.1) hr4 (by omega)
   clear hr3 hr4
   generalize cov (wordsL a) (wordsL b) = q at *
   go_wp2_with fail
   refine hc.mono ?_
   rintro e5 w5 ⟨rfl, rfl⟩
   go_wp2
   go_ret
   exact ⟨ret_b e.out.symm, nxt hb1 (nxt hb2 (nxt hb3 hb4))⟩
theorem match_any (w : World) (hv : Vars w) (a b : List UInt8) : Calls Tryz.prog 189 #[str a, str b] w fun e w' => e = .returned (.bool (mat a b)) ∧ Below w.heap.size w w' := by
 have hp := good_any w hv b
 cases hb : good b with
 | false =>
  have e : Hid (mat a b = false) := by show mat a b = false; unfold mat; rw [hb]; rfl
  rw [hb] at hp
  generalize mat a b = r at *
  go_enter Tryz.func189, Tryz.ntmps189
  go_wp2_with (go_at_call 151; refine hp.mono ?_; rintro e w' ⟨rfl, hb⟩)
  go_ret
  exact ⟨ret_b e.out.symm, hb⟩
 | true =>
  have e : Hid (mat a b = covers a b) := by show mat a b = _; unfold mat; rw [hb]; rfl
  rw [hb] at hp
  generalize mat a b = r at *
  go_enter Tryz.func189, Tryz.ntmps189
  go_wp2_with fail
  refine hp.mono ?_
  rintro e1 w1 ⟨rfl, hb1⟩
  have hc := cover_any w1 (hv.below hb1) a b
  generalize covers a b = q at *
  go_wp2_with fail
  refine hc.mono ?_
  rintro e2 w2 ⟨rfl, hb2⟩
  go_wp2
  go_ret
  exact ⟨ret_b e.out.symm, nxt hb1 hb2⟩
end Go.Proofs.YtnpikgakpmkipabGreatDoor.To
namespace Go.Proofs.YtnpikgakpmkipabGreatDoor
open Go.RowKit Go.Lib
set_option maxRecDepth 100000
set_option linter.unusedSimpArgs false
set_option linter.unusedVariables false
theorem pumpL_snoc (subs : List Sbs) (now : Int) (q : Que) : ∀ l : List Que, pumpL subs now (l ++ [q]) = bnd (pumpL subs now l) fun r => bnd (pumpE subs now q) fun r2 => .ok (r.1 ++ [r2.1], r.2 ++ r2.2)
 | [] => by
  show bnd (pumpE subs now q) _ = bnd (pumpE subs now q) _
  cases pumpE subs now q <;> simp [bnd, pumpL]
 | x :: l => by
  show bnd (pumpE subs now x) _ = bnd (bnd (pumpE subs now x) _) _
  cases h : pumpE subs now x with
  | error n => rfl
  | ok r =>
   show bnd (pumpL subs now (l ++ [q])) _ = bnd (bnd (pumpL subs now l) _) _
   rw [pumpL_snoc subs now q l]
   cases h2 : pumpL subs now l with
   | error n => rfl
   | ok r2 =>
    show bnd (bnd (pumpE subs now q) _) _ = bnd (pumpE subs now q) _
    cases h3 : pumpE subs now q with
    | error n => rfl
    | ok r3 => simp [bnd, List.append_assoc]
theorem pumpL_err (subs : List Sbs) (now : Int) {n : Int} {q : Que} (hq : pumpE subs now q = .error n) (l2 : List Que) : ∀ (l : List Que) r, pumpL subs now l = .ok r → pumpL subs now (l ++ q :: l2) = .error n
 | [], r, _ => by
  show bnd (pumpE subs now q) _ = _
  rw [hq]
  rfl
 | x :: l, r, h => by
  unfold pumpL at h
  obtain ⟨r1, h1, h2⟩ := bnd_ok.1 h
  obtain ⟨r2, h3, h4⟩ := bnd_ok.1 h2
  show bnd (pumpE subs now x) _ = _
  rw [h1]
  show bnd (pumpL subs now (l ++ q :: l2)) _ = _
  rw [pumpL_err subs now hq l2 l r2 h3]
  rfl
theorem pumpQ_len {subs : List Sbs} : ∀ {n : Nat} {q : Que} {r : Que × List Ot}, pumpQ subs n q = .ok r → r.2.length ≤ n
 | 0, q, r, h => by
  injection h with h
  subst h
  simp
 | n + 1, q, r, h => by
  unfold pumpQ at h
  split at h
  ·injection h with h
   subst h
   simp
  ·split at h
   ·injection h with h
    subst h
    simp
   ·obtain ⟨r1, h1, h2⟩ := bnd_ok.1 h
    obtain ⟨r2, h3, h4⟩ := bnd_ok.1 h2
    injection h4 with h4
    subst h4
    have := pumpQ_len h3
    simp
    omega
theorem good_items {q : Que} (h : goodQ q = true) : q.items.length ≤ 64 := by
 have h1 := (goodQ_iff _).1 h
 have h2 := h1.len
 have h3 := h1.dep
 simp only [depB, Bool.and_eq_true, decide_eq_true_eq] at h3
 unfold lenQ at h2
 omega
theorem good_big {q : Que} (h : goodQ q = true) : lenQ q ≤ 1000000 := by
 have h1 := (goodQ_iff _).1 h
 have h2 := h1.len
 have h3 := h1.dep
 simp only [depB, Bool.and_eq_true, decide_eq_true_eq] at h3
 omega
theorem pumpL_len {subs : List Sbs} {now : Int} : ∀ {l : List Que} {r : List Que × List Ot}, pumpL subs now l = .ok r → (∀ q ∈ l, goodQ q = true) → r.1.length = l.length ∧ r.2.length ≤ 64 * l.length
 | [], r, h, _ => by
  injection h with h
  subst h
  simp
 | q :: l, r, h, hg => by
  unfold pumpL at h
  obtain ⟨r1, h1, h2⟩ := bnd_ok.1 h
  obtain ⟨r2, h3, h4⟩ := bnd_ok.1 h2
  injection h4 with h4
  subst h4
  unfold pumpE at h1
  obtain ⟨q1, h5, h6⟩ := bnd_ok.1 h1
  obtain ⟨_, rfl⟩ := sureE_ok.1 h5
  have i1 := pumpQ_len h6
  have i2 := good_items ((goodQ_iff _).2 (good_expire ((goodQ_iff _).1 (hg q (by simp))) now))
  obtain ⟨j1, j2⟩ := pumpL_len h3 fun x hx => hg x (by simp [hx])
  simp
  omega
structure PuI (w W : World) (B g : Nat) (c : Cor) (os : List Ot) (qv bv sv kv cv : Value) (i : Nat) (r : List Que × List Ot) : Prop where
 e : pumpL c.subs c.now (c.queues.take i) = .ok r
 t : ∃ ov, Tv W B g { c with queues := r.1 ++ c.queues.drop i } (os ++ r.2) qv bv sv kv cv ov
 f : FrT B w W
structure InI (w W : World) (B g : Nat) (c : Cor) (os : List Ot) (qv bv sv kv cv : Value) (l : List Que) (i gq cap gp : Nat) (q1 qk : Que) (ok : List Ot) : Prop where
 e : pumpQ c.subs q1.items.length q1 = bnd (pumpQ c.subs qk.items.length qk) fun r => .ok (r.1, ok ++ r.2)
 gd : goodQ qk = true
 nn : ok.length + qk.items.length ≤ 64
 t : ∃ ov cur iv hv, Tv W B g { c with queues := l.set i qk } (os ++ ok) qv bv sv kv cv ov ∧ El W B qv (l.set i qk) i gq cap cur iv hv
 f : FrT B w W
 k : Blk W gp #[.pointer (some ⟨gq, i * 7, none⟩)] 122
theorem InI.ends {w W : World} {B g : Nat} {c : Cor} {os : List Ot} {qv bv sv kv cv : Value} {l : List Que} {i gq cap gp : Nat} {q1 qk : Que} {ok : List Ot} (h : InI w W B g c os qv bv sv kv cv l i gq cap gp q1 qk ok) (he : qk.items = [] ∨ c.subs.find? (mayB qk) = none) : pumpQ c.subs q1.items.length q1 = .ok (qk, ok) := by
 rw [h.e]
 have : pumpQ c.subs qk.items.length qk = .ok (qk, []) := by
  cases hn : qk.items.length with
  | zero => rfl
  | succ n =>
   unfold pumpQ
   rcases he with he | he
   ·rw [if_pos he]
   ·split
    ·rfl
    ·rw [he]
 rw [this]
 simp [bnd]
theorem InI.step {w W : World} {B g : Nat} {c : Cor} {os : List Ot} {qv bv sv kv cv : Value} {l : List Que} {i gq cap gp : Nat} {q1 qk : Que} {ok : List Ot} (h : InI w W B g c os qv bv sv kv cv l i gq cap gp q1 qk ok) (hne : qk.items ≠ []) {s : Sbs} (hs : c.subs.find? (mayB qk) = some s) :
  pumpQ c.subs q1.items.length q1 = bnd (handQ qk s.conn s.sub (!s.auto)) fun r => bnd (pumpQ c.subs (qk.items.length - 1) r.1) fun r2 => .ok (r2.1, ok ++ r.2 :: r2.2) := by
 rw [h.e]
 obtain ⟨n, hn⟩ : ∃ n, qk.items.length = n + 1 := ⟨qk.items.length - 1, by have := List.length_pos_iff.2 hne; omega⟩
 rw [hn]
 have hE : pumpQ c.subs (n + 1) qk = bnd (handQ qk s.conn s.sub (!s.auto)) fun r => bnd (pumpQ c.subs n r.1) fun r2 => .ok (r2.1, r.2 :: r2.2) := by
  conv => lhs; unfold pumpQ
  rw [if_neg hne, hs]
 rw [hE]
 simp only [Nat.add_sub_cancel]
 cases hh : handQ qk s.conn s.sub (!s.auto) with
 | error m => rfl
 | ok r =>
  show bnd (bnd (pumpQ c.subs n r.1) _) _ = bnd (pumpQ c.subs n r.1) _
  cases h3 : pumpQ c.subs n r.1 <;> rfl
theorem set_mid {α : Type} {a b : List α} {i : Nat} (ha : a.length = i) (hi : i < b.length) (x : α) : (a ++ b.drop i).set i x = a ++ [x] ++ b.drop (i + 1) := by
 subst ha
 rw [List.set_append_right _ _ (Nat.le_refl _), Nat.sub_self, List.drop_eq_getElem_cons hi, List.set_cons_zero, List.append_assoc]
 rfl
theorem PuI.step {w W : World} {B g : Nat} {c : Cor} {os : List Ot} {qv bv sv kv cv : Value} {i : Nat} {r : List Que × List Ot} (hg : GoodC c) (hi : i < c.queues.length) (h1 : pumpL c.subs c.now (c.queues.take i) = .ok r) {qk : Que} {ok : List Ot} (hq : pumpE c.subs c.now c.queues[i] = .ok (qk, ok)) (ht : ∃ ov, Tv W B g { c with queues := (r.1 ++ c.queues.drop i).set i qk } (os ++ r.2 ++ ok) qv bv sv kv cv ov) (hf : FrT B w W) :
  ∃ r', PuI w W B g c os qv bv sv kv cv (i + 1) r' := by
 have hl := (pumpL_len h1 fun q hq => hg.qg q (List.mem_of_mem_take hq)).1
 rw [List.length_take, Nat.min_eq_left (Nat.le_of_lt hi)] at hl
 refine ⟨(r.1 ++ [qk], r.2 ++ ok), ?_, ?_, hf⟩
 ·rw [List.take_succ_eq_append_getElem hi, pumpL_snoc, h1, hq]
  rfl
 ·rw [set_mid hl hi, List.append_assoc os] at ht
  exact ht
end Go.Proofs.YtnpikgakpmkipabGreatDoor
