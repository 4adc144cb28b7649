/- What each of a core's elements must be: core.Good's three closures, goodClient. Conditions: those that each row states. -/
import Derived.Test.YtnpikgakpmkipabGreatDoorY04
import Derived.Test.YtnpikgakpmkipabGreatDoorY15
import Derived.Test.YtnpikgakpmkipabGreatDoorY14
import Derived.Deep.LoopGhost
import Derived.Test.YtnpikgakpmkipabGreatDoorY03
namespace Go.Proofs.YtnpikgakpmkipabGreatDoor
open Go.RowKit Go.Lib
set_option maxRecDepth 100000
set_option linter.unusedSimpArgs false
set_option linter.unusedVariables false
theorem Blk.c2 {W : World} {g : Nat} {t : TypeId} {a0 a1 : Value} (h : Blk W g #[a0, a1] t) : W.cell? ⟨g, 0, none⟩ = some a0 ∧ W.cell? ⟨g, 1, none⟩ = some a1 := ⟨h.cell 0, h.cell 1⟩
theorem Blk.c6 {W : World} {g : Nat} {t : TypeId} {a0 a1 a2 a3 a4 a5 : Value} (h : Blk W g #[a0, a1, a2, a3, a4, a5] t) : W.cell? ⟨g, 0, none⟩ = some a0 ∧ W.cell? ⟨g, 1, none⟩ = some a1 ∧ W.cell? ⟨g, 2, none⟩ = some a2 ∧ W.cell? ⟨g, 3, none⟩ = some a3 ∧ W.cell? ⟨g, 4, none⟩ = some a4 ∧ W.cell? ⟨g, 5, none⟩ = some a5 := ⟨h.cell 0, h.cell 1, h.cell 2, h.cell 3, h.cell 4, h.cell 5⟩
theorem e131 : ∀ args w, (callFunc 131 args).run Tryz.prog w = .ok (.enter 131 args) w := fun args w => by go_simp
theorem e154 : ∀ args w, (callFunc 154 args).run Tryz.prog w = .ok (.enter 154 args) w := fun args w => by go_simp
theorem rdq_on {w w' : World} {v : Value} {l : List Que} (h : RdL 7 (QuR (RdQ w)) w v l) (hb : Bw w w') : RdL 7 (QuR (RdQ w')) w' v l := by
 obtain ⟨zq, e1, h1⟩ := h
 exact ⟨zq, e1, (h1.on hb).imp fun _ _ h => RdQ.on h hb⟩
theorem good1_any (w : World) (hv : To.Vars w) (c : Cor) (qv bv sv kv cv : Value) (g : Nat) (kg : Blk w g #[.int .i64 c.now, qv, bv, sv, kv, cv] 30) (h : RdL 7 (QuR (RdQ w)) w qv c.queues) (hr : risB oQ c.queues = true) (hb : c.queues.length ≤ 1000000) (b : Bnd) :
  Calls Tryz.prog 67 #[.agg #[tx b.queue, tx b.pat], .pointer (some ⟨g, 0, none⟩)] w fun e w' => e = .returned (.bool (bndB c.queues b)) ∧ Bw w w' := by
 have b0 := (Below.refl w.heap.size w).alloc (Nat.le_refl _) (.cells #[tx b.queue, tx b.pat] 43)
 have kN := Blk.new w #[tx b.queue, tx b.pat] 43
 have k0 := kg.on b0
 have HH := hasQueue_any _ c qv bv sv kv cv (rdq_on h b0) hr hb b.queue
 have HV : Hid (To.Vars (w.alloc (.cells #[tx b.queue, tx b.pat] 43))) := hv.below b0
 unfold bndB
 unfold corV at HH
 generalize hasNm c.queues b.queue = r at *
 clear h hr hb hv kg
 go_enter Tryz.func67, Tryz.ntmps67
 go_upto_region 1 with fail
 generalize w.alloc (.cells #[tx b.queue, tx b.pat] 43) = w1 at *
 obtain ⟨d0, d1⟩ := kN.c2
 go_wp2_with (refine wpList_load_row rfl 30 (.tmp 1) rfl g rfl 30 _ (0, 0) _ k0.h Tryz.underlying30 rfl (by kernel_rfl) ?_)
 refine HH.mono ?_
 rintro e w2 ⟨rfl, b1⟩
 have b2 := nxt b0 b1
 have HP := To.pattern_any w2 (HV.out.below b1) b.pat
 obtain ⟨f0, f1⟩ := (kN.on b1).c2
 clear HH b0 b1 d0 d1 kN k0
 cases r with
 | false =>
  go_wp2_with fail
  go_ret
  exact ⟨ret_b (by simp), b2⟩
 | true =>
  go_wp2_with fail
  refine HP.mono ?_
  rintro e w3 ⟨rfl, b3⟩
  have b4 := nxt b2 b3
  clear HP b3 b2
  go_wp2_with fail
  go_ret
  exact ⟨ret_b (by simp), b4⟩
theorem good2_any (w : World) (c : Cor) (qv bv sv kv cv : Value) (g : Nat) (kg : Blk w g #[.int .i64 c.now, qv, bv, sv, kv, cv] 30) (h : RdL 7 (QuR (RdQ w)) w qv c.queues) (hr : risB oQ c.queues = true) (hb : c.queues.length ≤ 1000000) (s : Sbs) :
  Calls Tryz.prog 71 #[.agg #[.int .i64 s.conn, .int .i64 s.sub, tx s.queue, .int .i64 s.win, .bool s.auto], .pointer (some ⟨g, 0, none⟩)] w fun e w' => e = .returned (.bool (sbsB c.queues s)) ∧ Bw w w' := by
 have b0 := (Below.refl w.heap.size w).alloc (Nat.le_refl _) (.cells (sbA s) 85)
 have kN := Blk.new w (sbA s) 85
 have k0 := kg.on b0
 have HH := hasQueue_any _ c qv bv sv kv cv (rdq_on h b0) hr hb s.queue
 have H1 := isSub_any (w.alloc (.cells (sbA s) 85)) s.conn s.sub
 unfold sbsB
 unfold corV at HH
 generalize hasNm c.queues s.queue = r at *
 generalize subB s.conn s.sub = r1 at *
 clear h hr hb kg
 go_enter Tryz.func71, Tryz.ntmps71
 go_upto_region 1 with fail
 generalize w.alloc (.cells (sbA s) 85) = w1 at *
 obtain ⟨d0, d1, d2, d3, d4⟩ := kN.c5
 go_wp2_with fail
 refine H1.mono ?_
 rintro e w2 ⟨rfl, h2⟩
 rw [h2]
 clear H1 h2 w2
 cases r1 with
 | false =>
  go_wp2_with fail
  go_ret
  exact ⟨ret_b (by simp), b0⟩
 | true =>
  obtain ⟨q0, q1, q2, q3, q4, q5⟩ := k0.c6
  go_wp2_with fail
  refine HH.mono ?_
  rintro e w2 ⟨rfl, b1⟩
  have b2 := nxt b0 b1
  have HP := isWin_any w2 s.win
  obtain ⟨f0, f1, f2, f3, f4⟩ := (kN.on b1).c5
  clear HH b0 b1 d0 d1 d2 d3 d4 kN k0 q0 q1 q2 q3 q4 q5
  cases r with
  | false =>
   go_wp2_with fail
   go_ret
   exact ⟨ret_b (by simp), b2⟩
  | true =>
   go_wp2_with fail
   refine HP.mono ?_
   rintro e w3 ⟨rfl, h3⟩
   rw [h3]
   clear HP h3 w3
   go_wp2_with fail
   go_ret
   exact ⟨ret_b (by simp), b2⟩
theorem good3_any (w : World) (hv : To.Vars w) (m : Msg) (pv : Value) (h : RdP w pv m.props) :
  Calls Tryz.prog 76 #[.agg (msgV m pv).toArray] w fun e w' => e = .returned (.bool (kepB m)) ∧ Bw w w' := by
 have b0 := (Below.refl w.heap.size w).alloc (Nat.le_refl _) (.cells (msA m pv) 33)
 have kN := Blk.new w (msA m pv) 33
 have HM := message_any _ (hv.below b0) m pv (h.on b0)
 unfold kepB
 unfold msgV at *
 generalize msgB m = r at *
 clear h hv
 go_enter Tryz.func76, Tryz.ntmps76
 go_upto_region 1 with fail
 generalize w.alloc (.cells (msA m pv) 33) = w1 at *
 go_wp2_with (refine wpl_load28 rfl (.tmp 1) rfl w.heap.size _ rfl kN rfl ?_)
 refine HM.mono ?_
 rintro e w2 ⟨rfl, b1⟩
 have b2 := nxt b0 b1
 obtain ⟨d0, d1, d2, d3, d4⟩ := (kN.on b1).c5
 clear HM b0 b1 kN
 cases r with
 | false =>
  go_wp2_with fail
  go_ret
  exact ⟨ret_b (by simp), b2⟩
 | true =>
  by_cases hB : m.body = []
  ·go_wp2_with fail
   go_ret
   exact ⟨ret_b (by simp [hB]), b2⟩
  ·go_wp2_with fail
   go_ret
   exact ⟨ret_b (by simp [hB]), b2⟩
theorem goodCl_any (w : World) (c : Cli) (nv : Value) (h : RdNu w nv c.packets) (hb : c.packets.length ≤ 9223372036854775806) :
  Calls Tryz.prog 80 #[.agg #[tx c.name, nv]] w fun e w' => e = .returned (.bool (cliB c)) ∧ Bw w w' := by
 have b0 := (Below.refl w.heap.size w).alloc (Nat.le_refl _) (.cells #[tx c.name, nv] 88)
 have kN := Blk.new w #[tx c.name, nv] 88
 have HN := name7 (w.alloc (.cells #[tx c.name, nv] 88)) ⟨c.name.toArray⟩
 rw [Go.ByteArray.toList_mk] at HN
 obtain ⟨zs, e, hz⟩ := h.on b0
 unfold cliB
 rw [← e] at hb ⊢
 rw [List.length_map] at hb ⊢
 obtain ⟨a, cc, rfl⟩ := hz.len
 have HC := canN _ a zs.length cc zs NuR hz rfl hb 32 131 e131 154 #[] e154 cmpZ (fun W z z' v0 v1 hm hm' h1 h2 => by
  have e1 := (hz.2 z hm).2
  have e2 := (hz.2 z' hm').2
  unfold NuR at e1 e2
  rw [h1] at e1
  rw [h2] at e2
  injection e1 with e1 _
  injection e2 with e2 _
  rw [e1, e2]
  exact (cmpI_any W z.2 z'.2).mono fun e w' h => ⟨h.1, h.2 ▸ Below.refl _ _⟩) pktB (fun W z v0 _ hm h1 => by
  have e1 := (hz.2 z hm).2
  unfold NuR at e1
  rw [h1] at e1
  injection e1 with e1 _
  rw [e1]
  exact (isPkt_any W z.2).mono fun e w' h => ⟨h.1, h.2 ▸ Below.refl _ _⟩)
 generalize nameL c.name = r at *
 clear h hz e
 obtain ⟨n, hn⟩ : ∃ n, zs.length = n := ⟨_, rfl⟩
 rw [hn] at HC hb kN b0 HN ⊢
 have HE : Hid (∀ e, CaR 32 cmpZ pktB zs e → e = .returned (.bool (canL 32 cmpZ pktB (zs.map (·.2))))) := fun e h => car_of h
 generalize canL 32 cmpZ pktB (zs.map (·.2)) = r2 at *
 clear hn
 go_enter Tryz.func80, Tryz.ntmps80
 go_upto_region 1 with fail
 generalize w.alloc (.cells #[tx c.name, .slice a n cc] 88) = w1 at *
 obtain ⟨d0, d1⟩ := kN.c2
 go_wp2_with fail
 refine HN.mono ?_
 rintro e w2 ⟨rfl, h2⟩
 rw [h2]
 clear HN h2 w2
 cases r with
 | false =>
  go_wp2_with fail
  go_ret
  exact ⟨ret_b (by simp), b0⟩
 | true =>
  by_cases h0 : (n : Int) > 0
  ·have h0' : 0 < n := by omega
   go_wp2_with fail
   refine HC.mono ?_
   rintro e w2 ⟨hc, b1⟩
   rw [HE.out e hc]
   have b2 := nxt b0 b1
   clear HC HE hc b0 b1 kN d0 d1
   go_wp2_with fail
   go_ret
   exact ⟨ret_b (by simp [h0']), b2⟩
  ·have h0' : ¬ 0 < n := by omega
   go_wp2_with fail
   go_ret
   exact ⟨ret_b (by simp [h0']), b0⟩
theorem copyP_any (w : World) (v : Value) (l : List Pr) (h : RdP w v l) (hn : l.length ≤ 2513169434916) :
  Calls Tryz.prog 156 #[v] w fun e w' => ∃ v', e = .returned v' ∧ OwnP w' w.heap.size v' l ∧ Bw w w' := by
 have HP : Hid (RdP w v l) := h
 clear h
 go_enter Tryz.func156, Tryz.ntmps156
 go_wp2_with (at_builtin; refine wpl_appP rfl (.const (.slice none 0 0)) (.tmp 3) rfl w.heap.size _ _ [] l _ rfl (World.ownsRow_nil ..) rfl HP.out (by simp; omega) (Nat.le_refl _) ?_)
 intro v' w' h1 h2
 have b1 : Bw w w' := ⟨h2.os, h2.tape, h2.output, h2.size, fun k hk => h2.block k hk (by simp [Value.ownBlock])⟩
 go_wp2_with fail
 go_ret
 exact ⟨_, rfl, by simpa using h1, b1⟩
theorem ret33 {fn : Func} {p : Tmp} {tmps : Array Value} {W : World} {g : Nat} {cs : Array Value} {R : Ending → World → Prop} (hf : fn.results = #[.cell p 33]) (h : Blk W g cs 33) (hs : cs.size = 5) (hp : tmps.getD p undef = .pointer (some ⟨g, 0, none⟩)) (hR : R (.returned (.agg cs)) W) :
  bodyPost Tryz.prog fn R .ret { tmps := tmps, defers := [] } W :=
 bodyPost_ret (results_cell_row hf tmps W g 33 cs (0, 0) _ hp h.h Tryz.underlying33 rfl (by rw [hs]; kernel_rfl)) rfl hR
theorem ret88 {fn : Func} {p : Tmp} {tmps : Array Value} {W : World} {g : Nat} {cs : Array Value} {R : Ending → World → Prop} (hf : fn.results = #[.cell p 88]) (h : Blk W g cs 88) (hs : cs.size = 2) (hp : tmps.getD p undef = .pointer (some ⟨g, 0, none⟩)) (hR : R (.returned (.agg cs)) W) :
  bodyPost Tryz.prog fn R .ret { tmps := tmps, defers := [] } W :=
 bodyPost_ret (results_cell_row hf tmps W g 88 cs (0, 0) _ hp h.h Tryz.underlying88 rfl (by rw [hs]; kernel_rfl)) rfl hR
theorem copyMsg_any (w : World) (m : Msg) (pv : Value) (h : RdP w pv m.props) (hn : m.props.length ≤ 2513169434916) :
  Calls Tryz.prog 86 #[.agg (msgV m pv).toArray] w fun e w' => ∃ pv', e = .returned (.agg (msgV m pv').toArray) ∧ OwnP w' w.heap.size pv' m.props ∧ Bw w w' := by
 unfold msgV
 generalize m.props = l at *
 generalize m.topic = tp at *
 generalize m.body = bd at *
 generalize m.dur = du at *
 generalize m.til = ti at *
 have hb1 : Bw w ((w.alloc (.cells #[tx tp, tx bd, pv, .bool du, .int .i64 ti] 33)).alloc (.cells #[.string ⟨#[]⟩, .string ⟨#[]⟩, .slice none 0 0, .bool false, .int .i64 0] 33)) := ((Below.refl _ w).alloc (Nat.le_refl _) _).alloc (by simp) _
 have hA := (Blk.new w #[tx tp, tx bd, pv, .bool du, .int .i64 ti] 33).alloc (.cells #[.string ⟨#[]⟩, .string ⟨#[]⟩, .slice none 0 0, .bool false, .int .i64 0] 33)
 have hC := Blk.new (w.alloc (.cells #[tx tp, tx bd, pv, .bool du, .int .i64 ti] 33)) #[.string ⟨#[]⟩, .string ⟨#[]⟩, .slice none 0 0, .bool false, .int .i64 0] 33
 rw [World.size_alloc] at hC
 have HP := copyP_any _ pv l (h.on hb1) hn
 clear h
 go_enter Tryz.func86, Tryz.ntmps86
 go_upto_region 1 with fail
 generalize (w.alloc (.cells #[tx tp, tx bd, pv, .bool du, .int .i64 ti] 33)).alloc (.cells #[.string ⟨#[]⟩, .string ⟨#[]⟩, .slice none 0 0, .bool false, .int .i64 0] 33) = w1 at *
 obtain ⟨c0, c1, c2, c3, c4⟩ := hA.c5
 go_wp2_with fail
 refine HP.mono ?_
 rintro e w2 ⟨v', rfl, ho, b2⟩
 have hA2 := hA.on b2
 have hC2 := hC.on b2
 have hb2 := nxt hb1 b2
 have ho2 := OwnP.low ho hb1.size
 clear HP hA hC c0 c1 c2 c3 c4
 obtain ⟨a', c', rfl⟩ := ho.shape
 obtain ⟨n, hn'⟩ : ∃ n, l.length = n := ⟨_, rfl⟩
 rw [hn'] at ho2 ⊢
 clear hn' ho b2 hb1
 obtain ⟨c0, c1, c2, c3, c4⟩ := hA2.c5
 have f4 := hA2.frozen 2
 have hC3 := hC2.setO (j := 2) (g' := w.heap.size) (by omega) (.slice a' n c')
 have hb3 := hb2.setCell (p := ⟨w.heap.size, 2, none⟩) (Nat.le_refl _) (.slice a' n c')
 have ho3 := ho2.keep (kt_setCell (j := 2) hA2 (by decide) (.slice a' n c'))
 clear ho2 hC2 hA2 hb2
 go_wp2_with (refine wpl_store rfl (.tmp 2) (.tmp 7) rfl (w.heap.size + 1) _ rfl rfl hC3 (by kernel_rfl) rfl (by simp [Value.oneCell']) ?_)
 refine ret33 rfl (hC3.row _) rfl rfl ⟨.slice a' n c', rfl, ho3.keep (kt_setRow hC3 (by decide) _), below_setRow hb3 (by omega) _⟩
theorem OwnNu.keep {w w' : World} {B : Nat} {v : Value} {l : List Int} (h : OwnNu w B v l) (hk : Kt 3 w w') : OwnNu w' B v l := by
 obtain ⟨zs, h1, h2⟩ := h
 exact ⟨zs, h1, h2.keep hk⟩
theorem OwnNu.low {w : World} {B B' : Nat} {v : Value} {l : List Int} (h : OwnNu w B' v l) (hB : B ≤ B') : OwnNu w B v l := by
 obtain ⟨zs, h1, h2⟩ := h
 exact ⟨zs, h1, h2.low hB⟩
theorem OwnNu.shape {w : World} {B : Nat} {v : Value} {l : List Int} (h : OwnNu w B v l) : ∃ a c, v = .slice a l.length c := by
 obtain ⟨zs, rfl, h2⟩ := h
 obtain ⟨a, c, e⟩ := h2.rd.len
 exact ⟨a, c, by rw [List.length_map]; exact e⟩
theorem copyNu_any (w : World) (v : Value) (l : List Int) (h : RdNu w v l) (hn : l.length ≤ 100000) :
  Calls Tryz.prog 157 #[v] w fun e w' => ∃ v', e = .returned v' ∧ OwnNu w' w.heap.size v' l ∧ Bw w w' := by
 obtain ⟨zs, rfl, hz⟩ := h
 rw [List.length_map] at hn
 refine (copyN w v zs NuR hz hn).mono ?_
 rintro e w' ⟨v', h1, h2, h3⟩
 exact ⟨v', h1, ⟨zs, rfl, h2⟩, h3⟩
theorem copyClient_any (w : World) (c : Cli) (pv : Value) (h : RdNu w pv c.packets) (hn : c.packets.length ≤ 100000) :
  Calls Tryz.prog 88 #[.agg #[tx c.name, pv]] w fun e w' => ∃ pv', e = .returned (.agg #[tx c.name, pv']) ∧ OwnNu w' w.heap.size pv' c.packets ∧ Bw w w' := by
 generalize c.packets = l at *
 generalize c.name = tp at *
 have hb1 : Bw w ((w.alloc (.cells #[tx tp, pv] 88)).alloc (.cells #[.string ⟨#[]⟩, .slice none 0 0] 88)) := ((Below.refl _ w).alloc (Nat.le_refl _) _).alloc (by simp) _
 have hA := (Blk.new w #[tx tp, pv] 88).alloc (.cells #[.string ⟨#[]⟩, .slice none 0 0] 88)
 have hC := Blk.new (w.alloc (.cells #[tx tp, pv] 88)) #[.string ⟨#[]⟩, .slice none 0 0] 88
 rw [World.size_alloc] at hC
 have HP := copyNu_any _ pv l (h.on hb1) hn
 clear h
 go_enter Tryz.func88, Tryz.ntmps88
 go_upto_region 1 with fail
 generalize (w.alloc (.cells #[tx tp, pv] 88)).alloc (.cells #[.string ⟨#[]⟩, .slice none 0 0] 88) = w1 at *
 obtain ⟨c0, c1⟩ := hA.c2
 go_wp2_with fail
 refine HP.mono ?_
 rintro e w2 ⟨v', rfl, ho, b2⟩
 have hA2 := hA.on b2
 have hC2 := hC.on b2
 have hb2 := nxt hb1 b2
 have ho2 := OwnNu.low ho hb1.size
 clear HP hA hC c0 c1
 obtain ⟨a', c', rfl⟩ := ho.shape
 obtain ⟨n, hn'⟩ : ∃ n, l.length = n := ⟨_, rfl⟩
 rw [hn'] at ho2 ⊢
 clear hn' ho b2 hb1
 obtain ⟨c0, c1⟩ := hA2.c2
 have f4 := hA2.frozen 1
 have hC3 := hC2.setO (j := 1) (g' := w.heap.size) (by omega) (.slice a' n c')
 have hb3 := hb2.setCell (p := ⟨w.heap.size, 1, none⟩) (Nat.le_refl _) (.slice a' n c')
 have ho3 := ho2.keep (kt_setCell (j := 1) hA2 (by decide) (.slice a' n c'))
 clear ho2 hC2 hA2 hb2
 go_wp2_with (refine wpl_store rfl (.tmp 2) (.tmp 7) rfl (w.heap.size + 1) _ rfl rfl hC3 (by kernel_rfl) rfl (by simp [Value.oneCell']) ?_)
 refine ret88 rfl (hC3.row _) rfl rfl ⟨.slice a' n c', rfl, ho3.keep (kt_setRow hC3 (by decide) _), below_setRow hb3 (by omega) _⟩
set_option maxHeartbeats 4000000 in
theorem eachQ {α : Type} (w : World) (v : Value) (zs : Zs α) (R : List Value → α → Prop) (h : RdZ 7 R w v zs) (hn : zs.length ≤ 90000) (f : FuncId) (ef : ∀ args w, (callFunc f args).run Tryz.prog w = .ok (.enter f args) w)
  (Q : World → List Value → α → Prop) (hQ : ∀ W W' ys x, Q W ys x → W.heap.size ≤ W'.heap.size → (∀ t, t ≠ 82 → Kt t W W') → Q W' ys x)
  (hC : ∀ W z, Bw w W → z ∈ zs → Calls Tryz.prog f #[.agg z.1.toArray] W fun e w' => (∃ ys : List Value, e = .returned (.agg ys.toArray) ∧ (ys.length = 7 ∧ ∀ u ∈ ys, u.oneCell' = true) ∧ Q w' ys z.2) ∧ Bw W w') :
  Calls Tryz.prog 81 #[v, .func (.func f) #[] #[]] w fun e w' => ∃ v', e = .returned v' ∧ (∃ ys : Zs α, ys.map (·.2) = zs.map (·.2) ∧ OwnZ 82 7 (Q w') w' w.heap.size v' ys) ∧ Bw w w' := by
 obtain ⟨a, c, rfl⟩ := h.len
 have HI : Hid (RdZ 7 R w (.slice a zs.length c) zs) := h
 clear h
 obtain ⟨n, hnn⟩ : ∃ n, zs.length = n := ⟨_, rfl⟩
 rw [hnn] at HI hn ⊢
 have NI : Hid (zs.length = n) := hnn
 clear hnn
 go_enter Tryz.func81, Tryz.ntmps81
 go_wp2_with fail
 go_loopg [5, 10] n (fun gg s5 s10 wr => ∃ i : Nat, i ≤ n ∧ n - i ≤ gg ∧ s10 = .int .i64 i ∧ Hid ((∃ ys : Zs α, ys.map (·.2) = (zs.map (·.2)).take i ∧ OwnZ 82 7 (Q wr) wr w.heap.size s5 ys) ∧ Bw w wr))
 case atStart => exact ⟨0, Nat.zero_le _, by omega, rfl, ⟨[], by simp, World.ownsRow_nil .., by simp⟩, Below.refl _ _⟩
 case round =>
  obtain ⟨i, hi, hg, rfl, HS⟩ := hrel
  obtain ⟨wt, hwt⟩ : ∃ W, W = wr := ⟨_, rfl⟩
  subst hwt
  by_cases hlt : i < n
  ·have hltz : (i : Int) < (n : Int) := by omega
   have hiz : i < zs.length := by rw [NI.out]; exact hlt
   have hCm := fun W hb => hC W (zs[i]) hb (List.getElem_mem hiz)
   have HX : Hid ((zs.map (·.2)).take (i + 1) = (zs.map (·.2)).take i ++ [(zs[i]).2]) := by
    show (zs.map (·.2)).take (i + 1) = _
    rw [List.take_succ_eq_append_getElem (by rw [List.length_map]; exact hiz), List.getElem_map]
   obtain ⟨b, o, v0, v1, v2, v3, v4, v5, v6, rfl, hz1, _, hone, hcl⟩ := el7_at HI.out (i := i) hiz
   rw [hz1] at hCm
   generalize (zs[i]).2 = x at *
   obtain ⟨c0, c1, c2, c3, c4, c5, c6⟩ := hcl wt HS.out.2
   clear hcl hz1
   go_wp2_with (refine wpl_fresh rfl (.tmp 7) (.tmp 13) rfl _ _ rfl rfl (by kernel_rfl) rfl (by simp [hone.1, hone.2.1, hone.2.2.1, hone.2.2.2.1, hone.2.2.2.2.1, hone.2.2.2.2.2.1, hone.2.2.2.2.2.2]) ?_)
   intro w3 k3 b3 s3
   have B3 := nxt HS.out.2 b3
   have hCw := hCm w3 B3
   obtain ⟨gx, egx⟩ : ∃ g, wt.heap.size = g := ⟨_, rfl⟩
   rw [egx] at k3 ⊢
   clear c0 c1 c2 c3 c4 c5 c6 egx s3 hCm
   go_wp2_with (refine wpList_load_row rfl 82 (.tmp 7) rfl gx rfl 82 _ (0, 0) _ k3.h Tryz.underlying82 rfl (by kernel_rfl) ?_)
   refine hCw.mono ?_
   rintro e w4 ⟨⟨ys, rfl, ⟨hyl, hyo⟩, hyQ⟩, b4⟩
   obtain ⟨y0, y1, y2, y3, y4, y5, y6, rfl⟩ := list7 hyl
   have B34 := nxt b3 b4
   have b5 := (Below.refl w4.heap.size w4).alloc (Nat.le_refl _) (.cells #[y0, y1, y2, y3, y4, y5, y6] 82)
   have k5 := Blk.new w4 #[y0, y1, y2, y3, y4, y5, y6] 82
   obtain ⟨⟨zq, eq1, oq1⟩, bq1⟩ := HS.out
   have B5 := nxt B34 b5
   have oq5 : OwnZ 82 7 (Q (w4.alloc (.cells #[y0, y1, y2, y3, y4, y5, y6] 82))) (w4.alloc (.cells #[y0, y1, y2, y3, y4, y5, y6] 82)) w.heap.size u5 zq := (oq1.keep (.of_below B5)).imp fun ys x h => hQ _ _ _ _ h B5.size (fun t _ => .of_below B5)
   have hq5 : Q (w4.alloc (.cells #[y0, y1, y2, y3, y4, y5, y6] 82)) [y0, y1, y2, y3, y4, y5, y6] x := hQ _ _ _ _ hyQ b5.size (fun t _ => .of_below b5)
   have B05 := nxt bq1 B5
   have hlen : zq.length ≤ 90000 := by
    have := congrArg List.length eq1
    rw [List.length_map, List.length_take, List.length_map] at this
    omega
   have HZQ : Hid (zq.map (·.2) = (zs.map (·.2)).take i) := eq1
   clear HS hCw k3 b3 b4 B34 B3 oq1 bq1 b5 B5 hyQ eq1
   go_wp2_with (at_builtin; refine wpl_halt ?_)
   intro _
   refine wpl_appG kiQ rfl (.tmp 14) (.tmp 18) rfl w.heap.size u5 zq _ _ rfl oq5 w4.heap.size 1 ([y0, y1, y2, y3, y4, y5, y6], x) rfl ⟨⟨rfl, hyo⟩, hq5⟩ (fun j u hu => ?_) (by omega) B05.size ?_
   ·rw [k5.cell j]
    simpa using hu
   ·intro v6 w6 o6 g6
    have O6 : Hid ((∃ ys : Zs α, ys.map (·.2) = (zs.map (·.2)).take (i + 1) ∧ OwnZ 82 7 (Q w6) w6 w.heap.size v6 ys) ∧ Bw w w6) := by
     refine ⟨⟨zq ++ [([y0, y1, y2, y3, y4, y5, y6], x)], by rw [List.map_append, HZQ.out, HX.out]; rfl, o6.imp fun ys x h => hQ _ _ _ _ h g6.size (fun t ht => Kt.of_grown oq5.1 g6 ht)⟩, B05.grown g6 B05.size (fun k hk => (World.ownsRow.lt oq5.1 k hk).1)⟩
    clear o6 g6 oq5 hq5 k5 B05 HZQ HX
    go_wp2_with fail
    go_roundg (n - (i + 1))
    case measure => omega
    case rel => exact ⟨i + 1, by omega, by omega, by go_num, O6.out⟩
  ·have hltz : ¬ (i : Int) < (n : Int) := by omega
   have HT : Hid ((zs.map (·.2)).take i = zs.map (·.2)) := List.take_of_length_le (by rw [List.length_map, NI.out]; omega)
   go_wp2_with fail
   go_ret
   obtain ⟨⟨ys, e1, o1⟩, b1⟩ := HS.out
   exact ⟨_, rfl, ⟨ys, by rw [e1, HT.out], o1⟩, b1⟩
set_option maxHeartbeats 4000000 in
theorem eachM {α : Type} (w : World) (v : Value) (zs : Zs α) (R : List Value → α → Prop) (h : RdZ 5 R w v zs) (hn : zs.length ≤ 90000) (f : FuncId) (ef : ∀ args w, (callFunc f args).run Tryz.prog w = .ok (.enter f args) w)
  (Q : World → List Value → α → Prop) (hQ : ∀ W W' ys x, Q W ys x → W.heap.size ≤ W'.heap.size → (∀ t, t ≠ 33 → Kt t W W') → Q W' ys x)
  (hC : ∀ W z, Bw w W → z ∈ zs → Calls Tryz.prog f #[.agg z.1.toArray] W fun e w' => (∃ ys : List Value, e = .returned (.agg ys.toArray) ∧ (ys.length = 5 ∧ ∀ u ∈ ys, u.oneCell' = true) ∧ Q w' ys z.2) ∧ Bw W w') :
  Calls Tryz.prog 85 #[v, .func (.func f) #[] #[]] w fun e w' => ∃ v', e = .returned v' ∧ (∃ ys : Zs α, ys.map (·.2) = zs.map (·.2) ∧ OwnZ 33 5 (Q w') w' w.heap.size v' ys) ∧ Bw w w' := by
 obtain ⟨a, c, rfl⟩ := h.len
 have HI : Hid (RdZ 5 R w (.slice a zs.length c) zs) := h
 clear h
 obtain ⟨n, hnn⟩ : ∃ n, zs.length = n := ⟨_, rfl⟩
 rw [hnn] at HI hn ⊢
 have NI : Hid (zs.length = n) := hnn
 clear hnn
 go_enter Tryz.func85, Tryz.ntmps85
 go_wp2_with fail
 go_loopg [5, 10] n (fun gg s5 s10 wr => ∃ i : Nat, i ≤ n ∧ n - i ≤ gg ∧ s10 = .int .i64 i ∧ Hid ((∃ ys : Zs α, ys.map (·.2) = (zs.map (·.2)).take i ∧ OwnZ 33 5 (Q wr) wr w.heap.size s5 ys) ∧ Bw w wr))
 case atStart => exact ⟨0, Nat.zero_le _, by omega, rfl, ⟨[], by simp, World.ownsRow_nil .., by simp⟩, Below.refl _ _⟩
 case round =>
  obtain ⟨i, hi, hg, rfl, HS⟩ := hrel
  obtain ⟨wt, hwt⟩ : ∃ W, W = wr := ⟨_, rfl⟩
  subst hwt
  by_cases hlt : i < n
  ·have hltz : (i : Int) < (n : Int) := by omega
   have hiz : i < zs.length := by rw [NI.out]; exact hlt
   have hCm := fun W hb => hC W (zs[i]) hb (List.getElem_mem hiz)
   have HX : Hid ((zs.map (·.2)).take (i + 1) = (zs.map (·.2)).take i ++ [(zs[i]).2]) := by
    show (zs.map (·.2)).take (i + 1) = _
    rw [List.take_succ_eq_append_getElem (by rw [List.length_map]; exact hiz), List.getElem_map]
   obtain ⟨b, o, v0, v1, v2, v3, v4, rfl, hz1, _, hone, hcl⟩ := el5_at HI.out (i := i) hiz
   rw [hz1] at hCm
   generalize (zs[i]).2 = x at *
   obtain ⟨c0, c1, c2, c3, c4⟩ := hcl wt HS.out.2
   clear hcl hz1
   go_wp2_with (refine wpl_fresh rfl (.tmp 7) (.tmp 13) rfl _ _ rfl rfl (by kernel_rfl) rfl (by simp [hone.1, hone.2.1, hone.2.2.1, hone.2.2.2.1, hone.2.2.2.2]) ?_)
   intro w3 k3 b3 s3
   have B3 := nxt HS.out.2 b3
   have hCw := hCm w3 B3
   obtain ⟨gx, egx⟩ : ∃ g, wt.heap.size = g := ⟨_, rfl⟩
   rw [egx] at k3 ⊢
   clear c0 c1 c2 c3 c4 egx s3 hCm
   go_wp2_with (refine wpList_load_row rfl 33 (.tmp 7) rfl gx rfl 33 _ (0, 0) _ k3.h Tryz.underlying33 rfl (by kernel_rfl) ?_)
   refine hCw.mono ?_
   rintro e w4 ⟨⟨ys, rfl, ⟨hyl, hyo⟩, hyQ⟩, b4⟩
   obtain ⟨y0, y1, y2, y3, y4, rfl⟩ := list5 hyl
   have B34 := nxt b3 b4
   have b5 := (Below.refl w4.heap.size w4).alloc (Nat.le_refl _) (.cells #[y0, y1, y2, y3, y4] 33)
   have k5 := Blk.new w4 #[y0, y1, y2, y3, y4] 33
   obtain ⟨⟨zq, eq1, oq1⟩, bq1⟩ := HS.out
   have B5 := nxt B34 b5
   have oq5 : OwnZ 33 5 (Q (w4.alloc (.cells #[y0, y1, y2, y3, y4] 33))) (w4.alloc (.cells #[y0, y1, y2, y3, y4] 33)) w.heap.size u5 zq := (oq1.keep (.of_below B5)).imp fun ys x h => hQ _ _ _ _ h B5.size (fun t _ => .of_below B5)
   have hq5 : Q (w4.alloc (.cells #[y0, y1, y2, y3, y4] 33)) [y0, y1, y2, y3, y4] x := hQ _ _ _ _ hyQ b5.size (fun t _ => .of_below b5)
   have B05 := nxt bq1 B5
   have hlen : zq.length ≤ 90000 := by
    have := congrArg List.length eq1
    rw [List.length_map, List.length_take, List.length_map] at this
    omega
   have HZQ : Hid (zq.map (·.2) = (zs.map (·.2)).take i) := eq1
   clear HS hCw k3 b3 b4 B34 B3 oq1 bq1 b5 B5 hyQ eq1
   go_wp2_with (at_builtin; refine wpl_halt ?_)
   intro _
   refine wpl_appG kiM rfl (.tmp 14) (.tmp 18) rfl w.heap.size u5 zq _ _ rfl oq5 w4.heap.size 1 ([y0, y1, y2, y3, y4], x) rfl ⟨⟨rfl, hyo⟩, hq5⟩ (fun j u hu => ?_) (by omega) B05.size ?_
   ·rw [k5.cell j]
    simpa using hu
   ·intro v6 w6 o6 g6
    have O6 : Hid ((∃ ys : Zs α, ys.map (·.2) = (zs.map (·.2)).take (i + 1) ∧ OwnZ 33 5 (Q w6) w6 w.heap.size v6 ys) ∧ Bw w w6) := by
     refine ⟨⟨zq ++ [([y0, y1, y2, y3, y4], x)], by rw [List.map_append, HZQ.out, HX.out]; rfl, o6.imp fun ys x h => hQ _ _ _ _ h g6.size (fun t ht => Kt.of_grown oq5.1 g6 ht)⟩, B05.grown g6 B05.size (fun k hk => (World.ownsRow.lt oq5.1 k hk).1)⟩
    clear o6 g6 oq5 hq5 k5 B05 HZQ HX
    go_wp2_with fail
    go_roundg (n - (i + 1))
    case measure => omega
    case rel => exact ⟨i + 1, by omega, by omega, by go_num, O6.out⟩
  ·have hltz : ¬ (i : Int) < (n : Int) := by omega
   have HT : Hid ((zs.map (·.2)).take i = zs.map (·.2)) := List.take_of_length_le (by rw [List.length_map, NI.out]; omega)
   go_wp2_with fail
   go_ret
   obtain ⟨⟨ys, e1, o1⟩, b1⟩ := HS.out
   exact ⟨_, rfl, ⟨ys, by rw [e1, HT.out], o1⟩, b1⟩
def ApT {α : Type} (bl : List Value → Option Nat) (w : World) (ys : Zs α) : Prop := ys.Pairwise (fun y y' => ∀ g, bl y.1 = some g → bl y'.1 ≠ some g) ∧ ∀ y ∈ ys, ∀ g, bl y.1 = some g → g < w.heap.size
theorem ApT.on {α : Type} {bl : List Value → Option Nat} {w w' : World} {ys : Zs α} (h : ApT bl w ys) (hs : w.heap.size ≤ w'.heap.size) : ApT bl w' ys := ⟨h.1, fun y hy g hg => Nat.lt_of_lt_of_le (h.2 y hy g hg) hs⟩
theorem apT_nil {α : Type} {bl : List Value → Option Nat} {w : World} : ApT bl w ([] : Zs α) := ⟨List.Pairwise.nil, by simp⟩
theorem apT_snoc {α : Type} {bl : List Value → Option Nat} {w w' : World} {ys : Zs α} {y : List Value × α} {s s' : Nat} (h : ApT bl w ys) (hw : w.heap.size ≤ s) (hy : ∀ g, bl y.1 = some g → s ≤ g ∧ g < s') (hs : s' ≤ w'.heap.size) (hww : w.heap.size ≤ w'.heap.size) : ApT bl w' (ys ++ [y]) := by
 refine ⟨List.pairwise_append.2 ⟨h.1, List.pairwise_singleton _ _, fun a ha b hb g hg hg' => ?_⟩, fun a ha g hg => ?_⟩
 ·rw [List.mem_singleton.1 hb] at hg'
  have h1 := h.2 a ha g hg
  have h2 := (hy g hg').1
  omega
 ·rcases List.mem_append.1 ha with ha | ha
  ·have h1 := h.2 a ha g hg
   omega
  ·rw [List.mem_singleton.1 ha] at hg
   have h2 := (hy g hg).2
   omega
set_option maxHeartbeats 4000000 in
theorem eachC2 {α : Type} (w : World) (v : Value) (zs : Zs α) (R : List Value → α → Prop) (h : RdZ 2 R w v zs) (hn : zs.length ≤ 90000) (f : FuncId) (ef : ∀ args w, (callFunc f args).run Tryz.prog w = .ok (.enter f args) w)
  (bl : List Value → Option Nat) (Q : World → List Value → α → Prop) (hQ : ∀ W W' ys x, Q W ys x → W.heap.size ≤ W'.heap.size → (∀ t, t ≠ 88 → Kt t W W') → Q W' ys x)
  (hC : ∀ W z, Bw w W → z ∈ zs → Calls Tryz.prog f #[.agg z.1.toArray] W fun e w' => (∃ ys : List Value, e = .returned (.agg ys.toArray) ∧ (ys.length = 2 ∧ ∀ u ∈ ys, u.oneCell' = true) ∧ Q w' ys z.2 ∧ ∀ g, bl ys = some g → W.heap.size ≤ g ∧ g < w'.heap.size) ∧ Bw W w') :
  Calls Tryz.prog 87 #[v, .func (.func f) #[] #[]] w fun e w' => ∃ v', e = .returned v' ∧ (∃ ys : Zs α, ys.map (·.2) = zs.map (·.2) ∧ OwnZ 88 2 (Q w') w' w.heap.size v' ys ∧ ApT bl w' ys) ∧ Bw w w' := by
 obtain ⟨a, c, rfl⟩ := h.len
 have HI : Hid (RdZ 2 R w (.slice a zs.length c) zs) := h
 clear h
 obtain ⟨n, hnn⟩ : ∃ n, zs.length = n := ⟨_, rfl⟩
 rw [hnn] at HI hn ⊢
 have NI : Hid (zs.length = n) := hnn
 clear hnn
 go_enter Tryz.func87, Tryz.ntmps87
 go_wp2_with fail
 go_loopg [5, 10] n (fun gg s5 s10 wr => ∃ i : Nat, i ≤ n ∧ n - i ≤ gg ∧ s10 = .int .i64 i ∧ Hid ((∃ ys : Zs α, ys.map (·.2) = (zs.map (·.2)).take i ∧ OwnZ 88 2 (Q wr) wr w.heap.size s5 ys ∧ ApT bl wr ys) ∧ Bw w wr))
 case atStart => exact ⟨0, Nat.zero_le _, by omega, rfl, ⟨[], by simp, ⟨World.ownsRow_nil .., by simp⟩, apT_nil⟩, Below.refl _ _⟩
 case round =>
  obtain ⟨i, hi, hg, rfl, HS⟩ := hrel
  obtain ⟨wt, hwt⟩ : ∃ W, W = wr := ⟨_, rfl⟩
  subst hwt
  by_cases hlt : i < n
  ·have hltz : (i : Int) < (n : Int) := by omega
   have hiz : i < zs.length := by rw [NI.out]; exact hlt
   have hCm := fun W hb => hC W (zs[i]) hb (List.getElem_mem hiz)
   have HX : Hid ((zs.map (·.2)).take (i + 1) = (zs.map (·.2)).take i ++ [(zs[i]).2]) := by
    show (zs.map (·.2)).take (i + 1) = _
    rw [List.take_succ_eq_append_getElem (by rw [List.length_map]; exact hiz), List.getElem_map]
   obtain ⟨b, o, v0, v1, rfl, hz1, _, hone, hcl⟩ := el2_at HI.out (i := i) hiz
   rw [hz1] at hCm
   generalize (zs[i]).2 = x at *
   obtain ⟨c0, c1⟩ := hcl wt HS.out.2
   clear hcl hz1
   go_wp2_with (refine wpl_fresh rfl (.tmp 7) (.tmp 13) rfl _ _ rfl rfl (by kernel_rfl) rfl (by simp [hone.1, hone.2]) ?_)
   intro w3 k3 b3 s3
   have B3 := nxt HS.out.2 b3
   have hCw := hCm w3 B3
   obtain ⟨gx, egx⟩ : ∃ g, wt.heap.size = g := ⟨_, rfl⟩
   rw [egx] at k3 ⊢
   clear c0 c1 egx s3 hCm
   go_wp2_with (refine wpList_load_row rfl 88 (.tmp 7) rfl gx rfl 88 _ (0, 0) _ k3.h Tryz.underlying88 rfl (by kernel_rfl) ?_)
   refine hCw.mono ?_
   rintro e w4 ⟨⟨ys, rfl, ⟨hyl, hyo⟩, hyQ, hyB⟩, b4⟩
   obtain ⟨y0, y1, rfl⟩ := list2 hyl
   have B34 := nxt b3 b4
   have b5 := (Below.refl w4.heap.size w4).alloc (Nat.le_refl _) (.cells #[y0, y1] 88)
   have k5 := Blk.new w4 #[y0, y1] 88
   obtain ⟨⟨zq, eq1, oq1, aq1⟩, bq1⟩ := HS.out
   have A5 : Hid (ApT bl (w4.alloc (.cells #[y0, y1] 88)) (zq ++ [([y0, y1], x)])) := apT_snoc aq1 b3.size hyB b5.size (nxt B34 b5).size
   have B5 := nxt B34 b5
   have oq5 : OwnZ 88 2 (Q (w4.alloc (.cells #[y0, y1] 88))) (w4.alloc (.cells #[y0, y1] 88)) w.heap.size u5 zq := (oq1.keep (.of_below B5)).imp fun ys x h => hQ _ _ _ _ h B5.size (fun t _ => .of_below B5)
   have hq5 : Q (w4.alloc (.cells #[y0, y1] 88)) [y0, y1] x := hQ _ _ _ _ hyQ b5.size (fun t _ => .of_below b5)
   have B05 := nxt bq1 B5
   have hlen : zq.length ≤ 90000 := by
    have := congrArg List.length eq1
    rw [List.length_map, List.length_take, List.length_map] at this
    omega
   have HZQ : Hid (zq.map (·.2) = (zs.map (·.2)).take i) := eq1
   clear HS hCw hyB aq1 k3 b3 b4 B34 B3 oq1 bq1 b5 B5 hyQ eq1
   go_wp2_with (at_builtin; refine wpl_halt ?_)
   intro _
   refine wpl_appG kiC rfl (.tmp 14) (.tmp 18) rfl w.heap.size u5 zq _ _ rfl oq5 w4.heap.size 1 ([y0, y1], x) rfl ⟨⟨rfl, hyo⟩, hq5⟩ (fun j u hu => ?_) (by omega) B05.size ?_
   ·rw [k5.cell j]
    simpa using hu
   ·intro v6 w6 o6 g6
    have O6 : Hid ((∃ ys : Zs α, ys.map (·.2) = (zs.map (·.2)).take (i + 1) ∧ OwnZ 88 2 (Q w6) w6 w.heap.size v6 ys ∧ ApT bl w6 ys) ∧ Bw w w6) := by
     refine ⟨⟨zq ++ [([y0, y1], x)], by rw [List.map_append, HZQ.out, HX.out]; rfl, o6.imp fun ys x h => hQ _ _ _ _ h g6.size (fun t ht => Kt.of_grown oq5.1 g6 ht), A5.out.on g6.size⟩, B05.grown g6 B05.size (fun k hk => (World.ownsRow.lt oq5.1 k hk).1)⟩
    clear o6 g6 oq5 hq5 k5 B05 HZQ HX
    go_wp2_with fail
    go_roundg (n - (i + 1))
    case measure => omega
    case rel => exact ⟨i + 1, by omega, by omega, by go_num, O6.out⟩
  ·have hltz : ¬ (i : Int) < (n : Int) := by omega
   have HT : Hid ((zs.map (·.2)).take i = zs.map (·.2)) := List.take_of_length_le (by rw [List.length_map, NI.out]; omega)
   go_wp2_with fail
   go_ret
   obtain ⟨⟨ys, e1, o1, a1⟩, b1⟩ := HS.out
   exact ⟨_, rfl, ⟨ys, by rw [e1, HT.out], o1, a1⟩, b1⟩
theorem wpl_appBn {α : Type} {ops : Array Oper} {rest : List Oper} {o : Oper} {a : Act} {Q : Exit → Act → World → Prop} (hgd : o.guard = none) (s x : Operand)
  (ho : o.op = .call { callee := .builtin .append, args := #[s, x], argTypes := #[25, 25] }) (B : Nat) (v vx : Value) (zs zs2 : Zs α) (R : List Value → α → Prop) (w : World)
  (hs : a.eval s = v) (hown : OwnZ 43 2 R w B v zs) (hx : a.eval x = vx) (hsrc : RdZ 2 R w vx zs2) (hn : zs.length + zs2.length ≤ 100000) (hB : B ≤ w.heap.size)
  (h : ∀ v' w', OwnZ 43 2 R w' B v' (zs ++ zs2) → w.grownBy w' v.ownBlock → wpList Tryz.prog ops Q rest (a.put o.dst v') w') : wpList Tryz.prog ops Q (o :: rest) a w := by
 refine wpList_plain hgd fun K hK => ?_
 obtain ⟨i0, hi, hz0, hz1, hz2⟩ := info_parts kiB.inf
 have hall : ∀ y ∈ zs ++ zs2, (y.1.length = 2 ∧ ∀ u ∈ y.1, u.oneCell' = true) ∧ R y.1 y.2 := fun y hy => by
  rcases List.mem_append.1 hy with hy | hy
  ·exact hown.2 y hy
  ·exact hsrc.2 y hy
 rcases hsrc.1 with ⟨⟨ad, c, rfl⟩, rfl⟩ | ⟨b, off, c, rfl, hc, hcell⟩
 ·have hrun : (Builtin.append_ #[25, 25] o.type #[v, .slice ad 0 c]).run Tryz.prog w = .ok v w := by
   rcases hown.1.2 with ⟨rfl, _⟩ | ⟨g, cap, cur, rfl, _, _, hnc, _⟩
   ·cases ad <;> simp [Builtin.append_, run_underlying Tryz.underlying25, sizeOf, typeInfo, hi, Builtin.lenOf, Builtin.firstCells, loadCells, loadCellsFrom]
   ·cases ad <;> simp [Builtin.append_, run_underlying Tryz.underlying25, sizeOf, typeInfo, hi, Builtin.lenOf, Builtin.firstCells, hnc, storeCells, loadCells, loadCellsFrom]
  unfold Oper.wp execOp
  simp only [ho, resolve, invoke, builtin, Sem.run_bind, Sem.run_pure, Result.andThen_ok, List.map_toArray, List.map_cons, List.map_nil, hs, hx, hrun]
  exact hK _ _ (h v w (by rw [List.append_nil]; exact hown) (World.grownBy.refl _ _))
 ·have hk : ∀ z ∈ zs2, z.1.length = 2 := fun z hz => (hsrc.2 z hz).1.1
  refine wp_append_own _ s x 25 ho B 43 i0 (.agg #[.string ⟨#[]⟩, .string ⟨#[]⟩]) 2 32 Tryz.underlying25 hi hz0 hz1 hz2 rfl (by decide) v zs.length (cellsZ zs) hs hown.1 ⟨b, off, none⟩ zs2.length c (cellsZ zs2) hx (cellsZ_len hk) ?_ ?_ (by unfold maxLen; omega) (by omega) hB ?_
  ·intro j u hj
   rw [Addr.add_lit]
   exact hcell j u hj
  ·intro u hu
   simp only [cellsZ, List.mem_flatMap] at hu
   obtain ⟨z, hz, hu⟩ := hu
   exact (hsrc.2 z hz).1.2 u hu
  ·intro v' w' h1 h2 _
   refine hK _ _ (h v' w' ⟨?_, hall⟩ h2)
   rw [cellsZ_app, List.length_append]
   exact h1
theorem wpl_appSn {α : Type} {ops : Array Oper} {rest : List Oper} {o : Oper} {a : Act} {Q : Exit → Act → World → Prop} (hgd : o.guard = none) (s x : Operand)
  (ho : o.op = .call { callee := .builtin .append, args := #[s, x], argTypes := #[26, 26] }) (B : Nat) (v vx : Value) (zs zs2 : Zs α) (R : List Value → α → Prop) (w : World)
  (hs : a.eval s = v) (hown : OwnZ 85 5 R w B v zs) (hx : a.eval x = vx) (hsrc : RdZ 5 R w vx zs2) (hn : zs.length + zs2.length ≤ 100000) (hB : B ≤ w.heap.size)
  (h : ∀ v' w', OwnZ 85 5 R w' B v' (zs ++ zs2) → w.grownBy w' v.ownBlock → wpList Tryz.prog ops Q rest (a.put o.dst v') w') : wpList Tryz.prog ops Q (o :: rest) a w := by
 refine wpList_plain hgd fun K hK => ?_
 obtain ⟨i0, hi, hz0, hz1, hz2⟩ := info_parts kiS.inf
 have hall : ∀ y ∈ zs ++ zs2, (y.1.length = 5 ∧ ∀ u ∈ y.1, u.oneCell' = true) ∧ R y.1 y.2 := fun y hy => by
  rcases List.mem_append.1 hy with hy | hy
  ·exact hown.2 y hy
  ·exact hsrc.2 y hy
 rcases hsrc.1 with ⟨⟨ad, c, rfl⟩, rfl⟩ | ⟨b, off, c, rfl, hc, hcell⟩
 ·have hrun : (Builtin.append_ #[26, 26] o.type #[v, .slice ad 0 c]).run Tryz.prog w = .ok v w := by
   rcases hown.1.2 with ⟨rfl, _⟩ | ⟨g, cap, cur, rfl, _, _, hnc, _⟩
   ·cases ad <;> simp [Builtin.append_, run_underlying Tryz.underlying26, sizeOf, typeInfo, hi, Builtin.lenOf, Builtin.firstCells, loadCells, loadCellsFrom]
   ·cases ad <;> simp [Builtin.append_, run_underlying Tryz.underlying26, sizeOf, typeInfo, hi, Builtin.lenOf, Builtin.firstCells, hnc, storeCells, loadCells, loadCellsFrom]
  unfold Oper.wp execOp
  simp only [ho, resolve, invoke, builtin, Sem.run_bind, Sem.run_pure, Result.andThen_ok, List.map_toArray, List.map_cons, List.map_nil, hs, hx, hrun]
  exact hK _ _ (h v w (by rw [List.append_nil]; exact hown) (World.grownBy.refl _ _))
 ·have hk : ∀ z ∈ zs2, z.1.length = 5 := fun z hz => (hsrc.2 z hz).1.1
  refine wp_append_own _ s x 26 ho B 85 i0 (.agg #[.int .i64 0, .int .i64 0, .string ⟨#[]⟩, .int .i64 0, .bool false]) 5 48 Tryz.underlying26 hi hz0 hz1 hz2 rfl (by decide) v zs.length (cellsZ zs) hs hown.1 ⟨b, off, none⟩ zs2.length c (cellsZ zs2) hx (cellsZ_len hk) ?_ ?_ (by unfold maxLen; omega) (by omega) hB ?_
  ·intro j u hj
   rw [Addr.add_lit]
   exact hcell j u hj
  ·intro u hu
   simp only [cellsZ, List.mem_flatMap] at hu
   obtain ⟨z, hz, hu⟩ := hu
   exact (hsrc.2 z hz).1.2 u hu
  ·intro v' w' h1 h2 _
   refine hK _ _ (h v' w' ⟨?_, hall⟩ h2)
   rw [cellsZ_app, List.length_append]
   exact h1
theorem copyB {α : Type} (w : World) (v : Value) (zs : Zs α) (R : List Value → α → Prop) (h : RdZ 2 R w v zs) (hn : zs.length ≤ 100000) :
  Calls Tryz.prog 83 #[v] w fun e w' => ∃ v', e = .returned v' ∧ OwnZ 43 2 R w' w.heap.size v' zs ∧ Bw w w' := by
 obtain ⟨a, c, rfl⟩ := h.len
 have HH : Hid (RdZ 2 R w (.slice a zs.length c) zs) := h
 clear h
 obtain ⟨n, hnn⟩ : ∃ n, zs.length = n := ⟨_, rfl⟩
 rw [hnn] at HH hn ⊢
 have HN : Hid (zs.length = n) := hnn
 clear hnn
 go_enter Tryz.func83, Tryz.ntmps83
 go_wp2_with (at_builtin; refine wpl_appBn rfl (.const (.slice none 0 0)) (.tmp 3) rfl w.heap.size _ _ [] zs R w rfl ⟨World.ownsRow_nil .., by simp⟩ rfl HH.out (by rw [HN.out]; simp; omega) (Nat.le_refl _) ?_)
 intro v' w' h1 h2
 have b1 : Bw w w' := ⟨h2.os, h2.tape, h2.output, h2.size, fun k hk => h2.block k hk (by simp [Value.ownBlock])⟩
 go_wp2_with fail
 go_ret
 exact ⟨_, rfl, by simpa using h1, b1⟩
theorem copyS {α : Type} (w : World) (v : Value) (zs : Zs α) (R : List Value → α → Prop) (h : RdZ 5 R w v zs) (hn : zs.length ≤ 100000) :
  Calls Tryz.prog 84 #[v] w fun e w' => ∃ v', e = .returned v' ∧ OwnZ 85 5 R w' w.heap.size v' zs ∧ Bw w w' := by
 obtain ⟨a, c, rfl⟩ := h.len
 have HH : Hid (RdZ 5 R w (.slice a zs.length c) zs) := h
 clear h
 obtain ⟨n, hnn⟩ : ∃ n, zs.length = n := ⟨_, rfl⟩
 rw [hnn] at HH hn ⊢
 have HN : Hid (zs.length = n) := hnn
 clear hnn
 go_enter Tryz.func84, Tryz.ntmps84
 go_wp2_with (at_builtin; refine wpl_appSn rfl (.const (.slice none 0 0)) (.tmp 3) rfl w.heap.size _ _ [] zs R w rfl ⟨World.ownsRow_nil .., by simp⟩ rfl HH.out (by rw [HN.out]; simp; omega) (Nat.le_refl _) ?_)
 intro v' w' h1 h2
 have b1 : Bw w w' := ⟨h2.os, h2.tape, h2.output, h2.size, fun k hk => h2.block k hk (by simp [Value.ownBlock])⟩
 go_wp2_with fail
 go_ret
 exact ⟨_, rfl, by simpa using h1, b1⟩
set_option maxHeartbeats 4000000 in
theorem canQ {α : Type} (w : World) (a : Option Addr) (n c : Nat) (zs : Zs α) (R : List Value → α → Prop) (h : RdZ 7 R w (.slice a n c) zs) (hn : zs.length = n) (hbig : n ≤ 9223372036854775806) (most : Int) (f : FuncId) (ef : ∀ args w, (callFunc f args).run Tryz.prog w = .ok (.enter f args) w) (gg : FuncId) (lb : Array Value) (eg : ∀ args w, (callFunc gg args).run Tryz.prog w = .ok (.enter gg args) w)
  (cmp : α → α → Int) (hC : ∀ W z z', z ∈ zs → z' ∈ zs → Calls Tryz.prog f #[.agg z.1.toArray, .agg z'.1.toArray] W fun e w' => e = .returned (.int .i64 (cmp z.2 z'.2)) ∧ Bw W w')
  (good : α → Bool) (hG : ∀ W z, Bw w W → z ∈ zs → Calls Tryz.prog gg (#[.agg z.1.toArray] ++ lb) W fun e w' => e = .returned (.bool (good z.2)) ∧ Bw W w') :
  Calls Tryz.prog 62 #[.slice a n c, .int .i64 most, .func (.func f) #[] #[], .func (.func gg) #[] lb] w fun e w' => CaR most cmp good zs e ∧ Bw w w' := by
 have HI : Hid (RdZ 7 R w (.slice a n c) zs) := h
 have NI : Hid (zs.length = n) := hn
 clear h hn
 go_enter Tryz.func62, Tryz.ntmps62
 by_cases hm : (n : Int) > most
 ·have HK1 : Hid (false = true ↔ CaP most cmp good zs) := by
   show _ ↔ _
   constructor
   ·intro h
    cases h
   ·rintro ⟨h, _⟩
    rw [NI.out] at h
    omega
  go_wp2_with fail
  go_ret
  exact ⟨car_mk HK1.out, Below.refl _ _⟩
 ·have HM : Hid ((zs.length : Int) ≤ most) := by show (zs.length : Int) ≤ most; rw [NI.out]; omega
  go_wp2_with fail
  go_loopg [17] n (fun gq s17 wr => ∃ i : Nat, i ≤ n ∧ n - i ≤ gq ∧ s17 = .int .i64 i ∧ Hid (CaK cmp good zs i) ∧ Hid (Bw w wr))
  case atStart => exact ⟨0, Nat.zero_le _, by omega, rfl, ⟨fun j hj h => absurd h (by omega), fun j hj h => absurd h (by omega)⟩, Below.refl _ _⟩
  case round =>
   obtain ⟨i, hi, hgq, rfl, HK, HS⟩ := hrel
   obtain ⟨wt, hwt⟩ : ∃ W, W = wr := ⟨_, rfl⟩
   subst hwt
   by_cases hlt : i < n
   ·have hltz : (i : Int) < (n : Int) := by omega
    have hmz : i < zs.length := by rw [NI.out]; exact hlt
    have hGm := fun W hb => hG W (zs[i]) hb (List.getElem_mem hmz)
    obtain ⟨b, o, v0, v1, v2, v3, v4, v5, v6, rfl, hz1, _, hone, hcl⟩ := el7_at HI.out (i := i) hmz
    rw [hz1] at hGm
    obtain ⟨c0, c1, c2, c3, c4, c5, c6⟩ := hcl wt HS.out
    have HGB : Hid (∀ gb, gb = good (zs[i]).2 → (gb = false → (false = true ↔ CaP most cmp good zs))) := fun gb e e2 => by
     constructor
     ·intro h
      cases h
     ·rintro ⟨_, h, _⟩
      have := h i hmz
      rw [← e, e2] at this
      cases this
    obtain ⟨gb, hgb⟩ : ∃ gb, gb = good (zs[i]).2 := ⟨_, rfl⟩
    have HGB2 : Hid (gb = false → (false = true ↔ CaP most cmp good zs)) := HGB.out gb hgb
    have HEB : Hid (gb = good (zs[i]).2) := hgb
    rw [← hgb] at hGm
    clear HGB hgb
    clear hcl
    go_wp2_with (refine wpl_fresh rfl (.tmp 10) (.tmp 21) rfl _ _ rfl rfl (by kernel_rfl) rfl (by simp [hone.1, hone.2.1, hone.2.2.1, hone.2.2.2.1, hone.2.2.2.2.1, hone.2.2.2.2.2.1, hone.2.2.2.2.2.2]) ?_)
    intro w3 k3 b3 s3
    clear c0 c1 c2 c3 c4 c5 c6
    obtain ⟨gx, egx⟩ : ∃ g, wt.heap.size = g := ⟨_, rfl⟩
    rw [egx] at k3 ⊢
    clear egx
    go_upto_region 6 with fail
    by_cases hi0 : i = 0
    ·have hz0 : ¬ (i : Int) > 0 := by omega
     have hz1' : decide ((0 : Int) < (i : Int)) = false := by simp; omega
     have HI0 : Hid (i = 0) := hi0
     clear hi0
     refine rh (fun W => Bw w W ∧ Blk W gx #[v0, v1, v2, v3, v4, v5, v6] 82) ?_
     have hS : Bw w w3.drew ∧ Blk w3.drew gx #[v0, v1, v2, v3, v4, v5, v6] 82 := ⟨(nxt HS.out b3).drew, ⟨k3.h⟩⟩
     clear HS b3 k3 s3
     generalize w3.drew = wv at *
     refine tks [0, 1, 2, 3, 4, 5, 6, 7, 8, 9, 10, 11, 12, 13, 14, 15] [.int .i64 i, .bool false, .bool false, undef, undef, undef, undef, undef, undef, undef, undef, undef, .bool false, .bool false, .func (.func gg) #[] lb, .agg #[v0, v1, v2, v3, v4, v5, v6]] 3 ?_ hS ?_
     ·simp only [tkY, tkf]
      refine ⟨.yes ?_, .yes ?_, .yes ?_, .no, .no, .no, .no, .no, .no, .no, .no, .no, .yes ?_, .yes ?_, .yes ?_, .yes ?_, trivial⟩
      all_goals
       intro W' hW'
       have := hW'.2.ce 0
       have := hW'.2.ce 1
       have := hW'.2.ce 2
       have := hW'.2.ce 3
       have := hW'.2.ce 4
       have := hW'.2.ce 5
       have := hW'.2.ce 6
       go_simp
       all_goals first | omega | (rw [IntKind.wrap_i64]; omega)
     simp only [tkA, tkf]
     refine ak 16 fun K hK => ?_
     go_simp
     refine (hGm _ hS.1).mono ?_
     rintro e w5 ⟨rfl, b5⟩
     have hS5 : Bw w w5 ∧ Blk w5 gx #[v0, v1, v2, v3, v4, v5, v6] 82 := ⟨nxt hS.1 b5, hS.2.on b5⟩
     show K _ _
     refine hK _ _ hS5 ?_
     clear hK K hS b5
     try simp only [tkf]
     refine tks [17, 18] [.bool (!gb), .bool (!gb)] 0 ?_ hS5 ?_
     ·simp only [tkY, tkf]
      refine ⟨.yes ?_, .yes ?_, trivial⟩
      all_goals
       intro W' hW'
       go_simp
       all_goals first | omega | (rw [IntKind.wrap_i64]; omega)
     simp only [tkA, tkf]
     refine ad ?_
     have HS5 : Hid (Bw w w5) := hS5.1
     clear hS5
     cases gb with
     | true =>
      have HK1 : Hid (CaK cmp good zs (i + 1)) := HK.out.next hmz (by rw [← HEB.out]) (fun h0 => absurd HI0.out (by omega))
      go_wp2_with fail
      go_roundg (n - (i + 1))
      case measure => omega
      case rel => exact ⟨i + 1, by omega, by omega, by go_num, HK1.out, HS5.out⟩
     | false =>
      have HK1 : Hid (false = true ↔ CaP most cmp good zs) := HGB2.out rfl
      go_wp2_with fail
      go_ret
      exact ⟨car_mk HK1.out, HS5.out⟩
    ·obtain ⟨j, hj⟩ : ∃ j, i = j + 1 := ⟨i - 1, by omega⟩
     have hz0 : (i : Int) > 0 := by omega
     have hz1' : decide ((0 : Int) < (i : Int)) = true := by simp; omega
     have hjI : (i : Int) - 1 = (j : Int) := by omega
     have hjn : (j : Int) < (n : Int) := by omega
     have hjz : j < zs.length := by omega
     have hCm := fun W => hC W (zs[j]) (zs[i]) (List.getElem_mem hjz) (List.getElem_mem hmz)
     obtain ⟨b2, o2, u0, u1, u2, u3, u4, u5, u6, e2, hz2, _, hone2, hcl2⟩ := el7_at HI.out (i := j) hjz
     injection e2 with e2
     injection e2 with e2 e3
     subst e2 e3
     have HC2 : Hid _ := hcl2
     rw [hz1, hz2] at hCm
     have HCZ : Hid (∀ cz, cz = cmp (zs[j]).2 (zs[i]).2 → (¬ cz < 0 → (false = true ↔ CaP most cmp good zs))) := fun cz e e2 => by
      constructor
      ·intro h
       cases h
      ·rintro ⟨_, _, h⟩
       have h3 := h j (by omega)
       simp only [← hj] at h3
       rw [← e] at h3
       exact absurd h3 e2
     obtain ⟨cz, hcz⟩ : ∃ cz, cz = cmp (zs[j]).2 (zs[i]).2 := ⟨_, rfl⟩
     have HCZ2 : Hid (¬ cz < 0 → (false = true ↔ CaP most cmp good zs)) := HCZ.out cz hcz
     have HEC : Hid (cz = cmp (zs[j]).2 (zs[i]).2) := hcz
     rw [← hcz] at hCm
     have HJ : Hid (i = j + 1) := hj
     clear HCZ hcz hcl2 hz2 hj hi0
     refine rh (fun W => Bw w W ∧ Blk W gx #[v0, v1, v2, v3, v4, v5, v6] 82) ?_
     have hS : Bw w w3.drew ∧ Blk w3.drew gx #[v0, v1, v2, v3, v4, v5, v6] 82 := ⟨(nxt HS.out b3).drew, ⟨k3.h⟩⟩
     clear HS b3 k3 s3
     generalize w3.drew = wv at *
     refine tks [0, 1, 2, 3, 4, 5, 6, 7, 8, 9] [.int .i64 i, .bool true, .bool true, .func (.func f) #[] #[], .slice (some ⟨b, o, none⟩) n c, .int .i64 i, .int .i64 j, .pointer (some ⟨b, o + j * 7, none⟩), .agg #[u0, u1, u2, u3, u4, u5, u6], .agg #[v0, v1, v2, v3, v4, v5, v6]] 9 ?_ hS ?_
     ·simp only [tkY, tkf]
      refine ⟨.yes ?_, .yes ?_, .yes ?_, .yes ?_, .yes ?_, .yes ?_, .yes ?_, .yes ?_, .yes ?_, .yes ?_, trivial⟩
      all_goals
       intro W' hW'
       obtain ⟨c0, c1, c2, c3, c4, c5, c6⟩ := HC2.out _ hW'.1
       have := hW'.2.ce 0
       have := hW'.2.ce 1
       have := hW'.2.ce 2
       have := hW'.2.ce 3
       have := hW'.2.ce 4
       have := hW'.2.ce 5
       have := hW'.2.ce 6
       go_simp
       all_goals first | omega | (rw [IntKind.wrap_i64]; omega)
     simp only [tkA, tkf]
     refine ak 10 fun K hK => ?_
     go_simp
     refine (hCm _).mono ?_
     rintro e w4 ⟨rfl, b4⟩
     have hS4 : Bw w w4 ∧ Blk w4 gx #[v0, v1, v2, v3, v4, v5, v6] 82 := ⟨nxt hS.1 b4, hS.2.on b4⟩
     show K _ _
     refine hK _ _ hS4 ?_
     clear hK K hS b4 hCm
     try simp only [tkf]
     by_cases hcz : cz < 0
     ·have hcf : decide (0 ≤ cz) = false := by simp; omega
      have hcf2 : ¬ cz ≥ 0 := by omega
      refine tks [11, 12, 13, 14, 15] [.bool false, .bool false, .bool false, .func (.func gg) #[] lb, .agg #[v0, v1, v2, v3, v4, v5, v6]] 3 ?_ hS4 ?_
      ·simp only [tkY, tkf]
       refine ⟨.yes ?_, .yes ?_, .yes ?_, .yes ?_, .yes ?_, trivial⟩
       all_goals
        intro W' hW'
        have := hW'.2.ce 0
        have := hW'.2.ce 1
        have := hW'.2.ce 2
        have := hW'.2.ce 3
        have := hW'.2.ce 4
        have := hW'.2.ce 5
        have := hW'.2.ce 6
        go_simp
        all_goals first | omega | (rw [IntKind.wrap_i64]; omega)
      simp only [tkA, tkf]
      refine ak 16 fun K hK => ?_
      go_simp
      refine (hGm _ hS4.1).mono ?_
      rintro e w5 ⟨rfl, b5⟩
      have hS5 : Bw w w5 ∧ Blk w5 gx #[v0, v1, v2, v3, v4, v5, v6] 82 := ⟨nxt hS4.1 b5, hS4.2.on b5⟩
      show K _ _
      refine hK _ _ hS5 ?_
      clear hK K hS4 b5
      try simp only [tkf]
      refine tks [17, 18] [.bool (!gb), .bool (!gb)] 0 ?_ hS5 ?_
      ·simp only [tkY, tkf]
       refine ⟨.yes ?_, .yes ?_, trivial⟩
       all_goals
        intro W' hW'
        go_simp
        all_goals first | omega | (rw [IntKind.wrap_i64]; omega)
      simp only [tkA, tkf]
      refine ad ?_
      have HS5 : Hid (Bw w w5) := hS5.1
      clear hS5
      cases gb with
      | true =>
       have HK1 : Hid (CaK cmp good zs (i + 1)) := HK.out.next hmz (by rw [← HEB.out]) (fun h0 => ⟨j, HJ.out, by rw [← HEC.out]; exact hcz⟩)
       go_wp2_with fail
       go_roundg (n - (i + 1))
       case measure => omega
       case rel => exact ⟨i + 1, by omega, by omega, by go_num, HK1.out, HS5.out⟩
      | false =>
       have HK1 : Hid (false = true ↔ CaP most cmp good zs) := HGB2.out rfl
       go_wp2_with fail
       go_ret
       exact ⟨car_mk HK1.out, HS5.out⟩
     ·have hcf : decide (0 ≤ cz) = true := by simp; omega
      have hcf2 : cz ≥ 0 := by omega
      have HK1 : Hid (false = true ↔ CaP most cmp good zs) := HCZ2.out hcz
      refine tks [11, 12, 13, 14, 15, 16, 17, 18] [.bool true, .bool true, .bool true, undef, undef, undef, undef, .bool true] 0 ?_ hS4 ?_
      ·simp only [tkY, tkf]
       refine ⟨.yes ?_, .yes ?_, .yes ?_, .no, .no, .no, .no, .yes ?_, trivial⟩
       all_goals
        intro W' hW'
        go_simp
        all_goals first | omega | (rw [IntKind.wrap_i64]; omega)
      simp only [tkA, tkf]
      refine ad ?_
      go_wp2_with fail
      go_ret
      exact ⟨car_mk HK1.out, hS4.1⟩
   ·have hltz : ¬ (i : Int) < (n : Int) := by omega
    have HK1 : Hid (CaP most cmp good zs) := by
     refine ⟨HM.out, fun j hj => HK.out.1 j hj (by rw [NI.out] at hj; omega), fun j hj => ?_⟩
     exact HK.out.2 j hj (by rw [NI.out] at hj; omega)
    go_wp2_with fail
    go_ret
    exact ⟨car_mk ⟨fun _ => HK1.out, fun _ => rfl⟩, HS.out⟩
end Go.Proofs.YtnpikgakpmkipabGreatDoor
