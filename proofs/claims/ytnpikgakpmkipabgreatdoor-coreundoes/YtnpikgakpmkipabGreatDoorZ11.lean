/- What Settle answers. Conditions: To.Vars, what the library's variables hold, and those that each row states. -/
import Derived.Test.YtnpikgakpmkipabGreatDoorZ04
import Derived.Test.YtnpikgakpmkipabGreatDoorZ09
import Derived.Test.YtnpikgakpmkipabGreatDoorZ10
import Derived.Deep.LoopGhost
import Derived.Test.YtnpikgakpmkipabGreatDoorZ03
import Derived.Test.YtnpikgakpmkipabGreatDoorZ05
namespace Go.Proofs.YtnpikgakpmkipabGreatDoor
open Go.RowKit Go.Lib
set_option maxRecDepth 100000
set_option linter.unusedSimpArgs false
theorem OwnZ.cellsAt {α : Type} {e k : Nat} {R : List Value → α → Prop} {w : World} {B g cap n : Nat} {zs : Zs α} (h : OwnZ e k R w B (.slice (some ⟨g, 0, none⟩) n cap) zs) {i : Nat} (hi : i < zs.length) :
  ∀ j u, (zs[i].1)[j]? = some u → w.cell? ⟨g, i * k + j, none⟩ = some u := fun j u hu => by
 have := h.rd.cells hi j u hu
 rwa [Nat.zero_add] at this
theorem e52 : ∀ args w, (callFunc 213 args).run Tryz.prog w = .ok (.enter 213 args) w := fun args w => by go_simp
theorem clos52 (W : World) (g1 g2 : Nat) (conn tag : Int) (k1 : Blk W g1 #[.int .i64 conn] 3) (k2 : Blk W g2 #[.int .i64 tag] 3) (x : Hld) (pv : Value) :
  Calls Tryz.prog 213 #[.agg (hldV x pv).toArray, .pointer (some ⟨g1, 0, none⟩), .pointer (some ⟨g2, 0, none⟩)] W fun e W' => e = .returned (.bool (isH conn tag x)) ∧ Bw W W' := by
 unfold hldV isH
 have b1 := (Below.refl W.heap.size W).alloc (Nat.le_refl _) (.cells (hlA x pv) 133)
 have kx := Blk.new W (hlA x pv) 133
 have d1 := (k1.on b1).cell 0
 have d2 := (k2.on b1).cell 0
 simp only [List.getElem?_toArray, List.getElem?_cons_zero] at d1 d2
 go_enter Tryz.func213, Tryz.ntmps213
 go_upto_region 1 with fail
 generalize W.alloc (.cells (hlA x pv) 133) = W1 at *
 obtain ⟨c0, c1, c2, c3, c4, c5, c6, c7, c8, c9⟩ := kx.c10
 by_cases h1 : x.conn = conn <;> by_cases h2 : x.tag = tag
 all_goals
  go_wp2
  go_ret
  exact ⟨ret_b (by simp [h1, h2]), b1⟩
structure SeS (w W : World) (qs : Array Value) (a b : Int) : Prop where
 q : Blk W w.heap.size qs 82
 a : Blk W (w.heap.size + 1) #[.int .i64 a] 3
 t : Blk W (w.heap.size + 2) #[.int .i64 b] 3
 r : Blk W (w.heap.size + 3) quZ 82
 b : Bw w W
theorem SeS.on {w W W' : World} {qs : Array Value} {a b : Int} (h : SeS w W qs a b) (hb : Bw W W') : SeS w W' qs a b := ⟨h.q.on hb, h.a.on hb, h.t.on hb, h.r.on hb, nxt h.b hb⟩
theorem SeS.start (w : World) (qs : Array Value) (a b : Int) : SeS w ((((w.alloc (.cells qs 82)).alloc (.cells #[.int .i64 a] 3)).alloc (.cells #[.int .i64 b] 3)).alloc (.cells quZ 82)) qs a b := by
 refine ⟨(((Blk.new _ _ _).alloc _).alloc _).alloc _, ?_, ?_, ?_, ((((Below.refl _ w).alloc (Nat.le_refl _) _).alloc (by simp) _).alloc (by simp; omega) _).alloc (by simp; omega) _⟩
 ·have := ((Blk.new (w.alloc (.cells qs 82)) #[.int .i64 a] 3).alloc (.cells #[.int .i64 b] 3)).alloc (.cells quZ 82)
  rwa [World.size_alloc] at this
 ·have := (Blk.new ((w.alloc (.cells qs 82)).alloc (.cells #[.int .i64 a] 3)) #[.int .i64 b] 3).alloc (.cells quZ 82)
  rwa [World.size_alloc, World.size_alloc] at this
 ·have := Blk.new (((w.alloc (.cells qs 82)).alloc (.cells #[.int .i64 a] 3)).alloc (.cells #[.int .i64 b] 3)) quZ 82
  rwa [World.size_alloc, World.size_alloc, World.size_alloc] at this
set_option maxHeartbeats 4000000 in
theorem settle_any (w : World) (hva : To.Vars w) (v : Value) (q : Que) (h : RdQ w v q) (conn tag : Int) (again : Bool) (hbig : lenQ q ≤ 1000000) :
  Calls Tryz.prog 139 #[v, .int .i64 conn, .int .i64 tag, .bool again] w fun e w' => ∃ v', e = .returned (.tuple #[v', .int .i64 (settleC q conn tag)]) ∧ OwnQ w' w.heap.size v' (if settleC q conn tag = 0 then settleQ q conn tag again else zeroQ) ∧ Bw w w' := by
 have hR := h
 obtain ⟨iv, hv, rfl, hi, hh⟩ := h
 have OI : ∃ a c, iv = .slice a q.items.length c := hi.len
 have OH : ∃ a c, hv = .slice a q.held.length c := hh.len
 have HH : Hid (RdH w hv q.held) := hh
 clear hi hh
 have HG : ∀ W, Bw w W → Calls Tryz.prog 64 #[queV q iv hv] W fun e w' => e = .returned (.bool (goodQ q)) ∧ Bw W w' := fun W b => good_any W (hva.below b) _ q (hR.on b) hbig
 have S0 := SeS.start w (quA q iv hv) conn tag
 unfold queV at *
 go_enter Tryz.func139, Tryz.ntmps139
 go_upto_region 1 with fail
 generalize (((w.alloc (.cells (quA q iv hv) 82)).alloc (.cells #[.int .i64 conn] 3)).alloc (.cells #[.int .i64 tag] 3)).alloc (.cells quZ 82) = w1 at *
 go_wp2_with (refine wpl_load25 rfl (.tmp 4) rfl _ _ rfl S0.q rfl ?_)
 refine (HG _ S0.b).mono ?_
 rintro e w2 ⟨rfl, b2⟩
 have S2 := S0.on b2
 clear S0 b2
 cases hg : goodQ q with
 | false =>
  have e0 : settleC q conn tag = 1 := by simp [settleC, hg]
  go_wp2_with (refine wpl_put rfl (.tmp 8) (.tmp 15) rfl _ _ rfl rfl S2.r (by kernel_rfl) rfl (by simp [Value.oneCell']) ?_)
  intro W' k' g' s'
  go_wp2_with fail
  refine ret25t rfl k' rfl rfl rfl ⟨_, rfl, own_zero _ _, S2.b.grown g' S2.b.size (fun k hk => by injection hk with hk; omega)⟩
 | true =>
  obtain ⟨hsm, hl64, _, _, hq1, hq2⟩ := goodQ_small hg
  obtain ⟨zh, ezh, hzh⟩ := HH.out.on S2.b
  have hx := indexH_own w2 none hv zh (RdP w2) (fun _ _ h => h.shape) hzh (by have := hsm.held; rw [← ezh, List.length_map] at this; omega) 213 #[.pointer (some ⟨w.heap.size + 1, 0, none⟩), .pointer (some ⟨w.heap.size + 2, 0, none⟩)] e52 (isH conn tag) (fun x pv W hgw => clos52 W _ _ conn tag (S2.a.grown hgw (by simp)) (S2.t.grown hgw (by simp)) x pv)
  have ef : zh.findIdx (fun z : List Value × Hld => isH conn tag z.2) = q.held.findIdx (isH conn tag) := by
   rw [← ezh, List.findIdx_map]
   rfl
  have el : zh.length = q.held.length := by rw [← ezh, List.length_map]
  rw [ef, el] at hx
  clear hzh ezh ef el
  obtain ⟨c0, c1, c2, c3, c4, c5, c6⟩ := S2.q.c7
  by_cases hK : q.held.findIdx (isH conn tag) < q.held.length
  ·rw [if_pos hK] at hx
   have e0 : settleC q conn tag = 0 := by simp [settleC, hg, hK]
   obtain ⟨K, hKK⟩ : ∃ K, q.held.findIdx (isH conn tag) = K := ⟨_, rfl⟩
   have HKE : Hid (q.held.findIdx (isH conn tag) = K) := hKK
   rw [hKK] at hx hK
   clear hKK
   go_wp2_with fail
   refine hx.mono ?_
   rintro e w3 ⟨rfl, b3⟩
   have S3 := S2.on b3
   have hcp := copy_any w3 _ q (hR.on S3.b) hsm
   unfold queV at hcp
   have hKz : ¬ ((K : Int) < 0) := by omega
   clear hx S2 b3 c0 c1 c2 c3 c4 c5 c6
   go_wp2_with (refine wpl_load25 rfl (.tmp 4) rfl _ _ rfl S3.q rfl ?_)
   refine hcp.mono ?_
   rintro e w5 ⟨v5, rfl, ⟨iv5, hv5, rfl, oi5, oh5⟩, b5⟩
   obtain ⟨ai5, ci5, rfl⟩ := oi5.rd.len
   obtain ⟨zs, ezs, hzs'⟩ := oh5
   have hzl : zs.length = q.held.length := by rw [← ezs, List.length_map]
   have hz0 : K < zs.length := by omega
   have hz1000 : zs.length ≤ 1000 := by have := hsm.held; omega
   clear hzl
   obtain ⟨g, cap, cur, hgv, hg4, hgb, _⟩ := ownH_some hzs' (by omega)
   subst hgv
   have hzs : OwnZ 133 10 (HeR (OwnP w5 w.heap.size)) w5 w.heap.size (.slice (some ⟨g, 0, none⟩) zs.length cap) zs := (hzs'.low S3.b.size).imp fun _ _ h => h.low S3.b.size
   have oi6 := oi5.low S3.b.size
   have S5 := S3.on b5
   have HX : Hid ((q.held.getD K zeroH) = (zs[K]).2) := by
    show q.held.getD K zeroH = _
    rw [← ezs, getD_at (by rw [List.length_map]; exact hz0), List.getElem_map]
   obtain ⟨hk0, pv0, hv0, hp0⟩ := hzs.2 (zs[K]) (List.getElem_mem hz0)
   have HZ : Hid (zs.map (·.2) = q.held) := ezs
   clear hcp S3 b5 hzs' hgb hg4 oi5 ezs
   generalize hxx : (zs[K]).2 = x at *
   obtain ⟨pa0, pc0, rfl⟩ := hp0.shape
   generalize q.items.length = ni at *
   unfold queV
   go_wp2_with (refine wpl_put rfl (.tmp 4) (.tmp 24) rfl _ _ rfl rfl S5.q (by kernel_rfl) rfl (by simp [Value.oneCell']) ?_)
   intro w6 k6 g6 s6
   have r6 := S5.r.grown g6 (fun e => by injection e with e; omega)
   have b6 := S5.b.grown g6 S5.b.size (fun k hk => by injection hk with hk; omega)
   have t54 : Kt 66 w5 w6 := kt_grown S5.q g6 (by decide)
   have hzs6 : OwnZ 133 10 (HeR (OwnP w6 w.heap.size)) w6 w.heap.size (.slice (some ⟨g, 0, none⟩) zs.length cap) zs := (hzs.keep (kt_grown S5.q g6 (by decide))).imp fun _ _ h => h.keep t54
   have oi7 := oi6.keep (kt_grown S5.q g6 (by decide)) t54
   have hp6 := hp0.keep t54
   clear S5 hzs oi6 hp0 g6 s6 t54
   have hcell := hzs6.cellsAt hz0
   rw [hv0] at hcell
   have a3 := hcell 3 _ rfl
   have a4 := hcell 4 _ rfl
   have a5 := hcell 5 _ rfl
   have a6 := hcell 6 _ rfl
   have a7 := hcell 7 _ rfl
   have a8 := hcell 8 _ rfl
   have a9 := hcell 9 _ rfl
   clear hcell
   obtain ⟨c0, c1, c2, c3, c4, c5, c6⟩ := k6.c7
   obtain ⟨nz, hnz⟩ : ∃ nz, zs.length = nz := ⟨_, rfl⟩
   have NZ : Hid (zs.length = nz) := hnz
   rw [hnz] at hzs6 c6 k6 hz0 hz1000 ⊢
   have hz0z : (K : Int) < (nz : Int) := by omega
   generalize x.itm.msg.props.length = pn at *
   clear hnz
   go_wp2_with (refine wpl_fresh rfl (.tmp 11) (.tmp 30) rfl _ _ rfl rfl (by kernel_rfl) rfl (by simp [Value.oneCell']) ?_)
   intro w7 k7 b7 s7
   have kq7 := k6.on b7
   have r7 := r6.on b7
   have b07 := nxt b6 b7
   have hzs7 : OwnZ 133 10 (HeR (OwnP w7 w.heap.size)) w7 w.heap.size (.slice (some ⟨g, 0, none⟩) nz cap) zs := (hzs6.keep (.of_below b7)).imp fun _ _ h => h.keep (.of_below b7)
   have oi8 := oi7.keep (.of_below b7) (.of_below b7)
   have hp7 := hp6.keep (.of_below b7)
   have hdl := deleteH_any w7 w.heap.size _ zs _ hzs7 K (K + 1) rfl (by rw [NZ.out]; exact hz0) (by rw [NZ.out]; omega)
   obtain ⟨bi, hbi'⟩ : ∃ b, w6.heap.size = b := ⟨_, rfl⟩
   have hine : bi ≠ w.heap.size := by have h1 := k6.lt; omega
   rw [hbi'] at k7 ⊢
   clear a3 a4 a5 a6 a7 a8 a9 c0 c1 c2 c3 c4 c5 c6 k6 r6 b6 hzs6 oi7 hp6 b7 s7 hbi'
   obtain ⟨c0, c1, c2, c3, c4, c5, c6⟩ := kq7.c7
   go_wp2_with fail
   refine hdl.mono ?_
   rintro e w8 ⟨v8, rfl, o8, g8, hob⟩
   have t25 : Kt 82 w7 w8 := Kt.of_grown hzs7.1 g8 (by decide)
   have t43 : Kt 131 w7 w8 := Kt.of_grown hzs7.1 g8 (by decide)
   have t54 : Kt 66 w7 w8 := Kt.of_grown hzs7.1 g8 (by decide)
   have kq8 := kq7.kt t25
   have r8 := r7.kt t25
   have k8 := k7.kt t43
   have oi9 := oi8.keep t43 t54
   have hp8 := hp7.keep t54
   have b8 := b07.grown g8 b07.size (fun k hk => (World.ownsRow.lt hzs7.1 k hk).1)
   have oh8 : OwnH w8 w.heap.size v8 (q.held.eraseIdx K) := ⟨_, by rw [List.map_append, List.map_take, List.map_drop, HZ.out, List.eraseIdx_eq_take_drop_succ], o8.imp fun _ _ h => h.keep t54⟩
   obtain ⟨a8, c8, rfl⟩ := oh8.rd.len
   obtain ⟨n8, hn8⟩ : ∃ n, (q.held.eraseIdx K).length = n := ⟨_, rfl⟩
   rw [hn8] at oh8 ⊢
   clear hdl hzs7 o8 g8 t25 t43 t54 kq7 r7 k7 b07 oi8 hp7 c0 c1 c2 c3 c4 c5 c6 hn8 NZ HZ hxx hv0 hk0 hob
   go_wp2_with (refine wpl_set rfl (.tmp 37) (.tmp 36) rfl _ 6 _ rfl rfl kq8 (by kernel_rfl) rfl rfl (by simp) ?_)
   intro w9 k9 g9 s9
   have kq9 : Blk w9 w.heap.size (quA q (.slice ai5 ni ci5) (.slice a8 n8 c8)) 82 := k9
   have r9 := r8.grown g9 (fun e => by injection e with e; omega)
   have kx9 := k8.grown g9 (fun e => hine (by injection e))
   have b9 := b8.grown g9 b8.size (fun k hk => by injection hk with hk; omega)
   have t54 : Kt 66 w8 w9 := kt_grown kq8 g9 (by decide)
   have oi10 := oi9.keep (kt_grown kq8 g9 (by decide)) t54
   have oh9 := oh8.keep (kt_grown kq8 g9 (by decide)) t54
   have hp9 := hp8.keep t54
   clear kq8 r8 k8 b8 oi9 oh8 hp8 g9 s9 t54 k9
   cases again with
   | false =>
    go_wp2_with (first | (refine wpl_load25 rfl (.tmp 4) rfl _ _ rfl kq9 rfl ?_) | (refine wpl_put rfl (.tmp 8) (.tmp 44) rfl _ _ rfl rfl r9 (by kernel_rfl) rfl (by simp [Value.oneCell']) ?_))
    intro w10 k10 g10 s10
    go_wp2_with fail
    refine ret25t rfl k10 rfl rfl rfl ⟨_, rfl, ?_, b9.grown g10 b9.size (fun k hk => by injection hk with hk; omega)⟩
    unfold settleQ
    rw [HKE.out]
    exact ⟨_, _, rfl, oi10.keep (kt_grown r9 g10 (by decide)) (kt_grown r9 g10 (by decide)), oh9.keep (kt_grown r9 g10 (by decide)) (kt_grown r9 g10 (by decide))⟩
   | true =>
    obtain ⟨zi, ezi, hzi⟩ := oi10
    have hri : Rises (zi.map (·.2)) := by rw [ezi]; exact ((goodQ_iff q).1 hg).ri
    have hzin : zi.length ≤ 1000 := by have := hsm.items; rw [← ezi, List.length_map] at this; exact this
    have hpb := putBack_any w9 w.heap.size b9.size _ zi hzi hri hzin x.itm _ hp9
    rw [ezi] at hpb
    unfold itmV at hpb
    obtain ⟨c0, c1, c2, c3, c4, c5, c6⟩ := kq9.c7
    have HZI : Hid (OwnZ 131 7 (ItR (OwnP w9 w.heap.size)) w9 w.heap.size (.slice ai5 ni ci5) zi) := hzi
    clear hzi hri
    go_wp2_with (refine wpl_load43 rfl (.tmp 11) rfl _ _ rfl kx9 rfl ?_)
    refine hpb.mono ?_
    rintro e w10 ⟨v10, rfl, oi11, g10⟩
    have t25 : Kt 82 w9 w10 := Kt.of_grown HZI.out.1 g10 (by decide)
    have t61 : Kt 133 w9 w10 := Kt.of_grown HZI.out.1 g10 (by decide)
    have t54 : Kt 66 w9 w10 := Kt.of_grown HZI.out.1 g10 (by decide)
    have kq10 := kq9.kt t25
    have r10 := r9.kt t25
    have oh10 := oh9.keep t61 t54
    have b10 := b9.grown g10 b9.size (fun k hk => (World.ownsRow.lt HZI.out.1 k hk).1)
    obtain ⟨a10, c10, rfl⟩ := oi11.rd.len
    generalize (putB q.items x.itm).length = n10 at *
    clear hpb g10 t25 t61 t54 kq9 r9 oh9 b9 kx9 hp9 c0 c1 c2 c3 c4 c5 c6 HZI
    go_wp2_with (refine wpl_set rfl (.tmp 43) (.tmp 42) rfl _ 5 _ rfl rfl kq10 (by kernel_rfl) rfl rfl (by simp) ?_)
    intro w11 k11 g11 s11
    have kq11 : Blk w11 w.heap.size (quA q (.slice a10 n10 c10) (.slice a8 n8 c8)) 82 := k11
    have r11 := r10.grown g11 (fun e => by injection e with e; omega)
    have b11 := b10.grown g11 b10.size (fun k hk => by injection hk with hk; omega)
    have t54 : Kt 66 w10 w11 := kt_grown kq10 g11 (by decide)
    have oi12 := oi11.keep (kt_grown kq10 g11 (by decide)) t54
    have oh11 := oh10.keep (kt_grown kq10 g11 (by decide)) t54
    clear kq10 r10 b10 oi11 oh10 g11 s11 t54 k11
    go_wp2_with (first | (refine wpl_load25 rfl (.tmp 4) rfl _ _ rfl kq11 rfl ?_) | (refine wpl_put rfl (.tmp 8) (.tmp 44) rfl _ _ rfl rfl r11 (by kernel_rfl) rfl (by simp [Value.oneCell']) ?_))
    intro w12 k12 g12 s12
    go_wp2_with fail
    refine ret25t rfl k12 rfl rfl rfl ⟨_, rfl, ?_, b11.grown g12 b11.size (fun k hk => by injection hk with hk; omega)⟩
    unfold settleQ
    rw [HKE.out, HX.out, if_pos rfl]
    exact ⟨_, _, rfl, oi12.keep (kt_grown r11 g12 (by decide)) (kt_grown r11 g12 (by decide)), oh11.keep (kt_grown r11 g12 (by decide)) (kt_grown r11 g12 (by decide))⟩
  ·rw [if_neg hK] at hx
   have e0 : settleC q conn tag = 33 := by simp [settleC, hg, hK]
   go_wp2_with fail
   refine hx.mono ?_
   rintro e w3 ⟨rfl, b3⟩
   have S3 := S2.on b3
   clear hx S2 b3 c0 c1 c2 c3 c4 c5 c6
   go_wp2_with (refine wpl_put rfl (.tmp 8) (.tmp 22) rfl _ _ rfl rfl S3.r (by kernel_rfl) rfl (by simp [Value.oneCell']) ?_)
   intro W' k' g' s'
   go_wp2_with fail
   refine ret25t rfl k' rfl rfl rfl ⟨_, rfl, own_zero _ _, S3.b.grown g' S3.b.size (fun k hk => by injection hk with hk; omega)⟩
theorem e67 : ∀ args w, (callFunc 209 args).run Tryz.prog w = .ok (.enter 209 args) w := fun args w => by go_simp
set_option maxHeartbeats 1000000 in
theorem clos67 (W : World) (g1 g2 : Nat) (conn sub : Int) (k1 : Blk W g1 #[.int .i64 conn] 3) (k2 : Blk W g2 #[.int .i64 sub] 3) (x : Hld) (pv : Value) :
  Calls Tryz.prog 209 #[.agg (hldV x pv).toArray, .pointer (some ⟨g1, 0, none⟩), .pointer (some ⟨g2, 0, none⟩)] W fun e W' => e = .returned (.bool (isR conn sub x)) ∧ Bw W W' := by
 unfold hldV isR
 have b1 := (Below.refl W.heap.size W).alloc (Nat.le_refl _) (.cells (hlA x pv) 133)
 have kx := Blk.new W (hlA x pv) 133
 have d1 := (k1.on b1).cell 0
 have d2 := (k2.on b1).cell 0
 simp only [List.getElem?_toArray, List.getElem?_cons_zero] at d1 d2
 go_enter Tryz.func209, Tryz.ntmps209
 go_upto_region 1 with fail
 generalize W.alloc (.cells (hlA x pv) 133) = W1 at *
 obtain ⟨c0, c1, c2, c3, c4, c5, c6, c7, c8, c9⟩ := kx.c10
 by_cases h1 : x.conn = conn <;> by_cases h2 : x.sub = sub <;> by_cases h3 : sub = -1
 all_goals
  go_wp2
  go_ret
  exact ⟨ret_b (by simp [h1, h2, h3]), b1⟩
theorem backs_snoc (l : List Itm) (hs : List Hld) (h : Hld) : backs l (hs ++ [h]) = putB (backs l hs) h.itm := by simp [backs, List.foldl_append]
theorem filt_snoc (p : Hld → Bool) (l : List Hld) (k : Nat) (h : k < l.length) : (l.take (k + 1)).filter p = (l.take k).filter p ++ (if p l[k] then [l[k]] else []) := by
 rw [List.take_succ_eq_append_getElem h, List.filter_append]
 cases e : p l[k] <;> simp [e]
theorem backs_rises {q : Que} (h : GoodP q) (conn sub : Int) (k : Nat) : Rises (backs q.items ((q.held.take k).filter (isR conn sub))) ∧ (backs q.items ((q.held.take k).filter (isR conn sub))).length ≤ lenQ q := by
 have hs : ((q.held.take k).filter (isR conn sub)).Sublist q.held := List.filter_sublist.trans (List.take_sublist _ _)
 have hn : (q.items.map (·.seq) ++ ((q.held.take k).filter (isR conn sub)).map (·.itm.seq)).Nodup := h.nd.sublist ((List.Sublist.refl _).append (hs.map _))
 obtain ⟨h1, h2, _⟩ := backs_facts _ q.items h.ri hn
 refine ⟨h1, ?_⟩
 have e := h2.length_eq
 have e2 := hs.length_le
 simp at e
 unfold lenQ
 omega
structure ReS (w W : World) (q : Que) (conn sub : Int) (vh : Value) (zs : Zs Hld) (k : Nat) : Prop where
 s : ∃ a n c, SeS w W (quA q (.slice a n c) vh) conn sub ∧ OwnI W w.heap.size (.slice a n c) (backs q.items ((q.held.take k).filter (isR conn sub)))
 oh : OwnZ 133 10 (HeR (OwnP W w.heap.size)) W w.heap.size vh zs
theorem ReS.on {w W W' : World} {q : Que} {conn sub : Int} {vh : Value} {zs : Zs Hld} {k : Nat} (h : ReS w W q conn sub vh zs k) (hb : Bw W W') : ReS w W' q conn sub vh zs k := by
 obtain ⟨⟨a, n, c, h1, h2⟩, h3⟩ := h
 exact ⟨⟨a, n, c, h1.on hb, h2.keep (.of_below hb) (.of_below hb)⟩, (h3.keep (.of_below hb)).imp fun _ _ h => h.keep (.of_below hb)⟩
set_option maxHeartbeats 4000000 in
theorem release_any (w : World) (hva : To.Vars w) (v : Value) (q : Que) (h : RdQ w v q) (conn sub : Int) (hbig : lenQ q ≤ 1000000) :
  Calls Tryz.prog 137 #[v, .int .i64 conn, .int .i64 sub] w fun e w' => ∃ v', e = .returned (.tuple #[v', .int .i64 (relC q)]) ∧ OwnQ w' w.heap.size v' (if relC q = 0 then releaseQ q conn sub else zeroQ) ∧ Bw w w' := by
 have hR := h
 obtain ⟨iv, hv, rfl, hi, hh⟩ := h
 have OI : ∃ a c, iv = .slice a q.items.length c := hi.len
 have OH : ∃ a c, hv = .slice a q.held.length c := hh.len
 clear hi hh
 have HG : ∀ W, Bw w W → Calls Tryz.prog 64 #[queV q iv hv] W fun e w' => e = .returned (.bool (goodQ q)) ∧ Bw W w' := fun W b => good_any W (hva.below b) _ q (hR.on b) hbig
 have S0 := SeS.start w (quA q iv hv) conn sub
 unfold queV at *
 go_enter Tryz.func137, Tryz.ntmps137
 go_upto_region 1 with fail
 generalize (((w.alloc (.cells (quA q iv hv) 82)).alloc (.cells #[.int .i64 conn] 3)).alloc (.cells #[.int .i64 sub] 3)).alloc (.cells quZ 82) = w1 at *
 go_wp2_with (refine wpl_load25 rfl (.tmp 3) rfl _ _ rfl S0.q rfl ?_)
 refine (HG _ S0.b).mono ?_
 rintro e w2 ⟨rfl, b2⟩
 have S2 := S0.on b2
 clear S0 b2
 cases hg : goodQ q with
 | false =>
  have e0 : relC q = 1 := by simp [relC, hg]
  go_wp2_with (refine wpl_put rfl (.tmp 6) (.tmp 14) rfl _ _ rfl rfl S2.r (by kernel_rfl) rfl (by simp [Value.oneCell']) ?_)
  intro W' k' g' s'
  go_wp2_with fail
  refine ret25t rfl k' rfl rfl rfl ⟨_, rfl, own_zero _ _, S2.b.grown g' S2.b.size (fun k hk => by injection hk with hk; omega)⟩
 | true =>
  have e0 : relC q = 0 := by simp [relC, hg]
  obtain ⟨hsm, hl64, _, _, hq1, hq2⟩ := goodQ_small hg
  have HGP : Hid (GoodP q) := (goodQ_iff q).1 hg
  have hcp := copy_any w2 _ q (hR.on S2.b) hsm
  unfold queV at hcp
  go_wp2_with (refine wpl_load25 rfl (.tmp 3) rfl _ _ rfl S2.q rfl ?_)
  refine hcp.mono ?_
  rintro e w5 ⟨v5, rfl, ⟨iv5, hv5, rfl, oi5, oh5⟩, b5⟩
  obtain ⟨ai5, ci5, rfl⟩ := oi5.rd.len
  obtain ⟨ah5, ch5, rfl⟩ := oh5.rd.len
  obtain ⟨zs, ezs, hzs⟩ := oh5.low S2.b.size
  have hz1000 : zs.length ≤ 1000 := by have := hsm.held; rw [← ezs, List.length_map] at this; exact this
  have hzl : zs.length = q.held.length := by rw [← ezs, List.length_map]
  have oi6 := oi5.low S2.b.size
  have S5 := S2.on b5
  have HZ : Hid (zs.map (·.2) = q.held) := ezs
  obtain ⟨nh, hnh⟩ : ∃ n, q.held.length = n := ⟨_, rfl⟩
  have NH : Hid (zs.length = nh) := by rw [hzl]; exact hnh
  rw [hzl] at hz1000
  rw [hnh] at hzs hz1000 ⊢
  clear hcp S2 b5 oi5 oh5 ezs hzl hnh
  generalize q.items.length = ni at *
  unfold queV
  go_wp2_with (refine wpl_put rfl (.tmp 3) (.tmp 16) rfl _ _ rfl rfl S5.q (by kernel_rfl) rfl (by simp [Value.oneCell']) ?_)
  intro w6 k6 g6 s6
  have t54 : Kt 66 w5 w6 := kt_grown S5.q g6 (by decide)
  have H6 : Hid (ReS w w6 q conn sub (.slice ah5 nh ch5) zs 0) := by
   refine ⟨⟨ai5, ni, ci5, ⟨k6, S5.a.grown g6 (fun e => by injection e with e; omega), S5.t.grown g6 (fun e => by injection e with e; omega), S5.r.grown g6 (fun e => by injection e with e; omega), S5.b.grown g6 S5.b.size (fun k hk => by injection hk with hk; omega)⟩, ?_⟩, (hzs.keep (kt_grown S5.q g6 (by decide))).imp fun _ _ h => h.keep t54⟩
   exact oi6.keep (kt_grown S5.q g6 (by decide)) t54
  obtain ⟨c0, c1, c2, c3, c4, c5, c6⟩ := k6.c7
  clear S5 hzs oi6 g6 s6 t54 k6
  go_wp2_with fail
  clear c0 c1 c2 c3 c4 c5 c6
  go_loopg [10, 21] nh (fun gg _ s21 wr => ∃ kk : Nat, kk ≤ nh ∧ nh - kk ≤ gg ∧ s21 = .int .i64 kk ∧ Hid (ReS w wr q conn sub (.slice ah5 nh ch5) zs kk))
  case atStart => exact ⟨0, Nat.zero_le _, by omega, rfl, H6.out⟩
  case round =>
   obtain ⟨kk, hkk, hgg, rfl, HS⟩ := hrel
   clear H6
   by_cases hlt : kk < nh
   ·have hltz : (kk : Int) < (nh : Int) := by omega
    have hjz : kk < zs.length := by rw [NH.out]; exact hlt
    obtain ⟨b, o, pv, rfl, hz1, hp, c0, c1, c2, c3, c4, c5, c6, c7, c8, c9⟩ := hld_atP HS.out.oh.rd (Below.refl _ _) (i := kk) hjz
    have HF : Hid ((q.held.take (kk + 1)).filter (isR conn sub) = (q.held.take kk).filter (isR conn sub) ++ (if isR conn sub (zs[kk]).2 then [(zs[kk]).2] else [])) := by
     have hl2 : kk < q.held.length := by rw [← HZ.out, List.length_map]; exact hjz
     have e2 : q.held[kk] = (zs[kk]).2 := by simp only [← HZ.out, List.getElem_map]
     rw [← e2]
     exact filt_snoc _ _ _ hl2
    generalize (zs[kk]).2 = x at *
    obtain ⟨pa, pc, rfl⟩ := hp.shape
    have HP : Hid (OwnP wr w.heap.size (.slice pa x.itm.msg.props.length pc) x.itm.msg.props) := hp
    obtain ⟨pn, hpn⟩ : ∃ n, x.itm.msg.props.length = n := ⟨_, rfl⟩
    rw [hpn] at c7 HP
    clear hz1 hp hpn
    obtain ⟨wt, hwt⟩ : ∃ W, W = wr := ⟨_, rfl⟩
    subst hwt
    go_wp2_with (refine wpl_fresh rfl (.tmp 10) (.tmp 24) rfl _ _ rfl rfl (by kernel_rfl) rfl (by simp [Value.oneCell']) ?_)
    intro w7 k7 b7 s7
    have S7 := HS.out.on b7
    have hp7 := HP.out.keep (.of_below b7)
    obtain ⟨bi, hbi⟩ : ∃ b, wt.heap.size = b := ⟨_, rfl⟩
    have hine : bi ≠ w.heap.size := by
     obtain ⟨a, n, c, h1, _⟩ := HS.out.s
     have := h1.q.lt
     omega
    rw [hbi] at k7 ⊢
    have hcl : Calls Tryz.prog 209 #[.agg (hldV x (.slice pa pn pc)).toArray, .pointer (some ⟨w.heap.size + 1, 0, none⟩), .pointer (some ⟨w.heap.size + 1 + 1, 0, none⟩)] w7 fun e W' => e = .returned (.bool (isR conn sub x)) ∧ Bw w7 W' := by
     obtain ⟨a, n, c, h1, _⟩ := S7.s
     exact clos67 w7 _ _ conn sub h1.a h1.t x _
    unfold hldV at hcl
    clear HS HP c0 c1 c2 c3 c4 c5 c6 c7 c8 c9 b7 s7 hbi
    go_wp2_with (refine wpl_load61 rfl (.tmp 10) rfl _ _ rfl k7 rfl ?_)
    refine hcl.mono ?_
    rintro e w8 ⟨rfl, b8⟩
    have S8 := S7.on b8
    have k8 := k7.on b8
    have hp8 := hp7.keep (.of_below b8)
    clear hcl S7 k7 hp7 b8
    cases hq : isR conn sub x with
    | false =>
     have S9 : ReS w w8 q conn sub (.slice (some ⟨b, o, none⟩) nh ch5) zs (kk + 1) := by
      obtain ⟨⟨a, n, c, h1, h2⟩, h3⟩ := S8
      have e1 := HF.out
      rw [hq] at e1
      simp only [Bool.false_eq_true, if_false, List.append_nil] at e1
      exact ⟨⟨a, n, c, h1, by rw [e1]; exact h2⟩, h3⟩
     clear S8 k8 hp8 HF
     go_wp2_with fail
     go_roundg (nh - (kk + 1))
     case measure => omega
     case rel => exact ⟨kk + 1, by omega, by omega, by go_num, S9⟩
    | true =>
     obtain ⟨⟨a, n, c, h1, h2⟩, h3⟩ := S8
     obtain ⟨zi, ezi, hzi⟩ := h2
     have hbr := backs_rises HGP.out conn sub kk
     have hpb := putBack_any w8 w.heap.size h1.b.size _ zi hzi (by rw [ezi]; exact hbr.1) (by have := hbr.2; rw [← ezi, List.length_map] at this; omega) x.itm _ hp8
     have e1 : (q.held.take (kk + 1)).filter (isR conn sub) = (q.held.take kk).filter (isR conn sub) ++ [x] := by
      have := HF.out
      rw [hq] at this
      exact this
     have HB : Hid (backs q.items ((q.held.take (kk + 1)).filter (isR conn sub)) = putB (zi.map (·.2)) x.itm) := by
      show backs q.items ((q.held.take (kk + 1)).filter (isR conn sub)) = putB (zi.map (·.2)) x.itm
      rw [e1, backs_snoc, ezi]
     have HZI : Hid (OwnZ 131 7 (ItR (OwnP w8 w.heap.size)) w8 w.heap.size (.slice a n c) zi) := hzi
     have H1 : Hid (SeS w w8 (quA q (.slice a n c) (.slice (some ⟨b, o, none⟩) nh ch5)) conn sub) := h1
     have H3 : Hid (OwnZ 133 10 (HeR (OwnP w8 w.heap.size)) w8 w.heap.size (.slice (some ⟨b, o, none⟩) nh ch5) zs) := h3
     unfold itmV at hpb
     obtain ⟨d0, d1, d2, d3, d4, d5, d6⟩ := h1.q.c7
     obtain ⟨c0, c1, c2, c3, c4, c5, c6, c7, c8, c9⟩ := k8.c10
     clear hzi h1 h3 ezi e1 HF hbr hp8
     go_wp2_with fail
     refine hpb.mono ?_
     rintro e w9 ⟨v9, rfl, oi9, g9⟩
     have t25 : Kt 82 w8 w9 := Kt.of_grown HZI.out.1 g9 (by decide)
     have t61 : Kt 133 w8 w9 := Kt.of_grown HZI.out.1 g9 (by decide)
     have t54 : Kt 66 w8 w9 := Kt.of_grown HZI.out.1 g9 (by decide)
     have t3 : Kt 3 w8 w9 := Kt.of_grown HZI.out.1 g9 (by decide)
     rw [← HB.out] at oi9
     obtain ⟨a9, c9', rfl⟩ := oi9.rd.len
     generalize (backs q.items ((q.held.take (kk + 1)).filter (isR conn sub))).length = n9 at *
     have S9 : SeS w w9 (quA q (.slice a n c) (.slice (some ⟨b, o, none⟩) nh ch5)) conn sub := ⟨H1.out.q.kt t25, H1.out.a.kt t3, H1.out.t.kt t3, H1.out.r.kt t25, H1.out.b.grown g9 H1.out.b.size (fun k hk => (World.ownsRow.lt HZI.out.1 k hk).1)⟩
     have oh9 : OwnZ 133 10 (HeR (OwnP w9 w.heap.size)) w9 w.heap.size (.slice (some ⟨b, o, none⟩) nh ch5) zs := (H3.out.keep t61).imp fun _ _ h => h.keep t54
     clear hpb g9 t25 t61 t54 t3 HZI H1 H3 c0 c1 c2 c3 c4 c5 c6 c7 c8 c9 d0 d1 d2 d3 d4 d5 d6 k8 HB
     go_wp2_with (refine wpl_set rfl (.tmp 33) (.tmp 32) rfl _ 5 _ rfl rfl S9.q (by kernel_rfl) rfl rfl (by simp) ?_)
     intro w10 k10 g10 s10
     have u54 : Kt 66 w9 w10 := kt_grown S9.q g10 (by decide)
     have S10 : ReS w w10 q conn sub (.slice (some ⟨b, o, none⟩) nh ch5) zs (kk + 1) := by
      refine ⟨⟨a9, n9, c9', ⟨k10, S9.a.grown g10 (fun e => by injection e with e; omega), S9.t.grown g10 (fun e => by injection e with e; omega), S9.r.grown g10 (fun e => by injection e with e; omega), S9.b.grown g10 S9.b.size (fun k hk => by injection hk with hk; omega)⟩, oi9.keep (kt_grown S9.q g10 (by decide)) u54⟩, (oh9.keep (kt_grown S9.q g10 (by decide))).imp fun _ _ h => h.keep u54⟩
     clear S9 oi9 oh9 k10 g10 s10 u54
     go_wp2_with fail
     go_roundg (nh - (kk + 1))
     case measure => omega
     case rel => exact ⟨kk + 1, by omega, by omega, by go_num, S10⟩
   ·have hltz : ¬ (kk : Int) < (nh : Int) := by omega
    have et : q.held.take kk = q.held := List.take_of_length_le (by rw [← HZ.out, List.length_map, NH.out]; omega)
    obtain ⟨⟨a, n, c, h1, h2⟩, h3⟩ := HS.out
    rw [et] at h2
    obtain ⟨wt, hwt⟩ : ∃ W, W = wr := ⟨_, rfl⟩
    subst hwt
    have hdf := deleteFuncH_any wt w.heap.size _ zs (OwnP wt w.heap.size) (fun _ _ h => h.shape) h3 (by rw [NH.out]; exact hz1000) 209 #[.pointer (some ⟨w.heap.size + 1, 0, none⟩), .pointer (some ⟨w.heap.size + 1 + 1, 0, none⟩)] e67 (isR conn sub) (fun x pv W hgw => clos67 W _ _ conn sub (h1.a.grown hgw (h1.a.ne_own h3.1 (by decide))) (h1.t.grown hgw (h1.t.ne_own h3.1 (by decide))) x pv)
    have H3 : Hid (OwnZ 133 10 (HeR (OwnP wt w.heap.size)) wt w.heap.size (.slice ah5 nh ch5) zs) := h3
    obtain ⟨d0, d1, d2, d3, d4, d5, d6⟩ := h1.q.c7
    clear HS et h3
    go_wp2_with fail
    refine hdf.mono ?_
    rintro e w7 ⟨v7, rfl, o7, g7, _⟩
    have t25 : Kt 82 wt w7 := Kt.of_grown H3.out.1 g7 (by decide)
    have t43 : Kt 131 wt w7 := Kt.of_grown H3.out.1 g7 (by decide)
    have t54 : Kt 66 wt w7 := Kt.of_grown H3.out.1 g7 (by decide)
    have k7 := h1.q.kt t25
    have r7 := h1.r.kt t25
    have oi7 := h2.keep t43 t54
    have b7 := h1.b.grown g7 h1.b.size (fun k hk => (World.ownsRow.lt H3.out.1 k hk).1)
    have oh7 : OwnH w7 w.heap.size v7 (q.held.filter (fun h => !isR conn sub h)) := by
     refine ⟨_, ?_, o7.imp fun _ _ h => h.keep t54⟩
     rw [← HZ.out, List.filter_map]
     rfl
    obtain ⟨a7, c7, rfl⟩ := oh7.rd.len
    generalize (q.held.filter (fun h => !isR conn sub h)).length = n7 at *
    clear hdf o7 g7 t25 t43 t54 h1 h2 H3 d0 d1 d2 d3 d4 d5 d6 HZ NH
    go_wp2_with (refine wpl_set rfl (.tmp 39) (.tmp 38) rfl _ 6 _ rfl rfl k7 (by kernel_rfl) rfl rfl (by simp) ?_)
    intro w8 k8 g8 s8
    have kq8 : Blk w8 w.heap.size (quA q (.slice a n c) (.slice a7 n7 c7)) 82 := k8
    have r8 := r7.grown g8 (fun e => by injection e with e; omega)
    have b8 := b7.grown g8 b7.size (fun k hk => by injection hk with hk; omega)
    have t54 : Kt 66 w7 w8 := kt_grown k7 g8 (by decide)
    have oi8 := oi7.keep (kt_grown k7 g8 (by decide)) t54
    have oh8 := oh7.keep (kt_grown k7 g8 (by decide)) t54
    clear k7 r7 b7 oi7 oh7 g8 s8 t54 k8
    go_wp2_with (first | (refine wpl_load25 rfl (.tmp 3) rfl _ _ rfl kq8 rfl ?_) | (refine wpl_put rfl (.tmp 6) (.tmp 40) rfl _ _ rfl rfl r8 (by kernel_rfl) rfl (by simp [Value.oneCell']) ?_))
    intro w9 k9 g9 s9
    go_wp2_with fail
    refine ret25t rfl k9 rfl rfl rfl ⟨_, rfl, ?_, b8.grown g9 b8.size (fun k hk => by injection hk with hk; omega)⟩
    exact ⟨_, _, rfl, oi8.keep (kt_grown r8 g9 (by decide)) (kt_grown r8 g9 (by decide)), oh8.keep (kt_grown r8 g9 (by decide)) (kt_grown r8 g9 (by decide))⟩
end Go.Proofs.YtnpikgakpmkipabGreatDoor
namespace Go.Proofs.YtnpikgakpmkipabGreatDoor
open Go.RowKit Go.Lib Ieee
set_option linter.unusedSimpArgs false
theorem pr_eq (x y : Pr) : x = y ↔ x.name.toList = y.name.toList ∧ sameV x.val y.val = true := by
 obtain ⟨a, b⟩ := x
 obtain ⟨c, d⟩ := y
 simp only [Pr.mk.injEq, sameV_eq]
 exact ⟨fun ⟨h1, h2⟩ => ⟨by rw [h1], h2⟩, fun ⟨h1, h2⟩ => ⟨toList_inj h1, h2⟩⟩
def sameL : List Pr → List Pr → Bool
 | [], [] => true
 | x :: l, y :: m => (x.name.toList == y.name.toList && sameV x.val y.val) && sameL l m
 | _, _ => false
theorem sameL_eq : ∀ (l m : List Pr), sameL l m = true ↔ l = m
 | [], [] => by simp [sameL]
 | [], _ :: _ => by simp [sameL]
 | _ :: _, [] => by simp [sameL]
 | x :: l, y :: m => by
  simp only [sameL, Bool.and_eq_true, beq_iff_eq, List.cons.injEq, sameL_eq l m]
  rw [← pr_eq]
theorem sameL_ne {l m : List Pr} (h : l ≠ m) : sameL l m = false := by
 cases e : sameL l m with
 | false => rfl
 | true => exact absurd ((sameL_eq l m).1 e) h
theorem same_end {l m : List Pr} (hl : l.length = m.length) (h : ∀ j (h : j < l.length) (h' : j < m.length), l[j] = m[j]) : l = m := List.ext_getElem hl h
theorem same_not {l m : List Pr} {k : Nat} (h : k < l.length) (h' : k < m.length) (hne : l[k] ≠ m[k]) : l ≠ m := fun e => by subst e; exact hne rfl
set_option maxRecDepth 4000 in
set_option maxHeartbeats 4000000 in
theorem all7_some (w : World) (l m : List Pr) (b o c b' o' c' : Nat) (hm : m.length = l.length) (hP : ∀ i (h : i < l.length), PrAt w b (o + i * 5) l[i]) (hQ : ∀ i (h : i < m.length), PrAt w b' (o' + i * 5) m[i]) (h63 : l.length ≤ 9223372036854775806) :
  Calls Tryz.prog 45 #[.slice (some ⟨b, o, none⟩) l.length c, .slice (some ⟨b', o', none⟩) l.length c'] w fun e w' => e = .returned (.bool (sameL l m)) ∧ Below w.heap.size w w' := by
 have HP : Hid (∀ i (h : i < l.length), PrAt w b (o + i * 5) l[i]) := hP
 have HQ : Hid (∀ i (h : i < m.length), PrAt w b' (o' + i * 5) m[i]) := hQ
 have HE : Hid ((∀ j (h : j < l.length) (h' : j < m.length), l[j] = m[j]) → sameL l m = true) := fun h => (sameL_eq l m).2 (same_end hm.symm h)
 have HN : Hid (∀ k (h : k < l.length) (h' : k < m.length), l[k] ≠ m[k] → sameL l m = false) := fun k h h' hne => sameL_ne (same_not h h' hne)
 have HM : Hid (m.length = l.length) := hm
 clear hP hQ hm
 generalize sameL l m = r at *
 go_enter Tryz.func45, Tryz.ntmps45
 go_wp2_with fail
 go_loopw [13] (fun i wr => ∃ k : Nat, k ≤ l.length ∧ i = .int .i64 k ∧ Below w.heap.size w wr ∧ Hid (∀ j (h : j < l.length) (h' : j < m.length), j < k → l[j] = m[j])) (fun i _ => l.length - (RowKit.intOf i).toNat)
 case atStart => exact ⟨0, by omega, rfl, Below.refl _ _, fun j h h' hj => by omega⟩
 case round =>
  obtain ⟨k, hk, rfl, hbr, hz⟩ := hrel
  by_cases hlt : k < l.length
  ·have hlm : k < m.length := by have := HM.out; omega
   obtain ⟨d0, d1, d2, d3, d4⟩ := (HP.out k hlt).on hbr
   obtain ⟨e0, e1, e2, e3, e4⟩ := (HQ.out k hlm).on hbr
   have hN := HN.out k hlt hlm
   have hY : Hid (l[k] = m[k] → ∀ j (h : j < l.length) (h' : j < m.length), j < k + 1 → l[j] = m[j]) := fun e j h h' hj => by
    by_cases ej : j = k
    ·subst ej; exact e
    ·exact hz.out j h h' (by omega)
   obtain ⟨x, hx⟩ : ∃ x, x = l[k] := ⟨_, rfl⟩
   obtain ⟨y, hy⟩ : ∃ y, y = m[k] := ⟨_, rfl⟩
   rw [← hx] at d0 d1 d2 d3 d4 hN hY
   rw [← hy] at e0 e1 e2 e3 e4 hN hY
   clear hx hy
   have HS := fun W : World => rsame7 W x.val y.val
   cases en : (x.name.toList == y.name.toList) with
   | false =>
    have hr := hN (fun e => by subst e; simp at en)
    clear hN hY HS
    go_upto_region 6 with fail
    refine rh (fun W => W.cell? ⟨b, o + k * 5, none⟩ = some (.string x.name) ∧ W.cell? ⟨b, o + k * 5 + 1, none⟩ = some (.int .i64 x.val.kind) ∧ W.cell? ⟨b, o + k * 5 + 2, none⟩ = some (.int .i64 x.val.num) ∧ W.cell? ⟨b, o + k * 5 + 3, none⟩ = some (.string x.val.text) ∧ W.cell? ⟨b, o + k * 5 + 4, none⟩ = some (.float .f64 x.val.real) ∧ W.cell? ⟨b', o' + k * 5, none⟩ = some (.string y.name) ∧ W.cell? ⟨b', o' + k * 5 + 1, none⟩ = some (.int .i64 y.val.kind) ∧ W.cell? ⟨b', o' + k * 5 + 2, none⟩ = some (.int .i64 y.val.num) ∧ W.cell? ⟨b', o' + k * 5 + 3, none⟩ = some (.string y.val.text) ∧ W.cell? ⟨b', o' + k * 5 + 4, none⟩ = some (.float .f64 y.val.real)) ?_
    have hS : (fun W : World => W.cell? ⟨b, o + k * 5, none⟩ = some (.string x.name) ∧ W.cell? ⟨b, o + k * 5 + 1, none⟩ = some (.int .i64 x.val.kind) ∧ W.cell? ⟨b, o + k * 5 + 2, none⟩ = some (.int .i64 x.val.num) ∧ W.cell? ⟨b, o + k * 5 + 3, none⟩ = some (.string x.val.text) ∧ W.cell? ⟨b, o + k * 5 + 4, none⟩ = some (.float .f64 x.val.real) ∧ W.cell? ⟨b', o' + k * 5, none⟩ = some (.string y.name) ∧ W.cell? ⟨b', o' + k * 5 + 1, none⟩ = some (.int .i64 y.val.kind) ∧ W.cell? ⟨b', o' + k * 5 + 2, none⟩ = some (.int .i64 y.val.num) ∧ W.cell? ⟨b', o' + k * 5 + 3, none⟩ = some (.string y.val.text) ∧ W.cell? ⟨b', o' + k * 5 + 4, none⟩ = some (.float .f64 y.val.real)) wr.drew := ⟨d0, d1, d2, d3, d4, e0, e1, e2, e3, e4⟩
    have b5 : Below w.heap.size w wr.drew := hbr.drew
    clear d0 d1 d2 d3 d4 e0 e1 e2 e3 e4
    generalize wr.drew = w5 at *
    refine tks [0, 1] [.slice (some ⟨b, o, none⟩) l.length c, .int .i64 k] 23 ?_ hS ?_
    ·simp only [tkY, tkf]
     refine ⟨.yes ?_, .yes ?_, trivial⟩
     all_goals
      intro W' hW'
      go_simp
    simp only [tkA, tkf]
    refine wpAnyH_take (i := 2) (v := .pointer (some ⟨b, o + k * 5, none⟩)) rfl (by kernel_rfl) (by kernel_rfl) (by kernel_rfl) (fun _ _ _ h => h) (.inl ⟨by rfl, fun W' hW' => ?_⟩) hS ?_
    ·go_simp
     (try (intro hh; omega))
    simp only [tkf]
    refine tks [3, 4, 5, 6] [.pointer (some ⟨b, o + k * 5, none⟩), .string x.name, .slice (some ⟨b', o', none⟩) l.length c', .int .i64 k] 18 ?_ hS ?_
    ·simp only [tkY, tkf]
     refine ⟨.yes ?_, .yes ?_, .yes ?_, .yes ?_, trivial⟩
     all_goals
      intro W' hW'
      obtain ⟨d0, d1, d2, d3, d4, e0, e1, e2, e3, e4⟩ := hW'
      go_simp
    simp only [tkA, tkf]
    refine wpAnyH_take (i := 7) (v := .pointer (some ⟨b', o' + k * 5, none⟩)) rfl (by kernel_rfl) (by kernel_rfl) (by kernel_rfl) (fun _ _ _ h => h) (.inl ⟨by rfl, fun W' hW' => ?_⟩) hS ?_
    ·go_simp
     (try (intro hh; omega))
    simp only [tkf]
    refine tks [8, 9, 10, 11, 12, 13, 14, 15, 16, 17, 18, 19, 20, 21, 22, 23, 24] [.pointer (some ⟨b', o' + k * 5, none⟩), .string y.name, .bool true, .bool true, undef, undef, undef, undef, undef, undef, undef, undef, undef, undef, undef, undef, .bool true] 0 ?_ hS ?_
    ·simp only [tkY, tkf]
     refine ⟨.yes ?_, .yes ?_, .yes ?_, .yes ?_, .no, .no, .no, .no, .no, .no, .no, .no, .no, .no, .no, .no, .yes ?_, trivial⟩
     all_goals
      intro W' hW'
      obtain ⟨d0, d1, d2, d3, d4, e0, e1, e2, e3, e4⟩ := hW'
      go_simp
    simp only [tkA, tkf]
    refine ad ?_
    go_wp2
    go_ret
    exact ⟨ret_b (by first | rfl | exact hr.symm), b5⟩
   | true =>
   cases es : sameV x.val y.val with
   | false =>
    have hr := hN (fun e => by subst e; rw [(sameV_eq _ _).2 rfl] at es; cases es)
    simp only [es] at HS
    unfold Val.v at HS
    clear hN hY
    go_upto_region 6 with fail
    refine rh (fun W => W.cell? ⟨b, o + k * 5, none⟩ = some (.string x.name) ∧ W.cell? ⟨b, o + k * 5 + 1, none⟩ = some (.int .i64 x.val.kind) ∧ W.cell? ⟨b, o + k * 5 + 2, none⟩ = some (.int .i64 x.val.num) ∧ W.cell? ⟨b, o + k * 5 + 3, none⟩ = some (.string x.val.text) ∧ W.cell? ⟨b, o + k * 5 + 4, none⟩ = some (.float .f64 x.val.real) ∧ W.cell? ⟨b', o' + k * 5, none⟩ = some (.string y.name) ∧ W.cell? ⟨b', o' + k * 5 + 1, none⟩ = some (.int .i64 y.val.kind) ∧ W.cell? ⟨b', o' + k * 5 + 2, none⟩ = some (.int .i64 y.val.num) ∧ W.cell? ⟨b', o' + k * 5 + 3, none⟩ = some (.string y.val.text) ∧ W.cell? ⟨b', o' + k * 5 + 4, none⟩ = some (.float .f64 y.val.real)) ?_
    have hS : (fun W : World => W.cell? ⟨b, o + k * 5, none⟩ = some (.string x.name) ∧ W.cell? ⟨b, o + k * 5 + 1, none⟩ = some (.int .i64 x.val.kind) ∧ W.cell? ⟨b, o + k * 5 + 2, none⟩ = some (.int .i64 x.val.num) ∧ W.cell? ⟨b, o + k * 5 + 3, none⟩ = some (.string x.val.text) ∧ W.cell? ⟨b, o + k * 5 + 4, none⟩ = some (.float .f64 x.val.real) ∧ W.cell? ⟨b', o' + k * 5, none⟩ = some (.string y.name) ∧ W.cell? ⟨b', o' + k * 5 + 1, none⟩ = some (.int .i64 y.val.kind) ∧ W.cell? ⟨b', o' + k * 5 + 2, none⟩ = some (.int .i64 y.val.num) ∧ W.cell? ⟨b', o' + k * 5 + 3, none⟩ = some (.string y.val.text) ∧ W.cell? ⟨b', o' + k * 5 + 4, none⟩ = some (.float .f64 y.val.real)) wr.drew := ⟨d0, d1, d2, d3, d4, e0, e1, e2, e3, e4⟩
    have b5 : Below w.heap.size w wr.drew := hbr.drew
    clear d0 d1 d2 d3 d4 e0 e1 e2 e3 e4
    generalize wr.drew = w5 at *
    refine tks [0, 1] [.slice (some ⟨b, o, none⟩) l.length c, .int .i64 k] 23 ?_ hS ?_
    ·simp only [tkY, tkf]
     refine ⟨.yes ?_, .yes ?_, trivial⟩
     all_goals
      intro W' hW'
      go_simp
    simp only [tkA, tkf]
    refine wpAnyH_take (i := 2) (v := .pointer (some ⟨b, o + k * 5, none⟩)) rfl (by kernel_rfl) (by kernel_rfl) (by kernel_rfl) (fun _ _ _ h => h) (.inl ⟨by rfl, fun W' hW' => ?_⟩) hS ?_
    ·go_simp
     (try (intro hh; omega))
    simp only [tkf]
    refine tks [3, 4, 5, 6] [.pointer (some ⟨b, o + k * 5, none⟩), .string x.name, .slice (some ⟨b', o', none⟩) l.length c', .int .i64 k] 18 ?_ hS ?_
    ·simp only [tkY, tkf]
     refine ⟨.yes ?_, .yes ?_, .yes ?_, .yes ?_, trivial⟩
     all_goals
      intro W' hW'
      obtain ⟨d0, d1, d2, d3, d4, e0, e1, e2, e3, e4⟩ := hW'
      go_simp
    simp only [tkA, tkf]
    refine wpAnyH_take (i := 7) (v := .pointer (some ⟨b', o' + k * 5, none⟩)) rfl (by kernel_rfl) (by kernel_rfl) (by kernel_rfl) (fun _ _ _ h => h) (.inl ⟨by rfl, fun W' hW' => ?_⟩) hS ?_
    ·go_simp
     (try (intro hh; omega))
    simp only [tkf]
    refine tks [8, 9, 10, 11, 12, 13] [.pointer (some ⟨b', o' + k * 5, none⟩), .string y.name, .bool false, .bool false, .slice (some ⟨b, o, none⟩) l.length c, .int .i64 k] 11 ?_ hS ?_
    ·simp only [tkY, tkf]
     refine ⟨.yes ?_, .yes ?_, .yes ?_, .yes ?_, .yes ?_, .yes ?_, trivial⟩
     all_goals
      intro W' hW'
      obtain ⟨d0, d1, d2, d3, d4, e0, e1, e2, e3, e4⟩ := hW'
      go_simp
    simp only [tkA, tkf]
    refine wpAnyH_take (i := 14) (v := .pointer (some ⟨b, o + k * 5, none⟩)) rfl (by kernel_rfl) (by kernel_rfl) (by kernel_rfl) (fun _ _ _ h => h) (.inl ⟨by rfl, fun W' hW' => ?_⟩) hS ?_
    ·go_simp
     (try (intro hh; omega))
    simp only [tkf]
    refine tks [15, 16, 17, 18] [.pointer (some ⟨b, o + k * 5 + 1, none⟩), .agg #[.int .i64 x.val.kind, .int .i64 x.val.num, .string x.val.text, .float .f64 x.val.real], .slice (some ⟨b', o', none⟩) l.length c', .int .i64 k] 6 ?_ hS ?_
    ·simp only [tkY, tkf]
     refine ⟨.yes ?_, .yes ?_, .yes ?_, .yes ?_, trivial⟩
     all_goals
      intro W' hW'
      obtain ⟨d0, d1, d2, d3, d4, e0, e1, e2, e3, e4⟩ := hW'
      go_simp
    simp only [tkA, tkf]
    refine wpAnyH_take (i := 19) (v := .pointer (some ⟨b', o' + k * 5, none⟩)) rfl (by kernel_rfl) (by kernel_rfl) (by kernel_rfl) (fun _ _ _ h => h) (.inl ⟨by rfl, fun W' hW' => ?_⟩) hS ?_
    ·go_simp
     (try (intro hh; omega))
    simp only [tkf]
    refine tks [20, 21] [.pointer (some ⟨b', o' + k * 5 + 1, none⟩), .agg #[.int .i64 y.val.kind, .int .i64 y.val.num, .string y.val.text, .float .f64 y.val.real]] 3 ?_ hS ?_
    ·simp only [tkY, tkf]
     refine ⟨.yes ?_, .yes ?_, trivial⟩
     all_goals
      intro W' hW'
      obtain ⟨d0, d1, d2, d3, d4, e0, e1, e2, e3, e4⟩ := hW'
      go_simp
    simp only [tkA, tkf]
    refine ak 22 fun K hK => ?_
    go_simp
    refine (HS _).mono ?_
    rintro e w6 ⟨rfl, hb6⟩
    obtain ⟨d0, d1, d2, d3, d4, e0, e1, e2, e3, e4⟩ := hS
    have hS6 : (fun W : World => W.cell? ⟨b, o + k * 5, none⟩ = some (.string x.name) ∧ W.cell? ⟨b, o + k * 5 + 1, none⟩ = some (.int .i64 x.val.kind) ∧ W.cell? ⟨b, o + k * 5 + 2, none⟩ = some (.int .i64 x.val.num) ∧ W.cell? ⟨b, o + k * 5 + 3, none⟩ = some (.string x.val.text) ∧ W.cell? ⟨b, o + k * 5 + 4, none⟩ = some (.float .f64 x.val.real) ∧ W.cell? ⟨b', o' + k * 5, none⟩ = some (.string y.name) ∧ W.cell? ⟨b', o' + k * 5 + 1, none⟩ = some (.int .i64 y.val.kind) ∧ W.cell? ⟨b', o' + k * 5 + 2, none⟩ = some (.int .i64 y.val.num) ∧ W.cell? ⟨b', o' + k * 5 + 3, none⟩ = some (.string y.val.text) ∧ W.cell? ⟨b', o' + k * 5 + 4, none⟩ = some (.float .f64 y.val.real)) w6 := ⟨box_on d0 hb6, box_on d1 hb6, box_on d2 hb6, box_on d3 hb6, box_on d4 hb6, box_on e0 hb6, box_on e1 hb6, box_on e2 hb6, box_on e3 hb6, box_on e4 hb6⟩
    have b6 := b5.trans (hb6.mono b5.size)
    show K _ _
    refine hK _ _ hS6 ?_
    clear hK K d0 d1 d2 d3 d4 e0 e1 e2 e3 e4
    refine tks [23, 24] [.bool true, .bool true] 0 ?_ hS6 ?_
    ·simp only [tkY, tkf]
     refine ⟨.yes ?_, .yes ?_, trivial⟩
     all_goals
      intro W' hW'
      go_simp
    simp only [tkA, tkf]
    refine ad ?_
    go_wp2
    go_ret
    exact ⟨ret_b (by first | rfl | exact hr.symm), b6⟩
   | true =>
    have hn := hY.out ((pr_eq x y).2 ⟨by simpa using en, es⟩)
    have hn2 : Hid (∀ j (h : j < l.length) (h' : j < m.length), j < k + 1 → l[j] = m[j]) := hn
    simp only [es] at HS
    unfold Val.v at HS
    clear hN hY hn
    go_upto_region 6 with fail
    refine rh (fun W => W.cell? ⟨b, o + k * 5, none⟩ = some (.string x.name) ∧ W.cell? ⟨b, o + k * 5 + 1, none⟩ = some (.int .i64 x.val.kind) ∧ W.cell? ⟨b, o + k * 5 + 2, none⟩ = some (.int .i64 x.val.num) ∧ W.cell? ⟨b, o + k * 5 + 3, none⟩ = some (.string x.val.text) ∧ W.cell? ⟨b, o + k * 5 + 4, none⟩ = some (.float .f64 x.val.real) ∧ W.cell? ⟨b', o' + k * 5, none⟩ = some (.string y.name) ∧ W.cell? ⟨b', o' + k * 5 + 1, none⟩ = some (.int .i64 y.val.kind) ∧ W.cell? ⟨b', o' + k * 5 + 2, none⟩ = some (.int .i64 y.val.num) ∧ W.cell? ⟨b', o' + k * 5 + 3, none⟩ = some (.string y.val.text) ∧ W.cell? ⟨b', o' + k * 5 + 4, none⟩ = some (.float .f64 y.val.real)) ?_
    have hS : (fun W : World => W.cell? ⟨b, o + k * 5, none⟩ = some (.string x.name) ∧ W.cell? ⟨b, o + k * 5 + 1, none⟩ = some (.int .i64 x.val.kind) ∧ W.cell? ⟨b, o + k * 5 + 2, none⟩ = some (.int .i64 x.val.num) ∧ W.cell? ⟨b, o + k * 5 + 3, none⟩ = some (.string x.val.text) ∧ W.cell? ⟨b, o + k * 5 + 4, none⟩ = some (.float .f64 x.val.real) ∧ W.cell? ⟨b', o' + k * 5, none⟩ = some (.string y.name) ∧ W.cell? ⟨b', o' + k * 5 + 1, none⟩ = some (.int .i64 y.val.kind) ∧ W.cell? ⟨b', o' + k * 5 + 2, none⟩ = some (.int .i64 y.val.num) ∧ W.cell? ⟨b', o' + k * 5 + 3, none⟩ = some (.string y.val.text) ∧ W.cell? ⟨b', o' + k * 5 + 4, none⟩ = some (.float .f64 y.val.real)) wr.drew := ⟨d0, d1, d2, d3, d4, e0, e1, e2, e3, e4⟩
    have b5 : Below w.heap.size w wr.drew := hbr.drew
    clear d0 d1 d2 d3 d4 e0 e1 e2 e3 e4
    generalize wr.drew = w5 at *
    refine tks [0, 1] [.slice (some ⟨b, o, none⟩) l.length c, .int .i64 k] 23 ?_ hS ?_
    ·simp only [tkY, tkf]
     refine ⟨.yes ?_, .yes ?_, trivial⟩
     all_goals
      intro W' hW'
      go_simp
    simp only [tkA, tkf]
    refine wpAnyH_take (i := 2) (v := .pointer (some ⟨b, o + k * 5, none⟩)) rfl (by kernel_rfl) (by kernel_rfl) (by kernel_rfl) (fun _ _ _ h => h) (.inl ⟨by rfl, fun W' hW' => ?_⟩) hS ?_
    ·go_simp
     (try (intro hh; omega))
    simp only [tkf]
    refine tks [3, 4, 5, 6] [.pointer (some ⟨b, o + k * 5, none⟩), .string x.name, .slice (some ⟨b', o', none⟩) l.length c', .int .i64 k] 18 ?_ hS ?_
    ·simp only [tkY, tkf]
     refine ⟨.yes ?_, .yes ?_, .yes ?_, .yes ?_, trivial⟩
     all_goals
      intro W' hW'
      obtain ⟨d0, d1, d2, d3, d4, e0, e1, e2, e3, e4⟩ := hW'
      go_simp
    simp only [tkA, tkf]
    refine wpAnyH_take (i := 7) (v := .pointer (some ⟨b', o' + k * 5, none⟩)) rfl (by kernel_rfl) (by kernel_rfl) (by kernel_rfl) (fun _ _ _ h => h) (.inl ⟨by rfl, fun W' hW' => ?_⟩) hS ?_
    ·go_simp
     (try (intro hh; omega))
    simp only [tkf]
    refine tks [8, 9, 10, 11, 12, 13] [.pointer (some ⟨b', o' + k * 5, none⟩), .string y.name, .bool false, .bool false, .slice (some ⟨b, o, none⟩) l.length c, .int .i64 k] 11 ?_ hS ?_
    ·simp only [tkY, tkf]
     refine ⟨.yes ?_, .yes ?_, .yes ?_, .yes ?_, .yes ?_, .yes ?_, trivial⟩
     all_goals
      intro W' hW'
      obtain ⟨d0, d1, d2, d3, d4, e0, e1, e2, e3, e4⟩ := hW'
      go_simp
    simp only [tkA, tkf]
    refine wpAnyH_take (i := 14) (v := .pointer (some ⟨b, o + k * 5, none⟩)) rfl (by kernel_rfl) (by kernel_rfl) (by kernel_rfl) (fun _ _ _ h => h) (.inl ⟨by rfl, fun W' hW' => ?_⟩) hS ?_
    ·go_simp
     (try (intro hh; omega))
    simp only [tkf]
    refine tks [15, 16, 17, 18] [.pointer (some ⟨b, o + k * 5 + 1, none⟩), .agg #[.int .i64 x.val.kind, .int .i64 x.val.num, .string x.val.text, .float .f64 x.val.real], .slice (some ⟨b', o', none⟩) l.length c', .int .i64 k] 6 ?_ hS ?_
    ·simp only [tkY, tkf]
     refine ⟨.yes ?_, .yes ?_, .yes ?_, .yes ?_, trivial⟩
     all_goals
      intro W' hW'
      obtain ⟨d0, d1, d2, d3, d4, e0, e1, e2, e3, e4⟩ := hW'
      go_simp
    simp only [tkA, tkf]
    refine wpAnyH_take (i := 19) (v := .pointer (some ⟨b', o' + k * 5, none⟩)) rfl (by kernel_rfl) (by kernel_rfl) (by kernel_rfl) (fun _ _ _ h => h) (.inl ⟨by rfl, fun W' hW' => ?_⟩) hS ?_
    ·go_simp
     (try (intro hh; omega))
    simp only [tkf]
    refine tks [20, 21] [.pointer (some ⟨b', o' + k * 5 + 1, none⟩), .agg #[.int .i64 y.val.kind, .int .i64 y.val.num, .string y.val.text, .float .f64 y.val.real]] 3 ?_ hS ?_
    ·simp only [tkY, tkf]
     refine ⟨.yes ?_, .yes ?_, trivial⟩
     all_goals
      intro W' hW'
      obtain ⟨d0, d1, d2, d3, d4, e0, e1, e2, e3, e4⟩ := hW'
      go_simp
    simp only [tkA, tkf]
    refine ak 22 fun K hK => ?_
    go_simp
    refine (HS _).mono ?_
    rintro e w6 ⟨rfl, hb6⟩
    obtain ⟨d0, d1, d2, d3, d4, e0, e1, e2, e3, e4⟩ := hS
    have hS6 : (fun W : World => W.cell? ⟨b, o + k * 5, none⟩ = some (.string x.name) ∧ W.cell? ⟨b, o + k * 5 + 1, none⟩ = some (.int .i64 x.val.kind) ∧ W.cell? ⟨b, o + k * 5 + 2, none⟩ = some (.int .i64 x.val.num) ∧ W.cell? ⟨b, o + k * 5 + 3, none⟩ = some (.string x.val.text) ∧ W.cell? ⟨b, o + k * 5 + 4, none⟩ = some (.float .f64 x.val.real) ∧ W.cell? ⟨b', o' + k * 5, none⟩ = some (.string y.name) ∧ W.cell? ⟨b', o' + k * 5 + 1, none⟩ = some (.int .i64 y.val.kind) ∧ W.cell? ⟨b', o' + k * 5 + 2, none⟩ = some (.int .i64 y.val.num) ∧ W.cell? ⟨b', o' + k * 5 + 3, none⟩ = some (.string y.val.text) ∧ W.cell? ⟨b', o' + k * 5 + 4, none⟩ = some (.float .f64 y.val.real)) w6 := ⟨box_on d0 hb6, box_on d1 hb6, box_on d2 hb6, box_on d3 hb6, box_on d4 hb6, box_on e0 hb6, box_on e1 hb6, box_on e2 hb6, box_on e3 hb6, box_on e4 hb6⟩
    have b6 := b5.trans (hb6.mono b5.size)
    show K _ _
    refine hK _ _ hS6 ?_
    clear hK K d0 d1 d2 d3 d4 e0 e1 e2 e3 e4
    refine tks [23, 24] [.bool false, .bool false] 0 ?_ hS6 ?_
    ·simp only [tkY, tkf]
     refine ⟨.yes ?_, .yes ?_, trivial⟩
     all_goals
      intro W' hW'
      go_simp
    simp only [tkA, tkf]
    refine ad ?_
    go_wp2
    go_roundw
    case rel => exact ⟨k + 1, by omega, by go_num, b6, hn2⟩
    case measure => simp [RowKit.intOf]; omega
  ·have hr := HE.out (fun j h h' => hz.out j h h' (by omega))
   go_wp2
   go_ret
   exact ⟨ret_b (by first | rfl | exact hr.symm), hbr⟩
set_option maxRecDepth 4000 in
theorem all7_len (w : World) (l m : List Pr) (a a' : Option Addr) (c c' : Nat) (h : l.length ≠ m.length) : Calls Tryz.prog 45 #[.slice a l.length c, .slice a' m.length c'] w fun e w' => e = .returned (.bool false) ∧ Below w.heap.size w w' := by
 have h1 : (l.length : Int) ≠ (m.length : Int) := by omega
 go_enter Tryz.func45, Tryz.ntmps45
 go_wp2
 go_ret
 exact ⟨rfl, Below.refl _ _⟩
set_option maxRecDepth 4000 in
theorem all7_nil (w : World) (a a' : Option Addr) (c c' : Nat) : Calls Tryz.prog 45 #[.slice a 0 c, .slice a' 0 c'] w fun e w' => e = .returned (.bool true) ∧ Below w.heap.size w w' := by
 go_enter Tryz.func45, Tryz.ntmps45
 go_wp2_with fail
 go_loopw [13] (fun i wr => i = .int .i64 0 ∧ wr = w) (fun _ _ => 0)
 case atStart => exact ⟨rfl, rfl⟩
 case round =>
  obtain ⟨rfl, rfl⟩ := hrel
  go_wp2
  go_ret
  exact ⟨rfl, Below.refl _ _⟩
theorem all7 (w : World) (v u : Value) (l m : List Pr) (h : RdP w v l) (h' : RdP w u m) (h63 : l.length ≤ 9223372036854775806) : Calls Tryz.prog 45 #[v, u] w fun e w' => e = .returned (.bool (sameL l m)) ∧ Below w.heap.size w w' := by
 by_cases hl : l.length = m.length
 ·by_cases h0 : l = []
  ·subst h0
   have hm : m = [] := List.length_eq_zero_iff.1 hl.symm
   subst hm
   obtain ⟨a, c, rfl⟩ := h.shape
   obtain ⟨a', c', rfl⟩ := h'.shape
   exact all7_nil w a a' c c'
  ·obtain ⟨b, o, c, rfl, _, hP⟩ := h.some h0
   obtain ⟨b', o', c', rfl, _, hQ⟩ := h'.some (fun e => h0 (by rw [e] at hl; exact List.length_eq_zero_iff.1 hl))
   rw [← hl]
   exact all7_some w l m b o c b' o' c' hl.symm hP hQ h63
 ·obtain ⟨a, c, rfl⟩ := h.shape
  obtain ⟨a', c', rfl⟩ := h'.shape
  rw [sameL_ne (fun e => hl (by rw [e]))]
  exact all7_len w l m a a' c c' hl
end Go.Proofs.YtnpikgakpmkipabGreatDoor
namespace Go.Proofs.YtnpikgakpmkipabGreatDoor
open Go.RowKit Go.Lib
set_option maxRecDepth 100000
set_option linter.unusedSimpArgs false
theorem sameL_self (l : List Pr) : sameL l l = true := (sameL_eq l l).2 rfl
theorem sameMsg_same (w : World) (m : Msg) (pv pv' : Value) (h : RdP w pv m.props) (h' : RdP w pv' m.props) (h63 : m.props.length ≤ 9223372036854775806) :
  Calls Tryz.prog 27 #[.agg (msgV m pv).toArray, .agg (msgV m pv').toArray] w fun e w' => e = .returned (.bool true) ∧ Bw w w' := by
 have hA := fun (W : World) (b : Bw w W) => all7 W pv pv' m.props m.props (h.on b) (h'.on b) h63
 simp only [sameL_self] at hA
 unfold msgV
 have k1 := (Blk.new w (msA m pv) 33).alloc (.cells (msA m pv') 33)
 have k2 := Blk.new (w.alloc (.cells (msA m pv) 33)) (msA m pv') 33
 rw [World.size_alloc] at k2
 have b2 := ((Below.refl w.heap.size w).alloc (Nat.le_refl _) (.cells (msA m pv) 33)).alloc (by simp) (.cells (msA m pv') 33)
 go_enter Tryz.func27, Tryz.ntmps27
 go_upto_region 1 with fail
 generalize (w.alloc (.cells (msA m pv) 33)).alloc (.cells (msA m pv') 33) = w2 at *
 obtain ⟨c0, c1, c2, c3, c4⟩ := k1.c5
 obtain ⟨d0, d1, d2, d3, d4⟩ := k2.c5
 clear k1 k2 h h'
 go_wp2_with fail
 refine (hA _ b2).mono ?_
 rintro e w3 ⟨rfl, b3⟩
 go_wp2
 go_ret
 exact ⟨rfl, nxt b2 b3⟩
theorem sameItem_same (w : World) (x : Itm) (pv pv' : Value) (h : RdP w pv x.msg.props) (h' : RdP w pv' x.msg.props) (h63 : x.msg.props.length ≤ 9223372036854775806) :
  Calls Tryz.prog 96 #[.agg (itmV x pv).toArray, .agg (itmV x pv').toArray] w fun e w' => e = .returned (.bool true) ∧ Bw w w' := by
 have hA := fun (W : World) (b : Bw w W) => sameMsg_same W x.msg pv pv' (h.on b) (h'.on b) h63
 unfold itmV
 unfold msgV at hA
 have k1 := (Blk.new w (itA x pv) 131).alloc (.cells (itA x pv') 131)
 have k2 := Blk.new (w.alloc (.cells (itA x pv) 131)) (itA x pv') 131
 rw [World.size_alloc] at k2
 have b2 := ((Below.refl w.heap.size w).alloc (Nat.le_refl _) (.cells (itA x pv) 131)).alloc (by simp) (.cells (itA x pv') 131)
 go_enter Tryz.func96, Tryz.ntmps96
 go_upto_region 1 with fail
 generalize (w.alloc (.cells (itA x pv) 131)).alloc (.cells (itA x pv') 131) = w2 at *
 obtain ⟨c0, c1, c2, c3, c4, c5, c6⟩ := k1.c7
 obtain ⟨d0, d1, d2, d3, d4, d5, d6⟩ := k2.c7
 clear k1 k2 h h'
 go_wp2_with fail
 refine (hA _ b2).mono ?_
 rintro e w3 ⟨rfl, b3⟩
 go_wp2
 go_ret
 exact ⟨rfl, nxt b2 b3⟩
end Go.Proofs.YtnpikgakpmkipabGreatDoor
