/- What Take answers. Conditions: To.Vars, what the library's variables hold, and those that each row states. -/
import Derived.Test.YtnpikgakpmkipabGreatDoorZ04
import Derived.Test.YtnpikgakpmkipabGreatDoorZ03
import Derived.Test.YtnpikgakpmkipabGreatDoorZ07
namespace Go.Proofs.YtnpikgakpmkipabGreatDoor
open Go.RowKit Go.Lib
set_option maxRecDepth 100000
set_option linter.unusedSimpArgs false
structure TkS (w W : World) (qs : Array Value) : Prop where
 q : Blk W w.heap.size qs 82
 r : Blk W (w.heap.size + 1) quZ 82
 i : Blk W (w.heap.size + 2) itZ 131
 b : Bw w W
theorem TkS.on {w W W' : World} {qs : Array Value} (h : TkS w W qs) (hb : Bw W W') : TkS w W' qs := ⟨h.q.on hb, h.r.on hb, h.i.on hb, nxt h.b hb⟩
theorem OwnZ.at {α : Type} {e k : Nat} {R : List Value → α → Prop} {w : World} {B g cap n : Nat} {zs : Zs α} (h : OwnZ e k R w B (.slice (some ⟨g, 0, none⟩) n cap) zs) {i : Nat} (hi : i < zs.length) :
  ∀ j u, (zs[i].1)[j]? = some u → w.cell? ⟨g, i * k + j, none⟩ = some u := fun j u hu => by
 have := h.rd.cells hi j u hu
 rwa [Nat.zero_add] at this
structure TkX (w W : World) (bi : Nat) (qs xs : Array Value) : Prop where
 q : Blk W w.heap.size qs 82
 r : Blk W (w.heap.size + 1) quZ 82
 i : Blk W (w.heap.size + 2) itZ 131
 x : Blk W bi xs 131
 b : Bw w W
theorem TkX.on {w W W' : World} {bi : Nat} {qs xs : Array Value} (h : TkX w W bi qs xs) (hb : Bw W W') : TkX w W' bi qs xs := ⟨h.q.on hb, h.r.on hb, h.i.on hb, h.x.on hb, nxt h.b hb⟩
theorem OwnI.but {w w' : World} {B g : Nat} {v : Value} {l : List Itm} (h : OwnI w B v l) (hg : w.grownBy w' (some g)) (hne : v.ownBlock ≠ some g) (h54 : Kt 66 w w') : OwnI w' B v l := by
 obtain ⟨zs, h1, h2⟩ := h
 refine ⟨zs, h1, ⟨h2.1.kept hg (.inr hne), fun z hz => ⟨(h2.2 z hz).1, (h2.2 z hz).2.keep h54⟩⟩⟩
set_option maxHeartbeats 4000000 in
theorem take_any (w : World) (hva : To.Vars w) (v : Value) (q : Que) (h : RdQ w v q) (conn sub : Int) (hold : Bool) (hbig : lenQ q ≤ 1000000) :
  Calls Tryz.prog 161 #[v, .int .i64 conn, .int .i64 sub, .bool hold] w fun e w' => ∃ v' pv', e = .returned (.tuple #[v', .int .i64 (if takeC q conn sub = 0 then (if hold then q.tag + 1 else 0) else 0), .agg (itmV (if takeC q conn sub = 0 then q.items.headD zeroI else zeroI) pv').toArray, .int .i64 (takeC q conn sub)]) ∧
   OwnQ w' w.heap.size v' (if takeC q conn sub = 0 then takeQ q conn sub hold else zeroQ) ∧ OwnP w' w.heap.size pv' (if takeC q conn sub = 0 then q.items.headD zeroI else zeroI).msg.props ∧ Bw w w' := by
 have hR := h
 obtain ⟨iv, hv, rfl, hi, hh⟩ := h
 have OI : ∃ a c, iv = .slice a q.items.length c := hi.len
 have OH : ∃ a c, hv = .slice a q.held.length c := hh.len
 clear hi hh
 have HG : ∀ W, Bw w W → Calls Tryz.prog 64 #[queV q iv hv] W fun e w' => e = .returned (.bool (goodQ q)) ∧ Bw W w' := fun W b => good_any W (hva.below b) _ q (hR.on b) hbig
 have HC := fun W => con_any W conn
 have HN := fun W => num_any W sub
 have S0 : TkS w (((w.alloc (.cells (quA q iv hv) 82)).alloc (.cells quZ 82)).alloc (.cells itZ 131)) (quA q iv hv) := by
  refine ⟨((Blk.new _ _ _).alloc _).alloc _, ?_, ?_, (((Below.refl _ w).alloc (Nat.le_refl _) _).alloc (by simp) _).alloc (by simp; omega) _⟩
  ·have := (Blk.new (w.alloc (.cells (quA q iv hv) 82)) quZ 82).alloc (.cells itZ 131)
   rwa [World.size_alloc] at this
  ·have := Blk.new ((w.alloc (.cells (quA q iv hv) 82)).alloc (.cells quZ 82)) itZ 131
   rwa [World.size_alloc, World.size_alloc] at this
 unfold queV at *
 go_enter Tryz.func161, Tryz.ntmps161
 go_upto_region 1 with fail
 generalize ((w.alloc (.cells (quA q iv hv) 82)).alloc (.cells quZ 82)).alloc (.cells itZ 131) = w1 at *
 go_wp2_with (refine wpl_load25 rfl (.tmp 4) rfl _ _ rfl S0.q rfl ?_)
 refine (HG _ S0.b).mono ?_
 rintro e w2 ⟨rfl, b2⟩
 have S2 := S0.on b2
 clear S0 b2
 cases hg : goodQ q with
 | false =>
  have e0 : takeC q conn sub = 1 := by simp [takeC, hg]
  go_wp2_with (refine wpl_put rfl (.tmp 8) (.tmp 31) rfl _ _ rfl rfl S2.r (by kernel_rfl) rfl (by simp [Value.oneCell']) ?_)
  intro W' k' g' s'
  have i' := S2.i.grown g' (fun e => by injection e with e; omega)
  have b' := S2.b.grown g' S2.b.size (fun k hk => by injection hk with hk; omega)
  clear g'
  go_wp2_with (refine wpl_put rfl (.tmp 10) (.tmp 32) rfl _ _ rfl rfl i' (by kernel_rfl) rfl (by simp [Value.oneCell']) ?_)
  intro W2 k2 g2 s2
  go_wp2_with fail
  refine ret4 rfl (k'.grown g2 (fun e => by injection e with e; omega)) rfl k2 rfl rfl rfl rfl rfl ⟨_, .slice none 0 0, rfl, own_zero _ _, World.ownsRow_nil .., b'.grown g2 b'.size (fun k hk => by injection hk with hk; omega)⟩
 | true =>
  obtain ⟨hsm, hl64, _, _, hq1, hq2⟩ := goodQ_small hg
  obtain ⟨c0, c1, c2, c3, c4, c5, c6⟩ := S2.q.c7
  go_wp2_with fail
  refine (HC _).mono ?_
  rintro e w3 ⟨rfl, rfl⟩
  cases hc : conB conn with
  | false =>
   have e0 : takeC q conn sub = 1 := by simp [takeC, hg, hc]
   go_wp2_with (refine wpl_put rfl (.tmp 8) (.tmp 31) rfl _ _ rfl rfl S2.r (by kernel_rfl) rfl (by simp [Value.oneCell']) ?_)
   intro W' k' g' s'
   have i' := S2.i.grown g' (fun e => by injection e with e; omega)
   have b' := S2.b.grown g' S2.b.size (fun k hk => by injection hk with hk; omega)
   clear g'
   go_wp2_with (refine wpl_put rfl (.tmp 10) (.tmp 32) rfl _ _ rfl rfl i' (by kernel_rfl) rfl (by simp [Value.oneCell']) ?_)
   intro W2 k2 g2 s2
   go_wp2_with fail
   refine ret4 rfl (k'.grown g2 (fun e => by injection e with e; omega)) rfl k2 rfl rfl rfl rfl rfl ⟨_, .slice none 0 0, rfl, own_zero _ _, World.ownsRow_nil .., b'.grown g2 b'.size (fun k hk => by injection hk with hk; omega)⟩
  | true =>
   go_wp2_with fail
   refine (HN _).mono ?_
   rintro e w4 ⟨rfl, rfl⟩
   cases hn : numB sub with
   | false =>
    have e0 : takeC q conn sub = 1 := by simp [takeC, hg, hc, hn]
    go_wp2_with (refine wpl_put rfl (.tmp 8) (.tmp 31) rfl _ _ rfl rfl S2.r (by kernel_rfl) rfl (by simp [Value.oneCell']) ?_)
    intro W' k' g' s'
    have i' := S2.i.grown g' (fun e => by injection e with e; omega)
    have b' := S2.b.grown g' S2.b.size (fun k hk => by injection hk with hk; omega)
    clear g'
    go_wp2_with (refine wpl_put rfl (.tmp 10) (.tmp 32) rfl _ _ rfl rfl i' (by kernel_rfl) rfl (by simp [Value.oneCell']) ?_)
    intro W2 k2 g2 s2
    go_wp2_with fail
    refine ret4 rfl (k'.grown g2 (fun e => by injection e with e; omega)) rfl k2 rfl rfl rfl rfl rfl ⟨_, .slice none 0 0, rfl, own_zero _ _, World.ownsRow_nil .., b'.grown g2 b'.size (fun k hk => by injection hk with hk; omega)⟩
   | true =>
    by_cases ht : q.tag = 1099511627776
    ·rw [ht] at c4
     have e0 : takeC q conn sub = 1 := by simp [takeC, hg, hc, hn, ht]
     go_wp2_with (refine wpl_put rfl (.tmp 8) (.tmp 31) rfl _ _ rfl rfl S2.r (by kernel_rfl) rfl (by simp [Value.oneCell']) ?_)
     intro W' k' g' s'
     have i' := S2.i.grown g' (fun e => by injection e with e; omega)
     have b' := S2.b.grown g' S2.b.size (fun k hk => by injection hk with hk; omega)
     clear g'
     go_wp2_with (refine wpl_put rfl (.tmp 10) (.tmp 32) rfl _ _ rfl rfl i' (by kernel_rfl) rfl (by simp [Value.oneCell']) ?_)
     intro W2 k2 g2 s2
     go_wp2_with fail
     refine ret4 rfl (k'.grown g2 (fun e => by injection e with e; omega)) rfl k2 rfl rfl rfl rfl rfl ⟨_, .slice none 0 0, rfl, own_zero _ _, World.ownsRow_nil .., b'.grown g2 b'.size (fun k hk => by injection hk with hk; omega)⟩
    ·obtain ⟨ai, ci, rfl⟩ := OI
     by_cases hz : q.items.length = 0
     ·have hzz : ((q.items.length : Int) == 0) = true := by simp [hz]
      have e0 : takeC q conn sub = 33 := by simp [takeC, hg, hc, hn, ht, hz]
      go_wp2_with (refine wpl_put rfl (.tmp 8) (.tmp 37) rfl _ _ rfl rfl S2.r (by kernel_rfl) rfl (by simp [Value.oneCell']) ?_)
      intro W' k' g' s'
      have i' := S2.i.grown g' (fun e => by injection e with e; omega)
      have b' := S2.b.grown g' S2.b.size (fun k hk => by injection hk with hk; omega)
      clear g'
      go_wp2_with (refine wpl_put rfl (.tmp 10) (.tmp 38) rfl _ _ rfl rfl i' (by kernel_rfl) rfl (by simp [Value.oneCell']) ?_)
      intro W2 k2 g2 s2
      go_wp2_with fail
      refine ret4 rfl (k'.grown g2 (fun e => by injection e with e; omega)) rfl k2 rfl rfl rfl rfl rfl ⟨_, .slice none 0 0, rfl, own_zero _ _, World.ownsRow_nil .., b'.grown g2 b'.size (fun k hk => by injection hk with hk; omega)⟩
     ·have hzz : ((q.items.length : Int) == 0) = false := by simp [hz]
      have hcp := copy_any w4 _ q (hR.on S2.b) hsm
      unfold queV at hcp
      have HE : takeC q conn sub = 0 := by simp [takeC, hg, hc, hn, ht, hz]
      go_wp2_with (refine wpl_load25 rfl (.tmp 4) rfl _ _ rfl S2.q rfl ?_)
      refine hcp.mono ?_
      rintro e w5 ⟨v5, rfl, ⟨iv5, hv5, rfl, oi5, oh5⟩, b5⟩
      obtain ⟨ah5, ch5, rfl⟩ := oh5.rd.len
      obtain ⟨zs, ezs, hzs'⟩ := oi5
      have hzl : zs.length = q.items.length := by rw [← ezs, List.length_map]
      have hz0 : 0 < zs.length := by omega
      have hz1000 : zs.length ≤ 1000 := by have := hsm.items; omega
      clear hzl
      obtain ⟨g, cap, cur, hgv, hg4, hgb, _⟩ := ownI_some hzs' hz0
      subst hgv
      have hzs : OwnZ 131 7 (ItR (OwnP w5 w.heap.size)) w5 w.heap.size (.slice (some ⟨g, 0, none⟩) zs.length cap) zs := (hzs'.low S2.b.size).imp fun _ _ h => h.low S2.b.size
      have hgn : g ≠ w.heap.size + 2 := by have := S2.i.lt; omega
      have hg5 := hgb.lt
      have S5 := S2.on b5
      have oh6 := oh5.low S2.b.size
      have HX : Hid (q.items.headD zeroI = (zs[0]).2) := by
       show q.items.headD zeroI = _
       rw [← ezs]
       cases zs with
       | nil => simp at hz0
       | cons z zs => rfl
      obtain ⟨hk0, pv0, hv0, hp0⟩ := hzs.2 (zs[0]) (List.getElem_mem hz0)
      have HZ : Hid (zs.map (·.2) = q.items) := ezs
      clear hcp S2 b5 hzs' hgb hg4 oh5 ezs c0 c1 c2 c3 c4 c5 c6
      generalize hxx : (zs[0]).2 = x at *
      obtain ⟨pa0, pc0, rfl⟩ := hp0.shape
      generalize q.held.length = nh at *
      unfold queV
      go_wp2_with (refine wpl_put rfl (.tmp 4) (.tmp 40) rfl _ _ rfl rfl S5.q (by kernel_rfl) rfl (by simp [Value.oneCell']) ?_)
      intro w6 k6 g6 s6
      have r6 := S5.r.grown g6 (fun e => by injection e with e; omega)
      have i6 := S5.i.grown g6 (fun e => by injection e with e; omega)
      have b6 := S5.b.grown g6 S5.b.size (fun k hk => by injection hk with hk; omega)
      have hg6 : g < w6.heap.size := by rw [s6]; exact hg5
      have t54 : Kt 66 w5 w6 := kt_grown S5.q g6 (by decide)
      have hzs6 : OwnZ 131 7 (ItR (OwnP w6 w.heap.size)) w6 w.heap.size (.slice (some ⟨g, 0, none⟩) zs.length cap) zs := (hzs.keep (kt_grown S5.q g6 (by decide))).imp fun _ _ h => h.keep t54
      have oh7 := oh6.keep (kt_grown S5.q g6 (by decide)) t54
      have hp6 := hp0.keep t54
      clear S5 hzs oh6 hp0 g6 s6 t54
      have hcell := hzs6.at hz0
      rw [hv0] at hcell
      simp only [Nat.zero_mul, Nat.zero_add] at hcell
      have a0 := hcell 0 _ rfl
      have a1 := hcell 1 _ rfl
      have a2 := hcell 2 _ rfl
      have a3 := hcell 3 _ rfl
      have a4 := hcell 4 _ rfl
      have a5 := hcell 5 _ rfl
      have a6 := hcell 6 _ rfl
      clear hcell
      obtain ⟨c0, c1, c2, c3, c4, c5, c6⟩ := k6.c7
      obtain ⟨nz, hnz⟩ : ∃ nz, zs.length = nz := ⟨_, rfl⟩
      have NZ : Hid (zs.length = nz) := hnz
      rw [hnz] at hzs6 c5 k6 hz0 hz1000 ⊢
      have hz0z : (0 : Int) < (nz : Int) := by omega
      generalize x.msg.props.length = pn at *
      clear hnz
      go_wp2_with (refine wpl_fresh rfl (.tmp 12) (.tmp 44) rfl _ _ rfl rfl (by kernel_rfl) rfl (by simp [Value.oneCell']) ?_)
      intro w7 k7 b7 s7
      have kq7 := k6.on b7
      have r7 := r6.on b7
      have i7 := i6.on b7
      have b07 := nxt b6 b7
      have hzs7 : OwnZ 131 7 (ItR (OwnP w7 w.heap.size)) w7 w.heap.size (.slice (some ⟨g, 0, none⟩) nz cap) zs := (hzs6.keep (.of_below b7)).imp fun _ _ h => h.keep (.of_below b7)
      have oh8 := oh7.keep (.of_below b7) (.of_below b7)
      have hp7 := hp6.keep (.of_below b7)
      have hdl := deleteI_any w7 w.heap.size _ zs _ hzs7 0 1 rfl (by rw [NZ.out]; exact hz0) (by rw [NZ.out]; omega)
      have hbi : w.heap.size ≤ w6.heap.size := b6.size
      obtain ⟨bi, hbi'⟩ : ∃ b, w6.heap.size = b := ⟨_, rfl⟩
      have hine : bi ≠ w.heap.size ∧ bi ≠ w.heap.size + 1 ∧ bi ≠ w.heap.size + 2 := by
       have h1 := k6.lt
       have h2 := r6.lt
       have h3 := i6.lt
       omega
      have hgi : g ≠ bi := by omega
      rw [hbi'] at k7 ⊢
      clear a0 a1 a2 a3 a4 a5 a6 c0 c1 c2 c3 c4 c5 c6 k6 r6 i6 b6 hzs6 oh7 hp6 b7 s7 hbi hbi'
      obtain ⟨c0, c1, c2, c3, c4, c5, c6⟩ := kq7.c7
      go_wp2_with fail
      refine hdl.mono ?_
      rintro e w8 ⟨v8, rfl, o8, g8, hob⟩
      have t25 : Kt 82 w7 w8 := Kt.of_grown hzs7.1 g8 (by decide)
      have t61 : Kt 133 w7 w8 := Kt.of_grown hzs7.1 g8 (by decide)
      have t54 : Kt 66 w7 w8 := Kt.of_grown hzs7.1 g8 (by decide)
      have kq8 := kq7.kt t25
      have r8 := r7.kt t25
      have oh9 := oh8.keep t61 t54
      have hp8 := hp7.keep t54
      have i8 := i7.grown g8 (fun e => hgn (by simp [Value.ownBlock] at e; omega))
      have k8 := k7.grown g8 (fun e => hgi (by simp [Value.ownBlock] at e; omega))
      have b8 := b07.grown g8 b07.size (fun k hk => (World.ownsRow.lt hzs7.1 k hk).1)
      have oi8 : OwnI w8 w.heap.size v8 (q.items.drop 1) := ⟨_, by rw [List.map_append, List.map_take, List.map_drop, HZ.out]; rfl, o8.imp fun _ _ h => h.keep t54⟩
      obtain ⟨a8, c8, rfl⟩ := oi8.rd.len
      obtain ⟨n8, hn8⟩ : ∃ n, (q.items.drop 1).length = n := ⟨_, rfl⟩
      rw [hn8] at oi8 ⊢
      have HX2 : Hid (q.items.headD zeroI = x) := HX
      have HX3 : Hid (q.items.head?.getD zeroI = x) := by have := HX; rw [List.headD_eq_head?_getD] at this; exact this
      have HRB : Hid ((Value.slice a8 n8 c8).ownBlock ≠ some (w.heap.size + 2)) := by
       have h1 := hob
       rw [hn8] at h1
       show (Value.slice a8 n8 c8).ownBlock ≠ _
       rw [h1]
       intro e
       exact hgn (by simpa [Value.ownBlock] using e)
      clear hob
      clear hdl hzs7 o8 g8 t25 t61 t54 kq7 r7 i7 k7 b07 oh8 hp7 c0 c1 c2 c3 c4 c5 c6 hn8 HX hgn hgi hg6 hg5 NZ HZ hxx hv0 hk0
      go_wp2_with (refine wpl_set rfl (.tmp 48) (.tmp 47) rfl _ 5 _ rfl rfl kq8 (by kernel_rfl) rfl rfl (by simp) ?_)
      intro w9 k9 g9 s9
      have kq9 : Blk w9 w.heap.size (quA q (.slice a8 n8 c8) (.slice ah5 nh ch5)) 82 := k9
      have r9 := r8.grown g9 (fun e => by injection e with e; omega)
      have i9 := i8.grown g9 (fun e => by injection e with e; omega)
      have kx9 := k8.grown g9 (fun e => hine.1 (by injection e))
      have b9 := b8.grown g9 b8.size (fun k hk => by injection hk with hk; omega)
      have t54 : Kt 66 w8 w9 := kt_grown kq8 g9 (by decide)
      have oi9 := oi8.keep (kt_grown kq8 g9 (by decide)) t54
      have oh10 := oh9.keep (kt_grown kq8 g9 (by decide)) t54
      have hp9 := hp8.keep t54
      clear kq8 r8 i8 k8 b8 oi8 oh9 hp8 g9 s9 t54 k9
      cases hold with
      | false =>
       go_upto_region 9 with fail
       have hS : Blk w9.drew w.heap.size (quA q (.slice a8 n8 c8) (.slice ah5 nh ch5)) 82 ∧ Blk w9.drew bi (itA x (.slice pa0 pn pc0)) 131 := ⟨⟨kq9.h⟩, ⟨kx9.h⟩⟩
       have rF : Blk w9.drew (w.heap.size + 1) quZ 82 := ⟨r9.h⟩
       have iF : Blk w9.drew (w.heap.size + 2) itZ 131 := ⟨i9.h⟩
       have bF := b9.drew
       have oiF : OwnI w9.drew w.heap.size (.slice a8 n8 c8) (q.items.drop 1) := oi9
       have ohF : OwnH w9.drew w.heap.size (.slice ah5 nh ch5) q.held := oh10
       have hpF : OwnP w9.drew w.heap.size (.slice pa0 pn pc0) x.msg.props := hp9
       clear kq9 r9 i9 kx9 b9 oi9 oh10 hp9
       refine rh (fun W => Blk W w.heap.size (quA q (.slice a8 n8 c8) (.slice ah5 nh ch5)) 82 ∧ Blk W bi (itA x (.slice pa0 pn pc0)) 131) ?_
       generalize w9.drew = wF at *
       replace hS : Blk wF w.heap.size (quA q (.slice a8 n8 c8) (.slice ah5 nh ch5)) 82 ∧ Blk wF bi (itA x (.slice pa0 pn pc0)) 131 := hS
       refine tks [0, 1] [.agg #[tx q.name, .bool q.dur, .int .i64 q.depth, .int .i64 q.seq, .int .i64 q.tag, .slice a8 n8 c8, .slice ah5 nh ch5], .agg #[.int .i64 x.seq, .bool x.again, tx x.msg.topic, tx x.msg.body, .slice pa0 pn pc0, .bool x.msg.dur, .int .i64 x.msg.til]] 4 ?_ hS ?_
       ·simp only [tkY, tkf]
        refine ⟨.yes ?_, .yes ?_, trivial⟩
        all_goals
         intro W' hW'
         obtain ⟨d0, d1, d2, d3, d4, d5, d6⟩ := hW'.1.c7
         obtain ⟨d0, d1, d2, d3, d4, d5, d6⟩ := hW'.2.c7
         go_simp
       simp only [tkA, tkf]
       refine ak 2 fun K hK => ?_
       refine wp_store_row 82 (.tmp 8) (.tmp 51) rfl (w.heap.size + 1) _ rfl rfl 82 _ rF.h (by kernel_rfl) rfl (by simp [Value.oneCell']) ?_
       have hS2 : Blk (wF.setRow (w.heap.size + 1) (quA q (.slice a8 n8 c8) (.slice ah5 nh ch5))) w.heap.size (quA q (.slice a8 n8 c8) (.slice ah5 nh ch5)) 82 ∧ Blk (wF.setRow (w.heap.size + 1) (quA q (.slice a8 n8 c8) (.slice ah5 nh ch5))) bi (itA x (.slice pa0 pn pc0)) 131 := ⟨hS.1.rowO (by omega) _, hS.2.rowO hine.2.1 _⟩
       have rG := rF.row (quA q (.slice a8 n8 c8) (.slice ah5 nh ch5))
       have iG := iF.rowO (g' := w.heap.size + 1) (by omega) (quA q (.slice a8 n8 c8) (.slice ah5 nh ch5))
       have bG := below_setRow bF (by omega : w.heap.size ≤ w.heap.size + 1) (quA q (.slice a8 n8 c8) (.slice ah5 nh ch5))
       have oiG := oiF.keep (kt_setRow rF (by decide) (quA q (.slice a8 n8 c8) (.slice ah5 nh ch5))) (kt_setRow rF (by decide) (quA q (.slice a8 n8 c8) (.slice ah5 nh ch5)))
       have ohG := ohF.keep (kt_setRow rF (by decide) (quA q (.slice a8 n8 c8) (.slice ah5 nh ch5))) (kt_setRow rF (by decide) (quA q (.slice a8 n8 c8) (.slice ah5 nh ch5)))
       have hpG := hpF.keep (kt_setRow rF (by decide) (quA q (.slice a8 n8 c8) (.slice ah5 nh ch5)))
       refine hK _ _ hS2 ?_
       clear hK K hS rF iF bF oiF ohF hpF
       generalize wF.setRow (w.heap.size + 1) (quA q (.slice a8 n8 c8) (.slice ah5 nh ch5)) = wG at *
       refine tks [3] [.int .i64 0] 2 ?_ hS2 ?_
       ·simp only [tkY, tkf]
        refine ⟨.yes ?_, trivial⟩
        all_goals
         intro W' hW'
         obtain ⟨d0, d1, d2, d3, d4, d5, d6⟩ := hW'.1.c7
         go_simp
       simp only [tkA, tkf]
       refine ak 4 fun K hK => ?_
       refine wp_store_row 131 (.tmp 10) (.tmp 52) rfl (w.heap.size + 2) _ rfl rfl 131 _ iG.h (by kernel_rfl) rfl (by simp [Value.oneCell']) ?_
       have hS3 : Blk (wG.setRow (w.heap.size + 2) (itA x (.slice pa0 pn pc0))) w.heap.size (quA q (.slice a8 n8 c8) (.slice ah5 nh ch5)) 82 ∧ Blk (wG.setRow (w.heap.size + 2) (itA x (.slice pa0 pn pc0))) bi (itA x (.slice pa0 pn pc0)) 131 := ⟨hS2.1.rowO (by omega) _, hS2.2.rowO hine.2.2 _⟩
       have iH := iG.row (itA x (.slice pa0 pn pc0))
       have rH := rG.rowO (g' := w.heap.size + 2) (by omega) (itA x (.slice pa0 pn pc0))
       have bH := below_setRow bG (by omega : w.heap.size ≤ w.heap.size + 2) (itA x (.slice pa0 pn pc0))
       have ohH := ohG.keep (kt_setRow iG (by decide) (itA x (.slice pa0 pn pc0))) (kt_setRow iG (by decide) (itA x (.slice pa0 pn pc0)))
       have hpH := hpG.keep (kt_setRow iG (by decide) (itA x (.slice pa0 pn pc0)))
       have oiH : OwnI (wG.setRow (w.heap.size + 2) (itA x (.slice pa0 pn pc0))) w.heap.size (.slice a8 n8 c8) (q.items.drop 1) := oiG.but (grown_setRow wG (w.heap.size + 2) (itA x (.slice pa0 pn pc0))) HRB.out (kt_setRow iG (by decide) _)
       refine hK _ _ hS3 ?_
       clear hK K hS2 iG rG bG oiG ohG hpG
       generalize wG.setRow (w.heap.size + 2) (itA x (.slice pa0 pn pc0)) = wH at *
       refine tks [5] [.int .i64 0] 0 ?_ hS3 ?_
       ·simp only [tkY, tkf]
        refine ⟨.yes ?_, trivial⟩
        all_goals
         intro W' hW'
         obtain ⟨d0, d1, d2, d3, d4, d5, d6⟩ := hW'.1.c7
         go_simp
       simp only [tkA, tkf]
       refine ad ?_
       go_wp2_with fail
       refine ret4 rfl rH rfl iH rfl rfl rfl rfl rfl ⟨.agg #[tx q.name, .bool q.dur, .int .i64 q.depth, .int .i64 q.seq, .int .i64 q.tag, .slice a8 n8 c8, .slice ah5 nh ch5], .slice pa0 pn pc0, ?_, ?_, ?_, bH⟩
       ·rw [HX3.out]
        rfl
       ·exact ⟨_, _, rfl, oiH, ohH⟩
       ·rw [HX3.out]
        exact hpH
      | true =>
       have htw : IntKind.i64.wrap (q.tag + 1) = q.tag + 1 := by rw [IntKind.wrap_i64]; omega
       obtain ⟨c0, c1, c2, c3, c4, c5, c6⟩ := kq9.c7
       go_wp2_with (refine wpl_set rfl (.tmp 56) (.tmp 55) rfl _ 4 _ rfl rfl kq9 (by kernel_rfl) rfl rfl (by simp) ?_)
       intro w10 k10 g10 s10
       have kq10 : Blk w10 w.heap.size #[tx q.name, .bool q.dur, .int .i64 q.depth, .int .i64 q.seq, .int .i64 (q.tag + 1), .slice a8 n8 c8, .slice ah5 nh ch5] 82 := k10
       have r10 := r9.grown g10 (fun e => by injection e with e; omega)
       have i10 := i9.grown g10 (fun e => by injection e with e; omega)
       have kx10 := kx9.grown g10 (fun e => hine.1 (by injection e))
       have b10 := b9.grown g10 b9.size (fun k hk => by injection hk with hk; omega)
       have t54 : Kt 66 w9 w10 := kt_grown kq9 g10 (by decide)
       have oi10 := oi9.keep (kt_grown kq9 g10 (by decide)) t54
       have oh11 := oh10.keep (kt_grown kq9 g10 (by decide)) t54
       have hp10 := hp9.keep t54
       clear kq9 r9 i9 kx9 b9 oi9 oh10 hp9 g10 s10 t54 k10 c0 c1 c2 c3 c4 c5 c6
       go_upto_region 11 with fail
       have hS : TkX w w10.drew bi #[tx q.name, .bool q.dur, .int .i64 q.depth, .int .i64 q.seq, .int .i64 (q.tag + 1), .slice a8 n8 c8, .slice ah5 nh ch5] (itmV x (.slice pa0 pn pc0)).toArray := ⟨⟨kq10.h⟩, ⟨r10.h⟩, ⟨i10.h⟩, ⟨kx10.h⟩, b10.drew⟩
       have oi11 : OwnI w10.drew w.heap.size (.slice a8 n8 c8) (q.items.drop 1) := oi10
       have oh12 : OwnH w10.drew w.heap.size (.slice ah5 nh ch5) q.held := oh11
       have hp11 : OwnP w10.drew w.heap.size (.slice pa0 pn pc0) x.msg.props := hp10
       clear kq10 r10 i10 kx10 b10 oi10 oh11 hp10
       refine wp_region_to (S := fun W => TkX w W bi #[tx q.name, .bool q.dur, .int .i64 q.depth, .int .i64 q.seq, .int .i64 (q.tag + 1), .slice a8 n8 c8, .slice ah5 nh ch5] (itmV x (.slice pa0 pn pc0)).toArray) (z := 12) hmix ?_
       show wpTo _ _ _ _ _ _ _ _ _ (World.drew _)
       generalize w10.drew = w11 at *
       refine wpTo.take (i := 0) (z := 12) (v := .pointer (some ⟨w.heap.size, 6, none⟩)) rfl (by kernel_rfl) (by kernel_rfl) (by kernel_rfl) (by kernel_rfl) (fun _ _ _ h => h) (.inl ⟨by rfl, fun W' hW' => ?_⟩) hS ?_
       ·obtain ⟨d0, d1, d2, d3, d4, d5, d6⟩ := hW'.q.c7
        go_simp
       simp only [tkf]
       refine wpTo.take (i := 1) (z := 12) (v := .slice ah5 nh ch5) rfl (by kernel_rfl) (by kernel_rfl) (by kernel_rfl) (by kernel_rfl) (fun _ _ _ h => h) (.inl ⟨by rfl, fun W' hW' => ?_⟩) hS ?_
       ·obtain ⟨d0, d1, d2, d3, d4, d5, d6⟩ := hW'.q.c7
        go_simp
       simp only [tkf]
       refine wpTo.take (i := 2) (z := 12) (v := .pointer (some ⟨w.heap.size, 4, none⟩)) rfl (by kernel_rfl) (by kernel_rfl) (by kernel_rfl) (by kernel_rfl) (fun _ _ _ h => h) (.inl ⟨by rfl, fun W' hW' => ?_⟩) hS ?_
       ·obtain ⟨d0, d1, d2, d3, d4, d5, d6⟩ := hW'.q.c7
        go_simp
       simp only [tkf]
       refine wpTo.take (i := 3) (z := 12) (v := .int .i64 (q.tag + 1)) rfl (by kernel_rfl) (by kernel_rfl) (by kernel_rfl) (by kernel_rfl) (fun _ _ _ h => h) (.inl ⟨by rfl, fun W' hW' => ?_⟩) hS ?_
       ·obtain ⟨d0, d1, d2, d3, d4, d5, d6⟩ := hW'.q.c7
        go_simp
       simp only [tkf]
       refine wpTo.take (i := 4) (z := 12) (v := .int .i64 conn) rfl (by kernel_rfl) (by kernel_rfl) (by kernel_rfl) (by kernel_rfl) (fun _ _ _ h => h) (.inl ⟨by rfl, fun W' hW' => ?_⟩) hS ?_
       ·obtain ⟨d0, d1, d2, d3, d4, d5, d6⟩ := hW'.q.c7
        go_simp
       simp only [tkf]
       refine wpTo.take (i := 5) (z := 12) (v := .int .i64 sub) rfl (by kernel_rfl) (by kernel_rfl) (by kernel_rfl) (by kernel_rfl) (fun _ _ _ h => h) (.inl ⟨by rfl, fun W' hW' => ?_⟩) hS ?_
       ·obtain ⟨d0, d1, d2, d3, d4, d5, d6⟩ := hW'.q.c7
        go_simp
       simp only [tkf]
       refine wpTo.take (i := 6) (z := 12) (v := .agg #[.int .i64 x.seq, .bool x.again, tx x.msg.topic, tx x.msg.body, .slice pa0 pn pc0, .bool x.msg.dur, .int .i64 x.msg.til]) rfl (by kernel_rfl) (by kernel_rfl) (by kernel_rfl) (by kernel_rfl) (fun _ _ _ h => h) (.inl ⟨by rfl, fun W' hW' => ?_⟩) hS ?_
       ·obtain ⟨d0, d1, d2, d3, d4, d5, d6⟩ := hW'.x.c7
        go_simp
       simp only [tkf]
       refine wpTo.one (i := 7) (by kernel_rfl) rfl (by rfl) (fun K hK => ?_)
       go_simp
       refine (copyItem_any w11 x (.slice pa0 pn pc0) hp11.rd (by rw [← HX2.out]; exact hsm.ip _ (by have hne : q.items ≠ [] := fun e => hz (by rw [e]; rfl); cases hq : q.items with | nil => exact absurd hq hne | cons y l => simp))).mono ?_
       rintro e w12 ⟨pv2, rfl, op2, b12⟩
       have hS2 := hS.on b12
       have oi12 := oi11.keep (Kt.of_below b12) (Kt.of_below b12)
       have oh13 := oh12.keep (Kt.of_below b12) (Kt.of_below b12)
       have hp12 := hp11.keep (Kt.of_below b12)
       have op3 : OwnP w12 w.heap.size pv2 x.msg.props := op2.low hS.b.size
       show K _ _
       refine hK _ _ (fun _ => hS2) ?_
       clear hK K hS oi11 oh12 hp11 op2 b12
       obtain ⟨pa2, pc2, hpv2⟩ := op3.shape
       generalize x.msg.props.length = pn2 at hpv2
       subst hpv2
       unfold itmV
       refine wpTo.take (i := 8) (z := 12) (v := .agg #[.int .i64 (q.tag + 1), .int .i64 conn, .int .i64 sub, .int .i64 x.seq, .bool x.again, tx x.msg.topic, tx x.msg.body, .slice pa2 pn2 pc2, .bool x.msg.dur, .int .i64 x.msg.til]) rfl (by kernel_rfl) (by kernel_rfl) (by kernel_rfl) (by kernel_rfl) (fun _ _ _ h => h) (.inl ⟨by rfl, fun W' hW' => ?_⟩) hS2 ?_
       ·obtain ⟨d0, d1, d2, d3, d4, d5, d6⟩ := hW'.q.c7
        go_simp
       simp only [tkf]
       refine wpTo.one (i := 9) (by kernel_rfl) rfl (by rfl) (fun K hK => ?_)
       go_simp
       have b13 := (Below.refl w12.heap.size w12).alloc (Nat.le_refl _) (.cells #[.int .i64 (q.tag + 1), .int .i64 conn, .int .i64 sub, .int .i64 x.seq, .bool x.again, tx x.msg.topic, tx x.msg.body, .slice pa2 pn2 pc2, .bool x.msg.dur, .int .i64 x.msg.til] 133)
       have kN := Blk.new w12 #[.int .i64 (q.tag + 1), .int .i64 conn, .int .i64 sub, .int .i64 x.seq, .bool x.again, tx x.msg.topic, tx x.msg.body, .slice pa2 pn2 pc2, .bool x.msg.dur, .int .i64 x.msg.til] 133
       have hS3 := hS2.on b13
       have oi13 := oi12.keep (Kt.of_below b13) (Kt.of_below b13)
       have oh14 := oh13.keep (Kt.of_below b13) (Kt.of_below b13)
       have hp13 := hp12.keep (Kt.of_below b13)
       have op4 := op3.keep (Kt.of_below b13)
       show K _ _
       refine hK _ _ (fun _ => hS3) ?_
       obtain ⟨nb, hnb⟩ : ∃ nb, w12.heap.size = nb := ⟨_, rfl⟩
       rw [hnb] at kN ⊢
       generalize w12.alloc (.cells #[.int .i64 (q.tag + 1), .int .i64 conn, .int .i64 sub, .int .i64 x.seq, .bool x.again, tx x.msg.topic, tx x.msg.body, .slice pa2 pn2 pc2, .bool x.msg.dur, .int .i64 x.msg.til] 133) = w13 at *
       clear hK K hS2 oi12 oh13 hp12 op3 b13 hnb
       obtain ⟨zh, ezh, hzh⟩ := oh14
       refine wpTo.one (i := 10) (by kernel_rfl) rfl (by rfl) (fun K hK => ?_)
       refine appH_one hzh hS3.b (.tmp 58) (.tmp 66) rfl rfl nb rfl ⟨q.tag + 1, conn, sub, x⟩ (.slice pa2 pn2 pc2) kN op4 (by have := hsm.held; rw [← ezh, List.length_map] at this; omega) ?_
       intro v14 w14 o14 g14
       have t25 : Kt 82 w13 w14 := Kt.of_grown hzh.1 g14 (by decide)
       have t43 : Kt 131 w13 w14 := Kt.of_grown hzh.1 g14 (by decide)
       have t54 : Kt 66 w13 w14 := Kt.of_grown hzh.1 g14 (by decide)
       have hS4 : TkX w w14 bi #[tx q.name, .bool q.dur, .int .i64 q.depth, .int .i64 q.seq, .int .i64 (q.tag + 1), .slice a8 n8 c8, .slice ah5 nh ch5] (itA x (.slice pa0 pn pc0)) := ⟨hS3.q.kt t25, hS3.r.kt t25, hS3.i.kt t43, hS3.x.kt t43, hS3.b.grown g14 hS3.b.size (fun k hk => (World.ownsRow.lt hzh.1 k hk).1)⟩
       have oi14 := oi13.keep t43 t54
       have hp14 := hp13.keep t54
       have oh15 : OwnH w14 w.heap.size v14 (q.held ++ [⟨q.tag + 1, conn, sub, x⟩]) := ⟨_, by rw [List.map_append, ezh]; rfl, o14⟩
       refine hK _ _ (fun _ => hS4) ?_
       clear hK K hS3 oi13 hp13 op4 kN hzh ezh g14 o14 t25 t43 t54
       obtain ⟨a14, c14, rfl⟩ := oh15.rd.len
       generalize hL14 : (q.held ++ [(⟨q.tag + 1, conn, sub, x⟩ : Hld)]).length = n14 at *
       clear hL14
       simp only [tkf]
       refine wpTo.take (i := 11) (z := 12) (v := .pointer (some ⟨w.heap.size, 6, none⟩)) rfl (by kernel_rfl) (by kernel_rfl) (by kernel_rfl) (by kernel_rfl) (fun _ _ _ h => h) (.inl ⟨by rfl, fun W' hW' => ?_⟩) hS4 ?_
       ·obtain ⟨d0, d1, d2, d3, d4, d5, d6⟩ := hW'.q.c7
        go_simp
       simp only [tkf]
       refine wpTo.one (i := 12) (by kernel_rfl) rfl (by rfl) (fun K hK => ?_)
       have f6 := hS4.q.frozen 6
       obtain ⟨d0, d1, d2, d3, d4, d5, d6⟩ := hS4.q.c7
       go_simp
       show K _ _
       refine hK _ _ (fun h => absurd rfl h) ?_
       clear hK K d0 d1 d2 d3 d4 d5 d6
       have k15 : Blk (w14.setCell ⟨w.heap.size, 6, none⟩ (.slice a14 n14 c14)) w.heap.size #[tx q.name, .bool q.dur, .int .i64 q.depth, .int .i64 q.seq, .int .i64 (q.tag + 1), .slice a8 n8 c8, .slice a14 n14 c14] 82 := hS4.q.set 6 (.slice a14 n14 c14)
       have r15 := hS4.r.setO (g' := w.heap.size) (j := 6) (by omega) (.slice a14 n14 c14)
       have i15 := hS4.i.setO (g' := w.heap.size) (j := 6) (by omega) (.slice a14 n14 c14)
       have kx15 := hS4.x.setO (g' := w.heap.size) (j := 6) hine.1 (.slice a14 n14 c14)
       have b15 := hS4.b.setCell (p := ⟨w.heap.size, 6, none⟩) (Nat.le_refl _) (.slice a14 n14 c14)
       have oi15 := oi14.keep (kt_setCell (j := 6) hS4.q (by decide) (.slice a14 n14 c14)) (kt_setCell (j := 6) hS4.q (by decide) (.slice a14 n14 c14))
       have oh16 := oh15.keep (kt_setCell (j := 6) hS4.q (by decide) (.slice a14 n14 c14)) (kt_setCell (j := 6) hS4.q (by decide) (.slice a14 n14 c14))
       have hp15 := hp14.keep (kt_setCell (j := 6) hS4.q (by decide) (.slice a14 n14 c14))
       generalize w14.setCell ⟨w.heap.size, 6, none⟩ (.slice a14 n14 c14) = w15 at *
       clear hS4 oi14 oh15 hp14 f6
       refine wpTo.done (by kernel_rfl) ?_ _
       go_upto_region 12 with fail
       have hS : Blk w15.drew w.heap.size #[tx q.name, .bool q.dur, .int .i64 q.depth, .int .i64 q.seq, .int .i64 (q.tag + 1), .slice a8 n8 c8, .slice a14 n14 c14] 82 ∧ Blk w15.drew bi (itA x (.slice pa0 pn pc0)) 131 := ⟨⟨k15.h⟩, ⟨kx15.h⟩⟩
       have rF : Blk w15.drew (w.heap.size + 1) quZ 82 := ⟨r15.h⟩
       have iF : Blk w15.drew (w.heap.size + 2) itZ 131 := ⟨i15.h⟩
       have bF := b15.drew
       have oiF : OwnI w15.drew w.heap.size (.slice a8 n8 c8) (q.items.drop 1) := oi15
       have ohF : OwnH w15.drew w.heap.size (.slice a14 n14 c14) (q.held ++ [⟨q.tag + 1, conn, sub, x⟩]) := oh16
       have hpF : OwnP w15.drew w.heap.size (.slice pa0 pn pc0) x.msg.props := hp15
       clear k15 r15 i15 kx15 b15 oi15 oh16 hp15
       refine rh (fun W => Blk W w.heap.size #[tx q.name, .bool q.dur, .int .i64 q.depth, .int .i64 q.seq, .int .i64 (q.tag + 1), .slice a8 n8 c8, .slice a14 n14 c14] 82 ∧ Blk W bi (itA x (.slice pa0 pn pc0)) 131) ?_
       generalize w15.drew = wF at *
       replace hS : Blk wF w.heap.size #[tx q.name, .bool q.dur, .int .i64 q.depth, .int .i64 q.seq, .int .i64 (q.tag + 1), .slice a8 n8 c8, .slice a14 n14 c14] 82 ∧ Blk wF bi (itA x (.slice pa0 pn pc0)) 131 := hS
       refine tks [0, 1, 2, 3] [.agg #[tx q.name, .bool q.dur, .int .i64 q.depth, .int .i64 q.seq, .int .i64 (q.tag + 1), .slice a8 n8 c8, .slice a14 n14 c14], .pointer (some ⟨w.heap.size, 4, none⟩), .int .i64 (q.tag + 1), .agg #[.int .i64 x.seq, .bool x.again, tx x.msg.topic, tx x.msg.body, .slice pa0 pn pc0, .bool x.msg.dur, .int .i64 x.msg.til]] 4 ?_ hS ?_
       ·simp only [tkY, tkf]
        refine ⟨.yes ?_, .yes ?_, .yes ?_, .yes ?_, trivial⟩
        all_goals
         intro W' hW'
         obtain ⟨d0, d1, d2, d3, d4, d5, d6⟩ := hW'.1.c7
         obtain ⟨d0, d1, d2, d3, d4, d5, d6⟩ := hW'.2.c7
         go_simp
       simp only [tkA, tkf]
       refine ak 4 fun K hK => ?_
       refine wp_store_row 82 (.tmp 8) (.tmp 69) rfl (w.heap.size + 1) _ rfl rfl 82 _ rF.h (by kernel_rfl) rfl (by simp [Value.oneCell']) ?_
       have hS2 : Blk (wF.setRow (w.heap.size + 1) #[tx q.name, .bool q.dur, .int .i64 q.depth, .int .i64 q.seq, .int .i64 (q.tag + 1), .slice a8 n8 c8, .slice a14 n14 c14]) w.heap.size #[tx q.name, .bool q.dur, .int .i64 q.depth, .int .i64 q.seq, .int .i64 (q.tag + 1), .slice a8 n8 c8, .slice a14 n14 c14] 82 ∧ Blk (wF.setRow (w.heap.size + 1) #[tx q.name, .bool q.dur, .int .i64 q.depth, .int .i64 q.seq, .int .i64 (q.tag + 1), .slice a8 n8 c8, .slice a14 n14 c14]) bi (itA x (.slice pa0 pn pc0)) 131 := ⟨hS.1.rowO (by omega) _, hS.2.rowO hine.2.1 _⟩
       have rG := rF.row #[tx q.name, .bool q.dur, .int .i64 q.depth, .int .i64 q.seq, .int .i64 (q.tag + 1), .slice a8 n8 c8, .slice a14 n14 c14]
       have iG := iF.rowO (g' := w.heap.size + 1) (by omega) #[tx q.name, .bool q.dur, .int .i64 q.depth, .int .i64 q.seq, .int .i64 (q.tag + 1), .slice a8 n8 c8, .slice a14 n14 c14]
       have bG := below_setRow bF (by omega : w.heap.size ≤ w.heap.size + 1) #[tx q.name, .bool q.dur, .int .i64 q.depth, .int .i64 q.seq, .int .i64 (q.tag + 1), .slice a8 n8 c8, .slice a14 n14 c14]
       have oiG := oiF.keep (kt_setRow rF (by decide) #[tx q.name, .bool q.dur, .int .i64 q.depth, .int .i64 q.seq, .int .i64 (q.tag + 1), .slice a8 n8 c8, .slice a14 n14 c14]) (kt_setRow rF (by decide) #[tx q.name, .bool q.dur, .int .i64 q.depth, .int .i64 q.seq, .int .i64 (q.tag + 1), .slice a8 n8 c8, .slice a14 n14 c14])
       have ohG := ohF.keep (kt_setRow rF (by decide) #[tx q.name, .bool q.dur, .int .i64 q.depth, .int .i64 q.seq, .int .i64 (q.tag + 1), .slice a8 n8 c8, .slice a14 n14 c14]) (kt_setRow rF (by decide) #[tx q.name, .bool q.dur, .int .i64 q.depth, .int .i64 q.seq, .int .i64 (q.tag + 1), .slice a8 n8 c8, .slice a14 n14 c14])
       have hpG := hpF.keep (kt_setRow rF (by decide) #[tx q.name, .bool q.dur, .int .i64 q.depth, .int .i64 q.seq, .int .i64 (q.tag + 1), .slice a8 n8 c8, .slice a14 n14 c14])
       refine hK _ _ hS2 ?_
       clear hK K hS rF iF bF oiF ohF hpF
       generalize wF.setRow (w.heap.size + 1) #[tx q.name, .bool q.dur, .int .i64 q.depth, .int .i64 q.seq, .int .i64 (q.tag + 1), .slice a8 n8 c8, .slice a14 n14 c14] = wG at *
       refine tks [5] [.int .i64 (q.tag + 1)] 2 ?_ hS2 ?_
       ·simp only [tkY, tkf]
        refine ⟨.yes ?_, trivial⟩
        all_goals
         intro W' hW'
         obtain ⟨d0, d1, d2, d3, d4, d5, d6⟩ := hW'.1.c7
         go_simp
       simp only [tkA, tkf]
       refine ak 6 fun K hK => ?_
       refine wp_store_row 131 (.tmp 10) (.tmp 72) rfl (w.heap.size + 2) _ rfl rfl 131 _ iG.h (by kernel_rfl) rfl (by simp [Value.oneCell']) ?_
       have hS3 : Blk (wG.setRow (w.heap.size + 2) (itA x (.slice pa0 pn pc0))) w.heap.size #[tx q.name, .bool q.dur, .int .i64 q.depth, .int .i64 q.seq, .int .i64 (q.tag + 1), .slice a8 n8 c8, .slice a14 n14 c14] 82 ∧ Blk (wG.setRow (w.heap.size + 2) (itA x (.slice pa0 pn pc0))) bi (itA x (.slice pa0 pn pc0)) 131 := ⟨hS2.1.rowO (by omega) _, hS2.2.rowO hine.2.2 _⟩
       have iH := iG.row (itA x (.slice pa0 pn pc0))
       have rH := rG.rowO (g' := w.heap.size + 2) (by omega) (itA x (.slice pa0 pn pc0))
       have bH := below_setRow bG (by omega : w.heap.size ≤ w.heap.size + 2) (itA x (.slice pa0 pn pc0))
       have ohH := ohG.keep (kt_setRow iG (by decide) (itA x (.slice pa0 pn pc0))) (kt_setRow iG (by decide) (itA x (.slice pa0 pn pc0)))
       have hpH := hpG.keep (kt_setRow iG (by decide) (itA x (.slice pa0 pn pc0)))
       have oiH : OwnI (wG.setRow (w.heap.size + 2) (itA x (.slice pa0 pn pc0))) w.heap.size (.slice a8 n8 c8) (q.items.drop 1) := oiG.but (grown_setRow wG (w.heap.size + 2) (itA x (.slice pa0 pn pc0))) HRB.out (kt_setRow iG (by decide) _)
       refine hK _ _ hS3 ?_
       clear hK K hS2 iG rG bG oiG ohG hpG
       generalize wG.setRow (w.heap.size + 2) (itA x (.slice pa0 pn pc0)) = wH at *
       refine tks [7] [.int .i64 0] 0 ?_ hS3 ?_
       ·simp only [tkY, tkf]
        refine ⟨.yes ?_, trivial⟩
        all_goals
         intro W' hW'
         obtain ⟨d0, d1, d2, d3, d4, d5, d6⟩ := hW'.1.c7
         go_simp
       simp only [tkA, tkf]
       refine ad ?_
       go_wp2_with fail
       refine ret4 rfl rH rfl iH rfl rfl rfl rfl rfl ⟨.agg #[tx q.name, .bool q.dur, .int .i64 q.depth, .int .i64 q.seq, .int .i64 (q.tag + 1), .slice a8 n8 c8, .slice a14 n14 c14], .slice pa0 pn pc0, ?_, ?_, ?_, bH⟩
       ·rw [HX3.out]
        rfl
       ·have eT : takeQ q conn sub true = { q with tag := q.tag + 1, items := q.items.drop 1, held := q.held ++ [⟨q.tag + 1, conn, sub, x⟩] } := by
         unfold takeQ
         rw [if_pos rfl, HX2.out]
        rw [eT]
        exact ⟨_, _, rfl, oiH, ohH⟩
       ·rw [HX3.out]
        exact hpH
end Go.Proofs.YtnpikgakpmkipabGreatDoor
