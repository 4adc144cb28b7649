/- The document's Take. Conditions: those that each row states. -/
import Derived.Test.YtlbcefocmdnlgaaGreatDoorVk
import Derived.Test.YtlbcefocmdnlgaaGreatDoorRg
import Derived.Test.YtlbcefocmdnlgaaGreatDoorTk
namespace Go.Proofs.YtlbcefocmdnlgaaGreatDoor
open Go.RowKit Go.Lib
set_option maxRecDepth 100000
set_option linter.unusedSimpArgs false

structure TvX (w W : World) (gq bi : Nat) (ps qs xs : Array Value) : Prop where
  q : Blk W gq qs 25
  r : Blk W (w.heap.size + 1) #[.string ⟨#[]⟩, .bool false, .int .i64 0, .int .i64 0, .int .i64 0, .slice none 0 0, .slice none 0 0] 25
  i : Blk W (w.heap.size + 2) #[.int .i64 0, .bool false, .string ⟨#[]⟩, .string ⟨#[]⟩, .slice none 0 0, .bool false, .int .i64 0] 43
  x : Blk W bi xs 43
  p : Blk W w.heap.size ps 25
  b : Below w.heap.size w W
theorem TvX.on {w W W' : World} {gq bi : Nat} {ps qs xs : Array Value} (h : TvX w W gq bi ps qs xs) (hb : Below W.heap.size W W') : TvX w W' gq bi ps qs xs := ⟨h.q.on hb, h.r.on hb, h.i.on hb, h.x.on hb, h.p.on hb, nxt h.b hb⟩

set_option maxHeartbeats 4000000 in
theorem rtake_any (w : World) (v : Value) (q : Que) (h : RdQ w v q) (hf : FitQ q) (conn sub : Int) (hold : Bool) (hbig : lenQ q ≤ 1000) :
    Calls Tryz.prog 44 #[v, .int .i64 conn, .int .i64 sub, .bool hold] w fun e w' => ∃ v' pv', e = .returned (.tuple #[v', .int .i64 (if takeC q conn sub = 0 then (if hold then q.tag + 1 else 0) else 0), .agg (itmV (if takeC q conn sub = 0 then q.items.headD zeroI else zeroI) pv').toArray, .int .i64 (takeC q conn sub)]) ∧
      OwnQ w' w.heap.size v' (if takeC q conn sub = 0 then takeQ q conn sub hold else zeroQ) ∧ OwnP w' w.heap.size pv' (if takeC q conn sub = 0 then q.items.headD zeroI else zeroI).msg.props ∧ Below w.heap.size w w' := by
  have hR := h
  obtain ⟨iv, hv, rfl, hi, hh⟩ := h
  have OI : ∃ a c, iv = .slice a q.items.length c := hi.len
  have OH : ∃ a c, hv = .slice a q.held.length c := hh.len
  clear hi hh
  have HG : ∀ W, Below w.heap.size w W → Calls Tryz.prog 14 #[queV q iv hv] W fun e w' => e = .returned (.bool (goodQ q)) ∧ Below W.heap.size W w' := fun W b => rgoodq_any W _ q (hR.on b) hf hbig
  have S0 : TkS w (((w.alloc (.cells #[tx q.name, .bool q.dur, .int .i64 q.depth, .int .i64 q.seq, .int .i64 q.tag, iv, hv] 25)).alloc (.cells #[.string ⟨#[]⟩, .bool false, .int .i64 0, .int .i64 0, .int .i64 0, .slice none 0 0, .slice none 0 0] 25)).alloc (.cells #[.int .i64 0, .bool false, .string ⟨#[]⟩, .string ⟨#[]⟩, .slice none 0 0, .bool false, .int .i64 0] 43)) #[tx q.name, .bool q.dur, .int .i64 q.depth, .int .i64 q.seq, .int .i64 q.tag, iv, hv] := by
    refine ⟨((Blk.new _ _ _).alloc _).alloc _, ?_, ?_, (((Below.refl _ w).alloc (Nat.le_refl _) _).alloc (by simp) _).alloc (by simp; omega) _⟩
    · have := (Blk.new (w.alloc (.cells #[tx q.name, .bool q.dur, .int .i64 q.depth, .int .i64 q.seq, .int .i64 q.tag, iv, hv] 25)) #[.string ⟨#[]⟩, .bool false, .int .i64 0, .int .i64 0, .int .i64 0, .slice none 0 0, .slice none 0 0] 25).alloc (.cells #[.int .i64 0, .bool false, .string ⟨#[]⟩, .string ⟨#[]⟩, .slice none 0 0, .bool false, .int .i64 0] 43)
      rwa [World.size_alloc] at this
    · have := Blk.new ((w.alloc (.cells #[tx q.name, .bool q.dur, .int .i64 q.depth, .int .i64 q.seq, .int .i64 q.tag, iv, hv] 25)).alloc (.cells #[.string ⟨#[]⟩, .bool false, .int .i64 0, .int .i64 0, .int .i64 0, .slice none 0 0, .slice none 0 0] 25)) #[.int .i64 0, .bool false, .string ⟨#[]⟩, .string ⟨#[]⟩, .slice none 0 0, .bool false, .int .i64 0] 43
      rwa [World.size_alloc, World.size_alloc] at this
  unfold queV at *
  go_enter Tryz.func44, Tryz.ntmps44
  go_upto_region 1 with fail
  generalize ((w.alloc (.cells #[tx q.name, .bool q.dur, .int .i64 q.depth, .int .i64 q.seq, .int .i64 q.tag, iv, hv] 25)).alloc (.cells #[.string ⟨#[]⟩, .bool false, .int .i64 0, .int .i64 0, .int .i64 0, .slice none 0 0, .slice none 0 0] 25)).alloc (.cells #[.int .i64 0, .bool false, .string ⟨#[]⟩, .string ⟨#[]⟩, .slice none 0 0, .bool false, .int .i64 0] 43) = w1 at *
  go_wp2_with (refine wpl_load25 rfl (.tmp 4) rfl _ _ rfl S0.q rfl ?_)
  refine (HG _ S0.b).mono ?_
  rintro e w2 ⟨rfl, b2⟩
  have S2 := S0.on b2
  clear S0 b2
  cases hg : goodQ q with
  | false =>
    have e0 : takeC q conn sub = 1 := by simp [takeC, hg]
    go_wp2_with (refine wpl_put rfl (.tmp 8) (.tmp 39) rfl _ _ rfl rfl S2.r (by kernel_rfl) rfl (by simp [Value.oneCell']) ?_)
    intro W' k' g' s'
    have i' := S2.i.grown g' (fun e => by injection e with e; omega)
    have b' := S2.b.grown g' S2.b.size (fun k hk => by injection hk with hk; omega)
    clear g'
    go_wp2_with (refine wpl_put rfl (.tmp 10) (.tmp 40) rfl _ _ rfl rfl i' (by kernel_rfl) rfl (by simp [Value.oneCell']) ?_)
    intro W2 k2 g2 s2
    go_wp2_with fail
    refine ret4 rfl (k'.grown g2 (fun e => by injection e with e; omega)) rfl k2 rfl rfl rfl rfl rfl ⟨_, .slice none 0 0, rfl, own_zero _ _, World.ownsRow_nil .., b'.grown g2 b'.size (fun k hk => by injection hk with hk; omega)⟩
  | true =>
    obtain ⟨hsm, hl64, _, _, hq1, hq2⟩ := goodQ_small hg
    obtain ⟨c0, c1, c2, c3, c4, c5, c6⟩ := S2.q.c7
    by_cases g1 : conn < 0
    · have e0 : takeC q conn sub = 1 := by
        have h1 : conB conn = false := by simp [conB]; omega
        simp [takeC, hg, h1]
      go_wp2_with (refine wpl_put rfl (.tmp 8) (.tmp 39) rfl _ _ rfl rfl S2.r (by kernel_rfl) rfl (by simp [Value.oneCell']) ?_)
      intro W' k' g' s'
      have i' := S2.i.grown g' (fun e => by injection e with e; omega)
      have b' := S2.b.grown g' S2.b.size (fun k hk => by injection hk with hk; omega)
      clear g'
      go_wp2_with (refine wpl_put rfl (.tmp 10) (.tmp 40) rfl _ _ rfl rfl i' (by kernel_rfl) rfl (by simp [Value.oneCell']) ?_)
      intro W2 k2 g2 s2
      go_wp2_with fail
      refine ret4 rfl (k'.grown g2 (fun e => by injection e with e; omega)) rfl k2 rfl rfl rfl rfl rfl ⟨_, .slice none 0 0, rfl, own_zero _ _, World.ownsRow_nil .., b'.grown g2 b'.size (fun k hk => by injection hk with hk; omega)⟩
    by_cases g2 : conn > 7
    · have e0 : takeC q conn sub = 1 := by
        have h1 : conB conn = false := by simp [conB]; omega
        simp [takeC, hg, h1]
      go_wp2_with (refine wpl_put rfl (.tmp 8) (.tmp 39) rfl _ _ rfl rfl S2.r (by kernel_rfl) rfl (by simp [Value.oneCell']) ?_)
      intro W' k' g' s'
      have i' := S2.i.grown g' (fun e => by injection e with e; omega)
      have b' := S2.b.grown g' S2.b.size (fun k hk => by injection hk with hk; omega)
      clear g'
      go_wp2_with (refine wpl_put rfl (.tmp 10) (.tmp 40) rfl _ _ rfl rfl i' (by kernel_rfl) rfl (by simp [Value.oneCell']) ?_)
      intro W2 k2 g2 s2
      go_wp2_with fail
      refine ret4 rfl (k'.grown g2 (fun e => by injection e with e; omega)) rfl k2 rfl rfl rfl rfl rfl ⟨_, .slice none 0 0, rfl, own_zero _ _, World.ownsRow_nil .., b'.grown g2 b'.size (fun k hk => by injection hk with hk; omega)⟩
    by_cases g3 : sub < 0
    · have e0 : takeC q conn sub = 1 := by
        have h1 : numB sub = false := by simp [numB]; omega
        simp [takeC, hg, h1]
      go_wp2_with (refine wpl_put rfl (.tmp 8) (.tmp 39) rfl _ _ rfl rfl S2.r (by kernel_rfl) rfl (by simp [Value.oneCell']) ?_)
      intro W' k' g' s'
      have i' := S2.i.grown g' (fun e => by injection e with e; omega)
      have b' := S2.b.grown g' S2.b.size (fun k hk => by injection hk with hk; omega)
      clear g'
      go_wp2_with (refine wpl_put rfl (.tmp 10) (.tmp 40) rfl _ _ rfl rfl i' (by kernel_rfl) rfl (by simp [Value.oneCell']) ?_)
      intro W2 k2 g2 s2
      go_wp2_with fail
      refine ret4 rfl (k'.grown g2 (fun e => by injection e with e; omega)) rfl k2 rfl rfl rfl rfl rfl ⟨_, .slice none 0 0, rfl, own_zero _ _, World.ownsRow_nil .., b'.grown g2 b'.size (fun k hk => by injection hk with hk; omega)⟩
    by_cases g4 : sub > 1099511627776
    · have e0 : takeC q conn sub = 1 := by
        have h1 : numB sub = false := by simp [numB]; omega
        simp [takeC, hg, h1]
      go_wp2_with (refine wpl_put rfl (.tmp 8) (.tmp 39) rfl _ _ rfl rfl S2.r (by kernel_rfl) rfl (by simp [Value.oneCell']) ?_)
      intro W' k' g' s'
      have i' := S2.i.grown g' (fun e => by injection e with e; omega)
      have b' := S2.b.grown g' S2.b.size (fun k hk => by injection hk with hk; omega)
      clear g'
      go_wp2_with (refine wpl_put rfl (.tmp 10) (.tmp 40) rfl _ _ rfl rfl i' (by kernel_rfl) rfl (by simp [Value.oneCell']) ?_)
      intro W2 k2 g2 s2
      go_wp2_with fail
      refine ret4 rfl (k'.grown g2 (fun e => by injection e with e; omega)) rfl k2 rfl rfl rfl rfl rfl ⟨_, .slice none 0 0, rfl, own_zero _ _, World.ownsRow_nil .., b'.grown g2 b'.size (fun k hk => by injection hk with hk; omega)⟩
    by_cases g5 : q.tag ≥ 1099511627776
    · have e0 : takeC q conn sub = 1 := by
        have h1 : q.tag = 1099511627776 := by omega
        simp [takeC, hg, h1]
      go_wp2_with (refine wpl_put rfl (.tmp 8) (.tmp 39) rfl _ _ rfl rfl S2.r (by kernel_rfl) rfl (by simp [Value.oneCell']) ?_)
      intro W' k' g' s'
      have i' := S2.i.grown g' (fun e => by injection e with e; omega)
      have b' := S2.b.grown g' S2.b.size (fun k hk => by injection hk with hk; omega)
      clear g'
      go_wp2_with (refine wpl_put rfl (.tmp 10) (.tmp 40) rfl _ _ rfl rfl i' (by kernel_rfl) rfl (by simp [Value.oneCell']) ?_)
      intro W2 k2 g2 s2
      go_wp2_with fail
      refine ret4 rfl (k'.grown g2 (fun e => by injection e with e; omega)) rfl k2 rfl rfl rfl rfl rfl ⟨_, .slice none 0 0, rfl, own_zero _ _, World.ownsRow_nil .., b'.grown g2 b'.size (fun k hk => by injection hk with hk; omega)⟩
    have hc : conB conn = true := by simp [conB]; omega
    have hn : numB sub = true := by simp [numB]; omega
    have ht : q.tag ≠ 1099511627776 := by omega
    obtain ⟨ai, ci, rfl⟩ := OI
    obtain ⟨ah, ch, rfl⟩ := OH
    by_cases hz : q.items.length = 0
    · have hzz : ((q.items.length : Int) == 0) = true := by simp [hz]
      have e0 : takeC q conn sub = 33 := by simp [takeC, hg, hc, hn, ht, hz]
      go_wp2_with (refine wpl_put rfl (.tmp 8) (.tmp 45) rfl _ _ rfl rfl S2.r (by kernel_rfl) rfl (by simp [Value.oneCell']) ?_)
      intro W' k' g' s'
      have i' := S2.i.grown g' (fun e => by injection e with e; omega)
      have b' := S2.b.grown g' S2.b.size (fun k hk => by injection hk with hk; omega)
      clear g'
      go_wp2_with (refine wpl_put rfl (.tmp 10) (.tmp 46) rfl _ _ rfl rfl i' (by kernel_rfl) rfl (by simp [Value.oneCell']) ?_)
      intro W2 k2 g2 s2
      go_wp2_with fail
      refine ret4 rfl (k'.grown g2 (fun e => by injection e with e; omega)) rfl k2 rfl rfl rfl rfl rfl ⟨_, .slice none 0 0, rfl, own_zero _ _, World.ownsRow_nil .., b'.grown g2 b'.size (fun k hk => by injection hk with hk; omega)⟩
    · have hzz : ((q.items.length : Int) == 0) = false := by simp [hz]
      have hcp := rcopy_any w2 _ q (hR.on S2.b) hsm
      unfold queV at hcp
      have HE : takeC q conn sub = 0 := by simp [takeC, hg, hc, hn, ht, hz]
      go_wp2_with (refine wpl_load25 rfl (.tmp 4) rfl _ _ rfl S2.q rfl ?_)
      refine hcp.mono ?_
      rintro e w5 ⟨v5, rfl, ⟨iv5, hv5, rfl, oi5, oh5⟩, b5⟩
      obtain ⟨ah5, ch5, rfl⟩ := oh5.rd.len
      obtain ⟨zs, ezs, hzs'⟩ := oi5
      have hzl : zs.length = q.items.length := by rw [← ezs, List.length_map]
      have hz0 : 0 < zs.length := by omega
      have hz1000 : zs.length ≤ 1000 := by have := hsm.items; omega
      clear hzl
      obtain ⟨g, cap, cur, hgv, hg4, hgb, hcap, _⟩ := ownI_some hzs' hz0
      subst hgv
      have hzs : OwnZ 43 7 (ItR (OwnP w5 w.heap.size)) w5 w.heap.size (.slice (some ⟨g, 0, none⟩) zs.length cap) zs := (hzs'.low S2.b.size).imp fun _ _ h => h.low S2.b.size
      have hgn : g ≠ w.heap.size + 2 := by have := S2.i.lt; omega
      have hg5 := hgb.lt
      have S5 := S2.on b5
      have oh6 := oh5.low S2.b.size
      have HX : Hid (q.items.headD zeroI = (zs[0]).2) := by
        show q.items.headD zeroI = _
        rw [← ezs]
        cases zs with
        | nil => simp at hz0
        | cons z zs => rfl
      obtain ⟨hk0, pv0, hv0, hp0⟩ := hzs.2 (zs[0]) (List.getElem_mem hz0)
      have HZ : Hid (zs.map (·.2) = q.items) := ezs
      clear hcp S2 b5 hzs' hgb hg4 oh5 ezs c0 c1 c2 c3 c4 c5 c6
      generalize hxx : (zs[0]).2 = x at *
      obtain ⟨pa0, pc0, rfl⟩ := hp0.shape
      generalize q.held.length = nh at *
      unfold queV
      go_wp2_with (refine wpl_fresh rfl (.tmp 12) (.tmp 48) rfl _ _ rfl rfl (by kernel_rfl) rfl (by simp [Value.oneCell']) ?_)
      intro w6 k6 b6 s6
      have S6 := S5.on b6
      have t54 : Kt 54 w5 w6 := .of_below b6
      have hzs6 : OwnZ 43 7 (ItR (OwnP w6 w.heap.size)) w6 w.heap.size (.slice (some ⟨g, 0, none⟩) zs.length cap) zs := (hzs.keep (.of_below b6)).imp fun _ _ h => h.keep t54
      have oh7 := oh6.keep (.of_below b6) t54
      have hp6 := hp0.keep t54
      have hgw : w.heap.size + 2 < w5.heap.size := S5.i.lt
      have hg6 : g < w6.heap.size := by omega
      generalize w5.heap.size = gq at *
      clear S5 hzs oh6 hp0 b6 t54 s6
      have hcell := hzs6.at hz0
      rw [hv0] at hcell
      simp only [Nat.zero_mul, Nat.zero_add] at hcell
      have a0 := hcell 0 _ rfl
      have a1 := hcell 1 _ rfl
      have a2 := hcell 2 _ rfl
      have a3 := hcell 3 _ rfl
      have a4 := hcell 4 _ rfl
      have a5 := hcell 5 _ rfl
      have a6 := hcell 6 _ rfl
      clear hcell
      have c5 : w6.cell? ⟨gq, 5, none⟩ = some (.slice (some ⟨g, 0, none⟩) zs.length cap) := k6.cell 5
      obtain ⟨nz, hnz⟩ : ∃ nz, zs.length = nz := ⟨_, rfl⟩
      have NZ : Hid (zs.length = nz) := hnz
      rw [hnz] at hzs6 c5 k6 hz0 hz1000 hcap ⊢
      have hz0z : (0 : Int) < (nz : Int) := by omega
      generalize x.msg.props.length = pn at *
      clear hnz
      go_wp2_with (refine wpl_fresh rfl (.tmp 13) (.tmp 52) rfl _ _ rfl rfl (by kernel_rfl) rfl (by simp [Value.oneCell']) ?_)
      intro w7 k7 b7 s7
      have S7 := S6.on b7
      have kq7 := k6.on b7
      have hzs7 : OwnZ 43 7 (ItR (OwnP w7 w.heap.size)) w7 w.heap.size (.slice (some ⟨g, 0, none⟩) nz cap) zs := (hzs6.keep (.of_below b7)).imp fun _ _ h => h.keep (.of_below b7)
      have oh8 := oh7.keep (.of_below b7) (.of_below b7)
      have hp7 := hp6.keep (.of_below b7)
      have hbq : gq < w6.heap.size := k6.lt
      have hb7 : w6.heap.size < w7.heap.size := k7.lt
      generalize w6.heap.size = bi at *
      have c5' : w7.cell? ⟨gq, 5, none⟩ = some (.slice (some ⟨g, 0, none⟩) nz cap) := kq7.cell 5
      have hcapz : (1 : Int) ≤ (nz : Int) := by omega
      have cA : (w7.alloc (.cells #[] 43)).cell? ⟨gq, 5, none⟩ = some (.slice (some ⟨g, 0, none⟩) nz cap) := (kq7.alloc _).cell 5
      clear a0 a1 a2 a3 a4 a5 a6 c5 k6 S6 hzs6 oh7 hp6 b7 s7
      have hE0 : OwnZ 43 7 (ItR (OwnP (w7.alloc (.cells #[] 43)) w.heap.size)) (w7.alloc (.cells #[] 43)) w7.heap.size (.slice (some ⟨w7.heap.size, 0, none⟩) 0 0) [] := ⟨World.ownsRow_lit w7 #[] 0 (Nat.le_refl _) (by decide) rfl, by simp⟩
      have bA := (Below.refl w7.heap.size w7).alloc (Nat.le_refl _) (.cells #[] 43)
      have hzsA : OwnZ 43 7 (ItR (OwnP (w7.alloc (.cells #[] 43)) w.heap.size)) (w7.alloc (.cells #[] 43)) w.heap.size (.slice (some ⟨g, 0, none⟩) nz cap) zs := (hzs7.keep (.of_below bA)).imp fun _ _ h => h.keep (.of_below bA)
      have SA := S7.on bA
      have S7s : w.heap.size ≤ w7.heap.size := S7.b.size
      have kqA := kq7.on bA
      have kxA := k7.on bA
      have ohA := oh8.keep (.of_below bA) (.of_below bA)
      have hpA := hp7.keep (.of_below bA)
      clear S7 kq7 k7 oh8 hp7 hzs7
      go_wp2_with (refine wpl_cut1 rfl (.tmp 55) rfl g nz cap rfl (by omega) ?_)
      intro ba hba
      have hsrc := rdz_drop1 hzsA.rd NZ.out hcap hba
      clear hba hzsA
      go_wp2_with (at_builtin; refine wpl_appIn rfl (.tmp 53) (.tmp 56) rfl w7.heap.size _ _ [] (zs.drop 1) _ _ rfl hE0 rfl hsrc (by rw [List.length_drop, NZ.out]; simp; omega) bA.size ?_)
      intro v8 w8 o8 g8
      have hne7 : ∀ k, k < w7.heap.size → some k ≠ (Value.slice (some ⟨w7.heap.size, 0, none⟩) 0 0).ownBlock := fun k hk e => by simp [Value.ownBlock] at e; omega
      have t25 : Kt 25 _ w8 := Kt.of_grown hE0.1 g8 (by decide)
      have t61 : Kt 61 _ w8 := Kt.of_grown hE0.1 g8 (by decide)
      have t54 : Kt 54 _ w8 := Kt.of_grown hE0.1 g8 (by decide)
      have kq8 := kqA.kt t25
      have r8 := SA.r.kt t25
      have p8 := SA.q.kt t25
      have oh9 := ohA.keep t61 t54
      have hp8 := hpA.keep t54
      have i8 := SA.i.grown g8 (hne7 _ (by omega))
      have k8 := kxA.grown g8 (hne7 _ hb7)
      have b8 := SA.b.grown g8 SA.b.size (fun k hk => by simp [Value.ownBlock] at hk; have := SA.b.size; simp at this; omega)
      have oi8 : OwnI w8 w.heap.size v8 (q.items.drop 1) := ⟨_, by rw [← HZ.out]; simp, (o8.low S7s).imp fun _ _ h => h.keep t54⟩
      have hro : v8.ownBlock ≠ some (w.heap.size + 2) := fun e => by
        have h1 := (World.ownsRow.lt (o8.1) _ e)
        have h2 := h1.1
        omega
      obtain ⟨a8, c8, rfl⟩ := oi8.rd.len
      have HD : Hid (OwnI w8 w.heap.size (.slice a8 (q.items.drop 1).length c8) (q.items.drop 1)) := oi8
      obtain ⟨n8, hn8⟩ : ∃ n, (q.items.drop 1).length = n := ⟨_, rfl⟩
      have oi8' : OwnI w8 w.heap.size (.slice a8 n8 c8) (q.items.drop 1) := by rw [← hn8]; exact HD.out
      have hri : (Value.slice a8 n8 c8).ownBlock ≠ some (w.heap.size + 2) := by rw [← hn8]; exact hro
      rw [hn8]
      clear hro
      have HX2 : Hid (q.items.headD zeroI = x) := HX
      have HX3 : Hid (q.items.head?.getD zeroI = x) := by have := HX; rw [List.headD_eq_head?_getD] at this; exact this
      clear hE0 bA SA kqA kxA ohA hpA hsrc o8 g8 hne7 t25 t61 t54 oi8 HD hn8 HX NZ HZ hxx hv0 hk0 c5' cA
      go_wp2_with (refine wpl_set rfl (.tmp 58) (.tmp 57) rfl _ 5 _ rfl rfl kq8 (by kernel_rfl) rfl rfl (by simp) ?_)
      intro w9 k9 g9 s9
      have kq9 : Blk w9 gq #[tx q.name, .bool q.dur, .int .i64 q.depth, .int .i64 q.seq, .int .i64 q.tag, .slice a8 n8 c8, .slice ah5 nh ch5] 25 := k9
      have r9 := r8.grown g9 (fun e => by injection e with e; omega)
      have i9 := i8.grown g9 (fun e => by injection e with e; omega)
      have p9 := p8.grown g9 (fun e => by injection e with e; omega)
      have kx9 := k8.grown g9 (fun e => by injection e with e; omega)
      have b9 := b8.grown g9 b8.size (fun k hk => by injection hk with hk; omega)
      have t54 : Kt 54 w8 w9 := kt_grown kq8 g9 (by decide)
      have oi9 := oi8'.keep (kt_grown kq8 g9 (by decide)) t54
      have oh10 := oh9.keep (kt_grown kq8 g9 (by decide)) t54
      have hp9 := hp8.keep t54
      clear kq8 r8 i8 p8 k8 b8 oi8' oh9 hp8 g9 s9 t54 k9
      cases hold with
      | false =>
        go_upto_region 13 with fail
        have hS : Blk w9.drew gq #[tx q.name, .bool q.dur, .int .i64 q.depth, .int .i64 q.seq, .int .i64 q.tag, .slice a8 n8 c8, .slice ah5 nh ch5] 25 ∧ Blk w9.drew bi #[.int .i64 x.seq, .bool x.again, tx x.msg.topic, tx x.msg.body, .slice pa0 pn pc0, .bool x.msg.dur, .int .i64 x.msg.til] 43 := ⟨⟨kq9.h⟩, ⟨kx9.h⟩⟩
        have rF : Blk w9.drew (w.heap.size + 1) #[.string ⟨#[]⟩, .bool false, .int .i64 0, .int .i64 0, .int .i64 0, .slice none 0 0, .slice none 0 0] 25 := ⟨r9.h⟩
        have iF : Blk w9.drew (w.heap.size + 2) #[.int .i64 0, .bool false, .string ⟨#[]⟩, .string ⟨#[]⟩, .slice none 0 0, .bool false, .int .i64 0] 43 := ⟨i9.h⟩
        have bF := b9.drew
        have oiF : OwnI w9.drew w.heap.size (.slice a8 n8 c8) (q.items.drop 1) := oi9
        have ohF : OwnH w9.drew w.heap.size (.slice ah5 nh ch5) q.held := oh10
        have hpF : OwnP w9.drew w.heap.size (.slice pa0 pn pc0) x.msg.props := hp9
        clear kq9 r9 i9 kx9 b9 oi9 oh10 hp9
        refine wp_region_held (S := fun W => Blk W gq #[tx q.name, .bool q.dur, .int .i64 q.depth, .int .i64 q.seq, .int .i64 q.tag, .slice a8 n8 c8, .slice ah5 nh ch5] 25 ∧ Blk W bi #[.int .i64 x.seq, .bool x.again, tx x.msg.topic, tx x.msg.body, .slice pa0 pn pc0, .bool x.msg.dur, .int .i64 x.msg.til] 43) hmix ?_
        show wpAnyH _ _ _ _ _ _ _ _ (World.drew _)
        generalize w9.drew = wF at *
        refine wpAnyH_take (i := 0) (v := .agg #[tx q.name, .bool q.dur, .int .i64 q.depth, .int .i64 q.seq, .int .i64 q.tag, .slice a8 n8 c8, .slice ah5 nh ch5]) rfl (by kernel_rfl) (by kernel_rfl) (by kernel_rfl) (fun _ _ _ h => h) (.inl ⟨by rfl, fun W' hW' => ?_⟩) hS ?_
        · obtain ⟨⟨d0, d1, d2, d3, d4, d5, d6⟩, ⟨f0, f1, f2, f3, f4, f5, f6⟩⟩ := And.intro hW'.1.c7 hW'.2.c7
          go_simp
        simp only [Act.put, List.getElem_toArray, List.getElem_cons_zero, List.setIfInBounds_toArray, List.set_cons_succ, List.set_cons_zero]
        refine wpAnyH_take (i := 1) (v := .int .i64 0) rfl (by kernel_rfl) (by kernel_rfl) (by kernel_rfl) (fun _ _ _ h => h) (.inl ⟨by rfl, fun W' hW' => ?_⟩) hS ?_
        · obtain ⟨⟨d0, d1, d2, d3, d4, d5, d6⟩, ⟨f0, f1, f2, f3, f4, f5, f6⟩⟩ := And.intro hW'.1.c7 hW'.2.c7
          go_simp
        simp only [Act.put, List.getElem_toArray, List.getElem_cons_succ, List.getElem_cons_zero, List.setIfInBounds_toArray, List.set_cons_succ, List.set_cons_zero]
        refine wpAnyH_take (i := 2) (v := .agg #[.int .i64 x.seq, .bool x.again, tx x.msg.topic, tx x.msg.body, .slice pa0 pn pc0, .bool x.msg.dur, .int .i64 x.msg.til]) rfl (by kernel_rfl) (by kernel_rfl) (by kernel_rfl) (fun _ _ _ h => h) (.inl ⟨by rfl, fun W' hW' => ?_⟩) hS ?_
        · obtain ⟨⟨d0, d1, d2, d3, d4, d5, d6⟩, ⟨f0, f1, f2, f3, f4, f5, f6⟩⟩ := And.intro hW'.1.c7 hW'.2.c7
          go_simp
        simp only [Act.put, List.getElem_toArray, List.getElem_cons_succ, List.getElem_cons_zero, List.setIfInBounds_toArray, List.set_cons_succ, List.set_cons_zero]
        refine wpAnyH_one (i := 3) (by kernel_rfl) rfl (by rfl) (fun K hK => ?_)
        refine wp_store_row 25 (.tmp 8) (.tmp 82) rfl (w.heap.size + 1) _ rfl rfl 25 _ rF.h (by kernel_rfl) rfl (by simp [Value.oneCell']) ?_
        have hS2 : Blk (wF.setRow (w.heap.size + 1) #[tx q.name, .bool q.dur, .int .i64 q.depth, .int .i64 q.seq, .int .i64 q.tag, .slice a8 n8 c8, .slice ah5 nh ch5]) gq #[tx q.name, .bool q.dur, .int .i64 q.depth, .int .i64 q.seq, .int .i64 q.tag, .slice a8 n8 c8, .slice ah5 nh ch5] 25 ∧ Blk (wF.setRow (w.heap.size + 1) #[tx q.name, .bool q.dur, .int .i64 q.depth, .int .i64 q.seq, .int .i64 q.tag, .slice a8 n8 c8, .slice ah5 nh ch5]) bi #[.int .i64 x.seq, .bool x.again, tx x.msg.topic, tx x.msg.body, .slice pa0 pn pc0, .bool x.msg.dur, .int .i64 x.msg.til] 43 := ⟨hS.1.rowO (by omega) _, hS.2.rowO (by omega) _⟩
        have rG := rF.row #[tx q.name, .bool q.dur, .int .i64 q.depth, .int .i64 q.seq, .int .i64 q.tag, .slice a8 n8 c8, .slice ah5 nh ch5]
        have iG := iF.rowO (g' := w.heap.size + 1) (by omega) #[tx q.name, .bool q.dur, .int .i64 q.depth, .int .i64 q.seq, .int .i64 q.tag, .slice a8 n8 c8, .slice ah5 nh ch5]
        have bG := below_setRow bF (by omega : w.heap.size ≤ w.heap.size + 1) #[tx q.name, .bool q.dur, .int .i64 q.depth, .int .i64 q.seq, .int .i64 q.tag, .slice a8 n8 c8, .slice ah5 nh ch5]
        have oiG := oiF.keep (kt_setRow rF (by decide) #[tx q.name, .bool q.dur, .int .i64 q.depth, .int .i64 q.seq, .int .i64 q.tag, .slice a8 n8 c8, .slice ah5 nh ch5]) (kt_setRow rF (by decide) #[tx q.name, .bool q.dur, .int .i64 q.depth, .int .i64 q.seq, .int .i64 q.tag, .slice a8 n8 c8, .slice ah5 nh ch5])
        have ohG := ohF.keep (kt_setRow rF (by decide) #[tx q.name, .bool q.dur, .int .i64 q.depth, .int .i64 q.seq, .int .i64 q.tag, .slice a8 n8 c8, .slice ah5 nh ch5]) (kt_setRow rF (by decide) #[tx q.name, .bool q.dur, .int .i64 q.depth, .int .i64 q.seq, .int .i64 q.tag, .slice a8 n8 c8, .slice ah5 nh ch5])
        have hpG := hpF.keep (kt_setRow rF (by decide) #[tx q.name, .bool q.dur, .int .i64 q.depth, .int .i64 q.seq, .int .i64 q.tag, .slice a8 n8 c8, .slice ah5 nh ch5])
        refine hK _ _ hS2 ?_
        clear hK K hS rF iF bF oiF ohF hpF
        generalize wF.setRow (w.heap.size + 1) #[tx q.name, .bool q.dur, .int .i64 q.depth, .int .i64 q.seq, .int .i64 q.tag, .slice a8 n8 c8, .slice ah5 nh ch5] = wG at *
        simp only [Act.put, List.getElem_toArray, List.getElem_cons_succ, List.getElem_cons_zero, List.setIfInBounds_toArray, List.set_cons_succ, List.set_cons_zero]
        refine wpAnyH_take (i := 4) (v := .int .i64 0) rfl (by kernel_rfl) (by kernel_rfl) (by kernel_rfl) (fun _ _ _ h => h) (.inl ⟨by rfl, fun W' hW' => ?_⟩) hS2 ?_
        · obtain ⟨⟨d0, d1, d2, d3, d4, d5, d6⟩, ⟨f0, f1, f2, f3, f4, f5, f6⟩⟩ := And.intro hW'.1.c7 hW'.2.c7
          go_simp
        simp only [Act.put, List.getElem_toArray, List.getElem_cons_succ, List.getElem_cons_zero, List.setIfInBounds_toArray, List.set_cons_succ, List.set_cons_zero]
        refine wpAnyH_one (i := 5) (by kernel_rfl) rfl (by rfl) (fun K hK => ?_)
        refine wp_store_row 43 (.tmp 10) (.tmp 84) rfl (w.heap.size + 2) _ rfl rfl 43 _ iG.h (by kernel_rfl) rfl (by simp [Value.oneCell']) ?_
        have hS3 : Blk (wG.setRow (w.heap.size + 2) #[.int .i64 x.seq, .bool x.again, tx x.msg.topic, tx x.msg.body, .slice pa0 pn pc0, .bool x.msg.dur, .int .i64 x.msg.til]) gq #[tx q.name, .bool q.dur, .int .i64 q.depth, .int .i64 q.seq, .int .i64 q.tag, .slice a8 n8 c8, .slice ah5 nh ch5] 25 ∧ Blk (wG.setRow (w.heap.size + 2) #[.int .i64 x.seq, .bool x.again, tx x.msg.topic, tx x.msg.body, .slice pa0 pn pc0, .bool x.msg.dur, .int .i64 x.msg.til]) bi #[.int .i64 x.seq, .bool x.again, tx x.msg.topic, tx x.msg.body, .slice pa0 pn pc0, .bool x.msg.dur, .int .i64 x.msg.til] 43 := ⟨hS2.1.rowO (by omega) _, hS2.2.rowO (by omega) _⟩
        have iH := iG.row #[.int .i64 x.seq, .bool x.again, tx x.msg.topic, tx x.msg.body, .slice pa0 pn pc0, .bool x.msg.dur, .int .i64 x.msg.til]
        have rH := rG.rowO (g' := w.heap.size + 2) (by omega) #[.int .i64 x.seq, .bool x.again, tx x.msg.topic, tx x.msg.body, .slice pa0 pn pc0, .bool x.msg.dur, .int .i64 x.msg.til]
        have bH := below_setRow bG (by omega : w.heap.size ≤ w.heap.size + 2) #[.int .i64 x.seq, .bool x.again, tx x.msg.topic, tx x.msg.body, .slice pa0 pn pc0, .bool x.msg.dur, .int .i64 x.msg.til]
        have ohH := ohG.keep (kt_setRow iG (by decide) #[.int .i64 x.seq, .bool x.again, tx x.msg.topic, tx x.msg.body, .slice pa0 pn pc0, .bool x.msg.dur, .int .i64 x.msg.til]) (kt_setRow iG (by decide) #[.int .i64 x.seq, .bool x.again, tx x.msg.topic, tx x.msg.body, .slice pa0 pn pc0, .bool x.msg.dur, .int .i64 x.msg.til])
        have hpH := hpG.keep (kt_setRow iG (by decide) #[.int .i64 x.seq, .bool x.again, tx x.msg.topic, tx x.msg.body, .slice pa0 pn pc0, .bool x.msg.dur, .int .i64 x.msg.til])
        have oiH : OwnI (wG.setRow (w.heap.size + 2) #[.int .i64 x.seq, .bool x.again, tx x.msg.topic, tx x.msg.body, .slice pa0 pn pc0, .bool x.msg.dur, .int .i64 x.msg.til]) w.heap.size (.slice a8 n8 c8) (q.items.drop 1) := oiG.but (grown_setRow wG (w.heap.size + 2) #[.int .i64 x.seq, .bool x.again, tx x.msg.topic, tx x.msg.body, .slice pa0 pn pc0, .bool x.msg.dur, .int .i64 x.msg.til]) hri (kt_setRow iG (by decide) #[.int .i64 x.seq, .bool x.again, tx x.msg.topic, tx x.msg.body, .slice pa0 pn pc0, .bool x.msg.dur, .int .i64 x.msg.til])
        refine hK _ _ hS3 ?_
        clear hK K hS2 iG rG bG oiG ohG hpG
        generalize wG.setRow (w.heap.size + 2) #[.int .i64 x.seq, .bool x.again, tx x.msg.topic, tx x.msg.body, .slice pa0 pn pc0, .bool x.msg.dur, .int .i64 x.msg.til] = wH at *
        simp only [Act.put, List.getElem_toArray, List.getElem_cons_succ, List.getElem_cons_zero, List.setIfInBounds_toArray, List.set_cons_succ, List.set_cons_zero]
        refine wpAnyH_take (i := 6) (v := .int .i64 0) rfl (by kernel_rfl) (by kernel_rfl) (by kernel_rfl) (fun _ _ _ h => h) (.inl ⟨by rfl, fun W' hW' => ?_⟩) hS3 ?_
        · obtain ⟨⟨d0, d1, d2, d3, d4, d5, d6⟩, ⟨f0, f1, f2, f3, f4, f5, f6⟩⟩ := And.intro hW'.1.c7 hW'.2.c7
          go_simp
        simp only [Act.put, List.getElem_toArray, List.getElem_cons_succ, List.getElem_cons_zero, List.setIfInBounds_toArray, List.set_cons_succ, List.set_cons_zero]
        refine wpAnyH_done (by kernel_rfl) ?_ _
        go_wp2_with fail
        refine ret4 rfl rH rfl iH rfl rfl rfl rfl rfl ⟨.agg #[tx q.name, .bool q.dur, .int .i64 q.depth, .int .i64 q.seq, .int .i64 q.tag, .slice a8 n8 c8, .slice ah5 nh ch5], .slice pa0 pn pc0, ?_, ?_, ?_, bH⟩
        · rw [HX3.out]
          rfl
        · exact ⟨_, _, rfl, oiH, ohH⟩
        · rw [HX3.out]
          exact hpH
      | true =>
        have htw : IntKind.i64.wrap (q.tag + 1) = q.tag + 1 := by rw [IntKind.wrap_i64]; omega
        have c4 : w9.cell? ⟨w.heap.size, 4, none⟩ = some (.int .i64 q.tag) := p9.cell 4
        go_wp2_with (refine wpl_set rfl (.tmp 64) (.tmp 63) rfl _ 4 _ rfl rfl kq9 (by kernel_rfl) rfl rfl (by simp) ?_)
        intro w10 k10 g10 s10
        have kq10 : Blk w10 gq #[tx q.name, .bool q.dur, .int .i64 q.depth, .int .i64 q.seq, .int .i64 (q.tag + 1), .slice a8 n8 c8, .slice ah5 nh ch5] 25 := k10
        have r10 := r9.grown g10 (fun e => by injection e with e; omega)
        have i10 := i9.grown g10 (fun e => by injection e with e; omega)
        have p10 := p9.grown g10 (fun e => by injection e with e; omega)
        have kx10 := kx9.grown g10 (fun e => by injection e with e; omega)
        have b10 := b9.grown g10 b9.size (fun k hk => by injection hk with hk; omega)
        have t54 : Kt 54 w9 w10 := kt_grown kq9 g10 (by decide)
        have oi10 := oi9.keep (kt_grown kq9 g10 (by decide)) t54
        have oh11 := oh10.keep (kt_grown kq9 g10 (by decide)) t54
        have hp10 := hp9.keep t54
        clear kq9 r9 i9 p9 kx9 b9 oi9 oh10 hp9 g10 s10 t54 k10 c4
        go_upto_region 12 with fail
        have hS : TvX w w10.drew gq bi #[tx q.name, .bool q.dur, .int .i64 q.depth, .int .i64 q.seq, .int .i64 q.tag, .slice ai q.items.length ci, .slice ah nh ch] #[tx q.name, .bool q.dur, .int .i64 q.depth, .int .i64 q.seq, .int .i64 (q.tag + 1), .slice a8 n8 c8, .slice ah5 nh ch5] #[.int .i64 x.seq, .bool x.again, tx x.msg.topic, tx x.msg.body, .slice pa0 pn pc0, .bool x.msg.dur, .int .i64 x.msg.til] := ⟨⟨kq10.h⟩, ⟨r10.h⟩, ⟨i10.h⟩, ⟨kx10.h⟩, ⟨p10.h⟩, b10.drew⟩
        have oi11 : OwnI w10.drew w.heap.size (.slice a8 n8 c8) (q.items.drop 1) := oi10
        have oh12 : OwnH w10.drew w.heap.size (.slice ah5 nh ch5) q.held := oh11
        have hp11 : OwnP w10.drew w.heap.size (.slice pa0 pn pc0) x.msg.props := hp10
        clear kq10 r10 i10 p10 kx10 b10 oi10 oh11 hp10
        refine wp_region_to (S := fun W => TvX w W gq bi #[tx q.name, .bool q.dur, .int .i64 q.depth, .int .i64 q.seq, .int .i64 q.tag, .slice ai q.items.length ci, .slice ah nh ch] #[tx q.name, .bool q.dur, .int .i64 q.depth, .int .i64 q.seq, .int .i64 (q.tag + 1), .slice a8 n8 c8, .slice ah5 nh ch5] #[.int .i64 x.seq, .bool x.again, tx x.msg.topic, tx x.msg.body, .slice pa0 pn pc0, .bool x.msg.dur, .int .i64 x.msg.til]) (z := 17) hmix ?_
        show wpTo _ _ _ _ _ _ _ _ _ (World.drew _)
        generalize w10.drew = w11 at *
        refine wpTo.take (i := 0) (z := 17) (v := .pointer (some ⟨gq, 6, none⟩)) rfl (by kernel_rfl) (by kernel_rfl) (by kernel_rfl) (by kernel_rfl) (fun _ _ _ h => h) (.inl ⟨by rfl, fun W' hW' => ?_⟩) hS ?_
        · obtain ⟨d0, d1, d2, d3, d4, d5, d6⟩ := hW'.q.c7
          go_simp
        simp only [Act.put, List.getElem_toArray, List.getElem_cons_zero, List.setIfInBounds_toArray, List.set_cons_succ, List.set_cons_zero]
        refine wpTo.take (i := 1) (z := 17) (v := .slice ah5 nh ch5) rfl (by kernel_rfl) (by kernel_rfl) (by kernel_rfl) (by kernel_rfl) (fun _ _ _ h => h) (.inl ⟨by rfl, fun W' hW' => ?_⟩) hS ?_
        · obtain ⟨d0, d1, d2, d3, d4, d5, d6⟩ := hW'.q.c7
          go_simp
        simp only [Act.put, List.getElem_toArray, List.getElem_cons_succ, List.getElem_cons_zero, List.setIfInBounds_toArray, List.set_cons_succ, List.set_cons_zero]
        refine wpTo.take (i := 2) (z := 17) (v := .int .i64 (q.tag + 1)) rfl (by kernel_rfl) (by kernel_rfl) (by kernel_rfl) (by kernel_rfl) (fun _ _ _ h => h) (.inl ⟨by rfl, fun W' hW' => ?_⟩) hS ?_
        · obtain ⟨d0, d1, d2, d3, d4, d5, d6⟩ := hW'.q.c7
          go_simp
        simp only [Act.put, List.getElem_toArray, List.getElem_cons_succ, List.getElem_cons_zero, List.setIfInBounds_toArray, List.set_cons_succ, List.set_cons_zero]
        refine wpTo.take (i := 3) (z := 17) (v := .int .i64 conn) rfl (by kernel_rfl) (by kernel_rfl) (by kernel_rfl) (by kernel_rfl) (fun _ _ _ h => h) (.inl ⟨by rfl, fun W' hW' => ?_⟩) hS ?_
        · obtain ⟨d0, d1, d2, d3, d4, d5, d6⟩ := hW'.q.c7
          go_simp
        simp only [Act.put, List.getElem_toArray, List.getElem_cons_succ, List.getElem_cons_zero, List.setIfInBounds_toArray, List.set_cons_succ, List.set_cons_zero]
        refine wpTo.take (i := 4) (z := 17) (v := .int .i64 sub) rfl (by kernel_rfl) (by kernel_rfl) (by kernel_rfl) (by kernel_rfl) (fun _ _ _ h => h) (.inl ⟨by rfl, fun W' hW' => ?_⟩) hS ?_
        · obtain ⟨d0, d1, d2, d3, d4, d5, d6⟩ := hW'.q.c7
          go_simp
        simp only [Act.put, List.getElem_toArray, List.getElem_cons_succ, List.getElem_cons_zero, List.setIfInBounds_toArray, List.set_cons_succ, List.set_cons_zero]
        refine wpTo.take (i := 5) (z := 17) (v := .pointer (some ⟨bi, 0, none⟩)) rfl (by kernel_rfl) (by kernel_rfl) (by kernel_rfl) (by kernel_rfl) (fun _ _ _ h => h) (.inl ⟨by rfl, fun W' hW' => ?_⟩) hS ?_
        · obtain ⟨d0, d1, d2, d3, d4, d5, d6⟩ := hW'.x.c7
          go_simp
        simp only [Act.put, List.getElem_toArray, List.getElem_cons_succ, List.getElem_cons_zero, List.setIfInBounds_toArray, List.set_cons_succ, List.set_cons_zero]
        refine wpTo.take (i := 6) (z := 17) (v := .int .i64 x.seq) rfl (by kernel_rfl) (by kernel_rfl) (by kernel_rfl) (by kernel_rfl) (fun _ _ _ h => h) (.inl ⟨by rfl, fun W' hW' => ?_⟩) hS ?_
        · obtain ⟨d0, d1, d2, d3, d4, d5, d6⟩ := hW'.x.c7
          go_simp
        simp only [Act.put, List.getElem_toArray, List.getElem_cons_succ, List.getElem_cons_zero, List.setIfInBounds_toArray, List.set_cons_succ, List.set_cons_zero]
        refine wpTo.take (i := 7) (z := 17) (v := .pointer (some ⟨bi, 1, none⟩)) rfl (by kernel_rfl) (by kernel_rfl) (by kernel_rfl) (by kernel_rfl) (fun _ _ _ h => h) (.inl ⟨by rfl, fun W' hW' => ?_⟩) hS ?_
        · obtain ⟨d0, d1, d2, d3, d4, d5, d6⟩ := hW'.x.c7
          go_simp
        simp only [Act.put, List.getElem_toArray, List.getElem_cons_succ, List.getElem_cons_zero, List.setIfInBounds_toArray, List.set_cons_succ, List.set_cons_zero]
        refine wpTo.take (i := 8) (z := 17) (v := .bool x.again) rfl (by kernel_rfl) (by kernel_rfl) (by kernel_rfl) (by kernel_rfl) (fun _ _ _ h => h) (.inl ⟨by rfl, fun W' hW' => ?_⟩) hS ?_
        · obtain ⟨d0, d1, d2, d3, d4, d5, d6⟩ := hW'.x.c7
          go_simp
        simp only [Act.put, List.getElem_toArray, List.getElem_cons_succ, List.getElem_cons_zero, List.setIfInBounds_toArray, List.set_cons_succ, List.set_cons_zero]
        refine wpTo.take (i := 9) (z := 17) (v := .pointer (some ⟨bi, 2, none⟩)) rfl (by kernel_rfl) (by kernel_rfl) (by kernel_rfl) (by kernel_rfl) (fun _ _ _ h => h) (.inl ⟨by rfl, fun W' hW' => ?_⟩) hS ?_
        · obtain ⟨d0, d1, d2, d3, d4, d5, d6⟩ := hW'.x.c7
          go_simp
        simp only [Act.put, List.getElem_toArray, List.getElem_cons_succ, List.getElem_cons_zero, List.setIfInBounds_toArray, List.set_cons_succ, List.set_cons_zero]
        refine wpTo.take (i := 10) (z := 17) (v := .agg #[tx x.msg.topic, tx x.msg.body, .slice pa0 pn pc0, .bool x.msg.dur, .int .i64 x.msg.til]) rfl (by kernel_rfl) (by kernel_rfl) (by kernel_rfl) (by kernel_rfl) (fun _ _ _ h => h) (.inl ⟨by rfl, fun W' hW' => ?_⟩) hS ?_
        · obtain ⟨d0, d1, d2, d3, d4, d5, d6⟩ := hW'.x.c7
          go_simp
        simp only [Act.put, List.getElem_toArray, List.getElem_cons_succ, List.getElem_cons_zero, List.setIfInBounds_toArray, List.set_cons_succ, List.set_cons_zero]
        refine wpTo.one (i := 11) (by kernel_rfl) rfl (by rfl) (fun K hK => ?_)
        go_simp
        have hxl : x.msg.props.length ≤ 2513169434916 := by rw [← HX2.out]; exact hsm.ip _ (by have hne : q.items ≠ [] := fun e => hz (by rw [e]; rfl); cases hq : q.items with | nil => exact absurd hq hne | cons y l => simp)
        refine (rcopyMsg_any w11 x.msg (.slice pa0 pn pc0) hp11.rd hxl).mono ?_
        rintro e w12 ⟨pv2, rfl, op2, b12⟩
        have hS2 := hS.on b12
        have oi12 := oi11.keep (Kt.of_below b12) (Kt.of_below b12)
        have oh13 := oh12.keep (Kt.of_below b12) (Kt.of_below b12)
        have hp12 := hp11.keep (Kt.of_below b12)
        have op3 : OwnP w12 w.heap.size pv2 x.msg.props := op2.low hS.b.size
        show K _ _
        refine hK _ _ (fun _ => hS2) ?_
        clear hK K hS oi11 oh12 hp11 op2 b12
        obtain ⟨pa2, pc2, hpv2⟩ := op3.shape
        generalize x.msg.props.length = pn2 at hpv2
        subst hpv2
        unfold msgV
        refine wpTo.take (i := 12) (z := 17) (v := .agg #[.int .i64 x.seq, .bool x.again, tx x.msg.topic, tx x.msg.body, .slice pa2 pn2 pc2, .bool x.msg.dur, .int .i64 x.msg.til]) rfl (by kernel_rfl) (by kernel_rfl) (by kernel_rfl) (by kernel_rfl) (fun _ _ _ h => h) (.inl ⟨by rfl, fun W' hW' => ?_⟩) hS2 ?_
        · obtain ⟨d0, d1, d2, d3, d4, d5, d6⟩ := hW'.x.c7
          go_simp
        simp only [Act.put, List.getElem_toArray, List.getElem_cons_succ, List.getElem_cons_zero, List.setIfInBounds_toArray, List.set_cons_succ, List.set_cons_zero]
        refine wpTo.take (i := 13) (z := 17) (v := .agg #[.int .i64 (q.tag + 1), .int .i64 conn, .int .i64 sub, .int .i64 x.seq, .bool x.again, tx x.msg.topic, tx x.msg.body, .slice pa2 pn2 pc2, .bool x.msg.dur, .int .i64 x.msg.til]) rfl (by kernel_rfl) (by kernel_rfl) (by kernel_rfl) (by kernel_rfl) (fun _ _ _ h => h) (.inl ⟨by rfl, fun W' hW' => ?_⟩) hS2 ?_
        · obtain ⟨d0, d1, d2, d3, d4, d5, d6⟩ := hW'.x.c7
          go_simp
        simp only [Act.put, List.getElem_toArray, List.getElem_cons_succ, List.getElem_cons_zero, List.setIfInBounds_toArray, List.set_cons_succ, List.set_cons_zero]
        refine wpTo.one (i := 14) (by kernel_rfl) rfl (by rfl) (fun K hK => ?_)
        go_simp
        have b13 := (Below.refl w12.heap.size w12).alloc (Nat.le_refl _) (.cells #[.int .i64 (q.tag + 1), .int .i64 conn, .int .i64 sub, .int .i64 x.seq, .bool x.again, tx x.msg.topic, tx x.msg.body, .slice pa2 pn2 pc2, .bool x.msg.dur, .int .i64 x.msg.til] 61)
        have kN := Blk.new w12 #[.int .i64 (q.tag + 1), .int .i64 conn, .int .i64 sub, .int .i64 x.seq, .bool x.again, tx x.msg.topic, tx x.msg.body, .slice pa2 pn2 pc2, .bool x.msg.dur, .int .i64 x.msg.til] 61
        have hS3 := hS2.on b13
        have oi13 := oi12.keep (Kt.of_below b13) (Kt.of_below b13)
        have oh14 := oh13.keep (Kt.of_below b13) (Kt.of_below b13)
        have hp13 := hp12.keep (Kt.of_below b13)
        have op4 := op3.keep (Kt.of_below b13)
        show K _ _
        refine hK _ _ (fun _ => hS3) ?_
        obtain ⟨nb, hnb⟩ : ∃ nb, w12.heap.size = nb := ⟨_, rfl⟩
        rw [hnb] at kN ⊢
        generalize w12.alloc (.cells #[.int .i64 (q.tag + 1), .int .i64 conn, .int .i64 sub, .int .i64 x.seq, .bool x.again, tx x.msg.topic, tx x.msg.body, .slice pa2 pn2 pc2, .bool x.msg.dur, .int .i64 x.msg.til] 61) = w13 at *
        clear hK K hS2 oi12 oh13 hp12 op3 b13 hnb
        obtain ⟨zh, ezh, hzh⟩ := oh14
        refine wpTo.one (i := 15) (by kernel_rfl) rfl (by rfl) (fun K hK => ?_)
        refine appH_one hzh hS3.b (.tmp 66) (.tmp 79) rfl rfl nb rfl ⟨q.tag + 1, conn, sub, x⟩ (.slice pa2 pn2 pc2) kN op4 (by have := hsm.held; rw [← ezh, List.length_map] at this; omega) ?_
        intro v14 w14 o14 g14
        have t25 : Kt 25 w13 w14 := Kt.of_grown hzh.1 g14 (by decide)
        have t43 : Kt 43 w13 w14 := Kt.of_grown hzh.1 g14 (by decide)
        have t54 : Kt 54 w13 w14 := Kt.of_grown hzh.1 g14 (by decide)
        have hS4 : TvX w w14 gq bi #[tx q.name, .bool q.dur, .int .i64 q.depth, .int .i64 q.seq, .int .i64 q.tag, .slice ai q.items.length ci, .slice ah nh ch] #[tx q.name, .bool q.dur, .int .i64 q.depth, .int .i64 q.seq, .int .i64 (q.tag + 1), .slice a8 n8 c8, .slice ah5 nh ch5] #[.int .i64 x.seq, .bool x.again, tx x.msg.topic, tx x.msg.body, .slice pa0 pn pc0, .bool x.msg.dur, .int .i64 x.msg.til] := ⟨hS3.q.kt t25, hS3.r.kt t25, hS3.i.kt t43, hS3.x.kt t43, hS3.p.kt t25, hS3.b.grown g14 hS3.b.size (fun k hk => (World.ownsRow.lt hzh.1 k hk).1)⟩
        have oi14 := oi13.keep t43 t54
        have hp14 := hp13.keep t54
        have oh15 : OwnH w14 w.heap.size v14 (q.held ++ [⟨q.tag + 1, conn, sub, x⟩]) := ⟨_, by rw [List.map_append, ezh]; rfl, o14⟩
        refine hK _ _ (fun _ => hS4) ?_
        clear hK K hS3 oi13 hp13 op4 kN hzh ezh g14 o14 t25 t43 t54
        obtain ⟨a14, c14, rfl⟩ := oh15.rd.len
        generalize hL14 : (q.held ++ [(⟨q.tag + 1, conn, sub, x⟩ : Hld)]).length = n14 at *
        clear hL14
        simp only [Act.put, List.getElem_toArray, List.getElem_cons_succ, List.getElem_cons_zero, List.setIfInBounds_toArray, List.set_cons_succ, List.set_cons_zero]
        refine wpTo.take (i := 16) (z := 17) (v := .pointer (some ⟨gq, 6, none⟩)) rfl (by kernel_rfl) (by kernel_rfl) (by kernel_rfl) (by kernel_rfl) (fun _ _ _ h => h) (.inl ⟨by rfl, fun W' hW' => ?_⟩) hS4 ?_
        · obtain ⟨d0, d1, d2, d3, d4, d5, d6⟩ := hW'.q.c7
          go_simp
        simp only [Act.put, List.getElem_toArray, List.getElem_cons_succ, List.getElem_cons_zero, List.setIfInBounds_toArray, List.set_cons_succ, List.set_cons_zero]
        refine wpTo.one (i := 17) (by kernel_rfl) rfl (by rfl) (fun K hK => ?_)
        have f6 := hS4.q.frozen 6
        obtain ⟨d0, d1, d2, d3, d4, d5, d6⟩ := hS4.q.c7
        go_simp
        show K _ _
        refine hK _ _ (fun h => absurd rfl h) ?_
        clear hK K d0 d1 d2 d3 d4 d5 d6
        have kq16 : Blk (w14.setCell ⟨gq, 6, none⟩ (.slice a14 n14 c14)) gq #[tx q.name, .bool q.dur, .int .i64 q.depth, .int .i64 q.seq, .int .i64 (q.tag + 1), .slice a8 n8 c8, .slice a14 n14 c14] 25 := hS4.q.set 6 (.slice a14 n14 c14)
        have r16 := hS4.r.setO (g' := gq) (j := 6) (by omega) (.slice a14 n14 c14)
        have i16 := hS4.i.setO (g' := gq) (j := 6) (by omega) (.slice a14 n14 c14)
        have kx16 := hS4.x.setO (g' := gq) (j := 6) (by omega) (.slice a14 n14 c14)
        have b16 := hS4.b.setCell (p := ⟨gq, 6, none⟩) (by show w.heap.size ≤ gq; omega) (.slice a14 n14 c14)
        have oi16 := oi14.keep (kt_setCell (j := 6) hS4.q (by decide) (.slice a14 n14 c14)) (kt_setCell (j := 6) hS4.q (by decide) (.slice a14 n14 c14))
        have oh16 := oh15.keep (kt_setCell (j := 6) hS4.q (by decide) (.slice a14 n14 c14)) (kt_setCell (j := 6) hS4.q (by decide) (.slice a14 n14 c14))
        have hp16 := hp14.keep (kt_setCell (j := 6) hS4.q (by decide) (.slice a14 n14 c14))
        generalize w14.setCell ⟨gq, 6, none⟩ (.slice a14 n14 c14) = w16 at *
        clear hS4 oi14 oh15 hp14 f6
        refine wpTo.done (by kernel_rfl) ?_ _
        go_upto_region 13 with fail
        have hS : Blk w16.drew gq #[tx q.name, .bool q.dur, .int .i64 q.depth, .int .i64 q.seq, .int .i64 (q.tag + 1), .slice a8 n8 c8, .slice a14 n14 c14] 25 ∧ Blk w16.drew bi #[.int .i64 x.seq, .bool x.again, tx x.msg.topic, tx x.msg.body, .slice pa0 pn pc0, .bool x.msg.dur, .int .i64 x.msg.til] 43 := ⟨⟨kq16.h⟩, ⟨kx16.h⟩⟩
        have rF : Blk w16.drew (w.heap.size + 1) #[.string ⟨#[]⟩, .bool false, .int .i64 0, .int .i64 0, .int .i64 0, .slice none 0 0, .slice none 0 0] 25 := ⟨r16.h⟩
        have iF : Blk w16.drew (w.heap.size + 2) #[.int .i64 0, .bool false, .string ⟨#[]⟩, .string ⟨#[]⟩, .slice none 0 0, .bool false, .int .i64 0] 43 := ⟨i16.h⟩
        have bF := b16.drew
        have oiF : OwnI w16.drew w.heap.size (.slice a8 n8 c8) (q.items.drop 1) := oi16
        have ohF : OwnH w16.drew w.heap.size (.slice a14 n14 c14) (q.held ++ [⟨q.tag + 1, conn, sub, x⟩]) := oh16
        have hpF : OwnP w16.drew w.heap.size (.slice pa0 pn pc0) x.msg.props := hp16
        clear kq16 r16 i16 kx16 b16 oi16 oh16 hp16
        refine wp_region_held (S := fun W => Blk W gq #[tx q.name, .bool q.dur, .int .i64 q.depth, .int .i64 q.seq, .int .i64 (q.tag + 1), .slice a8 n8 c8, .slice a14 n14 c14] 25 ∧ Blk W bi #[.int .i64 x.seq, .bool x.again, tx x.msg.topic, tx x.msg.body, .slice pa0 pn pc0, .bool x.msg.dur, .int .i64 x.msg.til] 43) hmix ?_
        show wpAnyH _ _ _ _ _ _ _ _ (World.drew _)
        generalize w16.drew = wF at *
        refine wpAnyH_take (i := 0) (v := .agg #[tx q.name, .bool q.dur, .int .i64 q.depth, .int .i64 q.seq, .int .i64 (q.tag + 1), .slice a8 n8 c8, .slice a14 n14 c14]) rfl (by kernel_rfl) (by kernel_rfl) (by kernel_rfl) (fun _ _ _ h => h) (.inl ⟨by rfl, fun W' hW' => ?_⟩) hS ?_
        · obtain ⟨⟨d0, d1, d2, d3, d4, d5, d6⟩, ⟨f0, f1, f2, f3, f4, f5, f6⟩⟩ := And.intro hW'.1.c7 hW'.2.c7
          go_simp
        simp only [Act.put, List.getElem_toArray, List.getElem_cons_zero, List.setIfInBounds_toArray, List.set_cons_succ, List.set_cons_zero]
        refine wpAnyH_take (i := 1) (v := .int .i64 (q.tag + 1)) rfl (by kernel_rfl) (by kernel_rfl) (by kernel_rfl) (fun _ _ _ h => h) (.inl ⟨by rfl, fun W' hW' => ?_⟩) hS ?_
        · obtain ⟨⟨d0, d1, d2, d3, d4, d5, d6⟩, ⟨f0, f1, f2, f3, f4, f5, f6⟩⟩ := And.intro hW'.1.c7 hW'.2.c7
          go_simp
        simp only [Act.put, List.getElem_toArray, List.getElem_cons_succ, List.getElem_cons_zero, List.setIfInBounds_toArray, List.set_cons_succ, List.set_cons_zero]
        refine wpAnyH_take (i := 2) (v := .agg #[.int .i64 x.seq, .bool x.again, tx x.msg.topic, tx x.msg.body, .slice pa0 pn pc0, .bool x.msg.dur, .int .i64 x.msg.til]) rfl (by kernel_rfl) (by kernel_rfl) (by kernel_rfl) (fun _ _ _ h => h) (.inl ⟨by rfl, fun W' hW' => ?_⟩) hS ?_
        · obtain ⟨⟨d0, d1, d2, d3, d4, d5, d6⟩, ⟨f0, f1, f2, f3, f4, f5, f6⟩⟩ := And.intro hW'.1.c7 hW'.2.c7
          go_simp
        simp only [Act.put, List.getElem_toArray, List.getElem_cons_succ, List.getElem_cons_zero, List.setIfInBounds_toArray, List.set_cons_succ, List.set_cons_zero]
        refine wpAnyH_one (i := 3) (by kernel_rfl) rfl (by rfl) (fun K hK => ?_)
        refine wp_store_row 25 (.tmp 8) (.tmp 82) rfl (w.heap.size + 1) _ rfl rfl 25 _ rF.h (by kernel_rfl) rfl (by simp [Value.oneCell']) ?_
        have hS2 : Blk (wF.setRow (w.heap.size + 1) #[tx q.name, .bool q.dur, .int .i64 q.depth, .int .i64 q.seq, .int .i64 (q.tag + 1), .slice a8 n8 c8, .slice a14 n14 c14]) gq #[tx q.name, .bool q.dur, .int .i64 q.depth, .int .i64 q.seq, .int .i64 (q.tag + 1), .slice a8 n8 c8, .slice a14 n14 c14] 25 ∧ Blk (wF.setRow (w.heap.size + 1) #[tx q.name, .bool q.dur, .int .i64 q.depth, .int .i64 q.seq, .int .i64 (q.tag + 1), .slice a8 n8 c8, .slice a14 n14 c14]) bi #[.int .i64 x.seq, .bool x.again, tx x.msg.topic, tx x.msg.body, .slice pa0 pn pc0, .bool x.msg.dur, .int .i64 x.msg.til] 43 := ⟨hS.1.rowO (by omega) _, hS.2.rowO (by omega) _⟩
        have rG := rF.row #[tx q.name, .bool q.dur, .int .i64 q.depth, .int .i64 q.seq, .int .i64 (q.tag + 1), .slice a8 n8 c8, .slice a14 n14 c14]
        have iG := iF.rowO (g' := w.heap.size + 1) (by omega) #[tx q.name, .bool q.dur, .int .i64 q.depth, .int .i64 q.seq, .int .i64 (q.tag + 1), .slice a8 n8 c8, .slice a14 n14 c14]
        have bG := below_setRow bF (by omega : w.heap.size ≤ w.heap.size + 1) #[tx q.name, .bool q.dur, .int .i64 q.depth, .int .i64 q.seq, .int .i64 (q.tag + 1), .slice a8 n8 c8, .slice a14 n14 c14]
        have oiG := oiF.keep (kt_setRow rF (by decide) #[tx q.name, .bool q.dur, .int .i64 q.depth, .int .i64 q.seq, .int .i64 (q.tag + 1), .slice a8 n8 c8, .slice a14 n14 c14]) (kt_setRow rF (by decide) #[tx q.name, .bool q.dur, .int .i64 q.depth, .int .i64 q.seq, .int .i64 (q.tag + 1), .slice a8 n8 c8, .slice a14 n14 c14])
        have ohG := ohF.keep (kt_setRow rF (by decide) #[tx q.name, .bool q.dur, .int .i64 q.depth, .int .i64 q.seq, .int .i64 (q.tag + 1), .slice a8 n8 c8, .slice a14 n14 c14]) (kt_setRow rF (by decide) #[tx q.name, .bool q.dur, .int .i64 q.depth, .int .i64 q.seq, .int .i64 (q.tag + 1), .slice a8 n8 c8, .slice a14 n14 c14])
        have hpG := hpF.keep (kt_setRow rF (by decide) #[tx q.name, .bool q.dur, .int .i64 q.depth, .int .i64 q.seq, .int .i64 (q.tag + 1), .slice a8 n8 c8, .slice a14 n14 c14])
        refine hK _ _ hS2 ?_
        clear hK K hS rF iF bF oiF ohF hpF
        generalize wF.setRow (w.heap.size + 1) #[tx q.name, .bool q.dur, .int .i64 q.depth, .int .i64 q.seq, .int .i64 (q.tag + 1), .slice a8 n8 c8, .slice a14 n14 c14] = wG at *
        simp only [Act.put, List.getElem_toArray, List.getElem_cons_succ, List.getElem_cons_zero, List.setIfInBounds_toArray, List.set_cons_succ, List.set_cons_zero]
        refine wpAnyH_take (i := 4) (v := .int .i64 (q.tag + 1)) rfl (by kernel_rfl) (by kernel_rfl) (by kernel_rfl) (fun _ _ _ h => h) (.inl ⟨by rfl, fun W' hW' => ?_⟩) hS2 ?_
        · obtain ⟨⟨d0, d1, d2, d3, d4, d5, d6⟩, ⟨f0, f1, f2, f3, f4, f5, f6⟩⟩ := And.intro hW'.1.c7 hW'.2.c7
          go_simp
        simp only [Act.put, List.getElem_toArray, List.getElem_cons_succ, List.getElem_cons_zero, List.setIfInBounds_toArray, List.set_cons_succ, List.set_cons_zero]
        refine wpAnyH_one (i := 5) (by kernel_rfl) rfl (by rfl) (fun K hK => ?_)
        refine wp_store_row 43 (.tmp 10) (.tmp 84) rfl (w.heap.size + 2) _ rfl rfl 43 _ iG.h (by kernel_rfl) rfl (by simp [Value.oneCell']) ?_
        have hS3 : Blk (wG.setRow (w.heap.size + 2) #[.int .i64 x.seq, .bool x.again, tx x.msg.topic, tx x.msg.body, .slice pa0 pn pc0, .bool x.msg.dur, .int .i64 x.msg.til]) gq #[tx q.name, .bool q.dur, .int .i64 q.depth, .int .i64 q.seq, .int .i64 (q.tag + 1), .slice a8 n8 c8, .slice a14 n14 c14] 25 ∧ Blk (wG.setRow (w.heap.size + 2) #[.int .i64 x.seq, .bool x.again, tx x.msg.topic, tx x.msg.body, .slice pa0 pn pc0, .bool x.msg.dur, .int .i64 x.msg.til]) bi #[.int .i64 x.seq, .bool x.again, tx x.msg.topic, tx x.msg.body, .slice pa0 pn pc0, .bool x.msg.dur, .int .i64 x.msg.til] 43 := ⟨hS2.1.rowO (by omega) _, hS2.2.rowO (by omega) _⟩
        have iH := iG.row #[.int .i64 x.seq, .bool x.again, tx x.msg.topic, tx x.msg.body, .slice pa0 pn pc0, .bool x.msg.dur, .int .i64 x.msg.til]
        have rH := rG.rowO (g' := w.heap.size + 2) (by omega) #[.int .i64 x.seq, .bool x.again, tx x.msg.topic, tx x.msg.body, .slice pa0 pn pc0, .bool x.msg.dur, .int .i64 x.msg.til]
        have bH := below_setRow bG (by omega : w.heap.size ≤ w.heap.size + 2) #[.int .i64 x.seq, .bool x.again, tx x.msg.topic, tx x.msg.body, .slice pa0 pn pc0, .bool x.msg.dur, .int .i64 x.msg.til]
        have ohH := ohG.keep (kt_setRow iG (by decide) #[.int .i64 x.seq, .bool x.again, tx x.msg.topic, tx x.msg.body, .slice pa0 pn pc0, .bool x.msg.dur, .int .i64 x.msg.til]) (kt_setRow iG (by decide) #[.int .i64 x.seq, .bool x.again, tx x.msg.topic, tx x.msg.body, .slice pa0 pn pc0, .bool x.msg.dur, .int .i64 x.msg.til])
        have hpH := hpG.keep (kt_setRow iG (by decide) #[.int .i64 x.seq, .bool x.again, tx x.msg.topic, tx x.msg.body, .slice pa0 pn pc0, .bool x.msg.dur, .int .i64 x.msg.til])
        have oiH : OwnI (wG.setRow (w.heap.size + 2) #[.int .i64 x.seq, .bool x.again, tx x.msg.topic, tx x.msg.body, .slice pa0 pn pc0, .bool x.msg.dur, .int .i64 x.msg.til]) w.heap.size (.slice a8 n8 c8) (q.items.drop 1) := oiG.but (grown_setRow wG (w.heap.size + 2) #[.int .i64 x.seq, .bool x.again, tx x.msg.topic, tx x.msg.body, .slice pa0 pn pc0, .bool x.msg.dur, .int .i64 x.msg.til]) hri (kt_setRow iG (by decide) #[.int .i64 x.seq, .bool x.again, tx x.msg.topic, tx x.msg.body, .slice pa0 pn pc0, .bool x.msg.dur, .int .i64 x.msg.til])
        refine hK _ _ hS3 ?_
        clear hK K hS2 iG rG bG oiG ohG hpG
        generalize wG.setRow (w.heap.size + 2) #[.int .i64 x.seq, .bool x.again, tx x.msg.topic, tx x.msg.body, .slice pa0 pn pc0, .bool x.msg.dur, .int .i64 x.msg.til] = wH at *
        simp only [Act.put, List.getElem_toArray, List.getElem_cons_succ, List.getElem_cons_zero, List.setIfInBounds_toArray, List.set_cons_succ, List.set_cons_zero]
        refine wpAnyH_take (i := 6) (v := .int .i64 0) rfl (by kernel_rfl) (by kernel_rfl) (by kernel_rfl) (fun _ _ _ h => h) (.inl ⟨by rfl, fun W' hW' => ?_⟩) hS3 ?_
        · obtain ⟨⟨d0, d1, d2, d3, d4, d5, d6⟩, ⟨f0, f1, f2, f3, f4, f5, f6⟩⟩ := And.intro hW'.1.c7 hW'.2.c7
          go_simp
        simp only [Act.put, List.getElem_toArray, List.getElem_cons_succ, List.getElem_cons_zero, List.setIfInBounds_toArray, List.set_cons_succ, List.set_cons_zero]
        refine wpAnyH_done (by kernel_rfl) ?_ _
        go_wp2_with fail
        refine ret4 rfl rH rfl iH rfl rfl rfl rfl rfl ⟨.agg #[tx q.name, .bool q.dur, .int .i64 q.depth, .int .i64 q.seq, .int .i64 (q.tag + 1), .slice a8 n8 c8, .slice a14 n14 c14], .slice pa0 pn pc0, ?_, ?_, ?_, bH⟩
        · rw [HX3.out]
          rfl
        · refine ⟨_, .slice a14 n14 c14, rfl, oiH, ?_⟩
          show OwnH wH w.heap.size _ (q.held ++ [⟨q.tag + 1, conn, sub, q.items.headD zeroI⟩])
          rw [HX2.out]
          exact ohH
        · rw [HX3.out]
          exact hpH
end Go.Proofs.YtlbcefocmdnlgaaGreatDoor
