/- What Copy answers of any queue, told apart: the first item's properties lie ahead of all others'. Conditions: those that each row states. -/
import Derived.Test.YtlbcefocmdnlgaaGreatDoorZf
namespace Go.Proofs.YtlbcefocmdnlgaaGreatDoor
open Go.RowKit Go.Lib
set_option maxRecDepth 100000

/-- The first item's properties lie below s, all others' from s on. -/
def ApI (W : World) (s : Nat) (zs : Zs Itm) : Prop := (∀ z ∈ zs.take 1, ∀ g, (z.1.getD 4 undef).ownBlock = some g → g < s) ∧ ∀ z ∈ zs.drop 1, ItR (OwnP W s) z.1 z.2
theorem ApI.keep {W W' : World} {s : Nat} {zs : Zs Itm} (h : ApI W s zs) (hk : Kt 54 W W') : ApI W' s zs := ⟨h.1, fun z hz => (h.2 z hz).keep hk⟩
/-- What waits, what is held, of the call's own, told apart. -/
def OI2 (W : World) (B s : Nat) (v : Value) (l : List Itm) : Prop := ∃ zs : Zs Itm, zs.map (·.2) = l ∧ OwnZ 43 7 (ItR (OwnP W B)) W B v zs ∧ ApI W s zs
def OH2 (W : World) (B s : Nat) (v : Value) (l : List Hld) : Prop := ∃ zs : Zs Hld, zs.map (·.2) = l ∧ OwnZ 61 10 (HeR (OwnP W s)) W B v zs
theorem OI2.keep {W W' : World} {B s : Nat} {v : Value} {l : List Itm} (h : OI2 W B s v l) (k1 : Kt 43 W W') (k2 : Kt 54 W W') : OI2 W' B s v l := by
  obtain ⟨zs, h1, h2, h3⟩ := h
  exact ⟨zs, h1, (h2.keep k1).imp fun _ _ h => h.keep k2, h3.keep k2⟩
theorem OH2.keep {W W' : World} {B s : Nat} {v : Value} {l : List Hld} (h : OH2 W B s v l) (k1 : Kt 61 W W') (k2 : Kt 54 W W') : OH2 W' B s v l := by
  obtain ⟨zs, h1, h2⟩ := h
  exact ⟨zs, h1, (h2.keep k1).imp fun _ _ h => h.keep k2⟩
theorem OI2.own {W : World} {B s : Nat} {v : Value} {l : List Itm} (h : OI2 W B s v l) : OwnI W B v l := by
  obtain ⟨zs, h1, h2, _⟩ := h
  exact ⟨zs, h1, h2⟩
theorem OH2.own {W : World} {B s : Nat} {v : Value} {l : List Hld} (h : OH2 W B s v l) (hs : B ≤ s) : OwnH W B v l := by
  obtain ⟨zs, h1, h2⟩ := h
  exact ⟨zs, h1, h2.imp fun _ _ h => h.low hs⟩
theorem OH2.len {W : World} {B s : Nat} {v : Value} {l : List Hld} (h : OH2 W B s v l) : ∃ a c, v = .slice a l.length c := by
  obtain ⟨zs, rfl, h2⟩ := h
  rw [List.length_map]
  exact h2.rd.len
structure CpI2 (w W : World) (q : Que) (iv hv v3 : Value) (k s : Nat) : Prop where
  own : ∃ zs : Zs Itm, zs.map (·.2) = q.items.take k ∧ OwnZ 43 7 (ItR (OwnP W w.heap.size)) W w.heap.size v3 zs ∧ ApI W s zs
  below : Below w.heap.size w W
  blk : Blk W w.heap.size (queV q iv hv).cells 25
  res : Blk W (w.heap.size + 1) #[.string ⟨#[]⟩, .bool false, .int .i64 0, .int .i64 0, .int .i64 0, .slice none 0 0, .slice none 0 0] 25
  low : w.heap.size ≤ s
theorem CpI2.on {w W W' : World} {q : Que} {iv hv v3 : Value} {k s : Nat} (h : CpI2 w W q iv hv v3 k s) (hb : Below W.heap.size W W') : CpI2 w W' q iv hv v3 k s := by
  obtain ⟨⟨zs, h1, h2, h6⟩, h3, h4, h5, h7⟩ := h
  exact ⟨⟨zs, h1, (h2.keep (.of_below hb)).imp fun _ _ h => h.keep (.of_below hb), h6.keep (.of_below hb)⟩, nxt h3 hb, h4.on hb, h5.on hb, h7⟩
structure CpH2 (w W : World) (q : Que) (iv hv v3 v6 : Value) (k s : Nat) : Prop where
  items : ∃ zs : Zs Itm, zs.map (·.2) = q.items ∧ OwnZ 43 7 (ItR (OwnP W w.heap.size)) W w.heap.size v3 zs ∧ ApI W s zs
  own : ∃ zs : Zs Hld, zs.map (·.2) = q.held.take k ∧ OwnZ 61 10 (HeR (OwnP W s)) W w.heap.size v6 zs
  below : Below w.heap.size w W
  blk : Blk W w.heap.size (queV q iv hv).cells 25
  res : Blk W (w.heap.size + 1) #[.string ⟨#[]⟩, .bool false, .int .i64 0, .int .i64 0, .int .i64 0, .slice none 0 0, .slice none 0 0] 25
  low : w.heap.size ≤ s
  top : s ≤ W.heap.size
theorem CpH2.on {w W W' : World} {q : Que} {iv hv v3 v6 : Value} {k s : Nat} (h : CpH2 w W q iv hv v3 v6 k s) (hb : Below W.heap.size W W') : CpH2 w W' q iv hv v3 v6 k s := by
  obtain ⟨⟨zi, e1, e2, e3⟩, ⟨zs, h1, h2⟩, h3, h4, h5, h7, h8⟩ := h
  exact ⟨⟨zi, e1, (e2.keep (.of_below hb)).imp fun _ _ h => h.keep (.of_below hb), e3.keep (.of_below hb)⟩, ⟨zs, h1, (h2.keep (.of_below hb)).imp fun _ _ h => h.keep (.of_below hb)⟩, nxt h3 hb, h4.on hb, h5.on hb, h7, Nat.le_trans h8 hb.size⟩
theorem CpI2.turn {w W : World} {q : Que} {iv hv v3 : Value} {k s : Nat} (h : CpI2 w W q iv hv v3 k s) (hk : q.items.length ≤ k) (hs : s ≤ W.heap.size) : CpH2 w W q iv hv v3 (.slice none 0 0) 0 s := by
  obtain ⟨⟨zs, h1, h2, h6⟩, h3, h4, h5, h7⟩ := h
  exact ⟨⟨zs, by rw [h1, List.take_of_length_le hk], h2, h6⟩, ⟨[], by simp, World.ownsRow_nil .., by simp⟩, h3, h4, h5, h7, hs⟩
theorem CpI2.app {w W : World} {q : Que} {iv hv v3 : Value} {k s : Nat} (h : CpI2 w W q iv hv v3 k s) {ops : Array Oper} {rest : List Oper} {o : Oper} {a : Act} {Q : Exit → Act → World → Prop} (hgd : o.guard = none) (sl x : Operand)
    (ho : o.op = .call { callee := .builtin .append, args := #[sl, x], argTypes := #[22, 22] }) (hs : a.eval sl = v3) (hx : a.eval x = .slice (some ⟨W.heap.size, 0, none⟩) 1 1) (it : Itm) (hit : q.items.take (k + 1) = q.items.take k ++ [it]) (pv : Value) (hp : OwnP W s pv it.msg.props) (hk : k ≤ 1000)
    (cont : ∀ v' w', (∃ s', s' ≤ w'.heap.size ∧ CpI2 w w' q iv hv v' (k + 1) s') → wpList Tryz.prog ops Q rest (a.put o.dst v') w') : wpList Tryz.prog ops Q (o :: rest) a (W.alloc (.cells (itmV it pv).toArray 43)) := by
  have hb := (Below.refl W.heap.size W).alloc (Nat.le_refl _) (.cells (itmV it pv).toArray 43)
  have hn := Blk.new W (itmV it pv).toArray 43
  obtain ⟨⟨zs, h1, h2, h6⟩, h3, h4, h5, hlow⟩ := h.on hb
  have hlen : zs.length ≤ 1000 := by
    have := congrArg List.length h1
    rw [List.length_map, List.length_take] at this
    omega
  have hp2 := hp.keep (.of_below hb)
  have hone : pv.oneCell' = true := hp.rd.one
  have hsW : ∀ g, pv.ownBlock = some g → g < W.heap.size := fun g e => (World.ownsRow.lt hp g e).2
  refine wpl_appI hgd sl x ho w.heap.size v3 zs _ _ hs h2 W.heap.size 1 (itmV it pv, it) hx ⟨itmV_one it hone, pv, rfl, hp2.low hlow⟩ (fun j u hu => ?_) (by omega) h3.size ?_
  · rw [hn.cell j]
    simpa using hu
  · intro v' w' g6 h7
    have k54 : Kt 54 _ w' := Kt.of_grown h2.1 h7 (by decide)
    have k25 : Kt 25 _ w' := Kt.of_grown h2.1 h7 (by decide)
    have b3 := h3.grown h7 h3.size (fun k hk => (World.ownsRow.lt h2.1 k hk).1)
    have hmap : (zs ++ [(itmV it pv, it)]).map (·.2) = q.items.take (k + 1) := by rw [List.map_append, h1, hit]; rfl
    have hap : ∃ s', s' ≤ w'.heap.size ∧ w.heap.size ≤ s' ∧ ApI w' s' (zs ++ [(itmV it pv, it)]) := by
      cases zs with
      | nil =>
        refine ⟨w'.heap.size, Nat.le_refl _, b3.size, fun z hz g hg => ?_, by simp⟩
        simp only [List.nil_append, List.take_succ_cons, List.take_zero, List.mem_singleton] at hz
        subst hz
        exact Nat.lt_of_lt_of_le (hsW g hg) (Nat.le_trans hb.size h7.size)
      | cons z0 zr =>
        have hs2 : s ≤ w'.heap.size ∨ w'.heap.size < s := by omega
        rcases hs2 with hs2 | hs2
        · refine ⟨s, hs2, hlow, fun z hz => h6.1 z (by simpa using hz), fun z hz => ?_⟩
          simp only [List.cons_append, List.drop_succ_cons, List.drop_zero, List.mem_append, List.mem_singleton] at hz
          rcases hz with hz | rfl
          · exact (h6.2 z (by simpa using hz)).keep k54
          · exact ⟨pv, rfl, hp2.keep k54⟩
        · refine ⟨w'.heap.size, Nat.le_refl _, b3.size, ?_, ?_⟩
          · intro z hz g hg
            have hz' : z = z0 := by simpa using hz
            subst hz'
            have := (h2.2 z (by simp)).2
            obtain ⟨pv0, e0, o0⟩ := this
            rw [e0] at hg
            exact Nat.lt_of_lt_of_le (World.ownsRow.lt o0 g hg).2 h7.size
          · intro z hz
            simp only [List.cons_append, List.drop_succ_cons, List.drop_zero, List.mem_append, List.mem_singleton] at hz
            rcases hz with hz | rfl
            · exact ((h6.2 z (by simpa using hz)).keep k54).low (by omega)
            · exact (show ItR (OwnP w' s) _ _ from ⟨pv, rfl, hp2.keep k54⟩).low (by omega)
    obtain ⟨s', hs1, hs2, hs3⟩ := hap
    exact cont v' w' ⟨s', hs1, ⟨zs ++ [(itmV it pv, it)], hmap, g6.imp fun _ _ h => h.keep k54, hs3⟩, b3, h4.kt k25, h5.kt k25, hs2⟩
theorem CpH2.app {w W : World} {q : Que} {iv hv v3 v6 : Value} {k s : Nat} (h : CpH2 w W q iv hv v3 v6 k s) {ops : Array Oper} {rest : List Oper} {o : Oper} {a : Act} {Q : Exit → Act → World → Prop} (hgd : o.guard = none) (sl x : Operand)
    (ho : o.op = .call { callee := .builtin .append, args := #[sl, x], argTypes := #[23, 23] }) (hs : a.eval sl = v6) (hx : a.eval x = .slice (some ⟨W.heap.size, 0, none⟩) 1 1) (it : Hld) (hit : q.held.take (k + 1) = q.held.take k ++ [it]) (pv : Value) (hp : OwnP W s pv it.itm.msg.props) (hk : k ≤ 1000)
    (cont : ∀ v' w', CpH2 w w' q iv hv v3 v' (k + 1) s → wpList Tryz.prog ops Q rest (a.put o.dst v') w') : wpList Tryz.prog ops Q (o :: rest) a (W.alloc (.cells (hldV it pv).toArray 61)) := by
  have hb := (Below.refl W.heap.size W).alloc (Nat.le_refl _) (.cells (hldV it pv).toArray 61)
  have hn := Blk.new W (hldV it pv).toArray 61
  obtain ⟨⟨zi, e1, e2, e3⟩, ⟨zs, h1, h2⟩, h3, h4, h5, hlow, htop⟩ := h.on hb
  have hlen : zs.length ≤ 1000 := by
    have := congrArg List.length h1
    rw [List.length_map, List.length_take] at this
    omega
  have hp2 := hp.keep (.of_below hb)
  have hone : pv.oneCell' = true := hp.rd.one
  refine wpl_appH hgd sl x ho w.heap.size v6 zs _ _ hs h2 W.heap.size 1 (hldV it pv, it) hx ⟨hldV_one it hone, pv, rfl, hp2⟩ (fun j u hu => ?_) (by omega) h3.size ?_
  · rw [hn.cell j]
    simpa using hu
  · intro v' w' h6 h7
    have k54 : Kt 54 _ w' := Kt.of_grown h2.1 h7 (by decide)
    have k25 : Kt 25 _ w' := Kt.of_grown h2.1 h7 (by decide)
    have k43 : Kt 43 _ w' := Kt.of_grown h2.1 h7 (by decide)
    exact cont v' w' ⟨⟨zi, e1, (e2.keep k43).imp fun _ _ h => h.keep k54, e3.keep k54⟩, ⟨zs ++ [(hldV it pv, it)], by rw [List.map_append, h1, hit]; rfl, h6.imp fun _ _ h => h.keep k54⟩, h3.grown h7 h3.size (fun k hk => (World.ownsRow.lt h2.1 k hk).1), h4.kt k25, h5.kt k25, hlow, Nat.le_trans htop h7.size⟩
/-- A queue of the call's own, told apart. -/
def OwnQ2 (W : World) (B s : Nat) (v : Value) (q : Que) : Prop := ∃ iv hv, v = queV q iv hv ∧ OI2 W B s iv q.items ∧ OH2 W B s hv q.held

set_option maxHeartbeats 4000000 in
theorem copy_ap (w : World) (v : Value) (q : Que) (h : RdQ w v q) (hq : Small q) :
    Calls Tryz.prog 18 #[v] w fun e w' => ∃ v' s, e = .returned v' ∧ OwnQ2 w' w.heap.size s v' q ∧ w.heap.size ≤ s ∧ s ≤ w'.heap.size ∧ Below w.heap.size w w' := by
  obtain ⟨iv, hv, rfl, hi, hh⟩ := h
  obtain ⟨zi, ei, hi⟩ := hi
  obtain ⟨zh, eh, hh⟩ := hh
  obtain ⟨ai, ci, rfl⟩ := hi.len
  obtain ⟨ah, ch, rfl⟩ := hh.len
  obtain ⟨ni, hni⟩ : ∃ n, zi.length = n := ⟨_, rfl⟩
  obtain ⟨nh, hnh⟩ : ∃ n, zh.length = n := ⟨_, rfl⟩
  have hqi : ni ≤ 1000 := by have := hq.items; rw [← ei, List.length_map, hni] at this; exact this
  have hqh : nh ≤ 1000 := by have := hq.held; rw [← eh, List.length_map, hnh] at this; exact this
  rw [hni] at hi ⊢
  rw [hnh] at hh ⊢
  have HI : Hid (RdZ 7 (ItR (RdP w)) w (.slice ai ni ci) zi) := hi
  have HH : Hid (RdZ 10 (HeR (RdP w)) w (.slice ah nh ch) zh) := hh
  have EI : Hid (zi.map (·.2) = q.items) := ei
  have EH : Hid (zh.map (·.2) = q.held) := eh
  have NI : Hid (zi.length = ni) := hni
  have NH : Hid (zh.length = nh) := hnh
  clear hi hh ei eh hni hnh
  have H0 : Hid (CpI2 w ((w.alloc (.cells (queV q (.slice ai ni ci) (.slice ah nh ch)).cells 25)).alloc (.cells #[.string ⟨#[]⟩, .bool false, .int .i64 0, .int .i64 0, .int .i64 0, .slice none 0 0, .slice none 0 0] 25)) q (.slice ai ni ci) (.slice ah nh ch) (.slice none 0 0) 0 w.heap.size) := by
    refine ⟨⟨[], by simp, ⟨World.ownsRow_nil .., by simp⟩, by simp [ApI]⟩, ((Below.refl _ w).alloc (Nat.le_refl _) _).alloc (by simp) _, (Blk.new _ _ _).alloc _, ?_, Nat.le_refl _⟩
    have := Blk.new (w.alloc (.cells (queV q (.slice ai ni ci) (.slice ah nh ch)).cells 25)) #[.string ⟨#[]⟩, .bool false, .int .i64 0, .int .i64 0, .int .i64 0, .slice none 0 0, .slice none 0 0] 25
    rwa [World.size_alloc] at this
  unfold queV at *
  go_enter Tryz.func18, Tryz.ntmps18
  go_wp2_with fail
  go_loopg [3, 5, 12] ni (fun gg s3 _ s12 wr => ∃ kk : Nat, kk ≤ ni ∧ ni - kk ≤ gg ∧ s12 = .int .i64 kk ∧ Hid (∃ s, s ≤ wr.heap.size ∧ CpI2 w wr q (.slice ai ni ci) (.slice ah nh ch) s3 kk s))
  case atStart => exact ⟨0, Nat.zero_le _, by omega, rfl, w.heap.size, H0.out.below.size, H0.out⟩
  case round =>
    obtain ⟨kk, hkk, hg, rfl, HSX⟩ := hrel
    clear H0
    obtain ⟨s0, hs0, HS0⟩ := HSX.out
    have HS : Hid (CpI2 w wr q (.slice ai ni ci) (.slice ah nh ch) u3 kk s0) := HS0
    clear HSX HS0
    by_cases hlt : kk < ni
    · have hltz : (kk : Int) < (ni : Int) := by omega
      obtain ⟨b, o, pv, rfl, hz1, hp, c0, c1, c2, c3, c4, c5, c6⟩ := itm_at HI.out HS.out.below (i := kk) (by rw [NI.out]; exact hlt)
      have HX : Hid (q.items.take (kk + 1) = q.items.take kk ++ [(zi[kk]'(by rw [NI.out]; exact hlt)).2]) := by
        show q.items.take (kk + 1) = _
        rw [← EI.out, List.take_succ_eq_append_getElem (by rw [List.length_map, NI.out]; exact hlt), List.getElem_map]
      have HPL : Hid ((zi[kk]'(by rw [NI.out]; exact hlt)).2.msg.props.length ≤ 2513169434916) := hq.ip _ (by rw [← EI.out]; exact List.mem_map_of_mem (List.getElem_mem _))
      generalize (zi[kk]'(by rw [NI.out]; exact hlt)).2 = x at *
      clear hz1
      obtain ⟨wr, hwr⟩ : ∃ W, W = wr := ⟨_, rfl⟩
      subst hwr
      obtain ⟨pa, pc, rfl⟩ := hp.shape
      go_wp2_with (refine wpl_fresh rfl (.tmp 5) (.tmp 15) rfl _ _ rfl rfl (by kernel_rfl) rfl (by simp [Value.oneCell']) ?_)
      intro w1 k1 b1 s1
      have HS1 := HS.out.on b1
      have HW1 : wr.heap.size ≤ w1.heap.size := b1.size
      have hc := copyItem_any w1 x _ (hp.on b1) HPL.out
      unfold itmV at hc
      clear HS hp c0 c1 c2 c3 c4 c5 c6 b1
      go_wp2_with (refine wpl_load43 rfl (.tmp 5) rfl _ _ rfl k1 rfl ?_)
      refine hc.mono ?_
      rintro e w2 ⟨pv2, rfl, ho2, b2⟩
      have HS2 := HS1.on b2
      have ho3 : OwnP w2 s0 pv2 x.msg.props := ho2.low (Nat.le_trans hs0 HW1)
      clear hc k1 s1 HS1 ho2 b2 HPL HW1
      go_wp2_with (at_builtin; refine HS2.app rfl (.tmp 16) (.tmp 19) rfl rfl rfl x HX.out pv2 ho3 (by omega) ?_)
      intro v' w3 s3 hs3 HS3
      clear HS2 ho3 HX
      go_wp2_with fail
      go_roundg (ni - (kk + 1))
      case measure => omega
      case rel => exact ⟨kk + 1, by omega, by omega, by go_num, s3, hs3, HS3⟩
    · have hltz : ¬ (kk : Int) < (ni : Int) := by omega
      have H2 : Hid (CpH2 w wr q (.slice ai ni ci) (.slice ah nh ch) u3 (.slice none 0 0) 0 s0) := HS.out.turn (by rw [← EI.out, List.length_map, NI.out]; omega) hs0
      have k0 := HS.out.blk
      obtain ⟨wr, hwr⟩ : ∃ W, W = wr := ⟨_, rfl⟩
      subst hwr
      obtain ⟨d0, d1, d2, d3, d4, d5, d6⟩ := k0.c7
      clear HS k0 HI
      go_wp2_with fail
      clear d0 d1 d2 d3 d4 d5 d6
      go_loopg [6, 8, 25] nh (fun gg s6 _ s25 wy => ∃ k2 : Nat, k2 ≤ nh ∧ nh - k2 ≤ gg ∧ s25 = .int .i64 k2 ∧ Hid (CpH2 w wy q (.slice ai ni ci) (.slice ah nh ch) u3 s6 k2 s0))
      case atStart => exact ⟨0, Nat.zero_le _, by omega, rfl, H2.out⟩
      case round =>
        obtain ⟨k2, hk2, hg2, rfl, HS⟩ := hrel
        clear H2
        have hs1 : s0 ≤ wr.heap.size := HS.out.top
        by_cases hl2 : k2 < nh
        · have hl2z : (k2 : Int) < (nh : Int) := by omega
          obtain ⟨b, o, pv, rfl, hz1, hp, c0, c1, c2, c3, c4, c5, c6, c7, c8, c9⟩ := hld_at HH.out HS.out.below (i := k2) (by rw [NH.out]; exact hl2)
          have HX : Hid (q.held.take (k2 + 1) = q.held.take k2 ++ [(zh[k2]'(by rw [NH.out]; exact hl2)).2]) := by
            show q.held.take (k2 + 1) = _
            rw [← EH.out, List.take_succ_eq_append_getElem (by rw [List.length_map, NH.out]; exact hl2), List.getElem_map]
          have HPL : Hid ((zh[k2]'(by rw [NH.out]; exact hl2)).2.itm.msg.props.length ≤ 2513169434916) := hq.hp _ (by rw [← EH.out]; exact List.mem_map_of_mem (List.getElem_mem _))
          generalize (zh[k2]'(by rw [NH.out]; exact hl2)).2 = x at *
          clear hz1
          obtain ⟨wt, hwt⟩ : ∃ W, W = wr := ⟨_, rfl⟩
          subst hwt
          obtain ⟨pa, pc, rfl⟩ := hp.shape
          go_wp2_with (refine wpl_fresh rfl (.tmp 8) (.tmp 28) rfl _ _ rfl rfl (by kernel_rfl) rfl (by simp [Value.oneCell']) ?_)
          intro w1 k1 b1 s1
          have hc := copyItem_any w1 x.itm _ (hp.on b1) HPL.out
          unfold itmV at hc
          clear hp c0 c1 c2 c3 c4 c5 c6 c7 c8 c9
          obtain ⟨d0, d1, d2, d3, d4, d5, d6, d7, d8, d9⟩ := k1.c10
          go_wp2_with fail
          refine hc.mono ?_
          rintro e w2 ⟨pv2, rfl, ho2, b2⟩
          have bb2 := nxt b1 b2
          have ho3 : OwnP w2 s0 pv2 x.itm.msg.props := ho2.low (Nat.le_trans hs1 b1.size)
          have k2' := k1.on b2
          clear hc k1 s1 ho2 b2 HPL d0 d1 d2 d3 d4 d5 d6 d7 d8 d9
          go_wp2_with (refine wpl_putAt rfl (.tmp 32) (.tmp 31) rfl _ 3 _ rfl rfl k2' (by kernel_rfl) (by simp) (by have := ho3.rd.one; simp [Value.oneCell'] at this ⊢; exact this) ?_)
          intro w3 k3 g3 s3
          have HS3 := HS.out.on (bb2.grown g3 bb2.size (fun k hk => by injection hk with hk; omega))
          have ho4 := ho3.keep (kt_grown k2' g3 (by decide))
          have k4 : Blk w3 wt.heap.size #[.int .i64 x.tag, .int .i64 x.conn, .int .i64 x.sub, .int .i64 x.itm.seq, .bool x.itm.again, tx x.itm.msg.topic, tx x.itm.msg.body, pv2, .bool x.itm.msg.dur, .int .i64 x.itm.msg.til] 61 := k3
          clear HS ho3 k2' k3 g3 b1 bb2 s3
          go_wp2_with (first | (refine wpl_load61 rfl (.tmp 8) rfl _ _ rfl k4 rfl ?_) | (at_builtin; refine wpl_halt ?_))
          intro _
          refine HS3.app rfl (.tmp 33) (.tmp 35) rfl rfl rfl x HX.out pv2 ho4 (by omega) ?_
          intro v' w4 HS4
          clear HS3 ho4 HX k4
          go_wp2_with fail
          go_roundg (nh - (k2 + 1))
          case measure => omega
          case rel => exact ⟨k2 + 1, by omega, by omega, by go_num, HS4⟩
        · have hl2z : ¬ (k2 : Int) < (nh : Int) := by omega
          obtain ⟨hi3', ⟨zs, h1, h2⟩, h3, h4, h5, hlow, htop⟩ := HS.out
          have hi3 : OI2 wr w.heap.size s0 u3 q.items := hi3'
          have hh3 : OH2 wr w.heap.size s0 u6 q.held := ⟨zs, by rw [h1, List.take_of_length_le (by rw [← EH.out, List.length_map, NH.out]; omega)], h2⟩
          obtain ⟨a3, c3, rfl⟩ := hi3.own.rd.len
          obtain ⟨a6, c6, rfl⟩ := hh3.len
          obtain ⟨wt, hwt⟩ : ∃ W, W = wr := ⟨_, rfl⟩
          subst hwt
          obtain ⟨n3, hn3⟩ : ∃ n, q.items.length = n := ⟨_, rfl⟩
          obtain ⟨n6, hn6⟩ : ∃ n, q.held.length = n := ⟨_, rfl⟩
          rw [hn3] at hi3 ⊢
          rw [hn6] at hh3 ⊢
          have k1 := h4.set 5 (.slice a3 n3 c3)
          have k2' := k1.set 6 (.slice a6 n6 c6)
          have e5 := h4.cell 5
          have e6 := h4.cell 6
          have f5 := h4.frozen 5
          have f6 := h4.frozen 6
          have kR := (h5.setO (g' := w.heap.size) (j := 5) (by omega) (.slice a3 n3 c3)).setO (g' := w.heap.size) (j := 6) (by omega) (.slice a6 n6 c6)
          have b2 := (h3.setCell (p := ⟨w.heap.size, 5, none⟩) (Nat.le_refl _) (.slice a3 n3 c3)).setCell (p := ⟨w.heap.size, 6, none⟩) (Nat.le_refl _) (.slice a6 n6 c6)
          have k43 : Kt 43 wt ((wt.setCell ⟨w.heap.size, 5, none⟩ (.slice a3 n3 c3)).setCell ⟨w.heap.size, 6, none⟩ (.slice a6 n6 c6)) := (kt_setCell h4 (by decide) _).trans (kt_setCell k1 (by decide) _)
          have k61 : Kt 61 wt ((wt.setCell ⟨w.heap.size, 5, none⟩ (.slice a3 n3 c3)).setCell ⟨w.heap.size, 6, none⟩ (.slice a6 n6 c6)) := (kt_setCell h4 (by decide) _).trans (kt_setCell k1 (by decide) _)
          have k54 : Kt 54 wt ((wt.setCell ⟨w.heap.size, 5, none⟩ (.slice a3 n3 c3)).setCell ⟨w.heap.size, 6, none⟩ (.slice a6 n6 c6)) := (kt_setCell h4 (by decide) _).trans (kt_setCell k1 (by decide) _)
          have hi4 := hi3.keep k43 k54
          have hh4 := hh3.keep k61 k54
          have k3 : Blk ((wt.setCell ⟨w.heap.size, 5, none⟩ (.slice a3 n3 c3)).setCell ⟨w.heap.size, 6, none⟩ (.slice a6 n6 c6)) w.heap.size #[tx q.name, .bool q.dur, .int .i64 q.depth, .int .i64 q.seq, .int .i64 q.tag, .slice a3 n3 c3, .slice a6 n6 c6] 25 := k2'
          clear HS hi3 hi3' hh3 h1 h2 h3 h4 h5 k1 k2' k43 k61 k54 HH EI EH NI NH hq
          go_wp2_with (first | (refine wpl_load25 rfl (.tmp 1) rfl _ _ rfl k3 rfl ?_) | (refine wpl_put rfl (.tmp 2) (.tmp 42) rfl _ _ rfl rfl kR (by kernel_rfl) rfl (by simp [Value.oneCell']) ?_))
          intro W' r1 g1 s1
          have j43 : Kt 43 _ W' := kt_grown kR g1 (by decide)
          have j61 : Kt 61 _ W' := kt_grown kR g1 (by decide)
          have j54 : Kt 54 _ W' := kt_grown kR g1 (by decide)
          have b4 := b2.grown g1 b2.size (fun k hk => by injection hk with hk; omega)
          have htop2 : s0 ≤ W'.heap.size := Nat.le_trans (by simpa [World.setCell] using htop) g1.size
          clear k3 kR e5 e6 f5 f6 g1
          go_wp2_with fail
          refine ret25 rfl r1 rfl rfl ⟨_, s0, rfl, ⟨_, _, rfl, ?_, ?_⟩, hlow, htop2, b4⟩
          · exact hi4.keep j43 j54
          · exact hh4.keep j61 j54
end Go.Proofs.YtlbcefocmdnlgaaGreatDoor
