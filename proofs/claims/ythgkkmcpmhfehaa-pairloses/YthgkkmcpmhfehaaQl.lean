/- PairLoses walked. -/
import Derived.Test.YthgkkmcpmhfehaaPx
import Derived.BigQuiet
namespace Go.Proofs.Ythgkkmcpmhfehaa
open Go.RowKit Go.Lib Go.Shelf
set_option maxRecDepth 100000

theorem ob_eq {g k n c : Nat} (h : (Value.slice (some ⟨g, 0, none⟩) n c).ownBlock = some k) : g = k := by cases h; rfl

/-- What moves with a pair. -/
def ZP (X : Nat → Prop) (p t : Nat) : Nat → Prop := fun k => X k ∨ k = p ∨ k = t

/-- Behind a call that may have lost the power. -/
structure Mid (w w' : World) (p q gx : Nat) (xrow : Array Value) (armed0 : Prop) (half : Nat) (b : List UInt8) (rs : List (List UInt8)) (b1 : List UInt8) (rs1 : List (List UInt8)) (vs vr v12 v13 : Value) (code : Int) (ops : Nat) (X' : Nat → Prop) (t' : Nat) (S' : DS) : Prop where
  d : Drum w' X' q 201 S'
  bel : Below w.heap.size w w'
  xa : ∀ k, X' k → w.heap.size ≤ k
  wz : S'.W = []
  ops : S'.ops ≤ ops
  ta : w.heap.size ≤ t'
  x : w'.heap[gx]? = some (.cells xrow 59 (0, 0))
  xz : ¬ ZP X' p t' gx
  s : BV w w' (ZP X' p t') vs b
  r : LZ w w' (ZP X' p t') vr rs
  s1 : BV w w' (ZP X' p t') v13 b1
  r1 : LZ w w' (ZP X' p t') v12 rs1
  c : (code = 0 ∧ ∃ half', PS w' X' p t' q 201 S' half' b1 rs1) ∨ (code = 20 ∧ armed0 ∧ S'.armed = 0 ∧ S'.down = true ∧ ∃ half' b' rs', PP S'.P 201 half' b' rs' ∧ ((b' = b ∧ rs' = rs) ∨ (b' = b1 ∧ rs' = rs1)))

set_option maxHeartbeats 16000000 in
theorem loses_any (w : World) (v1 : Value) (n1 : Nat) (h1 : RdSt w v1 n1) :
    Calls Try.prog 4 #[v1] w fun e w' => e = .returned (.bool true) ∧ Below w.heap.size w w' := by
  obtain ⟨a1, c1, rfl, hr1⟩ := h1
  have HR1 : Hid _ := hr1
  clear hr1
  have hmix : Try.prog.follows .mixedOrders = true := by kernel_rfl
  have hnot : ∀ (b : Bool) (w : World), (Op.unary .not (.bool b)).run Try.prog w = .ok (.bool (!b)) w := fun _ _ => rfl
  go_enter Try.func4, Try.ntmps4
  go_wp2_with fail
  refine (wakes_any w).mono ?_
  rintro e w0 ⟨rfl, hb0⟩
  by_cases hbig : 40 < n1
  · have h' : (40 : Int) < (n1 : Int) := by omega
    go_wp2_with fail
    go_ret
    exact ⟨rfl, hb0⟩
  have i1 : ¬ (40 : Int) < (n1 : Int) := by omega
  have hn1 : n1 ≤ 40 := by omega
  clear hbig
  have N10 := new_open w0 201 (by decide) (by decide)
  go_wp2_with fail
  refine N10.mono ?_
  rintro e w1 ⟨X0, q, S0, rfl, hdr0, hpp0, hW0, hops0, har0, hdn0, hb1, hX0⟩
  have hb01 : Below w.heap.size w w1 := hb0.trans (hb1.mono hb0.size)
  have N12 := first_pa w w1 X0 q 201 S0 hdr0 hpp0 hW0 har0 hdn0 hb01 (fun k hk => Nat.le_trans hb0.size (hX0 k hk)) (by decide)
  clear N10 i1
  go_wp2_with fail
  refine N12.mono ?_
  rintro e w2 ⟨v1, v2, p, t, rfl, ⟨sa6, sc6, rfl⟩, ⟨ra6, rc6, rfl⟩, hpa⟩
  clear N12 hb01 hdr0 hpp0 hW0 har0 hdn0 hX0 hb1 hb0
  go_wp2_with fail
  go_loopw [40, 4, 7, 8, 9] (fun i vp ve vs vr wr => ∃ (j p t : Nat) (X : Nat → Prop) (S : DS) (half : Nat) (b : List UInt8) (rs : List (List UInt8)) (ec : Int), j ≤ n1 ∧ i = .int .i64 j ∧ vp = .pointer (some ⟨p, 0, none⟩) ∧ ve = .int .i64 ec ∧ PS wr X p t q 201 S half b rs ∧ S.armed = 0 ∧ w.heap.size ≤ p ∧ w.heap.size ≤ t ∧ BV w wr (ZP X p t) vs b ∧ LZ w wr (ZP X p t) vr rs ∧ b.length ≤ 500 ∧ rs.length ≤ j ∧ tot rs ≤ 512 * j ∧ S.ops ≤ 20 * j ∧ Below w.heap.size w wr ∧ (∀ k, X k → w.heap.size ≤ k)) (fun i _ _ _ _ _ => n1 - (RowKit.intOf i).toNat)
  case atStart => exact ⟨0, p, t, X0, S0, 0, [], [], 0, by omega, rfl, rfl, rfl, hpa.ps, hpa.ar, hpa.pa, hpa.ta, .inl (.inl (.inl ⟨rfl, rfl⟩)), LZ.nil _ _ _, by simp, by simp, by simp [tot], by omega, hpa.bel, hpa.xa⟩
  case round =>
    clear hpa hops0
    obtain ⟨j, p, t, X, S, half, b, rs, ec, hj, rfl, rfl, rfl, hps, har, hpw, htw, hbv, hlz, hbl, hrl, htot, hops, hb, hX⟩ := hrel
    by_cases hlt : j < n1
    · obtain ⟨xb, xo, xs, xu, y, zx, zy, hae, q0, q1, q2, q3, q4, q5, q6⟩ := HR1.out j hlt
      cases hae
      have e0 : wr.cell? ⟨xb, xo + j * 4, none⟩ = some (.bool xs) := (hb.cell (p := ⟨xb, xo + j * 4, none⟩) (World.block_lt_of_cell? w _ q0)).trans q0
      have e1 : wr.cell? ⟨xb, xo + j * 4 + 1, none⟩ = some xu := (hb.cell (p := ⟨xb, xo + j * 4 + 1, none⟩) (World.block_lt_of_cell? w _ q1)).trans q1
      have e2 : wr.cell? ⟨xb, xo + j * 4 + 2, none⟩ = some (.int .i64 zx) := (hb.cell (p := ⟨xb, xo + j * 4 + 2, none⟩) (World.block_lt_of_cell? w _ q3)).trans q3
      have e3 : wr.cell? ⟨xb, xo + j * 4 + 3, none⟩ = some (.int .i64 zy) := (hb.cell (p := ⟨xb, xo + j * 4 + 3, none⟩) (World.block_lt_of_cell? w _ q4)).trans q4
      obtain ⟨ua, uc, rfl⟩ := q2.len
      obtain ⟨sa, sc, rfl⟩ := hbv.shape
      obtain ⟨ra, rc, rfl⟩ := hlz.shape
      have Q2 : Hid _ := q2
      clear q0 q1 q2 q3 q4
      by_cases hbig : 500 < y.length
      · have hbig' : (500 : Int) < (y.length : Int) := by omega
        go_wp2_with fail
        go_ret
        exact ⟨rfl, hb.alloc hb.size _⟩
      have hbig' : ¬ (500 : Int) < (y.length : Int) := by omega
      go_upto_region 16 with fail
      have hyl : y.length ≤ 500 := by omega
      have hbx : Below wr.heap.size wr (wr.alloc (.cells #[.bool xs, .slice ua y.length uc, .int .i64 zx, .int .i64 zy] 59)) := (Below.refl _ _).alloc (Nat.le_refl _) _
      have hgx : (wr.alloc (.cells #[.bool xs, .slice ua y.length uc, .int .i64 zx, .int .i64 zy] 59)).heap[wr.heap.size]? = some (.cells #[.bool xs, .slice ua y.length uc, .int .i64 zx, .int .i64 zy] 59 (0, 0)) := heap_alloc_new wr _
      have hzl : ∀ k, ZP X p t k → k < wr.heap.size := fun k hk => by
        rcases hk with hk | rfl | rfl
        · exact hps.d.xlt k hk
        · exact hps.pr.lt
        · exact hps.tp.lt
      have hb1 : Below w.heap.size w (wr.alloc (.cells #[.bool xs, .slice ua y.length uc, .int .i64 zx, .int .i64 zy] 59)) := hb.trans (hbx.mono hb.size)
      have hps1 := hps.below hbx
      have hbv1 := hbv.on (Y := fun _ => False) (Y' := fun _ => False) (Step.of_below hbx) (fun _ h => h.elim) (fun _ h => .inl h)
      have hlz1 := hlz.on (Y := fun _ => False) (Y' := fun _ => False) (Step.of_below hbx) (fun _ h => h.elim) (fun _ h => .inl h)
      have hwx := hb.size
      clear hps hbv hlz hb hbx e0 e1 e2 e3
      generalize wr.heap.size = gx at *
      generalize wr.alloc (.cells #[.bool xs, .slice ua y.length uc, .int .i64 zx, .int .i64 zy] 59) = wx at *
      have gl : gx < wx.heap.size := (Array.getElem?_eq_some_iff.1 hgx).1
      have x2 : wx.cell? ⟨gx, 2, none⟩ = some (.int .i64 zx) := by rw [cell_of_row _ _ _ _ _ _ hgx]; rfl
      have x3 : wx.cell? ⟨gx, 3, none⟩ = some (.int .i64 zy) := by rw [cell_of_row _ _ _ _ _ _ hgx]; rfl
      have N18 := arm_any wx X q 201 S zx zy q5.1 q5.2 q6.1 q6.2 hps1.d
      go_upto_region 17 with (go_at_call 18; refine N18.mono ?_; rintro e w3 ⟨rfl, hd3, hst3⟩)
      have hps3 : PS w3 X p t q 201 { S with armed := zx.toNat, keep := zy } half b rs := ⟨hd3, hps1.pr.on (hst3.block p hps1.pr.lt hps1.np), hps1.tp.on (hst3.block t hps1.tp.lt hps1.nt), hps1.np, hps1.nt, hps1.pp, hps1.dn, hps1.wz⟩
      have hb3 : Below w.heap.size w w3 := hb1.trans (hst3.below hX hb1.size)
      have hbv3 := hbv1.on (Z' := ZP X p t) hst3 (fun k h => .inl h) (fun k h => .inl h)
      have hlz3 := hlz1.on (Z' := ZP X p t) hst3 (fun k h => .inl h) (fun k h => .inl h)
      have hgx3 := (hst3.block gx gl (fun h => by have := hzl gx (.inl h); omega)).trans hgx
      have hzl3 : ∀ k, ZP X p t k → k < gx := hzl
      have ga : zx < 1 → ({ S with armed := zx.toNat, keep := zy } : DS).armed = 0 := fun h => by show zx.toNat = 0; omega
      have go : ({ S with armed := zx.toNat, keep := zy } : DS).ops ≤ 20 * j := hops
      generalize ({ S with armed := zx.toNat, keep := zy } : DS) = S3 at *
      have gl3 : gx < w3.heap.size := (Array.getElem?_eq_some_iff.1 hgx3).1
      clear N18 hst3 hd3 hps1 hbv1 hlz1 hb1 hgx x2 x3 gl hops har hzl q5 q6
      obtain ⟨vals, ho3, hbk3, hrr3⟩ := hlz3
      have hvl : vals.length = rs.length := by have := ho3.1; omega
      have hone : ∀ u ∈ vals, u.oneCell' = true := fun u hu => by
        obtain ⟨i, hi⟩ := List.mem_iff_getElem?.1 hu
        have hil : i < rs.length := by rw [← hvl]; exact (List.getElem?_eq_some_iff.1 hi).1
        obtain ⟨u', h1, h2⟩ := hrr3 i _ (List.getElem?_eq_getElem hil)
        rw [h1] at hi
        cases hi
        exact h2.one
      go_cut [12] (fun v12 wc => Hid (wc.ownsRow w3.heap.size 30 1 v12 (rs.length + 1) (vals ++ [.slice ua y.length uc]) ∧ Below w3.heap.size w3 wc))
      case first =>
        have hS : w3.drew.cell? ⟨gx, 1, none⟩ = some (.slice ua y.length uc) := by
          show w3.cell? ⟨gx, 1, none⟩ = _
          rw [cell_of_row _ _ _ _ _ _ hgx3]; rfl
        have hkeep : ∀ W' : World, Below w3.heap.size w3 W' → W'.cell? ⟨gx, 1, none⟩ = some (.slice ua y.length uc) := fun W' hW' => by
          rw [hW'.cell (p := ⟨gx, 1, none⟩) gl3]; exact hS
        have hd0 : Below w3.heap.size w3 w3.drew := ⟨rfl, rfl, rfl, Nat.le_refl _, fun _ _ => rfl⟩
        have hsz0 : w3.drew.heap.size = w3.heap.size := rfl
        generalize hWD : w3.drew = wd at *
        refine wp_region_held (S := fun W' => W'.cell? ⟨gx, 1, none⟩ = some (.slice ua y.length uc)) hmix ?_
        show wpAnyH _ _ _ _ _ _ _ _ w3.drew
        rw [hWD]
        clear hWD
        refine wpAnyH_take (i := 1) (v := .slice ra rs.length rc) rfl (by kernel_rfl) (by kernel_rfl) (by kernel_rfl) (fun _ _ _ h => h) (.inl ⟨by rfl, fun W' hW' => ?_⟩) hS ?_
        · have hW' : W'.cell? ⟨gx, 1, none⟩ = some (.slice ua y.length uc) := hW'
          go_simp
        simp only [Act.put, List.getElem_toArray, List.getElem_cons_succ, List.getElem_cons_zero, List.setIfInBounds_toArray, List.set_cons_succ, List.set_cons_zero]
        refine wpAnyH_take (i := 3) (v := .pointer (some ⟨gx, 1, none⟩)) rfl (by kernel_rfl) (by kernel_rfl) (by kernel_rfl) (fun _ _ _ h => h) (.inl ⟨by rfl, fun W' hW' => ?_⟩) hS ?_
        · have hW' : W'.cell? ⟨gx, 1, none⟩ = some (.slice ua y.length uc) := hW'
          go_simp
        simp only [Act.put, List.getElem_toArray, List.getElem_cons_succ, List.getElem_cons_zero, List.setIfInBounds_toArray, List.set_cons_succ, List.set_cons_zero]
        refine wpAnyH_take (i := 4) (v := .slice ua y.length uc) rfl (by kernel_rfl) (by kernel_rfl) (by kernel_rfl) (fun _ _ _ h => h) (.inl ⟨by rfl, fun W' hW' => ?_⟩) hS ?_
        · have hW' : W'.cell? ⟨gx, 1, none⟩ = some (.slice ua y.length uc) := hW'
          go_simp
        simp only [Act.put, List.getElem_toArray, List.getElem_cons_succ, List.getElem_cons_zero, List.setIfInBounds_toArray, List.set_cons_succ, List.set_cons_zero]
        refine wpAnyH_two (i := 0) (j := 5) (by kernel_rfl) rfl (by rfl) rfl (by rfl) (fun K hK => ?_) (fun K hK => ?_)
        · go_simp
          have hbA : Below w3.heap.size w3 (wd.alloc (.cells #[] 30)) := hd0.alloc (by rw [hsz0]; exact Nat.le_refl _) _
          have hgA : (wd.alloc (.cells #[] 30)).heap[wd.heap.size]? = some (.cells #[] 30 (0, 0)) := heap_alloc_new wd _
          rw [hsz0] at hgA
          generalize wd.alloc (.cells #[] 30) = wA at *
          refine hK _ _ (hkeep _ hbA) ?_
          clear hK K
          refine wpAnyH_two (i := 2) (j := 5) (by kernel_rfl) rfl (by rfl) rfl (by rfl) (fun K hK => ?_) (fun K hK => ?_)
          · refine wp_appL (.tmp 54) (.tmp 55) rfl w3.heap.size _ _ [] vals 0 rs.length wA rfl (own_no (Nat.le_refl _) hgA) rfl (own_on ho3 hbA) hone (by omega) (by omega) hbA.size ?_
            intro v56 w56 ho56 hb56 hk56
            rw [Nat.zero_add, List.nil_append] at ho56
            have hb056 : Below w3.heap.size w3 w56 := hbA.trans hb56
            refine hK _ _ (hkeep _ hb056) ?_
            clear hK K
            simp only [Act.put, List.getElem_toArray, List.getElem_cons_succ, List.getElem_cons_zero, List.setIfInBounds_toArray, List.set_cons_succ, List.set_cons_zero]
            refine wpAnyH_one (i := 5) (by kernel_rfl) rfl (by rfl) (fun K hK => ?_)
            go_simp
            have hbB : Below w3.heap.size w3 (w56.alloc (.cells #[.slice ua y.length uc] 30)) := hb056.alloc hb056.size _
            have hbB' : Below w56.heap.size w56 (w56.alloc (.cells #[.slice ua y.length uc] 30)) := (Below.refl _ _).alloc (Nat.le_refl _) _
            have hgB : (w56.alloc (.cells #[.slice ua y.length uc] 30)).heap[w56.heap.size]? = some (.cells #[.slice ua y.length uc] 30 (0, 0)) := heap_alloc_new w56 _
            generalize w56.alloc (.cells #[.slice ua y.length uc] 30) = wB at *
            refine hK _ _ (hkeep _ hbB) ?_
            clear hK K
            refine wpAnyH_one (i := 6) (by kernel_rfl) rfl (by rfl) (fun K hK => ?_)
            refine wp_appL (.tmp 56) (.tmp 59) rfl w3.heap.size _ _ vals [.slice ua y.length uc] rs.length 1 wB rfl (own_on ho56 hbB') rfl (own_one hgB) (fun u hu => by obtain rfl := List.mem_singleton.1 hu; rfl) (by omega) (by omega) hbB.size ?_
            intro v60 w60 ho60 hb60 _
            have hb060 : Below w3.heap.size w3 w60 := hbB.trans hb60
            refine hK _ _ (hkeep _ hb060) ?_
            clear hK K
            simp only [Act.put, List.getElem_toArray, List.getElem_cons_succ, List.getElem_cons_zero, List.setIfInBounds_toArray, List.set_cons_succ, List.set_cons_zero]
            have hS := hkeep _ hb060
            refine wpAnyH_take (i := 7) (v := v60) rfl (by kernel_rfl) (by kernel_rfl) (by kernel_rfl) (fun _ _ _ h => h) (.inl ⟨by rfl, fun W' hW' => ?_⟩) hS ?_
            · have hW' : W'.cell? ⟨gx, 1, none⟩ = some (.slice ua y.length uc) := hW'
              go_simp
            simp only [Act.put, List.getElem_toArray, List.getElem_cons_succ, List.getElem_cons_zero, List.setIfInBounds_toArray, List.set_cons_succ, List.set_cons_zero]
            refine wpAnyH_done (by kernel_rfl) ?_ _
            go_wp2_with fail
            go_meet
            exact ⟨ho60, hb060⟩
          · go_simp
            have hbB : Below w3.heap.size w3 (wA.alloc (.cells #[.slice ua y.length uc] 30)) := hbA.alloc hbA.size _
            have hbB' : Below wA.heap.size wA (wA.alloc (.cells #[.slice ua y.length uc] 30)) := (Below.refl _ _).alloc (Nat.le_refl _) _
            have hgB : (wA.alloc (.cells #[.slice ua y.length uc] 30)).heap[wA.heap.size]? = some (.cells #[.slice ua y.length uc] 30 (0, 0)) := heap_alloc_new wA _
            have hgA2 : (wA.alloc (.cells #[.slice ua y.length uc] 30)).heap[w3.heap.size]? = some (.cells #[] 30 (0, 0)) := (hbB'.block _ (Array.getElem?_eq_some_iff.1 hgA).1).trans hgA
            generalize wA.alloc (.cells #[.slice ua y.length uc] 30) = wB at *
            have hlA : w3.heap.size < wA.heap.size := by have := (Array.getElem?_eq_some_iff.1 hgA).1; omega
            refine hK _ _ (hkeep _ hbB) ?_
            clear hK K
            refine wpAnyH_one (i := 2) (by kernel_rfl) rfl (by rfl) (fun K hK => ?_)
            refine wp_appL (.tmp 54) (.tmp 55) rfl w3.heap.size (.slice (some ⟨w3.heap.size, 0, none⟩) 0 0) _ [] vals 0 rs.length wB rfl (own_no (Nat.le_refl _) hgA2) rfl (own_on ho3 hbB) hone (by omega) (by omega) hbB.size ?_
            intro v56 w56 ho56 hb56 hk56
            rw [Nat.zero_add, List.nil_append] at ho56
            have hb056 : Below w3.heap.size w3 w56 := hbB.trans hb56
            have hgB6 : w56.heap[wA.heap.size]? = some (.cells #[.slice ua y.length uc] 30 (0, 0)) := (hk56 _ (Array.getElem?_eq_some_iff.1 hgB).1 (fun e => absurd (ob_eq e) (by omega))).trans hgB
            refine hK _ _ (hkeep _ hb056) ?_
            clear hK K
            simp only [Act.put, List.getElem_toArray, List.getElem_cons_succ, List.getElem_cons_zero, List.setIfInBounds_toArray, List.set_cons_succ, List.set_cons_zero]
            refine wpAnyH_one (i := 6) (by kernel_rfl) rfl (by rfl) (fun K hK => ?_)
            refine wp_appL (.tmp 56) (.tmp 59) rfl w3.heap.size _ _ vals [.slice ua y.length uc] rs.length 1 w56 rfl ho56 rfl (own_one hgB6) (fun u hu => by obtain rfl := List.mem_singleton.1 hu; rfl) (by omega) (by omega) hb056.size ?_
            intro v60 w60 ho60 hb60 _
            have hb060 : Below w3.heap.size w3 w60 := hb056.trans hb60
            refine hK _ _ (hkeep _ hb060) ?_
            clear hK K
            simp only [Act.put, List.getElem_toArray, List.getElem_cons_succ, List.getElem_cons_zero, List.setIfInBounds_toArray, List.set_cons_succ, List.set_cons_zero]
            have hS := hkeep _ hb060
            refine wpAnyH_take (i := 7) (v := v60) rfl (by kernel_rfl) (by kernel_rfl) (by kernel_rfl) (fun _ _ _ h => h) (.inl ⟨by rfl, fun W' hW' => ?_⟩) hS ?_
            · have hW' : W'.cell? ⟨gx, 1, none⟩ = some (.slice ua y.length uc) := hW'
              go_simp
            simp only [Act.put, List.getElem_toArray, List.getElem_cons_succ, List.getElem_cons_zero, List.setIfInBounds_toArray, List.set_cons_succ, List.set_cons_zero]
            refine wpAnyH_done (by kernel_rfl) ?_ _
            go_wp2_with fail
            go_meet
            exact ⟨ho60, hb060⟩
        · go_simp
          have hbA : Below w3.heap.size w3 (wd.alloc (.cells #[.slice ua y.length uc] 30)) := hd0.alloc (by rw [hsz0]; exact Nat.le_refl _) _
          have hgB : (wd.alloc (.cells #[.slice ua y.length uc] 30)).heap[wd.heap.size]? = some (.cells #[.slice ua y.length uc] 30 (0, 0)) := heap_alloc_new wd _
          rw [hsz0] at hgB
          generalize wd.alloc (.cells #[.slice ua y.length uc] 30) = wA at *
          refine hK _ _ (hkeep _ hbA) ?_
          clear hK K
          refine wpAnyH_one (i := 0) (by kernel_rfl) rfl (by rfl) (fun K hK => ?_)
          go_simp
          have hbB : Below w3.heap.size w3 (wA.alloc (.cells #[] 30)) := hbA.alloc hbA.size _
          have hbB' : Below wA.heap.size wA (wA.alloc (.cells #[] 30)) := (Below.refl _ _).alloc (Nat.le_refl _) _
          have hgA : (wA.alloc (.cells #[] 30)).heap[wA.heap.size]? = some (.cells #[] 30 (0, 0)) := heap_alloc_new wA _
          have hgB2 : (wA.alloc (.cells #[] 30)).heap[w3.heap.size]? = some (.cells #[.slice ua y.length uc] 30 (0, 0)) := (hbB'.block _ (Array.getElem?_eq_some_iff.1 hgB).1).trans hgB
          have hlA : w3.heap.size < wA.heap.size := (Array.getElem?_eq_some_iff.1 hgB).1
          generalize wA.alloc (.cells #[] 30) = wB at *
          refine hK _ _ (hkeep _ hbB) ?_
          clear hK K
          refine wpAnyH_one (i := 2) (by kernel_rfl) rfl (by rfl) (fun K hK => ?_)
          refine wp_appL (.tmp 54) (.tmp 55) rfl w3.heap.size (.slice (some ⟨wA.heap.size, 0, none⟩) 0 0) _ [] vals 0 rs.length wB rfl (own_no (Nat.le_of_lt hlA) hgA) rfl (own_on ho3 hbB) hone (by omega) (by omega) hbB.size ?_
          intro v56 w56 ho56 hb56 hk56
          rw [Nat.zero_add, List.nil_append] at ho56
          have hb056 : Below w3.heap.size w3 w56 := hbB.trans hb56
          have hgB6 : w56.heap[w3.heap.size]? = some (.cells #[.slice ua y.length uc] 30 (0, 0)) := (hk56 _ (Array.getElem?_eq_some_iff.1 hgB2).1 (fun e => absurd (ob_eq e) (by omega))).trans hgB2
          refine hK _ _ (hkeep _ hb056) ?_
          clear hK K
          simp only [Act.put, List.getElem_toArray, List.getElem_cons_succ, List.getElem_cons_zero, List.setIfInBounds_toArray, List.set_cons_succ, List.set_cons_zero]
          refine wpAnyH_one (i := 6) (by kernel_rfl) rfl (by rfl) (fun K hK => ?_)
          refine wp_appL (.tmp 56) (.tmp 59) rfl w3.heap.size _ _ vals [.slice ua y.length uc] rs.length 1 w56 rfl ho56 rfl (own_one hgB6) (fun u hu => by obtain rfl := List.mem_singleton.1 hu; rfl) (by omega) (by omega) hb056.size ?_
          intro v60 w60 ho60 hb60 _
          have hb060 : Below w3.heap.size w3 w60 := hb056.trans hb60
          refine hK _ _ (hkeep _ hb060) ?_
          clear hK K
          simp only [Act.put, List.getElem_toArray, List.getElem_cons_succ, List.getElem_cons_zero, List.setIfInBounds_toArray, List.set_cons_succ, List.set_cons_zero]
          have hS := hkeep _ hb060
          refine wpAnyH_take (i := 7) (v := v60) rfl (by kernel_rfl) (by kernel_rfl) (by kernel_rfl) (fun _ _ _ h => h) (.inl ⟨by rfl, fun W' hW' => ?_⟩) hS ?_
          · have hW' : W'.cell? ⟨gx, 1, none⟩ = some (.slice ua y.length uc) := hW'
            go_simp
          simp only [Act.put, List.getElem_toArray, List.getElem_cons_succ, List.getElem_cons_zero, List.setIfInBounds_toArray, List.set_cons_succ, List.set_cons_zero]
          refine wpAnyH_done (by kernel_rfl) ?_ _
          go_wp2_with fail
          go_meet
          exact ⟨ho60, hb060⟩
      case rest =>
        obtain ⟨ho12, hbc⟩ := hcut.out
        clear hcut
        have hlzn := LZ.copied (y := y) hb3.size (fun k hk => Nat.lt_trans (hzl3 k hk) gl3) hvl hrr3 Q2.out ho12 hbc
        obtain ⟨na, nc, rfl⟩ := hlzn.shape
        have hlen1 : (rs ++ [y]).length = rs.length + 1 := by simp
        rw [hlen1] at hlzn ⊢
        have hlz3 : LZ w w3 (ZP X p t) (.slice ra rs.length rc) rs := ⟨vals, ho3, hbk3, hrr3⟩
        have hpsc := hps3.below hbc
        have hbvc := hbv3.on (Y := fun _ => False) (Y' := fun _ => False) (Step.of_below hbc) (fun _ h => h.elim) (fun _ h => .inl h)
        have hlzc := hlz3.on (Y := fun _ => False) (Y' := fun _ => False) (Step.of_below hbc) (fun _ h => h.elim) (fun _ h => .inl h)
        have hbwc : Below w.heap.size w wc := hb3.trans (hbc.mono hb3.size)
        have hgxc := (hbc.block gx gl3).trans hgx3
        have glc : gx < wc.heap.size := (Array.getElem?_eq_some_iff.1 hgxc).1
        have HN : Hid _ := hlzn
        have HV : Hid _ := hbvc
        have HL : Hid _ := hlzc
        clear hlzn hbvc hlzc hlz3 hbv3 hps3 hb3 hgx3 hbc ho12 ho3 hbk3 hrr3 hone hvl gl3
        have x0 : wc.cell? ⟨gx, 0, none⟩ = some (.bool xs) := by rw [cell_of_row _ _ _ _ _ _ hgxc]; rfl
        have x1 : wc.cell? ⟨gx, 1, none⟩ = some (.slice ua y.length uc) := by rw [cell_of_row _ _ _ _ _ _ hgxc]; rfl
        have hsp : spanN 201 = 100 := rfl
        have htb : takesN b.length ≤ 2 := by unfold takesN; omega
        have hty : takesN y.length ≤ 2 := by unfold takesN; omega
        have hzz : ¬ ZP X p t gx := fun h => by have := hzl3 gx h; omega
        go_upto_if 63 with fail
        go_cut [7, 12, 13] (fun v7 v12 v13 w' => ∃ (code : Int) (b1 : List UInt8) (rs1 : List (List UInt8)) (X' : Nat → Prop) (t' : Nat) (S' : DS), v7 = .int .i64 code ∧ b1.length ≤ 500 ∧ rs1.length ≤ j + 1 ∧ tot rs1 ≤ 512 * (j + 1) ∧ Hid (Mid w w' p q gx #[.bool xs, .slice ua y.length uc, .int .i64 zx, .int .i64 zy] (S3.armed ≠ 0) half b rs b1 rs1 (.slice sa b.length sc) (.slice ra rs.length rc) v12 v13 code (20 * (j + 1)) X' t' S'))
        case first =>
          have hops3 : S3.ops ≤ 20 * j := go
          cases xs with
          | true =>
            have x1m : ∀ m, (wc.drewN m).cell? ⟨gx, 1, none⟩ = some (.slice ua y.length uc) := fun m => x1
            go_upto_region 20 with fail
            go_quiet (fail)
            have hbq : Below wc.heap.size wc (wc.drewN nq) := ⟨rfl, rfl, rfl, Nat.le_refl _, fun _ _ => rfl⟩
            have x1q := x1m nq
            have hpq := hpsc.below hbq
            have hbwq : Below w.heap.size w (wc.drewN nq) := hbwc.trans (hbq.mono hbwc.size)
            have hgq := (hbq.block gx glc).trans hgxc
            have hsq : (wc.drewN nq).heap.size = wc.heap.size := rfl
            have HVq : Hid (BV w (wc.drewN nq) (ZP X p t) (.slice sa b.length sc) b) := BV.on HV.out (Step.of_below (X := fun _ => False) hbq) (fun _ h => h.elim) (fun _ h => .inl h)
            have HLq : Hid (LZ w (wc.drewN nq) (ZP X p t) (.slice ra rs.length rc) rs) := LZ.on HL.out (Step.of_below (X := fun _ => False) hbq) (fun _ h => h.elim) (fun _ h => .inl h)
            clear x1m x1 x0 HV HL HN hpsc hgxc hbwc hbq
            generalize wc.drewN nq = wq at *
            have N16 := save_ps wq X p t q 201 S3 half b rs hpq (by omega) y _ (Sl.RdA.on Q2.out hbwq) (by omega) (by rw [hsp]; omega)
            go_wp2_with fail
            refine N16.mono ?_
            rintro e w5 ⟨X5, S5, k1, k2, k3, k4, k5, k7⟩
            have hcode : ∃ c : Int, e = .returned (.int .i64 c) := by
              rcases k7 with h' | h'
              · exact ⟨_, h'.1⟩
              · exact ⟨_, h'.1⟩
            obtain ⟨c0, rfl⟩ := hcode
            have hyz : ∀ k, (X k ∨ k = p) → ZP X p t k := fun k hk => by
              rcases hk with hk | hk
              · exact .inl hk
              · exact .inr (.inl hk)
            obtain ⟨t5, ht5w, hzz5, hcc⟩ : ∃ t5, w.heap.size ≤ t5 ∧ (∀ k, ZP X5 p t5 k → ZP X p t k ∨ wq.heap.size ≤ k) ∧ ((c0 = 0 ∧ ∃ half', PS w5 X5 p t5 q 201 S5 half' y []) ∨ (c0 = 20 ∧ S3.armed ≠ 0 ∧ S5.armed = 0 ∧ S5.down = true ∧ ∃ half' b' rs', PP S5.P 201 half' b' rs' ∧ ((b' = b ∧ rs' = rs) ∨ (b' = y ∧ rs' = [])))) := by
              rcases k7 with ⟨e1, ⟨t', e2, e3⟩, _⟩ | ⟨e1, e2, e3, e4, e5⟩
              · refine ⟨t', Nat.le_trans hbwq.size e2, fun k hk => ?_, .inl ⟨by cases e1; rfl, _, e3⟩⟩
                rcases hk with hk | hk | hk
                · exact (k3 k hk).imp .inl id
                · exact .inl (.inr (.inl hk))
                · exact .inr (by rw [hk]; exact e2)
              · refine ⟨t, htw, fun k hk => ?_, .inr ⟨by cases e1; rfl, e2, e3, e4, ?_⟩⟩
                · rcases hk with hk | hk
                  · exact (k3 k hk).imp .inl id
                  · exact .inl (.inr hk)
                · rcases e5 with e5 | e5
                  · exact ⟨_, b, rs, e5, .inl ⟨rfl, rfl⟩⟩
                  · exact ⟨_, y, [], e5, .inr ⟨rfl, rfl⟩⟩
            have glq : gx < wq.heap.size := (Array.getElem?_eq_some_iff.1 hgq).1
            have hb5 : Below w.heap.size w w5 := hbwq.trans (k2.below (fun k hk => by
              rcases hk with hk | hk
              · exact hX k hk
              · rw [hk]; exact hpw) hbwq.size)
            have hmid : Mid w w5 p q gx #[.bool true, .slice ua y.length uc, .int .i64 zx, .int .i64 zy] (S3.armed ≠ 0) half b rs y [] (.slice sa b.length sc) (.slice ra rs.length rc) (.slice none 0 0) (.slice ua y.length uc) c0 (20 * (j + 1)) X5 t5 S5 := by
              refine ⟨k1, hb5, fun k hk => ?_, k4, by omega, ht5w, (k2.block gx glq (fun h => hzz (hyz gx h))).trans hgq, fun h => ?_, BV.on HVq.out k2 hyz hzz5, LZ.on HLq.out k2 hyz hzz5, .inl Q2.out, LZ.nil _ _ _, hcc⟩
              · rcases k3 k hk with hk | hk
                · exact hX k hk
                · exact Nat.le_trans hbwq.size hk
              · rcases hzz5 gx h with h | h
                · exact hzz h
                · omega
            have HMid : Hid _ := hmid
            clear hmid k7 k1 k2 k3 k4 k5 N16 hcc
            go_wp2_with fail
            go_meet
            exact ⟨c0, y, [], X5, t5, S5, rfl, hyl, by simp, by simp [tot], HMid.out⟩
          | false =>
            have hpl : tot rs + (12 + y.length) ≤ (spanN 201 - takesN b.length) * 256 := by rw [hsp]; omega
            have N14 := append_ps wc X p t q 201 S3 half b rs hpsc (by omega) (by omega) y _ (Sl.RdA.on Q2.out hbwc) (by omega) hpl
            go_wp2_with fail
            refine N14.mono ?_
            rintro e w5 ⟨X5, S5, k1, k2, k3, k4, k5, k6, k7⟩
            have hcode : ∃ c : Int, e = .returned (.int .i64 c) := by
              rcases k7 with h' | h'
              · exact ⟨_, h'.1⟩
              · exact ⟨_, h'.1⟩
            obtain ⟨c0, rfl⟩ := hcode
            have hyz : ∀ k, (X k ∨ k = t) → ZP X p t k := fun k hk => by
              rcases hk with hk | hk
              · exact .inl hk
              · exact .inr (.inr hk)
            have hzz5 : ∀ k, ZP X5 p t k → ZP X p t k ∨ wc.heap.size ≤ k := fun k hk => by
              rcases hk with hk | hk
              · exact (k3 k hk).imp .inl id
              · exact .inl (.inr hk)
            have hmid : Mid w w5 p q gx #[.bool false, .slice ua y.length uc, .int .i64 zx, .int .i64 zy] (S3.armed ≠ 0) half b rs b (rs ++ [y]) (.slice sa b.length sc) (.slice ra rs.length rc) (.slice na (rs.length + 1) nc) (.slice sa b.length sc) c0 (20 * (j + 1)) X5 t S5 := by
              refine ⟨k1, hbwc.trans (k2.below (fun k hk => ?_) hbwc.size), fun k hk => ?_, k4, by omega, htw, (k2.block gx glc (fun h => hzz (hyz gx h))).trans hgxc, fun h => ?_, BV.on HV.out k2 hyz hzz5, LZ.on HL.out k2 hyz hzz5, BV.on HV.out k2 hyz hzz5, LZ.on HN.out k2 hyz hzz5, ?_⟩
              · rcases hk with hk | hk
                · exact hX k hk
                · rw [hk]; exact htw
              · rcases k3 k hk with hk | hk
                · exact hX k hk
                · exact Nat.le_trans hbwc.size hk
              · rcases hzz5 gx h with h | h
                · exact hzz h
                · omega
              · rcases k7 with ⟨e1, e2, _⟩ | ⟨e1, e2, e3, e4, e5⟩
                · exact .inl ⟨by cases e1; rfl, half, e2⟩
                · refine .inr ⟨by cases e1; rfl, e2, e3, e4, ?_⟩
                  rcases e5 with e5 | e5
                  · exact ⟨half, b, rs, e5, .inl ⟨rfl, rfl⟩⟩
                  · exact ⟨half, b, rs ++ [y], e5, .inr ⟨rfl, rfl⟩⟩
            have HMid : Hid _ := hmid
            clear hmid k7 k1 k2 k3 k4 k5 k6 N14
            go_wp2_with fail
            go_meet
            exact ⟨c0, b, rs ++ [y], X5, t, S5, rfl, hbl, by rw [List.length_append]; simp; omega, by rw [tot_snoc]; omega, HMid.out⟩
        case rest =>
          obtain ⟨code, b1, rs1, X5, t5, S5, rfl, hb1l, hr1l, htot1, HMi⟩ := hcut
          have hm : Mid w wc p q gx #[.bool xs, .slice ua y.length uc, .int .i64 zx, .int .i64 zy] (S3.armed ≠ 0) half b rs b1 rs1 (.slice sa b.length sc) (.slice ra rs.length rc) _ _ code (20 * (j + 1)) X5 t5 S5 := HMi.out
          obtain ⟨s1a, s1c, hs1⟩ := hm.s1.shape
          obtain ⟨r1a, r1c, hr1⟩ := hm.r1.shape
          rw [hs1, hr1] at hm
          subst hs1 hr1
          clear HMi HN HV HL hpsc hgxc hbwc x0 x1 hlen1
          have hmc := hm.c
          rcases hmc with ⟨rfl, half', hps5⟩ | ⟨rfl, ha0, ha5, hd5, half', b', rs', hpp5, hwho⟩
          · have N18 := arm_any wc X5 q 201 S5 0 0 (by decide) (by decide) (by decide) (by decide) hm.d
            have HM : Hid _ := hm
            clear hm
            go_wp2_with fail
            refine N18.mono ?_
            rintro e w6 ⟨rfl, hd6, hst6⟩
            obtain ⟨S6, hS6⟩ : ∃ S6, S6 = ({ S5 with armed := (0 : Int).toNat, keep := 0 } : DS) := ⟨_, rfl⟩
            rw [← hS6] at hd6
            have hps6 : PS w6 X5 p t5 q 201 S6 half' b1 rs1 := ⟨hd6, hps5.pr.on (hst6.block p hps5.pr.lt hps5.np), hps5.tp.on (hst6.block t5 hps5.tp.lt hps5.nt), hps5.np, hps5.nt, by rw [hS6]; exact hps5.pp, by rw [hS6]; exact hps5.dn, by rw [hS6]; exact hps5.wz⟩
            have q1 : S6.armed = 0 := by rw [hS6]; rfl
            have q2 : S6.ops ≤ 20 * (j + 1) := by rw [hS6]; exact HM.out.ops
            clear hS6 N18 hd6
            have hfin : Hid (Below w.heap.size w w6 ∧ BV w w6 (ZP X5 p t5) (.slice s1a b1.length s1c) b1 ∧ LZ w w6 (ZP X5 p t5) (.slice r1a rs1.length r1c) rs1) := by
              have : Below w.heap.size w w6 ∧ BV w w6 (ZP X5 p t5) (.slice s1a b1.length s1c) b1 ∧ LZ w w6 (ZP X5 p t5) (.slice r1a rs1.length r1c) rs1 :=
                ⟨HM.out.bel.trans (hst6.below HM.out.xa HM.out.bel.size), HM.out.s1.on hst6 (fun k h => .inl h) (fun k h => .inl h), HM.out.r1.on hst6 (fun k h => .inl h) (fun k h => .inl h)⟩
              exact this
            have HPS : Hid _ := hps6
            clear hps6 hps5 hst6
            go_wp2_with fail
            go_roundw
            case rel => exact ⟨j + 1, p, t5, X5, S6, half', b1, rs1, 0, by omega, by go_num, rfl, rfl, HPS.out, q1, hpw, HM.out.ta, hfin.out.2.1, hfin.out.2.2, hb1l, hr1l, htot1, q2, hfin.out.1, HM.out.xa⟩
            case measure => simp [RowKit.intOf]; omega
          · have hzx : ¬ zx < 1 := fun h => ha0 (ga h)
            have x2 : wc.cell? ⟨gx, 2, none⟩ = some (.int .i64 zx) := by rw [cell_of_row _ _ _ _ _ _ hm.x]; rfl
            have N30 := down_any wc X5 q 201 S5 hm.d
            rw [hd5] at N30
            have N22 := on_any wc X5 q 201 S5 hm.d
            have HM : Hid _ := hm
            clear hm
            go_wp2_with (first | (go_at_call 30; refine N30.mono ?_; rintro e w9 ⟨rfl, hw9⟩; have hw9 := hw9.symm; subst hw9))
            refine N22.mono ?_
            rintro e w6 ⟨rfl, hd6, hst6⟩
            obtain ⟨S6, hS6⟩ : ∃ S6, S6 = ({ S5 with down := false } : DS) := ⟨_, rfl⟩
            rw [← hS6] at hd6
            have q0 : S6.P = S5.P := by rw [hS6]
            have q1 : S6.armed = 0 := by rw [hS6]; exact ha5
            have q2 : S6.ops ≤ 20 * (j + 1) := by rw [hS6]; exact HM.out.ops
            have q3 : S6.down = false := by rw [hS6]
            have q4 : S6.W = [] := by rw [hS6]; exact HM.out.wz
            clear hS6 N22 N30 x2
            rw [← q0] at hpp5
            have hlens : b'.length ≤ 500 ∧ rs'.length ≤ j + 1 ∧ tot rs' ≤ 512 * (j + 1) := by
              rcases hwho with ⟨rfl, rfl⟩ | ⟨rfl, rfl⟩
              · exact ⟨hbl, by omega, by omega⟩
              · exact ⟨hb1l, hr1l, htot1⟩
            obtain ⟨hbl', hrl', htot'⟩ := hlens
            have N12 := popen_any w6 X5 q 201 S6 q3 q4 hd6 (by decide) half' b' rs' (by omega) hpp5
            have hb6 : Below w.heap.size w w6 := HM.out.bel.trans (hst6.below HM.out.xa HM.out.bel.size)
            have hxl6 := hd6.xlt
            have HW6 : Hid (BV w w6 (ZP X5 p t5) (.slice sa b.length sc) b ∧ LZ w w6 (ZP X5 p t5) (.slice ra rs.length rc) rs ∧ BV w w6 (ZP X5 p t5) (.slice s1a b1.length s1c) b1 ∧ LZ w w6 (ZP X5 p t5) (.slice r1a rs1.length r1c) rs1) := by
              have : BV w w6 (ZP X5 p t5) (.slice sa b.length sc) b ∧ LZ w w6 (ZP X5 p t5) (.slice ra rs.length rc) rs ∧ BV w w6 (ZP X5 p t5) (.slice s1a b1.length s1c) b1 ∧ LZ w w6 (ZP X5 p t5) (.slice r1a rs1.length r1c) rs1 :=
                ⟨HM.out.s.on hst6 (fun k h => .inl h) (fun k h => .inl h), HM.out.r.on hst6 (fun k h => .inl h) (fun k h => .inl h), HM.out.s1.on hst6 (fun k h => .inl h) (fun k h => .inl h), HM.out.r1.on hst6 (fun k h => .inl h) (fun k h => .inl h)⟩
              exact this
            have hxa5 := HM.out.xa
            clear HM hst6 hd6 hpp5
            go_wp2_with fail
            refine N12.mono ?_
            rintro e w7 ⟨hb67, vb, vl, p7, t7, rfl, hp7, ht7, hsv, hrec, hps7⟩
            have hb7 : Below w.heap.size w w7 := hb6.trans (hb67.mono hb6.size)
            have hZ7 : ∀ (k : Nat) (c : Array Value) (e : TypeId), w6.heap.size ≤ k → (e = 5 ∨ e = 30) → w7.heap[k]? = some (.cells c e (0, 0)) → ¬ ZP X5 p7 t7 k := fun k c e hk he hc hz => by
              rcases hz with hz | hz | hz
              · have := hxl6 k hz; omega
              · exact ne_type hc (hz ▸ hps7.pr.b) (by rcases he with rfl | rfl <;> decide) rfl
              · exact ne_type hc (hz ▸ hps7.tp.b) (by rcases he with rfl | rfl <;> decide) rfl
            have hbv7 : BV w w7 (ZP X5 p7 t7) vb b' := hsv.bv hb6.size hZ7
            have hlz7 : LZ w w7 (ZP X5 p7 t7) vl rs' := hrec.lz hb6.size hZ7
            obtain ⟨ba, bc, rfl⟩ := hsv.shape
            obtain ⟨la, lc, rfl⟩ := hrec.shape
            obtain ⟨u1, u2, u3, u4⟩ := HW6.out
            have hst67 : Step (fun _ => False) (fun _ => False) w6 w7 := Step.of_below hb67
            have r1 : Sl.RdA w7 (.slice sa b.length sc) b := (u1.on (Z' := ZP X5 p t5) hst67 (fun _ h => h.elim) (fun _ h => .inl h)).rd hb7
            have r2 : RdL w7 (.slice ra rs.length rc) rs := (u2.on (Z' := ZP X5 p t5) hst67 (fun _ h => h.elim) (fun _ h => .inl h)).rdl hb7
            have r3 : Sl.RdA w7 (.slice s1a b1.length s1c) b1 := (u3.on (Z' := ZP X5 p t5) hst67 (fun _ h => h.elim) (fun _ h => .inl h)).rd hb7
            have r4 : RdL w7 (.slice r1a rs1.length r1c) rs1 := (u4.on (Z' := ZP X5 p t5) hst67 (fun _ h => h.elim) (fun _ h => .inl h)).rdl hb7
            have hdm : ∀ m, Below w7.heap.size w7 (w7.drewN m) := fun m => ⟨rfl, rfl, rfl, Nat.le_refl _, fun _ _ => rfl⟩
            have g1 : ∀ m, (convert 30 9 (.slice sa b.length sc)).run Try.prog (w7.drewN m) = .ok (.string ⟨b.toArray⟩) (w7.drewN m) := fun m => convA (Sl.RdA.on r1 (hdm m))
            have g3 : ∀ m, (convert 30 9 (.slice s1a b1.length s1c)).run Try.prog (w7.drewN m) = .ok (.string ⟨b1.toArray⟩) (w7.drewN m) := fun m => convA (Sl.RdA.on r3 (hdm m))
            have g5 : ∀ m, (convert 30 9 (.slice ba b'.length bc)).run Try.prog (w7.drewN m) = .ok (.string ⟨b'.toArray⟩) (w7.drewN m) := fun m => convA (Sl.RdA.on hsv.rd (hdm m))
            have N23a : ∀ m, Calls Try.prog 23 #[.slice la rs'.length lc, .slice ra rs.length rc] (w7.drewN m) fun e w' => e = .returned (.bool (decide (rs' = rs))) ∧ ∃ k, w' = (w7.drewN m).drewN k := fun m => alike_any (w7.drewN m) _ _ rs' rs (hrec.rdl.on (hdm m)) (r2.on (hdm m)) (by omega) (by omega)
            have N23b : ∀ m, Calls Try.prog 23 #[.slice la rs'.length lc, .slice r1a rs1.length r1c] (w7.drewN m) fun e w' => e = .returned (.bool (decide (rs' = rs1))) ∧ ∃ k, w' = (w7.drewN m).drewN k := fun m => alike_any (w7.drewN m) _ _ rs' rs1 (hrec.rdl.on (hdm m)) (r4.on (hdm m)) (by omega) (by omega)
            have hse1 := str_beq b' b
            have hse2 := str_beq b' b1
            have HBV7 : Hid _ := hbv7
            have HLZ7 : Hid _ := hlz7
            have HPS7 : Hid _ := hps7
            have HWHO : Hid _ := hwho
            clear hbv7 hlz7 hps7 hsv hrec r1 r2 r3 r4 u1 u2 u3 u4 HW6 hZ7 hst67 hwho N12
            have G1 : Hid _ := g1
            have G3 : Hid _ := g3
            have G5 : Hid _ := g5
            have HS1 : Hid _ := hse1
            have HS2 : Hid _ := hse2
            clear g1 g3 g5 hse1 hse2
            go_upto_region 32 with fail
            go_cut [18] (fun v18 wq => v18 = .bool (decide (b' = b ∧ rs' = rs)) ∧ ∃ m, wq = w7.drewN m)
            case first =>
              have k1 : (convert 30 9 (.slice sa b.length sc)).run Try.prog (w7) = .ok (.string ⟨b.toArray⟩) (w7) := G1.out 0
              have k5 : (convert 30 9 (.slice ba b'.length bc)).run Try.prog (w7) = .ok (.string ⟨b'.toArray⟩) (w7) := G5.out 0
              have hse := HS1.out
              have NN := N23a 0
              clear N23a N23b
              generalize (⟨b'.toArray⟩ : ByteArray) = c' at *
              generalize (⟨b.toArray⟩ : ByteArray) = c at *
              by_cases hbb : b' = b
              · have hq : (c'.toList == c.toList) = true := by rw [hse]; exact decide_eq_true hbb
                have HBB : Hid _ := hbb
                clear hse hbb
                go_wp2_with fail
                refine NN.mono ?_
                rintro e w8 ⟨rfl, kq, hw8⟩
                have hdd : decide (rs' = rs) = decide (b' = b ∧ rs' = rs) := by simp [HBB.out]
                have HDD : Hid _ := hdd
                have HW8 : Hid _ := hw8
                clear NN hdd hw8
                generalize decide (rs' = rs) = dd at HDD ⊢
                go_wp2_with fail
                go_meet
                exact ⟨by rw [HDD.out], 0 + kq, by rw [HW8.out]; simp [World.drewN]⟩
              · have hq : (c'.toList == c.toList) = false := by rw [hse]; exact decide_eq_false hbb
                clear hse
                have hdd : false = decide (b' = b ∧ rs' = rs) := by simp [hbb]
                have HDD : Hid _ := hdd
                clear NN hbb hdd
                go_wp2_with fail
                go_meet
                exact ⟨by rw [← HDD.out], 0, rfl⟩
            case rest =>
              obtain ⟨rfl, m1, rfl⟩ := hcut
              obtain ⟨d1, hD1⟩ : ∃ d1, decide (b' = b ∧ rs' = rs) = d1 := ⟨_, rfl⟩
              rw [hD1]
              have HD1 : Hid (decide (b' = b ∧ rs' = rs) = d1) := hD1
              clear hD1
              go_upto_region 33 with fail
              go_cut [19] (fun v18 wq => v18 = .bool (decide (b' = b1 ∧ rs' = rs1)) ∧ ∃ m, wq = w7.drewN m)
              case first =>
                have k1 : (convert 30 9 (.slice s1a b1.length s1c)).run Try.prog (w7.drewN m1) = .ok (.string ⟨b1.toArray⟩) (w7.drewN m1) := G3.out m1
                have k5 : (convert 30 9 (.slice ba b'.length bc)).run Try.prog (w7.drewN m1) = .ok (.string ⟨b'.toArray⟩) (w7.drewN m1) := G5.out m1
                have hse := HS2.out
                have NN := N23b m1
                clear N23a N23b
                generalize (⟨b'.toArray⟩ : ByteArray) = c' at *
                generalize (⟨b1.toArray⟩ : ByteArray) = c at *
                by_cases hbb : b' = b1
                · have hq : (c'.toList == c.toList) = true := by rw [hse]; exact decide_eq_true hbb
                  have HBB : Hid _ := hbb
                  clear hse hbb
                  go_wp2_with fail
                  refine NN.mono ?_
                  rintro e w8 ⟨rfl, kq, hw8⟩
                  have hdd : decide (rs' = rs1) = decide (b' = b1 ∧ rs' = rs1) := by simp [HBB.out]
                  have HDD : Hid _ := hdd
                  have HW8 : Hid _ := hw8
                  clear NN hdd hw8
                  generalize decide (rs' = rs1) = dd at HDD ⊢
                  go_wp2_with fail
                  go_meet
                  exact ⟨by rw [HDD.out], m1 + kq, by rw [HW8.out]; simp [World.drewN, Nat.add_assoc]⟩
                · have hq : (c'.toList == c.toList) = false := by rw [hse]; exact decide_eq_false hbb
                  clear hse
                  have hdd : false = decide (b' = b1 ∧ rs' = rs1) := by simp [hbb]
                  have HDD : Hid _ := hdd
                  clear NN hbb hdd
                  go_wp2_with fail
                  go_meet
                  exact ⟨by rw [← HDD.out], m1, rfl⟩
              case rest =>
                obtain ⟨rfl, m2, rfl⟩ := hcut
                have hor : d1 = true ∨ decide (b' = b1 ∧ rs' = rs1) = true := by
                  rcases HWHO.out with h | h
                  · exact .inl (by rw [← HD1.out]; exact decide_eq_true h)
                  · exact .inr (decide_eq_true h)
                have hbd : Below w7.heap.size w7 (w7.drewN m2) := ⟨rfl, rfl, rfl, Nat.le_refl _, fun _ _ => rfl⟩
                have hst2 : Step (fun _ => False) (fun _ => False) w7 (w7.drewN m2) := Step.of_below hbd
                have hf1 : PS (w7.drewN m2) X5 p7 t7 q 201 S6 half' b' rs' := PS.below HPS7.out hbd
                have hf2 : BV w (w7.drewN m2) (ZP X5 p7 t7) (.slice ba b'.length bc) b' := BV.on HBV7.out hst2 (fun _ h => h.elim) (fun _ h => .inl h)
                have hf3 : LZ w (w7.drewN m2) (ZP X5 p7 t7) (.slice la rs'.length lc) rs' := LZ.on HLZ7.out hst2 (fun _ h => h.elim) (fun _ h => .inl h)
                have hf4 : Below w.heap.size w (w7.drewN m2) := hb7.trans (hbd.mono hb7.size)
                have F1 : Hid _ := hf1
                have F2 : Hid _ := hf2
                have F3 : Hid _ := hf3
                clear hf1 hf2 hf3 hst2 hbd HPS7 HBV7 HLZ7 HWHO N23a N23b G1 G3 G5 HS1 HS2
                generalize w7.drewN m2 = w8 at *
                clear HD1
                generalize decide (b' = b1 ∧ rs' = rs1) = d2 at *
                have hp7w : w.heap.size ≤ p7 := Nat.le_trans hb6.size hp7
                have ht7w : w.heap.size ≤ t7 := Nat.le_trans hb6.size ht7
                cases d1 with
                | true =>
                  go_wp2_with fail
                  exact ⟨⟨j + 1, p7, t7, X5, S6, half', b', rs', 20, by omega, by go_num, rfl, rfl, F1.out, q1, hp7w, ht7w, F2.out, F3.out, hbl', hrl', htot', q2, hf4, hxa5⟩, by simp [RowKit.intOf]; omega⟩
                | false =>
                  have hd2 : d2 = true := by rcases hor with h | h; cases h; exact h
                  subst hd2
                  go_wp2_with fail
                  exact ⟨⟨j + 1, p7, t7, X5, S6, half', b', rs', 20, by omega, by go_num, rfl, rfl, F1.out, q1, hp7w, ht7w, F2.out, F3.out, hbl', hrl', htot', q2, hf4, hxa5⟩, by simp [RowKit.intOf]; omega⟩
    · have N12 := popen_any wr X q 201 S hps.dn hps.wz hps.d (by decide) half b rs (by omega) hps.pp
      obtain ⟨sa, sc, rfl⟩ := hbv.shape
      obtain ⟨ra, rc, rfl⟩ := hlz.shape
      go_wp2_with fail
      refine N12.mono ?_
      rintro e w7 ⟨hb67, vb, vl, p7, t7, rfl, hp7, ht7, hsv, hrec, _⟩
      have hb7 : Below w.heap.size w w7 := hb.trans (hb67.mono hb.size)
      have hst67 : Step (fun _ => False) (fun _ => False) wr w7 := Step.of_below hb67
      have r1 : Sl.RdA w7 (.slice sa b.length sc) b := (hbv.on (Z' := ZP X p t) hst67 (fun _ h => h.elim) (fun _ h => .inl h)).rd hb7
      have r2 : RdL w7 (.slice ra rs.length rc) rs := (hlz.on (Z' := ZP X p t) hst67 (fun _ h => h.elim) (fun _ h => .inl h)).rdl hb7
      have hps7 := hps.below hb67
      obtain ⟨ba, bc, rfl⟩ := hsv.shape
      obtain ⟨la, lc, rfl⟩ := hrec.shape
      have k1 := convA r1
      have k5 := convA hsv.rd
      have N23 := alike_any w7 _ _ rs rs hrec.rdl r2 (by omega) (by omega)
      rw [decide_eq_true (rfl : rs = rs)] at N23
      have hse := str_beq b b
      rw [decide_eq_true (rfl : b = b)] at hse
      generalize (⟨b.toArray⟩ : ByteArray) = c' at *
      clear hbv hlz hps hsv hrec r1 r2 hst67 N12
      go_wp2_with fail
      refine N23.mono ?_
      rintro e w8 ⟨rfl, kq, hw8⟩
      have hb8' : Below w7.heap.size w7 w8 := by rw [hw8]; exact ⟨rfl, rfl, rfl, Nat.le_refl _, fun _ _ => rfl⟩
      have hb8 : Below w.heap.size w w8 := hb7.trans (hb8'.mono hb7.size)
      have hps8 := hps7.below hb8'
      have N28 := pcount_any w8 p q half t _ _ _ _ _ 0 hps8.pr hps8.tp
      clear hw8 hb8' N23 hps7 hps8
      go_wp2_with (go_at_call 28; refine N28.mono ?_; rintro e w9 ⟨rfl, hw9⟩; have hw9 := hw9.symm; subst hw9)
      go_ret
      exact ⟨rfl, hb8⟩
end Go.Proofs.Ythgkkmcpmhfehaa
