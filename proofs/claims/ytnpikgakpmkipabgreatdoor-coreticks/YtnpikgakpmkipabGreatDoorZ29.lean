/- trivetlaw11.CoreTicks. Conditions: those that each row states. -/
import Derived.Test.YtnpikgakpmkipabGreatDoorZ15
import Derived.Test.YtnpikgakpmkipabGreatDoorZ04
import Derived.Test.YtnpikgakpmkipabGreatDoorZ27
import Derived.Test.YtnpikgakpmkipabGreatDoorZ28
import Derived.Test.YtnpikgakpmkipabGreatDoorZ02
import Derived.Test.YtnpikgakpmkipabGreatDoorZ03
import Derived.Deep.Slices
import Derived.SizedLaws
namespace Go.Proofs.YtnpikgakpmkipabGreatDoor
open Go.RowKit Go.Lib
set_option maxRecDepth 100000
set_option linter.unusedSimpArgs false
set_option linter.unusedVariables false
structure LwS (w W : World) (kc : Nat) (c : Cor) : Prop where
 k : ∃ q1 b1 s1 k1 c1, Blk W kc #[.int .i64 c.now, q1, b1, s1, k1, c1] 30 ∧ OwC W w.heap.size c q1 b1 s1 k1 c1
 l : Bw w W
 g : w.heap.size ≤ kc
theorem LwS.on {w W W' : World} {kc : Nat} {c : Cor} (h : LwS w W kc c) (hb : Bw W W') : LwS w W' kc c := by
 obtain ⟨⟨q1, b1, s1, k1, c1, h1, h2⟩, h3, h4⟩ := h
 exact ⟨⟨q1, b1, s1, k1, c1, h1.on hb, h2.on hb⟩, nxt h3 hb, h4⟩
structure TkC (c : Cor) (i : Nat) : Prop where
 g : GoodC c
 p : Pumped c
 n0 : 0 ≤ c.now
 n1 : c.now ≤ i * 1048576
theorem OOc.none {W : World} {B : Nat} {v : Value} (h : OOc W B v []) : ∃ a c, v = .slice a 0 c := by
 obtain ⟨zs, e, h1⟩ := h
 obtain ⟨a, c, ev⟩ := h1.rd.len
 have : zs.length = 0 := by
  have := congrArg List.length e
  rw [List.length_map] at this
  exact this
 rw [this] at ev
 exact ⟨a, c, ev⟩
theorem op0_ok (W : World) {k n : Int} (hn : -9223372036854775808 ≤ n ∧ n ≤ 9223372036854775807) : OpOk W.heap.size W (op0 k n [] []) (.slice none 0 0) := opok_of (rdp_nil W) ⟨hn, by simp [op0, zeroM]⟩ (.refl _ _)
set_option maxHeartbeats 8000000 in
theorem ticks_law (w : World) (hV : To.Vars w) (v : Value) (zs : Zs Opr) (h : RdOs w v zs) (hn : zs.length ≤ 9223372036854775807) (a b : Int) (ha : -9223372036854775808 ≤ a ∧ a ≤ 9223372036854775807) (hb : -9223372036854775808 ≤ b ∧ b ≤ 9223372036854775807) :
  Calls Tryz.prog 4 #[v, .int .i64 a, .int .i64 b] w fun e w' => e = .returned (.bool true) ∧ Bw w w' := by
 obtain ⟨va, vc, rfl⟩ := h.1.len
 obtain ⟨n, en⟩ : ∃ n, zs.length = n := ⟨_, rfl⟩
 rw [en] at h hn ⊢
 have HI : Hid (RdOs w (.slice va n vc) zs ∧ zs.length = n ∧ To.Vars w) := ⟨h, en, hV⟩
 have HW := wakes_any w hV
 clear h en hV
 go_enter Tryz.func4, Tryz.ntmps4
 go_wp2_with fail
 refine HW.mono ?_
 rintro e w0 ⟨rfl, b0⟩
 have HB0 : Hid (Bw w w0) := b0
 clear HW b0
 by_cases g1 : (60 : Int) < (n : Int)
 ·go_wp2_with fail
  go_ret
  exact ⟨rfl, HB0.out⟩
 by_cases g2 : a < 0
 ·go_wp2_with fail
  go_ret
  exact ⟨rfl, HB0.out⟩
 by_cases g3 : b < 0
 ·go_wp2_with fail
  go_ret
  exact ⟨rfl, HB0.out⟩
 by_cases g4 : 1048576 < a
 ·go_wp2_with fail
  go_ret
  exact ⟨rfl, HB0.out⟩
 by_cases g5 : 1048576 < b
 ·go_wp2_with fail
  go_ret
  exact ⟨rfl, HB0.out⟩
 have R0 : Hid (∃ c, TkC c 0 ∧ LwS w (w0.alloc (.cells coZ 30)) w0.heap.size c) := by
  refine ⟨zeroC, ⟨good_zero, pumped_zero, by decide, by decide⟩, ⟨_, _, _, _, _, Blk.new w0 coZ 30, owc_zero _ _⟩, nxt HB0.out ((Below.refl w0.heap.size w0).alloc (Nat.le_refl _) _), HB0.out.size⟩
 clear HB0
 go_upto_region 7 with fail
 generalize w0.alloc (.cells coZ 30) = w1 at *
 obtain ⟨kc, ekc⟩ : ∃ x, w0.heap.size = x := ⟨_, rfl⟩
 rw [ekc] at R0 ⊢
 clear ekc
 go_loopg [45] n (fun gg s45 wr => ∃ i : Nat, i ≤ n ∧ n - i ≤ gg ∧ s45 = .int .i64 i ∧ Hid (∃ c, TkC c i ∧ LwS w wr kc c))
 case atStart => exact ⟨0, Nat.zero_le _, by omega, rfl, R0.out⟩
 case round =>
  obtain ⟨i, hi, hg, rfl, HR⟩ := hrel
  clear R0
  obtain ⟨wt, hwt⟩ : ∃ W, W = wr := ⟨_, rfl⟩
  subst hwt
  obtain ⟨c, hc, hS⟩ := HR.out
  have HS : Hid (LwS w wt kc c) := hS
  have HC0 : Hid (TkC c i) := hc
  clear HR hc hS
  by_cases hlt : i < n
  ·have hltz : (i : Int) < (n : Int) := by omega
   have hiz : i < zs.length := by rw [HI.out.2.1]; exact hlt
   obtain ⟨b', o, pv, rfl, hp, hin, C⟩ := HI.out.1.at hiz
   generalize (zs[i]).2 = x at *
   obtain ⟨pa, pc, rfl⟩ := hp.shape
   have HF : Hid (RdP w (.slice pa x.msg.props.length pc) x.msg.props ∧ InO x) := ⟨hp, hin⟩
   have hone := hp.one
   clear hp hin
   have e0 : wt.cell? ⟨b', o + i * 14, none⟩ = some (.int .i64 x.kind) := C wt HS.out.l 0 _ rfl
   have e1 : wt.cell? ⟨b', o + i * 14 + 1, none⟩ = some (.int .i64 x.conn) := C wt HS.out.l 1 _ rfl
   have e2 : wt.cell? ⟨b', o + i * 14 + 2, none⟩ = some (.int .i64 x.sub) := C wt HS.out.l 2 _ rfl
   have e3 : wt.cell? ⟨b', o + i * 14 + 3, none⟩ = some (.int .i64 x.n) := C wt HS.out.l 3 _ rfl
   have e4 : wt.cell? ⟨b', o + i * 14 + 4, none⟩ = some (tx x.queue) := C wt HS.out.l 4 _ rfl
   have e5 : wt.cell? ⟨b', o + i * 14 + 5, none⟩ = some (tx x.text) := C wt HS.out.l 5 _ rfl
   have e6 : wt.cell? ⟨b', o + i * 14 + 6, none⟩ = some (.bool x.dur) := C wt HS.out.l 6 _ rfl
   have e7 : wt.cell? ⟨b', o + i * 14 + 7, none⟩ = some (.bool x.auto) := C wt HS.out.l 7 _ rfl
   have e8 : wt.cell? ⟨b', o + i * 14 + 8, none⟩ = some (.bool x.keep) := C wt HS.out.l 8 _ rfl
   have e9 : wt.cell? ⟨b', o + i * 14 + 9, none⟩ = some (tx x.msg.topic) := C wt HS.out.l 9 _ rfl
   have e10 : wt.cell? ⟨b', o + i * 14 + 10, none⟩ = some (tx x.msg.body) := C wt HS.out.l 10 _ rfl
   have e11 : wt.cell? ⟨b', o + i * 14 + 11, none⟩ = some (.slice pa x.msg.props.length pc) := C wt HS.out.l 11 _ rfl
   have e12 : wt.cell? ⟨b', o + i * 14 + 12, none⟩ = some (.bool x.msg.dur) := C wt HS.out.l 12 _ rfl
   have e13 : wt.cell? ⟨b', o + i * 14 + 13, none⟩ = some (.int .i64 x.msg.til) := C wt HS.out.l 13 _ rfl
   go_wp2_with (refine wpl_fresh rfl (.tmp 9) (.tmp 48) rfl (opA x (.slice pa x.msg.props.length pc)) _ rfl rfl (by kernel_rfl) rfl (op_one (o := x) hone) ?_)
   intro w2 k2 b2 s2
   clear e0 e1 e2 e3 e4 e5 e6 e7 e8 e9 e10 e11 e12 e13 s2 C hone
   have HS2 : Hid (LwS w w2 kc c) := HS.out.on b2
   obtain ⟨d0, d1, d2, d3, d4, d5, d6, d7, d8, d9, d10, d11, d12, d13⟩ := k2.c14
   obtain ⟨gx, egx⟩ : ∃ g, wt.heap.size = g := ⟨_, rfl⟩
   rw [egx] at d0 d1 d2 d3 d4 d5 d6 d7 d8 d9 d10 d11 d12 d13 ⊢
   clear egx k2 b2 HS
   by_cases f1 : (1000 : Int) < (x.msg.props.length : Int)
   ·go_wp2_with fail
    go_ret
    exact ⟨rfl, HS2.out.l⟩
   by_cases f2 : x.kind = 14
   ·by_cases f3 : 1048576 < x.n
    ·rw [f2] at d0
     go_wp2_with fail
     go_ret
     exact ⟨rfl, HS2.out.l⟩
    ·have HO : Hid (x.kind = 14 → x.n ≤ 1048576) := fun _ => by omega
     have f3' : ¬ 1048576 < x.n := f3
     obtain ⟨q1, v1, s1, k1, c1, kC, oC⟩ := HS2.out.k
     have HC := do_good w2 (HI.out.2.2.below HS2.out.l) _ c q1 v1 s1 k1 c1 oC HC0.out.g x (.slice pa x.msg.props.length pc) (opok_of HF.out.1 HF.out.2 HS2.out.l)
     unfold corV opV at HC
     rw [f2] at HC d0
     clear f2 f3
     obtain ⟨c0, c1', c2, c3, c4, c5⟩ := kC.c6
     have HK2 : Hid (Blk w2 kc #[.int .i64 c.now, q1, v1, s1, k1, c1] 30 ∧ OwC w2 w.heap.size c q1 v1 s1 k1 c1) := ⟨kC, oC⟩
     clear kC oC
     go_wp2_with fail
     refine HC.mono ?_
     rintro e w3 ⟨hD, b3⟩
     clear HC c0 c1' c2 c3 c4 c5 d0 d1 d2 d3 d4 d5 d6 d7 d8 d9 d10 d11 d12 d13
     rcases hD with ⟨r3, q3, v3, s3, k3, c3, o3, hd, he, oC3, oO3⟩ | ⟨m, hd, hm, he⟩
     rotate_left
     ·subst he
      unfold nilV
      have b4 : Bw w3 (w3.alloc (.cells coZ 30)) := (Below.refl w3.heap.size w3).alloc (Nat.le_refl _) _
      have HX : Hid (∃ c', TkC c' (i + 1) ∧ LwS w (w3.alloc (.cells coZ 30)) kc c') := ⟨c, ⟨HC0.out.g, HC0.out.p, HC0.out.n0, by have := HC0.out.n1; omega⟩, (HS2.out.on b3).on b4⟩
      have hm' : ¬ m = 0 := hm
      clear b4 hd hm HS2 HK2 b3 HC0
      go_wp2_with fail
      go_roundg (n - (i + 1))
      case measure => omega
      case rel => exact ⟨i + 1, by omega, by omega, by go_num, HX.out⟩
     subst he
     unfold corV
     have hT3 : TkC r3.1 (i + 1) := ⟨(doC_ok hd).2.1, (doC_ok hd).2.2.1, by have h1 := (do_now hd HO.out).1; have h2 := HC0.out.n0; omega, by have h1 := (do_now hd HO.out).2; have h2 := HC0.out.n1; omega⟩
     have HT3 : Hid (TkC r3.1 (i + 1)) := hT3
     clear hT3 hd
     go_wp2_with (refine wpl_fresh rfl (.tmp 10) (.tmp 68) rfl #[.int .i64 r3.1.now, q3, v3, s3, k3, c3] _ rfl rfl (by kernel_rfl) rfl (cor_one oC3) ?_)
     intro w4 k4 b4 s4
     have K4 := (HK2.out.1.on b3).on b4
     have oC4 := (oC3.on b4).low (HS2.out.l.size)
     have l4 := nxt (nxt HS2.out.l b3) b4
     have hgk := HS2.out.g
     obtain ⟨gy, egy⟩ : ∃ g, w3.heap.size = g := ⟨_, rfl⟩
     rw [egy] at k4 ⊢
     clear egy oC3 oO3 b3 b4 s4 HS2 HK2
     obtain ⟨c0, c1', c2, c4', c5', c6'⟩ := k4.c6
     go_wp2_with (refine wpl_put rfl (.tmp 7) (.tmp 73) rfl kc #[.int .i64 r3.1.now, q3, v3, s3, k3, c3] rfl rfl K4 (by kernel_rfl) rfl (cor_one oC4) ?_)
     intro w5 k5 g5 s5
     have HX : Hid (∃ c', TkC c' (i + 1) ∧ LwS w w5 kc c') := ⟨r3.1, HT3.out, ⟨_, _, _, _, _, k5, oC4.kx (KX.put K4 g5) (by decide)⟩, l4.grown g5 l4.size (fun k hk => by injection hk with hk; omega), hgk⟩
     clear c0 c1' c2 c4' c5' c6' k4 K4 oC4 l4 k5 g5 s5 HT3 HC0 hgk
     go_wp2_with fail
     go_roundg (n - (i + 1))
     case measure => omega
     case rel => exact ⟨i + 1, by omega, by omega, by go_num, HX.out⟩
   ·have HO : Hid (x.kind = 14 → x.n ≤ 1048576) := fun h => absurd h f2
    obtain ⟨q1, v1, s1, k1, c1, kC, oC⟩ := HS2.out.k
    have HC := do_good w2 (HI.out.2.2.below HS2.out.l) _ c q1 v1 s1 k1 c1 oC HC0.out.g x (.slice pa x.msg.props.length pc) (opok_of HF.out.1 HF.out.2 HS2.out.l)
    unfold corV opV at HC
    obtain ⟨c0, c1', c2, c3, c4, c5⟩ := kC.c6
    have HK2 : Hid (Blk w2 kc #[.int .i64 c.now, q1, v1, s1, k1, c1] 30 ∧ OwC w2 w.heap.size c q1 v1 s1 k1 c1) := ⟨kC, oC⟩
    clear kC oC
    go_wp2_with fail
    refine HC.mono ?_
    rintro e w3 ⟨hD, b3⟩
    clear HC c0 c1' c2 c3 c4 c5 d0 d1 d2 d3 d4 d5 d6 d7 d8 d9 d10 d11 d12 d13
    rcases hD with ⟨r3, q3, v3, s3, k3, c3, o3, hd, he, oC3, oO3⟩ | ⟨m, hd, hm, he⟩
    rotate_left
    ·subst he
     unfold nilV
     have b4 : Bw w3 (w3.alloc (.cells coZ 30)) := (Below.refl w3.heap.size w3).alloc (Nat.le_refl _) _
     have HX : Hid (∃ c', TkC c' (i + 1) ∧ LwS w (w3.alloc (.cells coZ 30)) kc c') := ⟨c, ⟨HC0.out.g, HC0.out.p, HC0.out.n0, by have := HC0.out.n1; omega⟩, (HS2.out.on b3).on b4⟩
     have hm' : ¬ m = 0 := hm
     clear b4 hd hm HS2 HK2 b3 HC0
     go_wp2_with fail
     go_roundg (n - (i + 1))
     case measure => omega
     case rel => exact ⟨i + 1, by omega, by omega, by go_num, HX.out⟩
    subst he
    unfold corV
    have hT3 : TkC r3.1 (i + 1) := ⟨(doC_ok hd).2.1, (doC_ok hd).2.2.1, by have h1 := (do_now hd HO.out).1; have h2 := HC0.out.n0; omega, by have h1 := (do_now hd HO.out).2; have h2 := HC0.out.n1; omega⟩
    have HT3 : Hid (TkC r3.1 (i + 1)) := hT3
    clear hT3 hd
    go_wp2_with (refine wpl_fresh rfl (.tmp 10) (.tmp 68) rfl #[.int .i64 r3.1.now, q3, v3, s3, k3, c3] _ rfl rfl (by kernel_rfl) rfl (cor_one oC3) ?_)
    intro w4 k4 b4 s4
    have K4 := (HK2.out.1.on b3).on b4
    have oC4 := (oC3.on b4).low (HS2.out.l.size)
    have l4 := nxt (nxt HS2.out.l b3) b4
    have hgk := HS2.out.g
    obtain ⟨gy, egy⟩ : ∃ g, w3.heap.size = g := ⟨_, rfl⟩
    rw [egy] at k4 ⊢
    clear egy oC3 oO3 b3 b4 s4 HS2 HK2
    obtain ⟨c0, c1', c2, c4', c5', c6'⟩ := k4.c6
    go_wp2_with (refine wpl_put rfl (.tmp 7) (.tmp 73) rfl kc #[.int .i64 r3.1.now, q3, v3, s3, k3, c3] rfl rfl K4 (by kernel_rfl) rfl (cor_one oC4) ?_)
    intro w5 k5 g5 s5
    have HX : Hid (∃ c', TkC c' (i + 1) ∧ LwS w w5 kc c') := ⟨r3.1, HT3.out, ⟨_, _, _, _, _, k5, oC4.kx (KX.put K4 g5) (by decide)⟩, l4.grown g5 l4.size (fun k hk => by injection hk with hk; omega), hgk⟩
    clear c0 c1' c2 c4' c5' c6' k4 K4 oC4 l4 k5 g5 s5 HT3 HC0 hgk
    go_wp2_with fail
    go_roundg (n - (i + 1))
    case measure => omega
    case rel => exact ⟨i + 1, by omega, by omega, by go_num, HX.out⟩
  ·have hltz : ¬ (i : Int) < (n : Int) := by omega
   obtain ⟨q1, v1, s1, k1, c1, kC, oC⟩ := HS.out.k
   have L : Hid (Bw w wt) := HS.out.l
   have hn1 : c.now ≤ 62914560 := by have := HC0.out.n1; omega
   have hn0 : 0 ≤ c.now := HC0.out.n0
   have HG1 : Hid (GoodC c ∧ Pumped c) := ⟨HC0.out.g, HC0.out.p⟩
   have ha0 : 0 ≤ a := by omega
   have hb0 : 0 ≤ b := by omega
   have ha1 : a ≤ 1048576 := by omega
   have hb1 : b ≤ 1048576 := by omega
   have HTG := tickK_good HG1.out.1 HG1.out.2 ha0 (by omega)
   have HG2 : Hid (GoodC (tickK c a) ∧ Pumped (tickK c a)) := HTG
   have HT1 : Hid (doC c (op0 14 a [] []) = .ok (tickK c a, [])) := tick_do HG1.out.1 HG1.out.2 ha0 (by omega)
   have HT2 : Hid (doC (tickK c a) (op0 14 b [] []) = .ok (tickK (tickK c a) b, [])) := tick_do HG2.out.1 HG2.out.2 hb0 (by show b ≤ 1099511627776 - (c.now + a); omega)
   have HT3 : Hid (doC c (op0 14 (a + b) [] []) = .ok (tickK c (a + b), [])) := tick_do HG1.out.1 HG1.out.2 (by omega) (by omega)
   have HT4 : Hid (tickK (tickK c a) b = tickK c (a + b)) := tick_two c hb0
   have HG3 : Hid (GoodC (tickK c (a + b))) := (tickK_good HG1.out.1 HG1.out.2 (a := a + b) (by omega) (by omega)).1
   clear HTG HS HC0 g2 g3 g4 g5
   obtain ⟨c0, c1', c2, c3, c4, c5⟩ := kC.c6
   go_upto_region 15 with fail
   have HC := do_good wt (HI.out.2.2.below L.out) _ c q1 v1 s1 k1 c1 oC HG1.out.1 (op0 14 (a) [] []) (.slice none 0 0) (op0_ok wt ha)
   unfold corV opV op0 zeroM at HC
   go_wp2_with fail
   refine HC.mono ?_
   rintro e w3 ⟨hD, b3⟩
   clear HC
   rcases hD with ⟨r3, q3, v3, s3, kk3, cc3, o3, hd, he, oC3, oO3⟩ | ⟨m, hd, _, _⟩
   rotate_left
   ·have hq : doC c (op0 14 (a) [] []) = .error m := hd
    rw [HT1.out] at hq
    cases hq
   have hq : doC c (op0 14 (a) [] []) = .ok r3 := hd
   rw [HT1.out] at hq
   injection hq with hq
   clear hd
   subst hq
   subst he
   obtain ⟨oaA, ocA, rfl⟩ := OOc.none oO3
   clear oO3
   obtain ⟨y1, ey1⟩ : ∃ y, tickK c (a) = y := ⟨_, rfl⟩
   have HEA : Hid (tickK c (a) = y1) := ey1
   simp only [ey1] at oC3
   unfold corV
   simp only [ey1]
   clear ey1
   go_wp2_with (refine wpl_fresh rfl (.tmp 13) (.tmp 80) rfl #[.int .i64 y1.now, q3, v3, s3, kk3, cc3] _ rfl rfl (by kernel_rfl) rfl (cor_one oC3) ?_)
   intro w4 kA b4 s4
   have bb := nxt b3 b4
   have L2 : Hid (Bw w w4) := nxt L.out bb
   have ownA := oC3.on b4
   obtain ⟨gA, egA⟩ : ∃ g, w3.heap.size = g := ⟨_, rfl⟩
   rw [egA] at kA ⊢
   clear egA oC3 b3 b4 s4 L
   have L := L2
   clear L2
   have kC4 := kC.on bb
   have oC4 := oC.on bb
   clear kC oC c0 c1' c2 c3 c4 c5 bb
   rw [HEA.out] at HT2 HG2 HT4
   obtain ⟨c0, c1', c2, c3, c4, c5⟩ := kA.c6
   go_upto_region 18 with fail
   have HC := do_good w4 (HI.out.2.2.below L.out) _ y1 q3 v3 s3 kk3 cc3 ownA HG2.out.1 (op0 14 (b) [] []) (.slice none 0 0) (op0_ok w4 hb)
   unfold corV opV op0 zeroM at HC
   go_wp2_with fail
   refine HC.mono ?_
   rintro e w5 ⟨hD, b3⟩
   clear HC
   rcases hD with ⟨r3, q5, v5, s5, kk5, cc5, o3, hd, he, oC3, oO3⟩ | ⟨m, hd, _, _⟩
   rotate_left
   ·have hq : doC y1 (op0 14 (b) [] []) = .error m := hd
    rw [HT2.out] at hq
    cases hq
   have hq : doC y1 (op0 14 (b) [] []) = .ok r3 := hd
   rw [HT2.out] at hq
   injection hq with hq
   clear hd
   subst hq
   subst he
   obtain ⟨oaB, ocB, rfl⟩ := OOc.none oO3
   clear oO3
   obtain ⟨y2, ey2⟩ : ∃ y, tickK y1 (b) = y := ⟨_, rfl⟩
   have HEB : Hid (tickK y1 (b) = y2) := ey2
   simp only [ey2] at oC3
   unfold corV
   simp only [ey2]
   clear ey2
   go_wp2_with (refine wpl_fresh rfl (.tmp 16) (.tmp 95) rfl #[.int .i64 y2.now, q5, v5, s5, kk5, cc5] _ rfl rfl (by kernel_rfl) rfl (cor_one oC3) ?_)
   intro w6 kB b4 s4
   have bb := nxt b3 b4
   have L2 : Hid (Bw w w6) := nxt L.out bb
   have ownB := oC3.on b4
   obtain ⟨gB, egB⟩ : ∃ g, w5.heap.size = g := ⟨_, rfl⟩
   rw [egB] at kB ⊢
   clear egB oC3 b3 b4 s4 L
   have L := L2
   clear L2
   have kC6 := kC4.on bb
   have oC6 := oC4.on bb
   clear kC4 oC4 c0 c1' c2 c3 c4 c5 bb kA ownA
   rw [HEB.out] at HT4
   obtain ⟨c0, c1', c2, c3, c4, c5⟩ := kC6.c6
   go_upto_region 19 with fail
   have HC := do_good w6 (HI.out.2.2.below L.out) _ c q1 v1 s1 k1 c1 oC6 HG1.out.1 (op0 14 (a + b) [] []) (.slice none 0 0) (op0_ok w6 ⟨by omega, by omega⟩)
   unfold corV opV op0 zeroM at HC
   go_wp2_with fail
   refine HC.mono ?_
   rintro e w7 ⟨hD, b3⟩
   clear HC
   rcases hD with ⟨r3, q7, v7, s7, kk7, cc7, o3, hd, he, oC3, oO3⟩ | ⟨m, hd, _, _⟩
   rotate_left
   ·have hq : doC c (op0 14 (a + b) [] []) = .error m := hd
    rw [HT3.out] at hq
    cases hq
   have hq : doC c (op0 14 (a + b) [] []) = .ok r3 := hd
   rw [HT3.out] at hq
   injection hq with hq
   clear hd
   subst hq
   subst he
   obtain ⟨oaC, ocC, rfl⟩ := OOc.none oO3
   clear oO3
   obtain ⟨y3, ey3⟩ : ∃ y, tickK c (a + b) = y := ⟨_, rfl⟩
   have HEC : Hid (tickK c (a + b) = y3) := ey3
   simp only [ey3] at oC3
   unfold corV
   simp only [ey3]
   clear ey3
   go_wp2_with (refine wpl_fresh rfl (.tmp 18) (.tmp 105) rfl #[.int .i64 y3.now, q7, v7, s7, kk7, cc7] _ rfl rfl (by kernel_rfl) rfl (cor_one oC3) ?_)
   intro w8 kC b4 s4
   have bb := nxt b3 b4
   have L2 : Hid (Bw w w8) := nxt L.out bb
   have ownC := oC3.on b4
   obtain ⟨gC, egC⟩ : ∃ g, w7.heap.size = g := ⟨_, rfl⟩
   rw [egC] at kC ⊢
   clear egC oC3 b3 b4 s4 L
   have L := L2
   clear L2
   have kC8 := kC6.on bb
   have kB8 := kB.on bb
   have oB8 := ownB.on bb
   clear kC6 oC6 kB ownB c0 c1' c2 c3 c4 c5 bb
   rw [HEC.out] at HT4 HG3
   have hy : y2 = y3 := HT4.out
   have hnow : Hid (y3.now = c.now + a + b) := by
    show y3.now = _
    rw [← HEC.out]
    show c.now + (a + b) = _
    omega
   clear HT4
   subst hy
   have HC := sameCore w8 y2 _ _ _ _ _ _ _ _ _ _ oB8.rd ownC.rd HG3.out
   unfold corV at HC
   obtain ⟨e0, e1, e2, e3, e4, e5⟩ := kB8.c6
   obtain ⟨f0, f1, f2, f3, f4, f5⟩ := kC.c6
   obtain ⟨h0, h1, h2, h3, h4, h5⟩ := kC8.c6
   have HK8 : Hid (Blk w8 gC #[.int .i64 y2.now, q7, v7, s7, kk7, cc7] 30 ∧ Blk w8 kc #[.int .i64 c.now, q1, v1, s1, k1, c1] 30) := ⟨kC, kC8⟩
   clear kC kC8 kB8 oB8 ownC
   go_wp2_with fail
   refine HC.mono ?_
   rintro e w9 ⟨rfl, b9⟩
   have HL : Hid (Bw w w9) := nxt L.out b9
   have f0' : w9.cell? ⟨gC, 0, none⟩ = some (.int .i64 (c.now + a + b)) := by
    rw [← hnow.out]
    exact (HK8.out.1.on b9).cell 0
   have h0' : w9.cell? ⟨kc, 0, none⟩ = some (.int .i64 c.now) := (HK8.out.2.on b9).cell 0
   clear HC e0 e1 e2 e3 e4 e5 f0 f1 f2 f3 f4 f5 h0 h1 h2 h3 h4 h5 HK8 b9 L hnow
   go_wp2_with fail
   go_ret
   exact ⟨rfl, HL.out⟩
end Go.Proofs.YtnpikgakpmkipabGreatDoor
namespace Go.Proofs.YtnpikgakpmkipabGreatDoor
open Go.RowKit Go.Lib Go.Deep
set_option maxRecDepth 100000
theorem cells3 : Tryz.prog.cellsOf 3 = 1 := by kernel_rfl
theorem cells9 : Tryz.prog.cellsOf 9 = 1 := by kernel_rfl
theorem cells84 : Tryz.prog.cellsOf 62 = 1 := by kernel_rfl
theorem cells86 : Tryz.prog.cellsOf 64 = 4 := by kernel_rfl
theorem i64b {z : Int} (h : (Lit.int .i64 z).wf = true) : -9223372036854775808 ≤ z ∧ z ≤ 9223372036854775807 := by
 simpa [Lit.wf, IntKind.min, IntKind.max, IntKind.signed, IntKind.bits] using h
theorem f64b {z : Nat} (h : (Lit.float .f64 z).wf = true) : z < 2 ^ 64 := by
 simpa [Lit.wf] using h
theorem flt_cell {H : Type} {enc : TypeId × Value → H} {W : World} {c : Value} {fuel : Nat} {x : DataW H × List MemPlace} (h : DataW.trod enc Tryz.prog W 0 (fun _ => true) true fuel 62 [c] = some x) : ∃ r, [c] = [Value.float .f64 r] ∧ r < 2 ^ 64 := by
 cases fuel with
 | zero => simp [DataW.trod] at h
 | succ n =>
  simp only [DataW.trod, Tryz.underlying62] at h
  cases c with
  | float k b =>
   simp at h
   obtain ⟨⟨rfl, hw⟩, _⟩ := h
   exact ⟨b, rfl, f64b hw⟩
  | _ => simp at h
theorem val_cells {H : Type} {enc : TypeId × Value → H} {W : World} {cs : List Value} {fuel : Nat} {x : DataW H × List MemPlace} (h : DataW.trod enc Tryz.prog W 0 (fun _ => true) true fuel 64 cs = some x) :
  ∃ y : Val, cs = [.int .i64 y.kind, .int .i64 y.num, .string y.text, .float .f64 y.real] ∧ (-9223372036854775808 ≤ y.kind ∧ y.kind ≤ 9223372036854775807) ∧ (-9223372036854775808 ≤ y.num ∧ y.num ≤ 9223372036854775807) ∧ y.text.size ≤ maxLen ∧ y.real < 2 ^ 64 := by
 obtain ⟨xs, n, _, rfl, hl, hlen, hf⟩ := DataW.trod_struct Tryz.underlying64 h
 rw [cells86] at hl
 match xs, hlen with
 | [y0, y1, y2, y3], _ =>
  have t0 : DataW.trod enc Tryz.prog W 0 (fun _ => true) true n 3 ((cs.drop 0).take (Tryz.prog.cellsOf 3)) = some y0 := by simpa using hf 0 _ rfl
  have t1 : DataW.trod enc Tryz.prog W 0 (fun _ => true) true n 3 ((cs.drop 1).take (Tryz.prog.cellsOf 3)) = some y1 := by simpa using hf 1 _ rfl
  have t2 : DataW.trod enc Tryz.prog W 0 (fun _ => true) true n 9 ((cs.drop 2).take (Tryz.prog.cellsOf 9)) = some y2 := by simpa using hf 2 _ rfl
  have t3 : DataW.trod enc Tryz.prog W 0 (fun _ => true) true n 62 ((cs.drop 3).take (Tryz.prog.cellsOf 62)) = some y3 := by simpa using hf 3 _ rfl
  match cs, hl with
  | [c0, c1, c2, c3], _ =>
   simp only [cells3, cells9, cells84, List.drop, List.take] at t0 t1 t2 t3
   obtain ⟨k, e0, _, wk⟩ := DataW.trod_int Tryz.underlying3 t0
   obtain ⟨m, e1, _, wm⟩ := DataW.trod_int Tryz.underlying3 t1
   obtain ⟨s, e2, _, ws⟩ := DataW.trod_string Tryz.underlying9 t2
   obtain ⟨r, e3, wr⟩ := flt_cell t3
   simp only [List.cons.injEq, and_true] at e0 e1 e2 e3
   subst e0 e1 e2 e3
   exact ⟨⟨k, m, s, r⟩, rfl, i64b wk, i64b wm, ws, wr⟩
theorem cells88 : Tryz.prog.cellsOf 66 = 5 := by kernel_rfl
theorem bytes88 : Tryz.prog.bytesOf 66 = 56 := by kernel_rfl
def InV (y : Val) : Prop := (-9223372036854775808 ≤ y.kind ∧ y.kind ≤ 9223372036854775807) ∧ (-9223372036854775808 ≤ y.num ∧ y.num ≤ 9223372036854775807) ∧ y.text.size ≤ maxLen ∧ y.real < 2 ^ 64
def InP (p : Pr) : Prop := p.name.size ≤ maxLen ∧ InV p.val
theorem prop_cells {H : Type} {enc : TypeId × Value → H} {W : World} {cs : List Value} {fuel : Nat} {x : DataW H × List MemPlace} (h : DataW.trod enc Tryz.prog W 0 (fun _ => true) true fuel 66 cs = some x) :
  ∃ y : Pr, cs = [.string y.name, .int .i64 y.val.kind, .int .i64 y.val.num, .string y.val.text, .float .f64 y.val.real] ∧ InP y := by
 obtain ⟨xs, n, _, rfl, hl, hlen, hf⟩ := DataW.trod_struct Tryz.underlying66 h
 rw [cells88] at hl
 match xs, hlen with
 | [y0, y1], _ =>
  have t0 : DataW.trod enc Tryz.prog W 0 (fun _ => true) true n 9 ((cs.drop 0).take (Tryz.prog.cellsOf 9)) = some y0 := by simpa using hf 0 _ rfl
  have t1 : DataW.trod enc Tryz.prog W 0 (fun _ => true) true n 64 ((cs.drop 1).take (Tryz.prog.cellsOf 64)) = some y1 := by simpa using hf 1 _ rfl
  match cs, hl with
  | [c0, c1, c2, c3, c4], _ =>
   simp only [cells9, cells86, List.drop, List.take] at t0 t1
   obtain ⟨s, e0, _, ws⟩ := DataW.trod_string Tryz.underlying9 t0
   obtain ⟨y, e1, hy⟩ := val_cells t1
   simp only [List.cons.injEq, and_true] at e0 e1
   obtain ⟨rfl, rfl, rfl, rfl⟩ := e1
   subst e0
   exact ⟨⟨s, y⟩, rfl, ws, hy⟩
theorem prop_at {H : Type} {enc : TypeId × Value → H} {W : World} {a : Addr} {cs : List Value} {fuel : Nat} {x : DataW H × List MemPlace}
  (hc : W.cells? 0 a (Tryz.prog.cellsOf 66) = some cs) (h : DataW.trod enc Tryz.prog W 0 (fun _ => true) true fuel 66 cs = some x) :
  ∃ (b o : Nat) (y : Pr), a = ⟨b, o, none⟩ ∧ PrAt W b o y ∧ InP y := by
 obtain ⟨y, rfl, hy⟩ := prop_cells h
 rw [cells88] at hc
 obtain ⟨b, o, sp⟩ := a
 obtain ⟨_, _, hh⟩ := World.cells?_some hc
 have h0 := hh 0 (by omega)
 have h1 := hh 1 (by omega)
 have h2 := hh 2 (by omega)
 have h3 := hh 3 (by omega)
 have h4 := hh 4 (by omega)
 simp only [Addr.add, List.getElem?_cons_zero, List.getElem?_cons_succ] at h0 h1 h2 h3 h4
 have hsp : sp = none := by simpa [Addr.add] using World.cell?_spot h0
 subst hsp
 exact ⟨b, o, y, rfl, ⟨h0, h1, h2, h3, h4⟩, hy⟩
theorem rd_props {H : Type} {enc : TypeId × Value → H} {W : World} {a : Option Addr} {n c : Nat} {d : DataW H} {p : List MemPlace}
  (h : DataW.Trod enc Tryz.prog W 0 (fun _ => true) true 31 (.slice a n c) d p) :
  ∃ l : List Pr, RdP W (.slice a n c) l ∧ l.length = n ∧ (∀ q ∈ l, InP q) ∧ (n = 0 ∨ ∃ E S, d = .slice E S ∧ n ≤ E.length + S.length) := by
 obtain ⟨fuel, hf⟩ := h
 rcases open_slice Tryz.underlying31 hf with ⟨hcs, _⟩ | ⟨x, l, cp, m, f, D, Pl, hcs, _, hl, hm, hmm, hx, hel⟩
 ·simp [Value.cells] at hcs
  obtain ⟨rfl, rfl, rfl⟩ := hcs
  exact ⟨[], .inl ⟨⟨_, _, rfl⟩, rfl⟩, rfl, fun q hq => by simp at hq, .inl rfl⟩
 ·simp [Value.cells] at hcs
  obtain ⟨rfl, rfl, rfl⟩ := hcs
  have hmc : m = c := by simpa using hmm
  subst hmc
  have hd := (Prod.mk.inj hx).1
  rcases Nat.eq_zero_or_pos n with h0 | h0
  ·subst h0
   exact ⟨[], .inl ⟨⟨_, _, rfl⟩, rfl⟩, rfl, fun q hq => by simp at hq, .inl rfl⟩
  ·have key : ∀ i, i < n → ∃ (b o : Nat) (y : Pr), x.add (i * 5) = ⟨b, o, none⟩ ∧ PrAt W b o y ∧ InP y := fun i hi => by
    obtain ⟨cs', h1, h2⟩ := hel i (by omega)
    have := prop_at h1 h2
    rwa [cells88] at this
   obtain ⟨b, o, _, e0, _⟩ := key 0 (by omega)
   have ex : x = ⟨b, o, none⟩ := by simpa [Addr.add] using e0
   subst ex
   have key2 : ∀ i, i < n → ∃ y : Pr, PrAt W b (o + i * 5) y ∧ InP y := fun i hi => by
    obtain ⟨b', o', y, e, g, hy⟩ := key i hi
    rw [Addr.add_lit] at e
    cases e
    exact ⟨y, g, hy⟩
   have hall : ∀ k, k ≤ n → ∃ l : List Pr, l.length = k ∧ ∀ i (h : i < l.length), PrAt W b (o + i * 5) l[i] ∧ InP l[i] := by
    intro k
    induction k with
    | zero => exact fun _ => ⟨[], rfl, fun i h => by simp at h⟩
    | succ k ih =>
     intro hk
     obtain ⟨l, hl, hh⟩ := ih (by omega)
     obtain ⟨y, hy⟩ := key2 k (by omega)
     refine ⟨l ++ [y], by simp [hl], fun i hi => ?_⟩
     by_cases e : i < l.length
     ·rw [List.getElem_append_left e]; exact hh i e
     ·have : i = k := by simp at hi; omega
      subst this
      rw [List.getElem_append_right (by omega)]
      simpa using hy
   obtain ⟨l, hl2, hh⟩ := hall n (Nat.le_refl _)
   refine ⟨l, .inr ⟨b, o, m, by rw [hl2], by omega, fun i hi => (hh i hi).1⟩, hl2, fun q hq => ?_, .inr ⟨_, _, hd, by simp⟩⟩
   obtain ⟨i, hi, rfl⟩ := List.mem_iff_getElem.1 hq
   exact (hh i hi).2
theorem cells4 : Tryz.prog.cellsOf 4 = 1 := by kernel_rfl
theorem cells29 : Tryz.prog.cellsOf 31 = 1 := by kernel_rfl
theorem cells31 : Tryz.prog.cellsOf 33 = 5 := by kernel_rfl
theorem tx_of (s : ByteArray) : Value.string s = tx s.data.toList := by cases s; simp [tx]
theorem wAll_mem {H : Type} {e : TypeId} : ∀ {ds : List (DataW H)} {d : DataW H}, d ∈ ds → ∀ n ∈ d.weights Tryz.prog e, n ∈ DataW.weightsAll Tryz.prog e ds
 | [], _, h, _, _ => by simp at h
 | x :: ds, d, h, n, hn => by
  rw [DataW.weightsAll]
  rcases List.mem_cons.1 h with rfl | h
  ·exact List.mem_append_left _ hn
  ·exact List.mem_append_right _ (wAll_mem h n hn)
def InM (m : Msg) : Prop := (∀ p ∈ m.props, InP p) ∧ m.props.length ≤ 2513169434916
theorem props_cellW {H : Type} {enc : TypeId × Value → H} {W : World} {c : Value} {fuel : Nat} {x : DataW H × List MemPlace} (h : DataW.trod enc Tryz.prog W 0 (fun _ => true) true fuel 31 [c] = some x) (hw : ∀ n ∈ x.1.weights Tryz.prog 31, n ≤ reachBytes) :
  ∃ l : List Pr, RdP W c l ∧ (∀ p ∈ l, InP p) ∧ l.length ≤ 2513169434916 := by
 rcases open_slice Tryz.underlying31 h with ⟨hcs, _⟩ | ⟨a, l, cp, m, f, D, Pl, hcs, _⟩
 ·simp only [List.cons.injEq, and_true] at hcs
  subst hcs
  exact ⟨[], .inl ⟨⟨_, _, rfl⟩, rfl⟩, by simp, by simp⟩
 ·simp only [List.cons.injEq, and_true] at hcs
  subst hcs
  obtain ⟨l', hl, hn, hp, hb⟩ := rd_props (d := x.1) (p := x.2) ⟨fuel, h⟩
  refine ⟨l', hl, hp, ?_⟩
  rcases hb with hb | ⟨E, S, hd, hb⟩
  ·omega
  ·have := hw ((E.length + S.length) * 56) (by rw [hd]; simp [DataW.weights, Tryz.underlying31, bytes88])
   simp only [reachBytes] at this
   omega
theorem msg_cellsW {H : Type} {enc : TypeId × Value → H} {W : World} {cs : List Value} {fuel : Nat} {x : DataW H × List MemPlace} (h : DataW.trod enc Tryz.prog W 0 (fun _ => true) true fuel 33 cs = some x) (hw : ∀ n ∈ x.1.weights Tryz.prog 33, n ≤ reachBytes) :
  ∃ (y : Msg) (pv : Value), cs = msgV y pv ∧ RdP W pv y.props ∧ InM y := by
 obtain ⟨xs, n, _, rfl, hl, hlen, hf⟩ := DataW.trod_struct Tryz.underlying33 h
 rw [cells31] at hl
 match xs, hlen with
 | [y0, y1, y2, y3, y4], _ =>
  have t0 : DataW.trod enc Tryz.prog W 0 (fun _ => true) true n 9 ((cs.drop 0).take (Tryz.prog.cellsOf 9)) = some y0 := by simpa using hf 0 _ rfl
  have t1 : DataW.trod enc Tryz.prog W 0 (fun _ => true) true n 9 ((cs.drop 1).take (Tryz.prog.cellsOf 9)) = some y1 := by simpa using hf 1 _ rfl
  have t2 : DataW.trod enc Tryz.prog W 0 (fun _ => true) true n 31 ((cs.drop 2).take (Tryz.prog.cellsOf 31)) = some y2 := by simpa using hf 2 _ rfl
  have t3 : DataW.trod enc Tryz.prog W 0 (fun _ => true) true n 4 ((cs.drop 3).take (Tryz.prog.cellsOf 4)) = some y3 := by simpa using hf 3 _ rfl
  have t4 : DataW.trod enc Tryz.prog W 0 (fun _ => true) true n 3 ((cs.drop 4).take (Tryz.prog.cellsOf 3)) = some y4 := by simpa using hf 4 _ rfl
  match cs, hl with
  | [c0, c1, c2, c3, c4], _ =>
   simp only [cells3, cells4, cells9, cells29, List.drop, List.take] at t0 t1 t2 t3 t4
   obtain ⟨s, e0, _, _⟩ := DataW.trod_string Tryz.underlying9 t0
   obtain ⟨b, e1, _, _⟩ := DataW.trod_string Tryz.underlying9 t1
   obtain ⟨l, hp, hq⟩ := props_cellW t2 (fun n hn => hw n (by simp [DataW.weights, Tryz.underlying33, DataW.weightsEach]; simp [hn]))
   obtain ⟨d, e3, _⟩ := DataW.trod_bool Tryz.underlying4 t3
   obtain ⟨u, e4, _, _⟩ := DataW.trod_int Tryz.underlying3 t4
   simp only [List.cons.injEq, and_true] at e0 e1 e3 e4
   subst e0 e1 e3 e4
   exact ⟨⟨s.data.toList, b.data.toList, l, d, u⟩, c2, by simp only [msgV, tx_of], hp, hq⟩
theorem rd_listW {H : Type} {enc : TypeId × Value → H} {W : World} {α : Type} {t e k : Nat} {R : List Value → α → Prop} (ht : Tryz.prog.underlying t = some (.slice e)) (hk : Tryz.prog.cellsOf e = k) (k0 : 0 < k)
  (hE : ∀ cs fuel x, DataW.trod enc Tryz.prog W 0 (fun _ => true) true fuel e cs = some x → (∀ n ∈ x.1.weights Tryz.prog e, n ≤ reachBytes) → ∃ y, (∀ u ∈ cs, u.oneCell' = true) ∧ R cs y)
  {v : Value} {fuel : Nat} {x : DataW H × List MemPlace} (h : DataW.trod enc Tryz.prog W 0 (fun _ => true) true fuel t [v] = some x) (hw : ∀ n ∈ x.1.weights Tryz.prog t, n ≤ reachBytes) :
  ∃ l : List α, RdL k R W v l ∧ (l.length = 0 ∨ ∃ E S Pl, x = (.slice E S, Pl) ∧ l.length ≤ E.length + S.length) := by
 rcases open_slice ht h with ⟨hcs, _⟩ | ⟨a, n, c, m, f, D, Pl, hcs, _, hl, hm, hmm, hx, hel⟩
 ·simp only [List.cons.injEq, and_true] at hcs
  subst hcs
  exact ⟨[], ⟨[], rfl, .inl ⟨⟨_, _, rfl⟩, rfl⟩, by simp⟩, .inl rfl⟩
 ·simp only [List.cons.injEq, and_true] at hcs
  subst hcs
  have hmc : m = c := by simpa using hmm
  subst hmc
  rcases Nat.eq_zero_or_pos n with h0 | h0
  ·subst h0
   exact ⟨[], ⟨[], rfl, .inl ⟨⟨_, _, rfl⟩, rfl⟩, by simp⟩, .inl rfl⟩
  ·have key : ∀ i, i < n → ∃ (b o : Nat) (cs : List Value) (y : α), a.add (i * k) = ⟨b, o, none⟩ ∧ cs.length = k ∧ (∀ j, j < k → W.cell? ⟨b, o + j, none⟩ = cs[j]?) ∧ (∀ u ∈ cs, u.oneCell' = true) ∧ R cs y := fun i hi => by
    obtain ⟨cs', h1, h2⟩ := hel i (by omega)
    obtain ⟨y, h3, h4⟩ := hE _ _ _ h2 (fun n' hn' => hw n' (by
     rw [hx]
     simp only [DataW.weights, ht]
     exact List.mem_cons_of_mem _ (List.mem_append_left _ (wAll_mem (List.mem_map.2 ⟨i, by simp; omega, rfl⟩) n' hn'))))
    rw [hk] at h1
    obtain ⟨_, hlen, hh⟩ := World.cells?_some h1
    generalize a.add (i * k) = ad at *
    obtain ⟨b, o, sp⟩ := ad
    have hc0 := hh 0 k0
    have hsp : sp = none := by
     rw [List.getElem?_eq_getElem (by omega)] at hc0
     simpa [Addr.add] using World.cell?_spot hc0
    subst hsp
    exact ⟨b, o, cs', y, rfl, hlen, fun j hj => by rw [← hh j hj, Addr.add_lit], h3, h4⟩
   obtain ⟨b, o, _, _, e0, _⟩ := key 0 (by omega)
   have ex : a = ⟨b, o, none⟩ := by simpa [Addr.add] using e0
   subst ex
   have hall : ∀ m, m ≤ n → ∃ zs : Zs α, zs.length = m ∧ (∀ j u, (cellsZ zs)[j]? = some u → W.cell? ⟨b, o + j, none⟩ = some u) ∧ ∀ z ∈ zs, (z.1.length = k ∧ ∀ u ∈ z.1, u.oneCell' = true) ∧ R z.1 z.2 := by
    intro m
    induction m with
    | zero => exact fun _ => ⟨[], rfl, fun j u h => by simp [cellsZ] at h, by simp⟩
    | succ m ih =>
     intro hm
     obtain ⟨zs, hl, h1, h2⟩ := ih (by omega)
     obtain ⟨b', o', cs, y, e, h3, h4, h5, h6⟩ := key m (by omega)
     rw [Addr.add_lit] at e
     cases e
     have hcl : (cellsZ zs).length = m * k := by rw [cellsZ_len (fun z hz => (h2 z hz).1.1), hl]
     refine ⟨zs ++ [(cs, y)], by simp [hl], fun j u hj => ?_, fun z hz => ?_⟩
     ·rw [cellsZ_app] at hj
      by_cases hlt : j < m * k
      ·rw [List.getElem?_append_left (by omega)] at hj
       exact h1 j u hj
      ·rw [List.getElem?_append_right (by omega), hcl] at hj
       have hj2 : j - m * k < k := by
        have := (List.getElem?_eq_some_iff.1 hj).1
        simp [cellsZ] at this
        omega
       have h7 := h4 (j - m * k) hj2
       have e9 : o + m * k + (j - m * k) = o + j := by omega
       rw [e9] at h7
       rw [h7]
       simpa [cellsZ] using hj
     ·rcases List.mem_append.1 hz with hz | hz
      ·exact h2 z hz
      ·simp at hz
       subst hz
       exact ⟨⟨h3, h5⟩, h6⟩
   obtain ⟨zs, hl2, h1, h2⟩ := hall n (Nat.le_refl _)
   refine ⟨zs.map (·.2), ⟨zs, rfl, .inr ⟨b, o, m, by rw [hl2], by omega, h1⟩, h2⟩, .inr ⟨_, _, _, hx, by simp [hl2]⟩⟩
theorem cells35o : Tryz.prog.cellsOf 35 = 14 := by kernel_rfl
theorem opr_cellsW {H : Type} {enc : TypeId × Value → H} {W : World} {cs : List Value} {fuel : Nat} {x : DataW H × List MemPlace} (h : DataW.trod enc Tryz.prog W 0 (fun _ => true) true fuel 35 cs = some x) (hw : ∀ n ∈ x.1.weights Tryz.prog 35, n ≤ reachBytes) :
  ∃ (y : Opr) (pv : Value), cs = opL y pv ∧ RdP W pv y.msg.props ∧ InO y := by
 obtain ⟨xs, n, _, rfl, hl, hlen, hf⟩ := DataW.trod_struct Tryz.underlying35 h
 rw [cells35o] at hl
 match xs, hlen with
 | [y0, y1, y2, y3, y4, y5, y6, y7, y8, y9], _ =>
  have t0 : DataW.trod enc Tryz.prog W 0 (fun _ => true) true n 3 ((cs.drop 0).take (Tryz.prog.cellsOf 3)) = some y0 := by simpa using hf 0 _ rfl
  have t1 : DataW.trod enc Tryz.prog W 0 (fun _ => true) true n 3 ((cs.drop 1).take (Tryz.prog.cellsOf 3)) = some y1 := by simpa using hf 1 _ rfl
  have t2 : DataW.trod enc Tryz.prog W 0 (fun _ => true) true n 3 ((cs.drop 2).take (Tryz.prog.cellsOf 3)) = some y2 := by simpa using hf 2 _ rfl
  have t3 : DataW.trod enc Tryz.prog W 0 (fun _ => true) true n 3 ((cs.drop 3).take (Tryz.prog.cellsOf 3)) = some y3 := by simpa using hf 3 _ rfl
  have t4 : DataW.trod enc Tryz.prog W 0 (fun _ => true) true n 9 ((cs.drop 4).take (Tryz.prog.cellsOf 9)) = some y4 := by simpa using hf 4 _ rfl
  have t5 : DataW.trod enc Tryz.prog W 0 (fun _ => true) true n 9 ((cs.drop 5).take (Tryz.prog.cellsOf 9)) = some y5 := by simpa using hf 5 _ rfl
  have t6 : DataW.trod enc Tryz.prog W 0 (fun _ => true) true n 4 ((cs.drop 6).take (Tryz.prog.cellsOf 4)) = some y6 := by simpa using hf 6 _ rfl
  have t7 : DataW.trod enc Tryz.prog W 0 (fun _ => true) true n 4 ((cs.drop 7).take (Tryz.prog.cellsOf 4)) = some y7 := by simpa using hf 7 _ rfl
  have t8 : DataW.trod enc Tryz.prog W 0 (fun _ => true) true n 4 ((cs.drop 8).take (Tryz.prog.cellsOf 4)) = some y8 := by simpa using hf 8 _ rfl
  have t9 : DataW.trod enc Tryz.prog W 0 (fun _ => true) true n 33 ((cs.drop 9).take (Tryz.prog.cellsOf 33)) = some y9 := by simpa using hf 9 _ rfl
  match cs, hl with
  | [c0, c1, c2, c3, c4, c5, c6, c7, c8, c9, c10, c11, c12, c13], _ =>
   simp only [cells3, cells4, cells9, cells31, List.drop, List.take] at t0 t1 t2 t3 t4 t5 t6 t7 t8 t9
   obtain ⟨a0, e0, _, w0⟩ := DataW.trod_int Tryz.underlying3 t0
   obtain ⟨a1, e1, _, w1⟩ := DataW.trod_int Tryz.underlying3 t1
   obtain ⟨a2, e2, _, w2⟩ := DataW.trod_int Tryz.underlying3 t2
   obtain ⟨a3, e3, _, w3⟩ := DataW.trod_int Tryz.underlying3 t3
   obtain ⟨a4, e4, _, _⟩ := DataW.trod_string Tryz.underlying9 t4
   obtain ⟨a5, e5, _, _⟩ := DataW.trod_string Tryz.underlying9 t5
   obtain ⟨a6, e6, _⟩ := DataW.trod_bool Tryz.underlying4 t6
   obtain ⟨a7, e7, _⟩ := DataW.trod_bool Tryz.underlying4 t7
   obtain ⟨a8, e8, _⟩ := DataW.trod_bool Tryz.underlying4 t8
   obtain ⟨m, pv, e9, hp, hq⟩ := msg_cellsW t9 (fun n hn => hw n (by simp [DataW.weights, Tryz.underlying35, DataW.weightsEach]; simp [hn]))
   simp only [msgV, List.cons.injEq, and_true] at e0 e1 e2 e3 e4 e5 e6 e7 e8 e9
   obtain ⟨rfl, rfl, rfl, rfl, rfl⟩ := e9
   subst e0 e1 e2 e3 e4 e5 e6 e7 e8
   refine ⟨⟨a0, a1, a2, a3, a4.data.toList, a5.data.toList, a6, a7, a8, m⟩, _, ?_, hp, i64b w3, hq.2⟩
   rw [tx_of a4, tx_of a5]
   rfl
theorem rd_ops {H : Type} {enc : TypeId × Value → H} {W : World} {a : Option Addr} {k c : Nat} {d : DataW H} {p : List MemPlace} (h : DataW.Trod enc Tryz.prog W 0 (fun _ => true) true 22 (.slice a k c) d p) (hw : ∀ n ∈ d.weights Tryz.prog 22, n ≤ reachBytes) : ∃ zs : Zs Opr, RdOs W (.slice a k c) zs := by
 obtain ⟨fuel, h⟩ := h
 have h' : DataW.trod enc Tryz.prog W 0 (fun _ => true) true fuel 22 [.slice a k c] = some (d, p) := h
 obtain ⟨l, ⟨zs, _, h1⟩, h2⟩ := rd_listW (R := fun vs y => OpR W vs y ∧ InO y) Tryz.underlying22 cells35o (by decide) (fun cs fuel x h hw => by
  obtain ⟨y, pv, rfl, hp, hq⟩ := opr_cellsW h hw
  refine ⟨y, fun u hu => ?_, ⟨pv, rfl, hp⟩, hq⟩
  have := hp.one
  simp only [opL, List.mem_cons, List.not_mem_nil, or_false] at hu
  rcases hu with rfl | rfl | rfl | rfl | rfl | rfl | rfl | rfl | rfl | rfl | rfl | rfl | rfl | rfl <;> first | rfl | exact this) h' hw
 exact ⟨zs, ⟨h1.1, fun z hz => ⟨(h1.2 z hz).1, (h1.2 z hz).2.1⟩⟩, fun z hz => (h1.2 z hz).2.2⟩
end Go.Proofs.YtnpikgakpmkipabGreatDoor
namespace Go.Proofs.YtnpikgakpmkipabGreatDoor
open Go.RowKit Go.Lib Go.Deep Go.WideShapes
set_option maxRecDepth 100000
theorem okWide_len {w : World} {base : Nat} {a : Option Addr} {k c : Nat} (h : Value.okWide Tryz.prog w .any base 22 (.slice a k c)) : k ≤ 9223372036854775807 := by
 simp only [Value.okWide, Tryz.underlying22, Cell.okWide] at h
 cases a with
 | none =>
  cases k with
  | zero => omega
  | succ k => simp [Cell.ok, Tryz.underlying22] at h
 | some a =>
  simp only [Cell.ok, Tryz.underlying22] at h
  have h1 := h.1
  have h2 := h.2.1
  have h3 : IntKind.i64.max = 9223372036854775807 := by decide
  rw [h3] at h2
  omega
theorem ops_len {W w : World} {base : Nat} {a : Option Addr} {k c : Nat} {zs : Zs Opr} (hx : RdOs W (.slice a k c) zs) (h : Value.okWide Tryz.prog w .any base 22 (.slice a k c)) : zs.length ≤ 9223372036854775807 := by
 obtain ⟨va, vc, e⟩ := hx.1.len
 injection e with _ e _
 rw [← e]
 exact okWide_len h
end Go.Proofs.YtnpikgakpmkipabGreatDoor
