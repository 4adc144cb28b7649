/- DrumDoes answers true at every input. -/
import Derived.Test.YtgbgeoplbmjcbaaPairs
import Derived.Deep.CutBlock
namespace Go.Proofs.Ytgbgeoplbmjcbaa
open Go.RowKit Go.Lib
attribute [local go_sem ↓] Go.wp_at_zero Go.wp_at_succ

/-- A slice of calls that came in. -/
def RdC (w : World) (v : Value) (N : Nat) : Prop := ∃ (a : Option Addr) (c : Nat), v = .slice a N c ∧ ∀ k, k < N → ∃ (b o : Nat) (x y z : Int) (f : UInt8) (s : Bool), a = some ⟨b, o, none⟩ ∧ (-9223372036854775808 ≤ y ∧ y ≤ 9223372036854775807) ∧ (-9223372036854775808 ≤ z ∧ z ≤ 9223372036854775807) ∧
  w.cell? ⟨b, o + k * 5, none⟩ = some (.int .i64 x) ∧ w.cell? ⟨b, o + k * 5 + 1, none⟩ = some (.int .i64 y) ∧ w.cell? ⟨b, o + k * 5 + 2, none⟩ = some (.int .i64 z) ∧ w.cell? ⟨b, o + k * 5 + 3, none⟩ = some (.int .u8 (f.toNat : Int)) ∧ w.cell? ⟨b, o + k * 5 + 4, none⟩ = some (.bool s)
/-- Both drums, with no call at hand. -/
def T0 (B : Nat) (w0 : World) (q m n : Nat) (j : Nat) (w : World) : Prop := ∃ X Y s, Drum w X q n (mkS s.safe s.log s.ops s.down s.armed s.keep) ∧ Ref w Y m n s.safe s.log s.ops (!s.down) s.armed s.k ∧ (∀ k, X k → ¬ Y k) ∧ (∀ k, X k → B ≤ k) ∧ (∀ k, Y k → B ≤ k) ∧ Below B w0 w ∧ St.Ok s n j
theorem T0.tt {B : Nat} {w0 w : World} {q m n j : Nat} (h : T0 B w0 q m n j w) (hB : B ≤ w0.heap.size) (C : Array Value) : TT B w0 q m n w.heap.size C j (w.alloc (.cells C 34)) := by
  obtain ⟨X, Y, s, h1, h2, h3, h4, h5, h6, h7⟩ := h
  have hb : Below w.heap.size w (w.alloc (.cells C 34)) := (Below.refl _ _).alloc (Nat.le_refl _) _
  exact ⟨X, Y, s, ⟨h1.below hb, h2.on (Step.of_below (X := fun _ => False) hb) (fun _ _ h => h), h3, h4, h5, h6.trans (hb.mono (Nat.le_trans hB h6.size)), heap_alloc_new w _, fun hx => absurd (Raw.lt' h1 _ hx) (Nat.lt_irrefl _), fun hy => absurd (h2.lt _ hy) (Nat.lt_irrefl _)⟩, h7⟩
theorem Two.t0 {B : Nat} {w0 w : World} {X Y : Nat → Prop} {q m n V j : Nat} {C : Array Value} {s : St} (h : Two B w0 w X Y q m n V C s) (ok : s.Ok n j) : T0 B w0 q m n j w := ⟨X, Y, s, h.dr, h.re, h.ap, h.ax, h.ay, h.be, ok⟩
theorem T0.drew {B : Nat} {w0 w : World} {q m n j : Nat} (h : T0 B w0 q m n j w) : T0 B w0 q m n j w.drew := by
  obtain ⟨X, Y, s, h1, ⟨a, b, c, d, e, hr⟩, h3, h4, h5, h6, h7⟩ := h
  exact ⟨X, Y, s, h1.drew, ⟨a, b, c, d, e, hr.drew⟩, h3, h4, h5, h6.drew, h7⟩
theorem Two.drew {B : Nat} {w0 w : World} {X Y : Nat → Prop} {q m n V : Nat} {C : Array Value} {s : St} (h : Two B w0 w X Y q m n V C s) : Two B w0 w.drew X Y q m n V C s := by
  obtain ⟨a, b, c, d, e, hr⟩ := h.re
  exact ⟨h.dr.drew, ⟨a, b, c, d, e, hr.drew⟩, h.ap, h.ax, h.ay, h.be.drew, h.hv, h.vx, h.vy⟩
theorem TT.drew {B : Nat} {w0 w : World} {q m n V j : Nat} {C : Array Value} (h : TT B w0 q m n V C j w) : TT B w0 q m n V C j w.drew := by
  obtain ⟨X, Y, s, h2, ho⟩ := h
  exact ⟨X, Y, s, h2.drew, ho⟩
theorem TT.mono {B : Nat} {w0 w : World} {q m n V j : Nat} {C : Array Value} (h : TT B w0 q m n V C j w) : TT B w0 q m n V C (j + 1) w := by
  obtain ⟨X, Y, s, h2, ho⟩ := h
  exact ⟨X, Y, s, h2, ho.mono⟩
theorem TT.hv {B : Nat} {w0 w : World} {q m n V j : Nat} {C : Array Value} (h : TT B w0 q m n V C j w) : w.heap[V]? = some (.cells C 34 (0, 0)) := by
  obtain ⟨X, Y, s, h2, ho⟩ := h
  exact h2.hv
theorem five {w : World} {V : Nat} {a b c d e : Value} (h : w.heap[V]? = some (.cells #[a, b, c, d, e] 34 (0, 0))) : w.cell? ⟨V, 0, none⟩ = some a ∧ w.cell? ⟨V, 1, none⟩ = some b ∧ w.cell? ⟨V, 2, none⟩ = some c ∧ w.cell? ⟨V, 3, none⟩ = some d ∧ w.cell? ⟨V, 4, none⟩ = some e :=
  ⟨by rw [cell_of_row _ _ _ _ _ _ h]; rfl, by rw [cell_of_row _ _ _ _ _ _ h]; rfl, by rw [cell_of_row _ _ _ _ _ _ h]; rfl, by rw [cell_of_row _ _ _ _ _ _ h]; rfl, by rw [cell_of_row _ _ _ _ _ _ h]; rfl⟩
/-- Both drums, the power on. -/
structure Duo (B : Nat) (w0 w : World) (X Y : Nat → Prop) (q m n : Nat) (s : St) : Prop where
  dr : Drum w X q n (mkS s.safe s.log s.ops false s.armed s.keep)
  re : Ref w Y m n s.safe s.log s.ops true s.armed s.k
  be : Below B w0 w
theorem on_t0 {B : Nat} {w0 w : World} {q m n j : Nat} (h : T0 B w0 q m n j w) (hB : B ≤ w0.heap.size) :
    Calls Try.prog 21 #[.pointer (some ⟨q, 0, none⟩)] w fun e w' => e = .returned (.tuple #[]) ∧ (∃ x, w'.cell? ⟨m, 3, none⟩ = some x) ∧ w'.frozen? ⟨m, 3, none⟩ = false ∧ Hid (∃ X Y s, Duo B w0 (w'.setCell ⟨m, 3, none⟩ (.bool true)) X Y q m n s ∧ s.Ok n j) := by
  obtain ⟨X, Y, s, h1, h2, h3, h4, h5, h6, h7⟩ := h
  refine (on_any w X q n _ h1).mono ?_
  rintro e w' ⟨rfl, hd', hs'⟩
  have hr' := h2.on hs' (fun k hy hx => h3 k hx hy)
  obtain ⟨sv, wv, hv, ss, hs, hr⟩ := hr'
  obtain ⟨c0, c1, c2, c3, c4, c5, c6, fz⟩ := hr.cells
  refine ⟨rfl, ⟨_, c3⟩, fz 3, X, Y, s, ⟨hd'.on ((Step.refl Y w').set hr.hm _) h3, ⟨sv, wv, hv, ss, hs, hr.set 3 (.bool true)⟩, ?_⟩, h7⟩
  exact (h6.trans (hs'.below h4 (Nat.le_trans hB h6.size))).setCell (h5 m hr.hm) _
theorem newN_bounds (p : Int) : 1 ≤ newN p ∧ newN p ≤ 4096 := by unfold newN; omega

set_option maxRecDepth 100000 in
set_option maxHeartbeats 4000000 in
theorem does_any (w : World) (p : Int) (v : Value) (N : Nat) (hp : -9223372036854775808 ≤ p) (hp' : p < 9223372036854775808) (hv : RdC w v N) :
    Calls Try.prog 3 #[.int .i64 p, v] w fun e w' => e = .returned (.bool true) ∧ Below w.heap.size w w' := by
  have N8 := wakes_any w
  obtain ⟨va, vc, rfl, hc⟩ := hv
  have HC : Hid (∀ k, k < N → ∃ (b o : Nat) (x y z : Int) (f : UInt8) (s : Bool), va = some ⟨b, o, none⟩ ∧ (-9223372036854775808 ≤ y ∧ y ≤ 9223372036854775807) ∧ (-9223372036854775808 ≤ z ∧ z ≤ 9223372036854775807) ∧
    w.cell? ⟨b, o + k * 5, none⟩ = some (.int .i64 x) ∧ w.cell? ⟨b, o + k * 5 + 1, none⟩ = some (.int .i64 y) ∧ w.cell? ⟨b, o + k * 5 + 2, none⟩ = some (.int .i64 z) ∧ w.cell? ⟨b, o + k * 5 + 3, none⟩ = some (.int .u8 (f.toNat : Int)) ∧ w.cell? ⟨b, o + k * 5 + 4, none⟩ = some (.bool s)) := hc
  clear hc
  by_cases hN : N ≤ 200
  · go_enter Try.func3, Try.ntmps3
    go_wp2_with (go_at_call 8; refine N8.mono ?_; rintro e w1 ⟨rfl, hb1⟩)
    clear N8
    refine (new_any w1 p hp hp').mono ?_
    rintro e w2 ⟨X, q, rfl, hd2, hb2, hX⟩
    go_wp2_with fail
    refine (new_ref w2 p hp hp').mono ?_
    rintro e w3 ⟨Y, m, rfl, hr3, hb3, hY⟩
    have hn := newN_bounds p
    rw [new_mk] at hd2
    have HZl : Hid ((List.replicate (newN p * 256) (0 : UInt8)).length = newN p * 256) := List.length_replicate
    generalize newN p = n at *
    generalize List.replicate (n * 256) (0 : UInt8) = Z at *
    have b2 : Below w.heap.size w w2 := hb1.trans (hb2.mono hb1.size)
    have hd3 := hd2.below hb3
    have HT : Hid (T0 w.heap.size w q m n 0 w3) := ⟨X, Y, ⟨Z, [], 0, false, 0, 0, 0⟩, hd3, hr3, fun k hx hy => absurd (Raw.lt' hd2 k hx) (Nat.not_lt.2 (hY k hy)), fun k hx => Nat.le_trans hb1.size (hX k hx), fun k hy => Nat.le_trans b2.size (hY k hy), b2.trans (hb3.mono b2.size), .inl rfl, fun x hx => (by cases hx), HZl.out, Nat.le_refl _, Nat.le_refl _, by show -9223372036854775808 ≤ (0 : Int); omega, by show (0 : Int) < 9223372036854775808; omega⟩
    have N11 := pages_any w3.drew X q n _ hd3.drew
    have hcm : ∃ a cap, w3.cell? ⟨m, 0, none⟩ = some (.slice a n cap) := by
      obtain ⟨sv, wv, hv, ss, hs, hr⟩ := hr3
      obtain ⟨c0, -⟩ := hr.cells
      obtain ⟨sa, scap, rfl, -⟩ := row_cells hr.bs
      exact ⟨_, _, c0⟩
    obtain ⟨sa, scap, cm⟩ := hcm
    clear hd2 hd3 hr3 hb1 hb2 hb3 hX hY b2 HZl
    go_wp2_with fail
    go_cut [37] (fun s w' => s = .bool false ∧ w' = w3.drew)
    case first =>
      refine wp_region_noPanic ?_
      go_region_held (fun w' => w'.cell? ⟨m, 0, none⟩ = some (.slice sa n scap) ∧ w' = w3.drew) (first | exact ⟨cm, rfl⟩ | exact ⟨by assumption, by assumption⟩) (first | (go_at_call 11; refine N11.mono ?_; rintro e w' ⟨rfl, rfl⟩))
      all_goals refine NoPanic.normal ?_
      all_goals go_wp2_with fail
      all_goals go_meet
      all_goals exact ⟨rfl, rfl⟩
    case rest =>
      obtain ⟨rfl, rfl⟩ := hcut
      have HT2 : Hid (T0 w.heap.size w q m n 0 w3.drew) := HT.out.drew
      clear HT N11 cm
      generalize w3.drew = w4 at *
      go_wp2_with fail
      go_loopw [40] (fun i wr => ∃ j : Nat, j ≤ N ∧ i = .int .i64 j ∧ Hid (T0 w.heap.size w q m n j wr)) (fun i _ => N - (RowKit.intOf i).toNat)
      case atStart => exact ⟨0, Nat.zero_le _, rfl, HT2⟩
      case round =>
        clear HT2
        obtain ⟨j, hj, rfl, HT⟩ := hrel
        by_cases hlt : j < N
        · obtain ⟨b, o, x, y, z, f, s, rfl, hy, hz, c0, c1, c2, c3, c4⟩ := HC.out j hlt
          have hbe : Below w.heap.size w wr := by obtain ⟨_, _, _, _, _, _, _, _, hb, _⟩ := HT.out; exact hb
          have d0 := (hbe.cell (World.block_lt_of_cell? _ _ c0)).trans c0
          have d1 := (hbe.cell (World.block_lt_of_cell? _ _ c1)).trans c1
          have d2 := (hbe.cell (World.block_lt_of_cell? _ _ c2)).trans c2
          have d3 := (hbe.cell (World.block_lt_of_cell? _ _ c3)).trans c3
          have d4 := (hbe.cell (World.block_lt_of_cell? _ _ c4)).trans c4
          have HTT : Hid (TT w.heap.size w q m n wr.heap.size #[.int .i64 x, .int .i64 y, .int .i64 z, .int .u8 (f.toNat : Int), .bool s] j (wr.alloc (.cells #[.int .i64 x, .int .i64 y, .int .i64 z, .int .u8 (f.toNat : Int), .bool s] 34))) := HT.out.tt (Nat.le_refl _) _
          clear c0 c1 c2 c3 c4 hbe
          go_upto_region 11 with fail
          have hw5 : ∃ w5, w5 = wr.alloc (.cells #[.int .i64 x, .int .i64 y, .int .i64 z, .int .u8 (f.toNat : Int), .bool s] 34) := ⟨_, rfl⟩
          obtain ⟨w5, hw5⟩ := hw5
          rw [← hw5] at HTT
          rw [← hw5]
          clear hw5 d0 d1 d2 d3 d4 HT
          generalize wr.heap.size = V at *
          have H5 : Hid (∀ w' : World, w'.heap[V]? = some (.cells #[.int .i64 x, .int .i64 y, .int .i64 z, .int .u8 (f.toNat : Int), .bool s] 34 (0, 0)) → w'.cell? ⟨V, 0, none⟩ = some (.int .i64 x) ∧ w'.cell? ⟨V, 1, none⟩ = some (.int .i64 y) ∧ w'.cell? ⟨V, 2, none⟩ = some (.int .i64 z) ∧ w'.cell? ⟨V, 3, none⟩ = some (.int .u8 (f.toNat : Int)) ∧ w'.cell? ⟨V, 4, none⟩ = some (.bool s)) := fun w' h => five h
          obtain ⟨d0, d1, d2, d3, d4⟩ := H5.out w5 HTT.out.hv
          go_upto_block 2 with fail
          go_cut [45] (fun _ w' => Hid (TT w.heap.size w q m n V #[.int .i64 x, .int .i64 y, .int .i64 z, .int .u8 (f.toNat : Int), .bool s] (j + 1) w'))
          case first =>
            have hj1 : j + 1 ≤ 1000 := by omega
            by_cases x1 : x = 1
            · subst x1
              obtain ⟨code, Sx, P1, P2⟩ := pair_flush w.heap.size w w5 q m n V _ j (Nat.le_refl _) hj1 HTT.out
              have P2 : Hid (∀ w', Sx w' → Calls Try.prog 16 #[.pointer (some ⟨m, 0, none⟩)] w' fun e w'' => e = .returned (.int .i64 code) ∧ TT w.heap.size w q m n V #[.int .i64 1, .int .i64 y, .int .i64 z, .int .u8 (f.toNat : Int), .bool s] (j + 1) w'') := P2
              go_wp2_with (first | (go_at_call 15; refine P1.mono ?_; rintro e w6 ⟨rfl, s6⟩) | (go_at_call 16; refine (P2.out _ (by assumption)).mono ?_; rintro e w7 ⟨rfl, t7⟩))
              go_meet
              exact t7
            by_cases x0 : x = 0
            · subst x0
              obtain ⟨code, S1, S2, S3, P1, P2, P3, P4⟩ := pair_write w.heap.size w w5.drew q m n V _ j 0 y z f s (Nat.le_refl _) hj1 HTT.out.drew
              generalize (if s = true then 255 else 256) = L at *
              have P2 : Hid (∀ w' g, S1 w' g → Calls Try.prog 12 #[.pointer (some ⟨q, 0, none⟩), .int .i64 y, .slice (some ⟨g, 0, none⟩) L 256] w' fun e w'' => e = .returned (.int .i64 code) ∧ w''.heap[V]? = some (.cells #[.int .i64 0, .int .i64 y, .int .i64 z, .int .u8 (f.toNat : Int), .bool s] 34 (0, 0)) ∧ S2 w'') := P2
              have P3 : Hid (∀ w', S2 w' → Calls Try.prog 13 #[.agg #[.int .i64 0, .int .i64 y, .int .i64 z, .int .u8 (f.toNat : Int), .bool s]] w' fun e w'' => ∃ g, e = .returned (.slice (some ⟨g, 0, none⟩) L 256) ∧ w''.heap[V]? = some (.cells #[.int .i64 0, .int .i64 y, .int .i64 z, .int .u8 (f.toNat : Int), .bool s] 34 (0, 0)) ∧ S3 w'' g) := P3
              have P4 : Hid (∀ w' g, S3 w' g → Calls Try.prog 14 #[.pointer (some ⟨m, 0, none⟩), .int .i64 y, .slice (some ⟨g, 0, none⟩) L 256] w' fun e w'' => e = .returned (.int .i64 code) ∧ w''.heap[V]? = some (.cells #[.int .i64 0, .int .i64 y, .int .i64 z, .int .u8 (f.toNat : Int), .bool s] 34 (0, 0)) ∧ TT w.heap.size w q m n V #[.int .i64 0, .int .i64 y, .int .i64 z, .int .u8 (f.toNat : Int), .bool s] (j + 1) w'') := P4
              go_upto_region 13 with fail
              refine wp_region_noPanic ?_
              go_region_held (fun w' => w'.cell? ⟨V, 0, none⟩ = some (.int .i64 0) ∧ w'.cell? ⟨V, 1, none⟩ = some (.int .i64 y) ∧ w'.cell? ⟨V, 2, none⟩ = some (.int .i64 z) ∧ w'.cell? ⟨V, 3, none⟩ = some (.int .u8 (f.toNat : Int)) ∧ w'.cell? ⟨V, 4, none⟩ = some (.bool s)) (first | exact ⟨d0, d1, d2, d3, d4⟩ | exact H5.out _ (by assumption)) (first | (go_at_call 13; with_reducible refine P1.mono ?_; rintro e w6 ⟨g6, rfl, h6, s6⟩) | (go_at_call 12; refine (P2.out _ _ (by assumption)).mono ?_; rintro e w7 ⟨rfl, h7, s7⟩) | (go_at_call 13; with_reducible refine (P3.out _ (by assumption)).mono ?_; rintro e w8 ⟨g8, rfl, h8, s8⟩) | (go_at_call 14; refine (P4.out _ _ (by assumption)).mono ?_; rintro e w9 ⟨rfl, h9, t9⟩))
              all_goals refine NoPanic.normal ?_
              all_goals go_wp2_with fail
              all_goals go_meet
              all_goals exact t9
            by_cases x2 : x = 2
            · subst x2
              obtain ⟨X2, Y2, s2, h2, ho2⟩ := HTT.out
              obtain ⟨code, v1, T, Sx, P1, P2⟩ := pair_read w.heap.size w w5 q m n V _ j y (Nat.le_refl _) (by omega) X2 Y2 s2 h2 ho2
              have P2 : Hid (∀ w', Sx w' → Calls Try.prog 18 #[.pointer (some ⟨m, 0, none⟩), .int .i64 y] w' fun e w'' => ∃ v2, e = .returned (.tuple #[v2, .int .i64 code]) ∧ (convert 37 9 v1).run Try.prog w'' = .ok (.string T) w'' ∧ (convert 37 9 v2).run Try.prog w'' = .ok (.string T) w'' ∧ Two w.heap.size w w'' X2 Y2 q m n V #[.int .i64 2, .int .i64 y, .int .i64 z, .int .u8 (f.toNat : Int), .bool s] s2) := P2
              have HO2 : Hid (s2.Ok n (j + 1)) := ho2.mono
              clear h2 ho2
              go_wp2_with (first | (go_at_call 17; refine P1.mono ?_; rintro e w6 ⟨rfl, h6, s6⟩; obtain ⟨e0, e1, e2, e3, e4⟩ := H5.out _ h6) | (go_at_call 18; refine (P2.out _ (by assumption)).mono ?_; rintro e w7 ⟨v2, rfl, g1, g2, t7⟩))
              go_meet
              exact ⟨X2, Y2, s2, t7, HO2.out⟩
            by_cases x3 : x = 3
            · subst x3
              obtain ⟨Sx, P1, P2⟩ := pair_off w.heap.size w w5 q m n V _ j z (by omega) (by omega) (Nat.le_refl _) hj1 HTT.out
              have P2 : Hid (∀ w', Sx w' → Calls Try.prog 20 #[.pointer (some ⟨m, 0, none⟩), .int .i64 z] w' fun e w'' => e = .returned (.tuple #[]) ∧ TT w.heap.size w q m n V #[.int .i64 3, .int .i64 y, .int .i64 z, .int .u8 (f.toNat : Int), .bool s] (j + 1) w'') := P2
              go_wp2_with (first | (go_at_call 19; refine P1.mono ?_; rintro e w6 ⟨rfl, h6, s6⟩; obtain ⟨e0, e1, e2, e3, e4⟩ := H5.out _ h6) | (go_at_call 20; refine (P2.out _ (by assumption)).mono ?_; rintro e w7 ⟨rfl, t7⟩))
              go_meet
              exact t7
            by_cases x4 : x = 4
            · subst x4
              have P1 := pair_on w.heap.size w w5 q m n V _ j (Nat.le_refl _) HTT.out
              go_wp2_with (go_at_call 21; refine P1.mono ?_; rintro e w6 ⟨rfl, ⟨x6, h6⟩, f6, t6⟩)
              go_meet
              obtain ⟨X2, Y2, s2, h2, ho2, _⟩ := t6.out
              exact ⟨X2, Y2, s2, h2, ho2⟩
            by_cases x5 : x = 5
            · subst x5
              obtain ⟨Sx, P1, P2⟩ := pair_arm w.heap.size w w5 q m n V _ j y z (by omega) (by omega) (by omega) (by omega) (Nat.le_refl _) HTT.out
              have P2 : Hid (∀ w', Sx w' → Calls Try.prog 23 #[.pointer (some ⟨m, 0, none⟩), .int .i64 y, .int .i64 z] w' fun e w'' => e = .returned (.tuple #[]) ∧ TT w.heap.size w q m n V #[.int .i64 5, .int .i64 y, .int .i64 z, .int .u8 (f.toNat : Int), .bool s] (j + 1) w'') := P2
              go_wp2_with (first | (go_at_call 22; refine P1.mono ?_; rintro e w6 ⟨rfl, h6, s6⟩; obtain ⟨e0, e1, e2, e3, e4⟩ := H5.out _ h6) | (go_at_call 23; refine (P2.out _ (by assumption)).mono ?_; rintro e w7 ⟨rfl, t7⟩))
              go_meet
              exact t7
            · go_wp2_with fail
              go_meet
              exact HTT.out.mono
          case rest =>
            obtain ⟨X2, Y2, s2, h2, ho2⟩ := hcut.out
            clear hcut HTT d0 d1 d2 d3 d4
            obtain ⟨N24, N25, c4, c3, -, -⟩ := pair_tell w.heap.size w wc.drew q m n V _ X2 Y2 s2 h2.drew
            have HT9 : Hid (T0 w.heap.size w q m n (j + 1) wc.drew) := h2.drew.t0 ho2
            clear h2 ho2 H5
            generalize s2.down = dn at *
            generalize s2.ops = on at *
            go_upto_region 32 with fail
            go_cut [140] (fun s w' => s = .bool false ∧ w' = wc.drew)
            case first =>
              refine wp_region_noPanic ?_
              cases dn
              · go_region_held (fun w' => w'.cell? ⟨m, 4, none⟩ = some (.int .i64 on) ∧ w'.cell? ⟨m, 3, none⟩ = some (.bool true) ∧ w' = wc.drew) (first | exact ⟨c4, c3, rfl⟩ | exact ⟨by assumption, by assumption, by assumption⟩) (first | (go_at_call 24; refine N24.mono ?_; rintro e w' ⟨rfl, rfl⟩) | (go_at_call 25; refine N25.mono ?_; rintro e w' ⟨rfl, rfl⟩))
                all_goals refine NoPanic.normal ?_
                all_goals go_wp2_with fail
                all_goals go_meet
                all_goals exact ⟨rfl, rfl⟩
              · go_region_held (fun w' => w'.cell? ⟨m, 4, none⟩ = some (.int .i64 on) ∧ w'.cell? ⟨m, 3, none⟩ = some (.bool false) ∧ w' = wc.drew) (first | exact ⟨c4, c3, rfl⟩ | exact ⟨by assumption, by assumption, by assumption⟩) (first | (go_at_call 24; refine N24.mono ?_; rintro e w' ⟨rfl, rfl⟩) | (go_at_call 25; refine N25.mono ?_; rintro e w' ⟨rfl, rfl⟩))
                all_goals refine NoPanic.normal ?_
                all_goals go_wp2_with fail
                all_goals go_meet
                all_goals exact ⟨rfl, rfl⟩
            case rest =>
              obtain ⟨rfl, rfl⟩ := hcut
              go_wp2_with fail
              go_roundw
              case rel => exact ⟨j + 1, hlt, by go_num, HT9⟩
              case measure => simp [RowKit.intOf]; omega
        · have P1 := on_t0 HT.out (Nat.le_refl _)
          clear HC
          go_wp2_with (go_at_call 21; refine P1.mono ?_; rintro e w6 ⟨rfl, ⟨x6, h6⟩, f6, t6⟩)
          obtain ⟨X2, Y2, s2, h2, ho2⟩ := t6.out
          clear t6 h6 f6 P1 HT
          have hw7 : ∃ w7, w7 = w6.setCell ⟨m, 3, none⟩ (.bool true) := ⟨_, rfl⟩
          obtain ⟨w7, hw7⟩ := hw7
          rw [← hw7] at h2
          rw [← hw7]
          clear hw7
          have H2 : Hid (Duo w.heap.size w w7 X2 Y2 q m n s2) := h2
          have HO2 : Hid (s2.Ok n j) := ho2
          clear h2 ho2
          go_loopw [13] (fun i wr => ∃ k : Nat, k ≤ 20 ∧ i = .int .i64 k ∧ Hid (Below w7.heap.size w7 wr)) (fun i _ => 20 - (RowKit.intOf i).toNat)
          case atStart => exact ⟨0, by omega, rfl, Below.refl _ _⟩
          case round =>
            obtain ⟨k, hk, rfl, hbk⟩ := hrel
            have hcm : ∃ a cap, wr.cell? ⟨m, 0, none⟩ = some (.slice a n cap) := by
              obtain ⟨sv, wv, hv, ss, hs, hr⟩ := H2.out.re
              obtain ⟨c0, -⟩ := hr.cells
              obtain ⟨sa, scap, rfl, -⟩ := row_cells hr.bs
              exact ⟨_, _, (hbk.out.cell (World.block_lt_of_cell? _ _ c0)).trans c0⟩
            obtain ⟨sa, scap, cm⟩ := hcm
            by_cases hcond : k < n ∧ k < 20
            · obtain ⟨hk1, hk2⟩ := hcond
              have hk1' : (k : Int) < (n : Int) := by omega
              have hk2' : (k : Int) < 20 := by omega
              have hfew := HO2.out.few
              have hpl : (pageOf (appAll s2.safe s2.log) k).length = 256 := pageOf_length _ n _ (appAll_length n _ _ HO2.out.len HO2.out.log) hk1
              have N17 := read0 wr X2 q n _ k hk1 rfl (H2.out.dr.below hbk.out)
              have eP : pageOf (mkS s2.safe s2.log s2.ops false s2.armed s2.keep).P k = pageOf (appAll s2.safe s2.log) k := rfl
              rw [eP] at N17
              have N18 : Hid (∀ w', Below wr.heap.size wr w' → Calls Try.prog 18 #[.pointer (some ⟨m, 0, none⟩), .int .i64 k] w' fun e w'' => ∃ g c, e = .returned (.tuple #[.slice (some ⟨g, 0, none⟩) 256 c, .int .i64 0]) ∧ w''.rangeAt g 0 (byteCells (pageOf (appAll s2.safe s2.log) k)) ∧ Below w'.heap.size w' w'') := fun w' hb' => read_ref_ok w' Y2 m n s2.safe s2.log s2.ops s2.armed s2.k k hk1 HO2.out.len HO2.out.log (by omega) (H2.out.re.on (Step.of_below (X := fun _ => False) (hbk.out.trans (hb'.mono hbk.out.size))) (fun _ _ h => h))
              have HPL : Hid ((pageOf (appAll s2.safe s2.log) k).length = 256) := hpl
              clear eP hpl hfew
              generalize pageOf (appAll s2.safe s2.log) k = pg at *
              go_wp2_with fail
              refine N17.mono ?_
              rintro e w8 ⟨rfl, hp8⟩
              have N18' := N18.out w8 hp8.below
              clear N17 N18
              have r8 := range_of_block hp8.block
              have HB8 : Hid (Below w7.heap.size w7 w8) := hbk.out.trans (hp8.below.mono hbk.out.size)
              generalize wr.heap.size = BY at *
              clear hp8 hbk cm
              go_wp2_with fail
              refine N18'.mono ?_
              rintro e w9 ⟨g9, c9, rfl, r9, b9⟩
              have g1 : (convert 37 9 (.slice (some ⟨BY, 0, none⟩) 256 256)).run Try.prog w9 = .ok (.string ⟨pg.toArray⟩) w9 := conv37 HPL.out (range_below r8 b9)
              have g2 : (convert 37 9 (.slice (some ⟨g9, 0, none⟩) 256 c9)).run Try.prog w9 = .ok (.string ⟨pg.toArray⟩) w9 := conv37 HPL.out r9
              have HB9 : Hid (Below w7.heap.size w7 w9) := HB8.out.trans (b9.mono HB8.out.size)
              clear r8 r9 b9 N18' HB8
              generalize (⟨pg.toArray⟩ : ByteArray) = T at *
              go_wp2_with fail
              go_roundw
              case rel => exact ⟨k + 1, hk2, by go_num, HB9⟩
              case measure => simp [RowKit.intOf]; omega
            · have HBE : Hid (Below w.heap.size w wr) := H2.out.be.trans (hbk.out.mono H2.out.be.size)
              have h3 : ¬ k < n ∨ (k < n ∧ ¬ k < 20) := by omega
              clear H2 HO2 hbk
              have NF : Hid (∀ w, Calls Try.prog 26 #[.int .u8 0] w fun e w' => e = .returned (.slice (some ⟨w.heap.size, 0, none⟩) 256 256) ∧ Hid (Below w.heap.size w w')) := fun w => (full_d w 0).mono fun _ _ h => ⟨h.1, h.2.below⟩
              rcases h3 with h1 | ⟨h1, h1b⟩
              · have h1' : ¬ (k : Int) < (n : Int) := by omega
                clear hcond
                go_wp2_with (first | (go_at_call 19; refine (off_nil _ _).mono ?_; rintro e w8 ⟨rfl, rfl⟩) | (go_at_call 21; refine (on_nil _).mono ?_; rintro e w8 ⟨rfl, rfl⟩) | (go_at_call 22; refine (arm_nil _ _ _).mono ?_; rintro e w8 ⟨rfl, rfl⟩) | (go_at_call 17; refine (read_nil _ _).mono ?_; rintro e w8 ⟨rfl, rfl⟩) | (go_at_call 26; refine (NF.out _).mono ?_; rintro e w9 ⟨rfl, hf9⟩) | (go_at_call 12; refine (write_nil _ _ _).mono ?_; rintro e w8 ⟨rfl, rfl⟩) | (go_at_call 15; refine (flush_nil _).mono ?_; rintro e w8 ⟨rfl, rfl⟩) | (go_at_call 11; refine (pages_nil _).mono ?_; rintro e w8 ⟨rfl, rfl⟩) | (go_at_call 24; refine (ops_nil _).mono ?_; rintro e w8 ⟨rfl, rfl⟩) | (go_at_call 25; refine (down_nil _).mono ?_; rintro e w8 ⟨rfl, rfl⟩))
                go_ret
                exact ⟨rfl, HBE.out.trans (hf9.out.mono HBE.out.size)⟩
              · have h1' : (k : Int) < (n : Int) := by omega
                have h1b' : ¬ (k : Int) < 20 := by omega
                clear hcond
                go_wp2_with (first | (go_at_call 19; refine (off_nil _ _).mono ?_; rintro e w8 ⟨rfl, rfl⟩) | (go_at_call 21; refine (on_nil _).mono ?_; rintro e w8 ⟨rfl, rfl⟩) | (go_at_call 22; refine (arm_nil _ _ _).mono ?_; rintro e w8 ⟨rfl, rfl⟩) | (go_at_call 17; refine (read_nil _ _).mono ?_; rintro e w8 ⟨rfl, rfl⟩) | (go_at_call 26; refine (NF.out _).mono ?_; rintro e w9 ⟨rfl, hf9⟩) | (go_at_call 12; refine (write_nil _ _ _).mono ?_; rintro e w8 ⟨rfl, rfl⟩) | (go_at_call 15; refine (flush_nil _).mono ?_; rintro e w8 ⟨rfl, rfl⟩) | (go_at_call 11; refine (pages_nil _).mono ?_; rintro e w8 ⟨rfl, rfl⟩) | (go_at_call 24; refine (ops_nil _).mono ?_; rintro e w8 ⟨rfl, rfl⟩) | (go_at_call 25; refine (down_nil _).mono ?_; rintro e w8 ⟨rfl, rfl⟩))
                go_ret
                exact ⟨rfl, HBE.out.trans (hf9.out.mono HBE.out.size)⟩
  · have hN' : (200 : Int) < (N : Int) := by omega
    go_enter Try.func3, Try.ntmps3
    go_wp2_with (go_at_call 8; refine N8.mono ?_; rintro e w1 ⟨rfl, hb1⟩)
    go_ret
    exact ⟨rfl, hb1⟩
end Go.Proofs.Ytgbgeoplbmjcbaa
