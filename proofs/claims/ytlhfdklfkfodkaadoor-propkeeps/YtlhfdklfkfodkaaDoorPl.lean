/- Whatever three values, trivetlaw07.PropOrders answers true, where the library's table of powers of ten reads as it was laid. -/
import Derived.Test.YtlhfdklfkfodkaaDoorPk
namespace Go.Proofs.YtlhfdklfkfodkaaDoor
open Go.RowKit Go.Lib Ieee

/-- Three values in blocks of their own. -/
def Box3 (q : Nat) (a b c : Val) (W : World) : Prop := W.cell? ⟨q, 0, none⟩ = some (.int .i64 a.kind) ∧ W.cell? ⟨q, 1, none⟩ = some (.int .i64 a.num) ∧ W.cell? ⟨q, 2, none⟩ = some (.string a.text) ∧ W.cell? ⟨q, 3, none⟩ = some (.float .f64 a.real) ∧ W.cell? ⟨q + 1, 0, none⟩ = some (.int .i64 b.kind) ∧ W.cell? ⟨q + 1, 1, none⟩ = some (.int .i64 b.num) ∧ W.cell? ⟨q + 1, 2, none⟩ = some (.string b.text) ∧ W.cell? ⟨q + 1, 3, none⟩ = some (.float .f64 b.real) ∧ W.cell? ⟨q + 2, 0, none⟩ = some (.int .i64 c.kind) ∧ W.cell? ⟨q + 2, 1, none⟩ = some (.int .i64 c.num) ∧ W.cell? ⟨q + 2, 2, none⟩ = some (.string c.text) ∧ W.cell? ⟨q + 2, 3, none⟩ = some (.float .f64 c.real)
theorem Box3.out {q : Nat} {a b c : Val} {W : World} (h : Box3 q a b c W) : W.cell? ⟨q, 0, none⟩ = some (.int .i64 a.kind) ∧ W.cell? ⟨q, 1, none⟩ = some (.int .i64 a.num) ∧ W.cell? ⟨q, 2, none⟩ = some (.string a.text) ∧ W.cell? ⟨q, 3, none⟩ = some (.float .f64 a.real) ∧ W.cell? ⟨q + 1, 0, none⟩ = some (.int .i64 b.kind) ∧ W.cell? ⟨q + 1, 1, none⟩ = some (.int .i64 b.num) ∧ W.cell? ⟨q + 1, 2, none⟩ = some (.string b.text) ∧ W.cell? ⟨q + 1, 3, none⟩ = some (.float .f64 b.real) ∧ W.cell? ⟨q + 2, 0, none⟩ = some (.int .i64 c.kind) ∧ W.cell? ⟨q + 2, 1, none⟩ = some (.int .i64 c.num) ∧ W.cell? ⟨q + 2, 2, none⟩ = some (.string c.text) ∧ W.cell? ⟨q + 2, 3, none⟩ = some (.float .f64 c.real) := h
theorem Box3.on {q : Nat} {a b c : Val} {W W' : World} (h : Box3 q a b c W) (hb : Below W.heap.size W W') : Box3 q a b c W' := by
  obtain ⟨c0, c1, c2, c3, c4, c5, c6, c7, c8, c9, c10, c11⟩ := h
  have l0 : q < W.heap.size := World.block_lt_of_cell? W _ c0
  have l1 : q + 1 < W.heap.size := World.block_lt_of_cell? W _ c4
  have l2 : q + 2 < W.heap.size := World.block_lt_of_cell? W _ c8
  exact ⟨by rw [hb.cell l0]; exact c0, by rw [hb.cell l0]; exact c1, by rw [hb.cell l0]; exact c2, by rw [hb.cell l0]; exact c3, by rw [hb.cell l1]; exact c4, by rw [hb.cell l1]; exact c5, by rw [hb.cell l1]; exact c6, by rw [hb.cell l1]; exact c7, by rw [hb.cell l2]; exact c8, by rw [hb.cell l2]; exact c9, by rw [hb.cell l2]; exact c10, by rw [hb.cell l2]; exact c11⟩
theorem box3 (w : World) (a b c : Val) : Box3 w.heap.size a b c (((w.alloc (.cells #[.int .i64 a.kind, .int .i64 a.num, .string a.text, .float .f64 a.real] 24)).alloc (.cells #[.int .i64 b.kind, .int .i64 b.num, .string b.text, .float .f64 b.real] 24)).alloc (.cells #[.int .i64 c.kind, .int .i64 c.num, .string c.text, .float .f64 c.real] 24)) := by
  have e : ((w.alloc (.cells #[.int .i64 a.kind, .int .i64 a.num, .string a.text, .float .f64 a.real] 24)).alloc (.cells #[.int .i64 b.kind, .int .i64 b.num, .string b.text, .float .f64 b.real] 24)).heap.size = w.heap.size + 2 := by simp
  have hb : Below ((w.alloc (.cells #[.int .i64 a.kind, .int .i64 a.num, .string a.text, .float .f64 a.real] 24)).alloc (.cells #[.int .i64 b.kind, .int .i64 b.num, .string b.text, .float .f64 b.real] 24)).heap.size ((w.alloc (.cells #[.int .i64 a.kind, .int .i64 a.num, .string a.text, .float .f64 a.real] 24)).alloc (.cells #[.int .i64 b.kind, .int .i64 b.num, .string b.text, .float .f64 b.real] 24)) (((w.alloc (.cells #[.int .i64 a.kind, .int .i64 a.num, .string a.text, .float .f64 a.real] 24)).alloc (.cells #[.int .i64 b.kind, .int .i64 b.num, .string b.text, .float .f64 b.real] 24)).alloc (.cells #[.int .i64 c.kind, .int .i64 c.num, .string c.text, .float .f64 c.real] 24)) := (Below.refl _ _).alloc (Nat.le_refl _) _
  unfold Box3
  rw [← e]
  refine ⟨?_, ?_, ?_, ?_, ?_, ?_, ?_, ?_, ?_, ?_, ?_, ?_⟩
  iterate 4 (rw [hb.cell (by dsimp only; omega)]; exact box1' w _ _ _ _ _ _ rfl)
  iterate 4 (rw [hb.cell (by dsimp only; omega)]; exact box2' w _ _ _ _ _ _ rfl)
  iterate 4 exact World.cell?_alloc_new ..

set_option maxRecDepth 8000 in
set_option maxHeartbeats 4000000 in
theorem orders_at (w : World) (a b c : Val) (n m p q : Int) (ga gb s : Bool) (hn : n = -1 ∧ m = 1 ∨ n = 0 ∧ m = 0 ∨ n = 1 ∧ m = -1)
    (HW : ∀ W : World, Below w.heap.size w W → Calls Tryd.prog 6 #[] W fun e w' => e = .returned (.bool true) ∧ Below W.heap.size W w')
    (H1 : ∀ W : World, Calls Tryd.prog 7 #[.agg #[.int .i64 a.kind, .int .i64 a.num, .string a.text, .float .f64 a.real], .agg #[.int .i64 b.kind, .int .i64 b.num, .string b.text, .float .f64 b.real]] W fun e w' => e = .returned (.int .i64 n) ∧ Below W.heap.size W w')
    (H2 : ∀ W : World, Calls Tryd.prog 7 #[.agg #[.int .i64 b.kind, .int .i64 b.num, .string b.text, .float .f64 b.real], .agg #[.int .i64 a.kind, .int .i64 a.num, .string a.text, .float .f64 a.real]] W fun e w' => e = .returned (.int .i64 m) ∧ Below W.heap.size W w')
    (H3 : ∀ W : World, Calls Tryd.prog 7 #[.agg #[.int .i64 b.kind, .int .i64 b.num, .string b.text, .float .f64 b.real], .agg #[.int .i64 c.kind, .int .i64 c.num, .string c.text, .float .f64 c.real]] W fun e w' => e = .returned (.int .i64 p) ∧ Below W.heap.size W w')
    (H4 : ∀ W : World, Calls Tryd.prog 7 #[.agg #[.int .i64 a.kind, .int .i64 a.num, .string a.text, .float .f64 a.real], .agg #[.int .i64 c.kind, .int .i64 c.num, .string c.text, .float .f64 c.real]] W fun e w' => e = .returned (.int .i64 q) ∧ Below W.heap.size W w')
    (G1 : ∀ W : World, Calls Tryd.prog 8 #[.agg #[.int .i64 a.kind, .int .i64 a.num, .string a.text, .float .f64 a.real]] W fun e w' => e = .returned (.bool ga) ∧ Below W.heap.size W w')
    (G2 : ∀ W : World, Calls Tryd.prog 8 #[.agg #[.int .i64 b.kind, .int .i64 b.num, .string b.text, .float .f64 b.real]] W fun e w' => e = .returned (.bool gb) ∧ Below W.heap.size W w')
    (S1 : ∀ W : World, Calls Tryd.prog 9 #[.agg #[.int .i64 a.kind, .int .i64 a.num, .string a.text, .float .f64 a.real], .agg #[.int .i64 b.kind, .int .i64 b.num, .string b.text, .float .f64 b.real]] W fun e w' => e = .returned (.bool s) ∧ Below W.heap.size W w')
    (hs : ga = true → gb = true → (n == 0) = s) (hq : n ≤ 0 → p ≤ 0 → q ≤ 0) :
    Calls Tryd.prog 3 #[.agg #[.int .i64 a.kind, .int .i64 a.num, .string a.text, .float .f64 a.real], .agg #[.int .i64 b.kind, .int .i64 b.num, .string b.text, .float .f64 b.real], .agg #[.int .i64 c.kind, .int .i64 c.num, .string c.text, .float .f64 c.real]] w fun e w' => e = .returned (.bool true) ∧ Below w.heap.size w w' := by
  have HS9 : Hid (ga = true → gb = true → (n == 0) = s) := hs
  clear hs
  have B0 := box3 w a b c
  have b0 : Below w.heap.size w (((w.alloc (.cells #[.int .i64 a.kind, .int .i64 a.num, .string a.text, .float .f64 a.real] 24)).alloc (.cells #[.int .i64 b.kind, .int .i64 b.num, .string b.text, .float .f64 b.real] 24)).alloc (.cells #[.int .i64 c.kind, .int .i64 c.num, .string c.text, .float .f64 c.real] 24)) := (((Below.refl _ w).alloc (Nat.le_refl _) _).alloc (by simp) _).alloc (by simp; omega) _
  go_enter Tryd.func3, Tryd.ntmps3
  go_upto_region 1 with fail
  generalize (((w.alloc (.cells #[.int .i64 a.kind, .int .i64 a.num, .string a.text, .float .f64 a.real] 24)).alloc (.cells #[.int .i64 b.kind, .int .i64 b.num, .string b.text, .float .f64 b.real] 24)).alloc (.cells #[.int .i64 c.kind, .int .i64 c.num, .string c.text, .float .f64 c.real] 24)) = w0 at *
  go_wp2_with fail
  refine (HW _ b0).mono ?_
  rintro e w9 ⟨rfl, hb9⟩
  have B9 := B0.on hb9
  have b9 := b0.trans (hb9.mono b0.size)
  obtain ⟨c0, c1, c2, c3, c4, c5, c6, c7, c8, c9, c10, c11⟩ := B9.out
  clear B0 hb9 b0 HW
  rcases hn with ⟨rfl, rfl⟩ | ⟨rfl, rfl⟩ | ⟨rfl, rfl⟩
  · go_wp2_with fail
    clear c0 c1 c2 c3 c4 c5 c6 c7 c8 c9 c10 c11
    refine (H1 _).mono ?_
    rintro e w10 ⟨rfl, hb10⟩
    have B10 := B9.on hb10
    have b10 := b9.trans (hb10.mono b9.size)
    obtain ⟨c0, c1, c2, c3, c4, c5, c6, c7, c8, c9, c10, c11⟩ := B10.out
    go_wp2_with fail
    clear c0 c1 c2 c3 c4 c5 c6 c7 c8 c9 c10 c11
    refine (H2 _).mono ?_
    rintro e w11 ⟨rfl, hb11⟩
    have B11 := B10.on hb11
    have b11 := b10.trans (hb11.mono b10.size)
    obtain ⟨c0, c1, c2, c3, c4, c5, c6, c7, c8, c9, c10, c11⟩ := B11.out
    go_wp2_with fail
    clear c0 c1 c2 c3 c4 c5 c6 c7 c8 c9 c10 c11
    refine (G1 _).mono ?_
    rintro e w12 ⟨rfl, hb12⟩
    have B12 := B11.on hb12
    have b12 := b11.trans (hb12.mono b11.size)
    obtain ⟨c0, c1, c2, c3, c4, c5, c6, c7, c8, c9, c10, c11⟩ := B12.out
    cases ga with
    | false =>
      by_cases hp : p ≤ 0
      · have hq2 := hq (by omega) hp
        go_wp2_with fail
        clear c0 c1 c2 c3 c4 c5 c6 c7 c8 c9 c10 c11
        refine (H3 _).mono ?_
        rintro e w13 ⟨rfl, hb13⟩
        have B13 := B12.on hb13
        have b13 := b12.trans (hb13.mono b12.size)
        obtain ⟨c0, c1, c2, c3, c4, c5, c6, c7, c8, c9, c10, c11⟩ := B13.out
        go_wp2_with fail
        clear c0 c1 c2 c3 c4 c5 c6 c7 c8 c9 c10 c11
        refine (H4 _).mono ?_
        rintro e w14 ⟨rfl, hb14⟩
        have B14 := B13.on hb14
        have b14 := b13.trans (hb14.mono b13.size)
        obtain ⟨c0, c1, c2, c3, c4, c5, c6, c7, c8, c9, c10, c11⟩ := B14.out
        go_wp2
        go_ret
        exact ⟨ret_b (by first | rfl | (simp; omega) | simp_all), b14⟩
      · go_wp2_with fail
        clear c0 c1 c2 c3 c4 c5 c6 c7 c8 c9 c10 c11
        refine (H3 _).mono ?_
        rintro e w15 ⟨rfl, hb15⟩
        have B15 := B12.on hb15
        have b15 := b12.trans (hb15.mono b12.size)
        obtain ⟨c0, c1, c2, c3, c4, c5, c6, c7, c8, c9, c10, c11⟩ := B15.out
        go_wp2
        go_ret
        exact ⟨ret_b (by first | rfl | (simp; omega) | simp_all), b15⟩
    | true =>
    go_wp2_with fail
    clear c0 c1 c2 c3 c4 c5 c6 c7 c8 c9 c10 c11
    refine (G2 _).mono ?_
    rintro e w16 ⟨rfl, hb16⟩
    have B16 := B12.on hb16
    have b16 := b12.trans (hb16.mono b12.size)
    obtain ⟨c0, c1, c2, c3, c4, c5, c6, c7, c8, c9, c10, c11⟩ := B16.out
    cases gb with
    | false =>
      by_cases hp : p ≤ 0
      · have hq2 := hq (by omega) hp
        go_wp2_with fail
        clear c0 c1 c2 c3 c4 c5 c6 c7 c8 c9 c10 c11
        refine (H3 _).mono ?_
        rintro e w17 ⟨rfl, hb17⟩
        have B17 := B16.on hb17
        have b17 := b16.trans (hb17.mono b16.size)
        obtain ⟨c0, c1, c2, c3, c4, c5, c6, c7, c8, c9, c10, c11⟩ := B17.out
        go_wp2_with fail
        clear c0 c1 c2 c3 c4 c5 c6 c7 c8 c9 c10 c11
        refine (H4 _).mono ?_
        rintro e w18 ⟨rfl, hb18⟩
        have B18 := B17.on hb18
        have b18 := b17.trans (hb18.mono b17.size)
        obtain ⟨c0, c1, c2, c3, c4, c5, c6, c7, c8, c9, c10, c11⟩ := B18.out
        go_wp2
        go_ret
        exact ⟨ret_b (by first | rfl | (simp; omega) | simp_all), b18⟩
      · go_wp2_with fail
        clear c0 c1 c2 c3 c4 c5 c6 c7 c8 c9 c10 c11
        refine (H3 _).mono ?_
        rintro e w19 ⟨rfl, hb19⟩
        have B19 := B16.on hb19
        have b19 := b16.trans (hb19.mono b16.size)
        obtain ⟨c0, c1, c2, c3, c4, c5, c6, c7, c8, c9, c10, c11⟩ := B19.out
        go_wp2
        go_ret
        exact ⟨ret_b (by first | rfl | (simp; omega) | simp_all), b19⟩
    | true =>
    obtain rfl : false = s := by first | exact HS9.out trivial rfl | exact HS9.out trivial trivial | simpa using HS9.out
    go_wp2_with fail
    clear c0 c1 c2 c3 c4 c5 c6 c7 c8 c9 c10 c11
    refine (S1 _).mono ?_
    rintro e w20 ⟨rfl, hb20⟩
    have B20 := B16.on hb20
    have b20 := b16.trans (hb20.mono b16.size)
    obtain ⟨c0, c1, c2, c3, c4, c5, c6, c7, c8, c9, c10, c11⟩ := B20.out
    by_cases hp : p ≤ 0
    · have hq2 := hq (by omega) hp
      go_wp2_with fail
      clear c0 c1 c2 c3 c4 c5 c6 c7 c8 c9 c10 c11
      refine (H3 _).mono ?_
      rintro e w21 ⟨rfl, hb21⟩
      have B21 := B20.on hb21
      have b21 := b20.trans (hb21.mono b20.size)
      obtain ⟨c0, c1, c2, c3, c4, c5, c6, c7, c8, c9, c10, c11⟩ := B21.out
      go_wp2_with fail
      clear c0 c1 c2 c3 c4 c5 c6 c7 c8 c9 c10 c11
      refine (H4 _).mono ?_
      rintro e w22 ⟨rfl, hb22⟩
      have B22 := B21.on hb22
      have b22 := b21.trans (hb22.mono b21.size)
      obtain ⟨c0, c1, c2, c3, c4, c5, c6, c7, c8, c9, c10, c11⟩ := B22.out
      go_wp2
      go_ret
      exact ⟨ret_b (by first | rfl | (simp; omega) | simp_all), b22⟩
    · go_wp2_with fail
      clear c0 c1 c2 c3 c4 c5 c6 c7 c8 c9 c10 c11
      refine (H3 _).mono ?_
      rintro e w23 ⟨rfl, hb23⟩
      have B23 := B20.on hb23
      have b23 := b20.trans (hb23.mono b20.size)
      obtain ⟨c0, c1, c2, c3, c4, c5, c6, c7, c8, c9, c10, c11⟩ := B23.out
      go_wp2
      go_ret
      exact ⟨ret_b (by first | rfl | (simp; omega) | simp_all), b23⟩
  · go_wp2_with fail
    clear c0 c1 c2 c3 c4 c5 c6 c7 c8 c9 c10 c11
    refine (H1 _).mono ?_
    rintro e w10 ⟨rfl, hb10⟩
    have B10 := B9.on hb10
    have b10 := b9.trans (hb10.mono b9.size)
    obtain ⟨c0, c1, c2, c3, c4, c5, c6, c7, c8, c9, c10, c11⟩ := B10.out
    go_wp2_with fail
    clear c0 c1 c2 c3 c4 c5 c6 c7 c8 c9 c10 c11
    refine (H2 _).mono ?_
    rintro e w11 ⟨rfl, hb11⟩
    have B11 := B10.on hb11
    have b11 := b10.trans (hb11.mono b10.size)
    obtain ⟨c0, c1, c2, c3, c4, c5, c6, c7, c8, c9, c10, c11⟩ := B11.out
    go_wp2_with fail
    clear c0 c1 c2 c3 c4 c5 c6 c7 c8 c9 c10 c11
    refine (G1 _).mono ?_
    rintro e w12 ⟨rfl, hb12⟩
    have B12 := B11.on hb12
    have b12 := b11.trans (hb12.mono b11.size)
    obtain ⟨c0, c1, c2, c3, c4, c5, c6, c7, c8, c9, c10, c11⟩ := B12.out
    cases ga with
    | false =>
      by_cases hp : p ≤ 0
      · have hq2 := hq (by omega) hp
        go_wp2_with fail
        clear c0 c1 c2 c3 c4 c5 c6 c7 c8 c9 c10 c11
        refine (H3 _).mono ?_
        rintro e w13 ⟨rfl, hb13⟩
        have B13 := B12.on hb13
        have b13 := b12.trans (hb13.mono b12.size)
        obtain ⟨c0, c1, c2, c3, c4, c5, c6, c7, c8, c9, c10, c11⟩ := B13.out
        go_wp2_with fail
        clear c0 c1 c2 c3 c4 c5 c6 c7 c8 c9 c10 c11
        refine (H4 _).mono ?_
        rintro e w14 ⟨rfl, hb14⟩
        have B14 := B13.on hb14
        have b14 := b13.trans (hb14.mono b13.size)
        obtain ⟨c0, c1, c2, c3, c4, c5, c6, c7, c8, c9, c10, c11⟩ := B14.out
        go_wp2
        go_ret
        exact ⟨ret_b (by first | rfl | (simp; omega) | simp_all), b14⟩
      · go_wp2_with fail
        clear c0 c1 c2 c3 c4 c5 c6 c7 c8 c9 c10 c11
        refine (H3 _).mono ?_
        rintro e w15 ⟨rfl, hb15⟩
        have B15 := B12.on hb15
        have b15 := b12.trans (hb15.mono b12.size)
        obtain ⟨c0, c1, c2, c3, c4, c5, c6, c7, c8, c9, c10, c11⟩ := B15.out
        go_wp2
        go_ret
        exact ⟨ret_b (by first | rfl | (simp; omega) | simp_all), b15⟩
    | true =>
    go_wp2_with fail
    clear c0 c1 c2 c3 c4 c5 c6 c7 c8 c9 c10 c11
    refine (G2 _).mono ?_
    rintro e w16 ⟨rfl, hb16⟩
    have B16 := B12.on hb16
    have b16 := b12.trans (hb16.mono b12.size)
    obtain ⟨c0, c1, c2, c3, c4, c5, c6, c7, c8, c9, c10, c11⟩ := B16.out
    cases gb with
    | false =>
      by_cases hp : p ≤ 0
      · have hq2 := hq (by omega) hp
        go_wp2_with fail
        clear c0 c1 c2 c3 c4 c5 c6 c7 c8 c9 c10 c11
        refine (H3 _).mono ?_
        rintro e w17 ⟨rfl, hb17⟩
        have B17 := B16.on hb17
        have b17 := b16.trans (hb17.mono b16.size)
        obtain ⟨c0, c1, c2, c3, c4, c5, c6, c7, c8, c9, c10, c11⟩ := B17.out
        go_wp2_with fail
        clear c0 c1 c2 c3 c4 c5 c6 c7 c8 c9 c10 c11
        refine (H4 _).mono ?_
        rintro e w18 ⟨rfl, hb18⟩
        have B18 := B17.on hb18
        have b18 := b17.trans (hb18.mono b17.size)
        obtain ⟨c0, c1, c2, c3, c4, c5, c6, c7, c8, c9, c10, c11⟩ := B18.out
        go_wp2
        go_ret
        exact ⟨ret_b (by first | rfl | (simp; omega) | simp_all), b18⟩
      · go_wp2_with fail
        clear c0 c1 c2 c3 c4 c5 c6 c7 c8 c9 c10 c11
        refine (H3 _).mono ?_
        rintro e w19 ⟨rfl, hb19⟩
        have B19 := B16.on hb19
        have b19 := b16.trans (hb19.mono b16.size)
        obtain ⟨c0, c1, c2, c3, c4, c5, c6, c7, c8, c9, c10, c11⟩ := B19.out
        go_wp2
        go_ret
        exact ⟨ret_b (by first | rfl | (simp; omega) | simp_all), b19⟩
    | true =>
    obtain rfl : true = s := by first | exact HS9.out trivial rfl | exact HS9.out trivial trivial | simpa using HS9.out
    go_wp2_with fail
    clear c0 c1 c2 c3 c4 c5 c6 c7 c8 c9 c10 c11
    refine (S1 _).mono ?_
    rintro e w20 ⟨rfl, hb20⟩
    have B20 := B16.on hb20
    have b20 := b16.trans (hb20.mono b16.size)
    obtain ⟨c0, c1, c2, c3, c4, c5, c6, c7, c8, c9, c10, c11⟩ := B20.out
    by_cases hp : p ≤ 0
    · have hq2 := hq (by omega) hp
      go_wp2_with fail
      clear c0 c1 c2 c3 c4 c5 c6 c7 c8 c9 c10 c11
      refine (H3 _).mono ?_
      rintro e w21 ⟨rfl, hb21⟩
      have B21 := B20.on hb21
      have b21 := b20.trans (hb21.mono b20.size)
      obtain ⟨c0, c1, c2, c3, c4, c5, c6, c7, c8, c9, c10, c11⟩ := B21.out
      go_wp2_with fail
      clear c0 c1 c2 c3 c4 c5 c6 c7 c8 c9 c10 c11
      refine (H4 _).mono ?_
      rintro e w22 ⟨rfl, hb22⟩
      have B22 := B21.on hb22
      have b22 := b21.trans (hb22.mono b21.size)
      obtain ⟨c0, c1, c2, c3, c4, c5, c6, c7, c8, c9, c10, c11⟩ := B22.out
      go_wp2
      go_ret
      exact ⟨ret_b (by first | rfl | (simp; omega) | simp_all), b22⟩
    · go_wp2_with fail
      clear c0 c1 c2 c3 c4 c5 c6 c7 c8 c9 c10 c11
      refine (H3 _).mono ?_
      rintro e w23 ⟨rfl, hb23⟩
      have B23 := B20.on hb23
      have b23 := b20.trans (hb23.mono b20.size)
      obtain ⟨c0, c1, c2, c3, c4, c5, c6, c7, c8, c9, c10, c11⟩ := B23.out
      go_wp2
      go_ret
      exact ⟨ret_b (by first | rfl | (simp; omega) | simp_all), b23⟩
  · go_wp2_with fail
    clear c0 c1 c2 c3 c4 c5 c6 c7 c8 c9 c10 c11
    refine (H1 _).mono ?_
    rintro e w10 ⟨rfl, hb10⟩
    have B10 := B9.on hb10
    have b10 := b9.trans (hb10.mono b9.size)
    obtain ⟨c0, c1, c2, c3, c4, c5, c6, c7, c8, c9, c10, c11⟩ := B10.out
    go_wp2_with fail
    clear c0 c1 c2 c3 c4 c5 c6 c7 c8 c9 c10 c11
    refine (H2 _).mono ?_
    rintro e w11 ⟨rfl, hb11⟩
    have B11 := B10.on hb11
    have b11 := b10.trans (hb11.mono b10.size)
    obtain ⟨c0, c1, c2, c3, c4, c5, c6, c7, c8, c9, c10, c11⟩ := B11.out
    go_wp2_with fail
    clear c0 c1 c2 c3 c4 c5 c6 c7 c8 c9 c10 c11
    refine (G1 _).mono ?_
    rintro e w12 ⟨rfl, hb12⟩
    have B12 := B11.on hb12
    have b12 := b11.trans (hb12.mono b11.size)
    obtain ⟨c0, c1, c2, c3, c4, c5, c6, c7, c8, c9, c10, c11⟩ := B12.out
    cases ga with
    | false =>
      go_wp2
      go_ret
      exact ⟨ret_b (by first | rfl | (simp; omega) | simp_all), b12⟩
    | true =>
    go_wp2_with fail
    clear c0 c1 c2 c3 c4 c5 c6 c7 c8 c9 c10 c11
    refine (G2 _).mono ?_
    rintro e w13 ⟨rfl, hb13⟩
    have B13 := B12.on hb13
    have b13 := b12.trans (hb13.mono b12.size)
    obtain ⟨c0, c1, c2, c3, c4, c5, c6, c7, c8, c9, c10, c11⟩ := B13.out
    cases gb with
    | false =>
      go_wp2
      go_ret
      exact ⟨ret_b (by first | rfl | (simp; omega) | simp_all), b13⟩
    | true =>
    obtain rfl : false = s := by first | exact HS9.out trivial rfl | exact HS9.out trivial trivial | simpa using HS9.out
    go_wp2_with fail
    clear c0 c1 c2 c3 c4 c5 c6 c7 c8 c9 c10 c11
    refine (S1 _).mono ?_
    rintro e w14 ⟨rfl, hb14⟩
    have B14 := B13.on hb14
    have b14 := b13.trans (hb14.mono b13.size)
    obtain ⟨c0, c1, c2, c3, c4, c5, c6, c7, c8, c9, c10, c11⟩ := B14.out
    go_wp2
    go_ret
    exact ⟨ret_b (by first | rfl | (simp; omega) | simp_all), b14⟩

theorem orders_walk (w : World) (a b c : Val) (ha : a.real < 2 ^ 64) (hb : b.real < 2 ^ 64) (hc : c.real < 2 ^ 64) (ht : Tab w.heap.size w) :
    Calls Tryd.prog 3 #[a.v, b.v, c.v] w fun e w' => e = .returned (.bool true) ∧ Below w.heap.size w w' := by
  refine orders_at w a b c (cmpV a b) (cmpV b a) (cmpV b c) (cmpV a c) (goodV a) (goodV b) (sameV a b) ?_ (fun W hW => wakes7 W ((ht.on hW).mono hW.size)) (fun W => compare7 W a b ha hb) (fun W => compare7 W b a hb ha) (fun W => compare7 W b c hb hc) (fun W => compare7 W a c ha hc) (fun W => good7 W a) (fun W => good7 W b) (fun W => rsame7 W a b) (fun h1 h2 => good_same a b h1 h2 ha hb) (cmpV_trans a b c)
  rw [cmpV_anti a b]
  rcases cmpV_rng a b with h | h | h <;> omega
end Go.Proofs.YtlhfdklfkfodkaaDoor
