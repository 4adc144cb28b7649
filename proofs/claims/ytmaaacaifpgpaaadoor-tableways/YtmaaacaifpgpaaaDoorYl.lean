/- The law of TableWays: it answers true at any int, any 64 bits and either order. Conditions: those that each row states. -/
import Derived.Test.YtmaaacaifpgpaaaDoorTellsWr
import Derived.Test.YtmaaacaifpgpaaaDoorTe
namespace Go.Proofs.YtmaaacaifpgpaaaDoor
open Go.RowKit Go.Lib Ieee
set_option maxRecDepth 100000
set_option linter.unusedSimpArgs false

theorem rd_three (w : World) (x y z : UInt8) (cs : Array Value) (hc : cs = #[.int .u8 (x.toNat : Int), .int .u8 (y.toNat : Int), .int .u8 (z.toNat : Int)]) : RdA (w.alloc (.cells cs 5)) (.slice (some ⟨w.heap.size, 0, none⟩) 3 3) [x, y, z] := by
  subst hc
  have N := Blk.new w #[.int .u8 (x.toNat : Int), .int .u8 (y.toNat : Int), .int .u8 (z.toNat : Int)] 5
  refine .inl (.inr ⟨w.heap.size, 0, 3, rfl, by simp, fun i hi => ?_⟩)
  have hi : i < 3 := hi
  match i, hi with
  | 0, _ => exact N.cell 0
  | 1, _ => exact N.cell 1
  | 2, _ => exact N.cell 2
/-- Three bytes behind what is one's own. -/
theorem app3 {ops : Array Oper} {rest : List Oper} {o : Oper} {a : Act} {Q : Exit → Act → World → Prop} (hgd : o.guard = none) (s x : Operand)
    (ho : o.op = .call { callee := .builtin .append, args := #[s, x], argTypes := #[23, 23] }) (B : Nat) (w : World) (p q r : UInt8) (cs : Array Value) (hcs : cs = #[.int .u8 (p.toNat : Int), .int .u8 (q.toNat : Int), .int .u8 (r.toNat : Int)])
    (hs : a.eval s = .slice none 0 0) (hx : a.eval x = .slice (some ⟨w.heap.size, 0, none⟩) 3 3) (hB : B ≤ w.heap.size)
    (h : ∀ v' w', Own w' B v' [p, q, r] → Below B w w' → wpList Tryd.prog ops Q rest (a.put o.dst v') w') : wpList Tryd.prog ops Q (o :: rest) a (w.alloc (.cells cs 5)) :=
  appB hgd s x ho B _ _ [] [p, q, r] _ hs (Own.nil _ _) hx (rd_three w p q r cs hcs) (by simp) (by simp; omega) (fun v' w' h1 h2 => h v' w' h1 (((below_new w _).mono hB).trans h2))
/-- What table.Take answers of the two fields. -/
theorem take_ways (w : World) (t : Bool) (k : Nat) (n : Int) (b : Nat) (hk : k = 1 ∨ k = 2 ∨ k = 4 ∨ k = 8) (hf : fitsK k n) (hb : b < 2 ^ 64) :
    Calls Tryd.prog 12 #[str (longL (inW t k n b))] w fun e w' => ∃ g c z, e = .returned (.tuple #[.slice (some ⟨g, 0, none⟩) 2 c, .int .i64 z, .int .i64 0]) ∧ RdP w' (.slice (some ⟨g, 0, none⟩) 2 c) [prF b, prI n] ∧ PrAt w' g 0 (prF b) ∧ PrAt w' g 5 (prI n) ∧ Below w.heap.size w w' := by
  have hl : (longL (inW t k n b)).length ≤ 140737488355328 := by
    unfold longL
    rw [List.length_append, beN_len, inW_len]
    omega
  refine (ttake_any w _ hl).mono ?_
  rintro e w' ⟨v, z, m, rfl, hT, hB⟩
  rcases hT with ⟨L, r, h1, rfl, h3, _⟩ | ⟨h1, _⟩
  · rw [ways t k n b hk hf hb] at h1
    injection h1 with h1
    obtain ⟨rfl, rfl⟩ := Prod.mk.inj h1
    have hr := h3.rd
    rcases h3.2 with ⟨rfl, h4⟩ | ⟨g, cap, cur, rfl, _⟩
    · simp at h4
    · rcases hr with ⟨⟨a, c, h5⟩, h6⟩ | ⟨g', o, c, h5, h6, h7⟩
      · cases h6
      · injection h5 with e1 e2 e3
        injection e1 with e1
        injection e1 with e4 e5 e6
        subst e4 e5 e3
        exact ⟨_, _, _, rfl, .inr ⟨g, 0, _, rfl, h6, h7⟩, h7 0 (by simp), h7 1 (by simp), hB⟩
  · rw [ways t k n b hk hf hb] at h1
    cases h1

set_option maxHeartbeats 80000000 in
theorem ways_law (w : World) (hv : Mv w) (n : Int) (b : Nat) (t : Bool) (hn : -9223372036854775808 ≤ n ∧ n ≤ 9223372036854775807) (hb : b < 2 ^ 64) :
    Calls Tryd.prog 5 #[.int .i64 n, .int .u64 b, .bool t] w fun e w' => e = .returned (.bool true) ∧ Below w.heap.size w w' := by
  have WA := wakes_any w hv
  have FR := fun w => rfrom_any w b
  have SM := fun w => rsame_any w (canonB b) b
  have TK := fun w k hk hf => take_ways w t k n b hk hf hb
  have u1 := u64_wrap n
  have VA := fun w v (h : RdP w v [prF b, prI n]) => valid7 w v _ h
  rw [good_w] at VA
  clear hv
  go_enter Tryd.func5, Tryd.ntmps5
  go_wp2_with fail
  refine WA.mono ?_
  rintro e w1 ⟨rfl, b1⟩
  clear WA
  go_wp2_with fail
  refine (FR w1).mono ?_
  rintro e w2 ⟨rfl, hw2⟩
  subst hw2
  clear FR
  go_wp2_with fail
  go_loopw [8] (fun s wr => ∃ k : Nat, (k = 1 ∨ k = 2 ∨ k = 4 ∨ k = 8 ∨ k = 16) ∧ s = .int .i64 k ∧ Below w.heap.size w wr) (fun s _ => 16 - (RowKit.intOf s).toNat)
  case atStart => exact ⟨1, by simp, rfl, b1⟩
  case round =>
    obtain ⟨k, hk, rfl, B0⟩ := hrel
    clear b1
    rcases hk with rfl | rfl | rfl | rfl | rfl
    · as_aux_lemma =>
      by_cases hf : fitsK 1 n
      · have hh : -128 ≤ n ∧ n < 128 := hf
        have g1 : decide (n < -128) = false := by simp; omega
        have g2 : decide ((128 : Int) ≤ n) = false := by simp; omega
        go_wp2_with (at_builtin; refine app3 rfl (.tmp 44) (.tmp 48) rfl wr.heap.size wr 1 105 98 _ rfl rfl rfl (Nat.le_refl _) ?_)
        intro v1 w1 o1 b1
        have P1 : Calls Tryd.prog 21 #[v1, .int .u64 (u64L n : Int), .int .i64 1] w1 _ := bigN_any w1 _ v1 _ 1 (u64L n) (by decide) o1 b1.size (by simp)
        go_wp2_with fail
        refine P1.mono ?_
        rintro e w2 ⟨v2, rfl, o2, b2⟩
        have o2 : Own w2 wr.heap.size v2 (inI 1 n) := o2
        have B2 := B0.trans ((b1.trans b2.b).mono B0.size)
        clear P1 o1 b1 b2 B0
        go_wp2_with (at_builtin; refine app3 rfl (.tmp 55) (.tmp 56) rfl w2.heap.size w2 1 102 100 _ rfl rfl rfl (Nat.le_refl _) ?_)
        intro v3 w3 o3 b3
        have P3 : Calls Tryd.prog 21 #[v3, .int .u64 (b : Int), .int .i64 8] w3 _ := bigN_any w3 _ v3 _ 8 b (by decide) o3 b3.size (by simp)
        go_wp2_with fail
        refine P3.mono ?_
        rintro e w4 ⟨v4, rfl, o4, b4⟩
        have o4 : Own w4 w2.heap.size v4 (inF b) := o4
        have b24 := b3.trans b4.b
        have o24 := o2.on b24
        have B4 := B2.trans (b24.mono B2.size)
        have lI : (inI 1 n).length = 4 := by simp [inI, beN_len]
        have lF : (inF b).length = 11 := by simp [inF, beN_len]
        clear P3 o3 o2 b3 b4 b24 B2
        go_wp2_with (at_builtin; refine appB rfl (.tmp 61) (.tmp 62) rfl w4.heap.size _ v2 [] (inI 1 n) _ rfl (own_empty w4 _ (Nat.le_refl _)) rfl (.inl (o24.on (below_new _ _)).rd) (by rw [lI]; decide) (by simp) ?_)
        intro v5 w5 o5 b5
        have b45 := (below_new w4 _).trans b5
        have o45 := o4.on b45
        have o25 := o24.on b45
        have z5 := b45.size
        go_wp2_with (at_builtin; refine appB rfl (.tmp 63) (.tmp 64) rfl w4.heap.size _ v4 _ (inF b) w5 rfl o5 rfl (.inl o45.rd) (by rw [lI, lF]; decide) z5 ?_)
        intro v6 w6 o6 b6
        have b46 := b45.trans b6
        have B6 := B4.trans (b46.mono B4.size)
        clear b5 b45 z5 o5 B4
        cases t with
        | false =>
          have o6 : Own w6 w4.heap.size v6 (inW false 1 n b) := o6
          
          obtain ⟨ai, ci, rfl⟩ := o6.shapeL
          have HL : Hid ((inW false 1 n b).length = 15) := inW_len _ _ _ _
          have u2 : IntKind.u64.wrap ((inW false 1 n b).length : Int) = ((inW false 1 n b).length : Int) := by rw [HL.out]; decide
          have P4 : Calls Tryd.prog 21 #[.slice none 0 0, .int .u64 ((inW false 1 n b).length : Int), .int .i64 4] w6 _ := bigN_any w6 w6.heap.size (.slice none 0 0) [] 4 (inW false 1 n b).length (by decide) (Own.nil _ _) (Nat.le_refl _) (by simp)
          have TQ := fun w => TK w 1 (by simp) hf
          clear TK
          generalize hX : inW false 1 n b = X at *
          go_wp2_with fail
          refine P4.mono ?_
          rintro e w8 ⟨v8, rfl, o8, b8⟩
          have o8 : Own w8 w6.heap.size v8 (beN 4 X.length) := o8
          have ox := o6.on b8.b
          have h8 := b8.b.size
          go_wp2_with (at_builtin; refine appB rfl (.tmp 76) (.tmp 77) rfl w6.heap.size _ _ _ X w8 rfl o8 rfl (.inl ox.rd) (by rw [beN_len, HL.out]; decide) h8 ?_)
          intro v9 w9 o9 b9
          have cv : (convert 23 9 v9).run Tryd.prog w9 = .ok (str (longL X)) w9 := conv_any o9.rd
          have B9 := B6.trans ((b8.b.trans b9).mono B6.size)
          clear P4 o8 ox b8 b9 h8 o6 B6 u2 HL o9
          go_wp2_with fail
          refine (TQ w9).mono ?_
          rintro e w10 ⟨g, c, z, rfl, r, p0, p1, b10⟩
          have B10 := B9.trans (b10.mono B9.size)
          clear TQ B9 b10 cv
          have V := VA w10 _ r
          have P0 : Hid (PrAt w10 g 0 (prF b)) := p0
          have P1 : Hid (PrAt w10 g 5 (prI n)) := p1
          clear p0 p1
          have c0 : w10.cell? ⟨g, 0, none⟩ = some (.string ⟨#[102]⟩) := P0.out.1
          have d0 : w10.cell? ⟨g, 5, none⟩ = some (.string ⟨#[105]⟩) := P1.out.1
          have d2 : w10.cell? ⟨g, 7, none⟩ = some (.int .i64 n) := P1.out.2.2.1
          go_wp2_with (go_at_call 16; refine V.mono ?_; rintro e w11 ⟨rfl, b11⟩)
          have B11 := B10.trans (b11.mono B10.size)
          have e4 : w11.cell? ⟨g, 4, none⟩ = some (.float .f64 (canonB b)) := (P0.out.on b11).2.2.2.2
          clear c0 d0 d2 V P0 P1 b11 B10 r
          by_cases hN : isN double b
          · have o1 : FloatKind.f64.format.order b b = none := order_nan bi64 (.inl hN)
            have hcb : canonB b = 9221120237041090561 := if_pos hN
            have o2 : FloatKind.f64.format.order (canonB b) (canonB b) = none := order_nan bi64 (.inl (by rw [hcb]; decide))
            clear hcb
            generalize canonB b = q at *
            refine wp_region_held (S := fun W => W.cell? ⟨g, 4, none⟩ = some (.float .f64 q)) hmix ?_
            show wpAnyH _ _ _ _ _ _ _ _ (World.drew _)
            have hS : w11.drew.cell? ⟨g, 4, none⟩ = some (.float .f64 q) := e4
            refine tks [0, 1, 2, 3, 4, 5, 6, 7, 8, 9, 10, 11, 12, 13, 14, 15, 16, 17, 18, 19, 20, 21, 22, 23, 24, 25, 26, 27, 28, 29, 30] [.float .f64 b, .float .f64 b, .bool false, .bool false, undef, undef, undef, undef, undef, undef, undef, undef, .bool false, .bool false, .float .f64 b, .float .f64 b, .bool true, .bool true, .slice (some ⟨g, 0, none⟩) 2 c, .pointer (some ⟨g, 0, none⟩), .pointer (some ⟨g, 1, none⟩), .pointer (some ⟨g, 4, none⟩), .float .f64 q, .slice (some ⟨g, 0, none⟩) 2 c, .pointer (some ⟨g, 0, none⟩), .pointer (some ⟨g, 1, none⟩), .pointer (some ⟨g, 4, none⟩), .float .f64 q, .bool false, .bool false, .bool false] 0 ?_ hS ?_
            · simp only [tkY, tkf]
              refine ⟨.yes ?_, .yes ?_, .yes ?_, .yes ?_, .no, .no, .no, .no, .no, .no, .no, .no, .yes ?_, .yes ?_, .yes ?_, .yes ?_, .yes ?_, .yes ?_, .yes ?_, .yes ?_, .yes ?_, .yes ?_, .yes ?_, .yes ?_, .yes ?_, .yes ?_, .yes ?_, .yes ?_, .yes ?_, .yes ?_, .yes ?_, trivial⟩
              all_goals
                intro W' hW'
                have hW' : W'.cell? ⟨g, 4, none⟩ = some (.float .f64 q) := hW'
                go_simp
            simp only [tkA, tkf]
            refine wpAnyH_done (by kernel_rfl) ?_ _
            go_wp2_with fail
            go_roundw
            case rel => exact ⟨2, by simp, by go_num, B11.drew⟩
            case measure => simp [RowKit.intOf]
          · have o1 : FloatKind.f64.format.order b b = some .eq := order_self hN
            have hcb : canonB b = b := if_neg hN
            rw [hcb] at e4 SM
            rw [decide_eq_true rfl] at SM
            refine wp_region_held (S := fun W => W.cell? ⟨g, 4, none⟩ = some (.float .f64 b)) hmix ?_
            show wpAnyH _ _ _ _ _ _ _ _ (World.drew _)
            have hS : w11.drew.cell? ⟨g, 4, none⟩ = some (.float .f64 b) := e4
            refine tks [0, 1, 2, 3, 4, 5, 6, 7, 8, 9] [.float .f64 b, .float .f64 b, .bool true, .bool true, .slice (some ⟨g, 0, none⟩) 2 c, .pointer (some ⟨g, 0, none⟩), .pointer (some ⟨g, 1, none⟩), .pointer (some ⟨g, 4, none⟩), .float .f64 b, .float .f64 b] 21 ?_ hS ?_
            · simp only [tkY, tkf]
              refine ⟨.yes ?_, .yes ?_, .yes ?_, .yes ?_, .yes ?_, .yes ?_, .yes ?_, .yes ?_, .yes ?_, .yes ?_, trivial⟩
              all_goals
                intro W' hW'
                have hW' : W'.cell? ⟨g, 4, none⟩ = some (.float .f64 b) := hW'
                go_simp
            simp only [tkA, tkf]
            refine ak 10 (fun K hK => ?_)
            go_wp2_with fail
            refine (SM _).mono ?_
            rintro e w12 ⟨rfl, hw12⟩
            subst hw12
            refine hK _ _ hS ?_
            clear hK K
            refine tks [11, 12, 13, 14, 15, 16, 17, 18, 19, 20, 21, 22, 23, 24, 25, 26, 27, 28, 29, 30] [.bool false, .bool false, .bool false, .float .f64 b, .float .f64 b, .bool false, .bool false, undef, undef, undef, undef, undef, undef, undef, undef, undef, undef, undef, .bool false, .bool false] 0 ?_ hS ?_
            · simp only [tkY, tkf]
              refine ⟨.yes ?_, .yes ?_, .yes ?_, .yes ?_, .yes ?_, .yes ?_, .yes ?_, .no, .no, .no, .no, .no, .no, .no, .no, .no, .no, .no, .yes ?_, .yes ?_, trivial⟩
              all_goals
                intro W' hW'
                have hW' : W'.cell? ⟨g, 4, none⟩ = some (.float .f64 b) := hW'
                go_simp
            simp only [tkA, tkf]
            refine wpAnyH_done (by kernel_rfl) ?_ _
            go_wp2_with fail
            go_roundw
            case rel => exact ⟨2, by simp, by go_num, B11.drew⟩
            case measure => simp [RowKit.intOf]
        | true =>
          have p4 := o4.on b46
          have p2 := o24.on b46
          have z6 := b46.size
          go_wp2_with (at_builtin; refine appB rfl (.tmp 67) (.tmp 68) rfl w6.heap.size _ v4 [] (inF b) _ rfl (own_empty w6 _ (Nat.le_refl _)) rfl (.inl (p4.on (below_new _ _)).rd) (by rw [lF]; decide) (by simp) ?_)
          intro v7 w7 o7 b7
          have b67 := (below_new w6 _).trans b7
          have p27 := p2.on b67
          have z7 := b67.size
          go_wp2_with (at_builtin; refine appB rfl (.tmp 69) (.tmp 70) rfl w6.heap.size _ v2 _ (inI 1 n) w7 rfl o7 rfl (.inl p27.rd) (by rw [lI, lF]; decide) z7 ?_)
          intro v10 w10 o10 b10
          have o10 : Own w10 w6.heap.size v10 (inW true 1 n b) := o10
          have B8 := B6.trans ((b67.trans b10).mono B6.size)
          clear p4 p2 z6 o7 b7 b67 p27 z7 b10 B6 b46 o6 o4 o24
          
          obtain ⟨ai, ci, rfl⟩ := o10.shapeL
          have HL : Hid ((inW true 1 n b).length = 15) := inW_len _ _ _ _
          have u2 : IntKind.u64.wrap ((inW true 1 n b).length : Int) = ((inW true 1 n b).length : Int) := by rw [HL.out]; decide
          have P4 : Calls Tryd.prog 21 #[.slice none 0 0, .int .u64 ((inW true 1 n b).length : Int), .int .i64 4] w10 _ := bigN_any w10 w10.heap.size (.slice none 0 0) [] 4 (inW true 1 n b).length (by decide) (Own.nil _ _) (Nat.le_refl _) (by simp)
          have TQ := fun w => TK w 1 (by simp) hf
          clear TK
          generalize hX : inW true 1 n b = X at *
          go_wp2_with fail
          refine P4.mono ?_
          rintro e w8 ⟨v8, rfl, o8, b8⟩
          have o8 : Own w8 w10.heap.size v8 (beN 4 X.length) := o8
          have ox := o10.on b8.b
          have h8 := b8.b.size
          go_wp2_with (at_builtin; refine appB rfl (.tmp 76) (.tmp 77) rfl w10.heap.size _ _ _ X w8 rfl o8 rfl (.inl ox.rd) (by rw [beN_len, HL.out]; decide) h8 ?_)
          intro v9 w9 o9 b9
          have cv : (convert 23 9 v9).run Tryd.prog w9 = .ok (str (longL X)) w9 := conv_any o9.rd
          have B9 := B8.trans ((b8.b.trans b9).mono B8.size)
          clear P4 o8 ox b8 b9 h8 o10 B8 u2 HL o9
          go_wp2_with fail
          refine (TQ w9).mono ?_
          rintro e w10 ⟨g, c, z, rfl, r, p0, p1, b10⟩
          have B10 := B9.trans (b10.mono B9.size)
          clear TQ B9 b10 cv
          have V := VA w10 _ r
          have P0 : Hid (PrAt w10 g 0 (prF b)) := p0
          have P1 : Hid (PrAt w10 g 5 (prI n)) := p1
          clear p0 p1
          have c0 : w10.cell? ⟨g, 0, none⟩ = some (.string ⟨#[102]⟩) := P0.out.1
          have d0 : w10.cell? ⟨g, 5, none⟩ = some (.string ⟨#[105]⟩) := P1.out.1
          have d2 : w10.cell? ⟨g, 7, none⟩ = some (.int .i64 n) := P1.out.2.2.1
          go_wp2_with (go_at_call 16; refine V.mono ?_; rintro e w11 ⟨rfl, b11⟩)
          have B11 := B10.trans (b11.mono B10.size)
          have e4 : w11.cell? ⟨g, 4, none⟩ = some (.float .f64 (canonB b)) := (P0.out.on b11).2.2.2.2
          clear c0 d0 d2 V P0 P1 b11 B10 r
          by_cases hN : isN double b
          · have o1 : FloatKind.f64.format.order b b = none := order_nan bi64 (.inl hN)
            have hcb : canonB b = 9221120237041090561 := if_pos hN
            have o2 : FloatKind.f64.format.order (canonB b) (canonB b) = none := order_nan bi64 (.inl (by rw [hcb]; decide))
            clear hcb
            generalize canonB b = q at *
            refine wp_region_held (S := fun W => W.cell? ⟨g, 4, none⟩ = some (.float .f64 q)) hmix ?_
            show wpAnyH _ _ _ _ _ _ _ _ (World.drew _)
            have hS : w11.drew.cell? ⟨g, 4, none⟩ = some (.float .f64 q) := e4
            refine tks [0, 1, 2, 3, 4, 5, 6, 7, 8, 9, 10, 11, 12, 13, 14, 15, 16, 17, 18, 19, 20, 21, 22, 23, 24, 25, 26, 27, 28, 29, 30] [.float .f64 b, .float .f64 b, .bool false, .bool false, undef, undef, undef, undef, undef, undef, undef, undef, .bool false, .bool false, .float .f64 b, .float .f64 b, .bool true, .bool true, .slice (some ⟨g, 0, none⟩) 2 c, .pointer (some ⟨g, 0, none⟩), .pointer (some ⟨g, 1, none⟩), .pointer (some ⟨g, 4, none⟩), .float .f64 q, .slice (some ⟨g, 0, none⟩) 2 c, .pointer (some ⟨g, 0, none⟩), .pointer (some ⟨g, 1, none⟩), .pointer (some ⟨g, 4, none⟩), .float .f64 q, .bool false, .bool false, .bool false] 0 ?_ hS ?_
            · simp only [tkY, tkf]
              refine ⟨.yes ?_, .yes ?_, .yes ?_, .yes ?_, .no, .no, .no, .no, .no, .no, .no, .no, .yes ?_, .yes ?_, .yes ?_, .yes ?_, .yes ?_, .yes ?_, .yes ?_, .yes ?_, .yes ?_, .yes ?_, .yes ?_, .yes ?_, .yes ?_, .yes ?_, .yes ?_, .yes ?_, .yes ?_, .yes ?_, .yes ?_, trivial⟩
              all_goals
                intro W' hW'
                have hW' : W'.cell? ⟨g, 4, none⟩ = some (.float .f64 q) := hW'
                go_simp
            simp only [tkA, tkf]
            refine wpAnyH_done (by kernel_rfl) ?_ _
            go_wp2_with fail
            go_roundw
            case rel => exact ⟨2, by simp, by go_num, B11.drew⟩
            case measure => simp [RowKit.intOf]
          · have o1 : FloatKind.f64.format.order b b = some .eq := order_self hN
            have hcb : canonB b = b := if_neg hN
            rw [hcb] at e4 SM
            rw [decide_eq_true rfl] at SM
            refine wp_region_held (S := fun W => W.cell? ⟨g, 4, none⟩ = some (.float .f64 b)) hmix ?_
            show wpAnyH _ _ _ _ _ _ _ _ (World.drew _)
            have hS : w11.drew.cell? ⟨g, 4, none⟩ = some (.float .f64 b) := e4
            refine tks [0, 1, 2, 3, 4, 5, 6, 7, 8, 9] [.float .f64 b, .float .f64 b, .bool true, .bool true, .slice (some ⟨g, 0, none⟩) 2 c, .pointer (some ⟨g, 0, none⟩), .pointer (some ⟨g, 1, none⟩), .pointer (some ⟨g, 4, none⟩), .float .f64 b, .float .f64 b] 21 ?_ hS ?_
            · simp only [tkY, tkf]
              refine ⟨.yes ?_, .yes ?_, .yes ?_, .yes ?_, .yes ?_, .yes ?_, .yes ?_, .yes ?_, .yes ?_, .yes ?_, trivial⟩
              all_goals
                intro W' hW'
                have hW' : W'.cell? ⟨g, 4, none⟩ = some (.float .f64 b) := hW'
                go_simp
            simp only [tkA, tkf]
            refine ak 10 (fun K hK => ?_)
            go_wp2_with fail
            refine (SM _).mono ?_
            rintro e w12 ⟨rfl, hw12⟩
            subst hw12
            refine hK _ _ hS ?_
            clear hK K
            refine tks [11, 12, 13, 14, 15, 16, 17, 18, 19, 20, 21, 22, 23, 24, 25, 26, 27, 28, 29, 30] [.bool false, .bool false, .bool false, .float .f64 b, .float .f64 b, .bool false, .bool false, undef, undef, undef, undef, undef, undef, undef, undef, undef, undef, undef, .bool false, .bool false] 0 ?_ hS ?_
            · simp only [tkY, tkf]
              refine ⟨.yes ?_, .yes ?_, .yes ?_, .yes ?_, .yes ?_, .yes ?_, .yes ?_, .no, .no, .no, .no, .no, .no, .no, .no, .no, .no, .no, .yes ?_, .yes ?_, trivial⟩
              all_goals
                intro W' hW'
                have hW' : W'.cell? ⟨g, 4, none⟩ = some (.float .f64 b) := hW'
                go_simp
            simp only [tkA, tkf]
            refine wpAnyH_done (by kernel_rfl) ?_ _
            go_wp2_with fail
            go_roundw
            case rel => exact ⟨2, by simp, by go_num, B11.drew⟩
            case measure => simp [RowKit.intOf]
      · have hh : ¬ (-128 ≤ n ∧ n < 128) := hf
        by_cases hx : n < -128
        · have g1 : decide (n < -128) = true := by simp; omega
          go_wp2_with fail
          go_roundw
          case rel => exact ⟨2, by simp, by go_num, B0⟩
          case measure => simp [RowKit.intOf]
        · have g1 : decide (n < -128) = false := by simp; omega
          have g2 : decide ((128 : Int) ≤ n) = true := by simp; omega
          go_wp2_with fail
          go_roundw
          case rel => exact ⟨2, by simp, by go_num, B0⟩
          case measure => simp [RowKit.intOf]
    · as_aux_lemma =>
      by_cases hf : fitsK 2 n
      · have hh : -32768 ≤ n ∧ n < 32768 := hf
        have g1 : decide (n < -32768) = false := by simp; omega
        have g2 : decide ((32768 : Int) ≤ n) = false := by simp; omega
        go_wp2_with (at_builtin; refine app3 rfl (.tmp 44) (.tmp 48) rfl wr.heap.size wr 1 105 115 _ rfl rfl rfl (Nat.le_refl _) ?_)
        intro v1 w1 o1 b1
        have P1 : Calls Tryd.prog 21 #[v1, .int .u64 (u64L n : Int), .int .i64 2] w1 _ := bigN_any w1 _ v1 _ 2 (u64L n) (by decide) o1 b1.size (by simp)
        go_wp2_with fail
        refine P1.mono ?_
        rintro e w2 ⟨v2, rfl, o2, b2⟩
        have o2 : Own w2 wr.heap.size v2 (inI 2 n) := o2
        have B2 := B0.trans ((b1.trans b2.b).mono B0.size)
        clear P1 o1 b1 b2 B0
        go_wp2_with (at_builtin; refine app3 rfl (.tmp 55) (.tmp 56) rfl w2.heap.size w2 1 102 100 _ rfl rfl rfl (Nat.le_refl _) ?_)
        intro v3 w3 o3 b3
        have P3 : Calls Tryd.prog 21 #[v3, .int .u64 (b : Int), .int .i64 8] w3 _ := bigN_any w3 _ v3 _ 8 b (by decide) o3 b3.size (by simp)
        go_wp2_with fail
        refine P3.mono ?_
        rintro e w4 ⟨v4, rfl, o4, b4⟩
        have o4 : Own w4 w2.heap.size v4 (inF b) := o4
        have b24 := b3.trans b4.b
        have o24 := o2.on b24
        have B4 := B2.trans (b24.mono B2.size)
        have lI : (inI 2 n).length = 5 := by simp [inI, beN_len]
        have lF : (inF b).length = 11 := by simp [inF, beN_len]
        clear P3 o3 o2 b3 b4 b24 B2
        go_wp2_with (at_builtin; refine appB rfl (.tmp 61) (.tmp 62) rfl w4.heap.size _ v2 [] (inI 2 n) _ rfl (own_empty w4 _ (Nat.le_refl _)) rfl (.inl (o24.on (below_new _ _)).rd) (by rw [lI]; decide) (by simp) ?_)
        intro v5 w5 o5 b5
        have b45 := (below_new w4 _).trans b5
        have o45 := o4.on b45
        have o25 := o24.on b45
        have z5 := b45.size
        go_wp2_with (at_builtin; refine appB rfl (.tmp 63) (.tmp 64) rfl w4.heap.size _ v4 _ (inF b) w5 rfl o5 rfl (.inl o45.rd) (by rw [lI, lF]; decide) z5 ?_)
        intro v6 w6 o6 b6
        have b46 := b45.trans b6
        have B6 := B4.trans (b46.mono B4.size)
        clear b5 b45 z5 o5 B4
        cases t with
        | false =>
          have o6 : Own w6 w4.heap.size v6 (inW false 2 n b) := o6
          
          obtain ⟨ai, ci, rfl⟩ := o6.shapeL
          have HL : Hid ((inW false 2 n b).length = 16) := inW_len _ _ _ _
          have u2 : IntKind.u64.wrap ((inW false 2 n b).length : Int) = ((inW false 2 n b).length : Int) := by rw [HL.out]; decide
          have P4 : Calls Tryd.prog 21 #[.slice none 0 0, .int .u64 ((inW false 2 n b).length : Int), .int .i64 4] w6 _ := bigN_any w6 w6.heap.size (.slice none 0 0) [] 4 (inW false 2 n b).length (by decide) (Own.nil _ _) (Nat.le_refl _) (by simp)
          have TQ := fun w => TK w 2 (by simp) hf
          clear TK
          generalize hX : inW false 2 n b = X at *
          go_wp2_with fail
          refine P4.mono ?_
          rintro e w8 ⟨v8, rfl, o8, b8⟩
          have o8 : Own w8 w6.heap.size v8 (beN 4 X.length) := o8
          have ox := o6.on b8.b
          have h8 := b8.b.size
          go_wp2_with (at_builtin; refine appB rfl (.tmp 76) (.tmp 77) rfl w6.heap.size _ _ _ X w8 rfl o8 rfl (.inl ox.rd) (by rw [beN_len, HL.out]; decide) h8 ?_)
          intro v9 w9 o9 b9
          have cv : (convert 23 9 v9).run Tryd.prog w9 = .ok (str (longL X)) w9 := conv_any o9.rd
          have B9 := B6.trans ((b8.b.trans b9).mono B6.size)
          clear P4 o8 ox b8 b9 h8 o6 B6 u2 HL o9
          go_wp2_with fail
          refine (TQ w9).mono ?_
          rintro e w10 ⟨g, c, z, rfl, r, p0, p1, b10⟩
          have B10 := B9.trans (b10.mono B9.size)
          clear TQ B9 b10 cv
          have V := VA w10 _ r
          have P0 : Hid (PrAt w10 g 0 (prF b)) := p0
          have P1 : Hid (PrAt w10 g 5 (prI n)) := p1
          clear p0 p1
          have c0 : w10.cell? ⟨g, 0, none⟩ = some (.string ⟨#[102]⟩) := P0.out.1
          have d0 : w10.cell? ⟨g, 5, none⟩ = some (.string ⟨#[105]⟩) := P1.out.1
          have d2 : w10.cell? ⟨g, 7, none⟩ = some (.int .i64 n) := P1.out.2.2.1
          go_wp2_with (go_at_call 16; refine V.mono ?_; rintro e w11 ⟨rfl, b11⟩)
          have B11 := B10.trans (b11.mono B10.size)
          have e4 : w11.cell? ⟨g, 4, none⟩ = some (.float .f64 (canonB b)) := (P0.out.on b11).2.2.2.2
          clear c0 d0 d2 V P0 P1 b11 B10 r
          by_cases hN : isN double b
          · have o1 : FloatKind.f64.format.order b b = none := order_nan bi64 (.inl hN)
            have hcb : canonB b = 9221120237041090561 := if_pos hN
            have o2 : FloatKind.f64.format.order (canonB b) (canonB b) = none := order_nan bi64 (.inl (by rw [hcb]; decide))
            clear hcb
            generalize canonB b = q at *
            refine wp_region_held (S := fun W => W.cell? ⟨g, 4, none⟩ = some (.float .f64 q)) hmix ?_
            show wpAnyH _ _ _ _ _ _ _ _ (World.drew _)
            have hS : w11.drew.cell? ⟨g, 4, none⟩ = some (.float .f64 q) := e4
            refine tks [0, 1, 2, 3, 4, 5, 6, 7, 8, 9, 10, 11, 12, 13, 14, 15, 16, 17, 18, 19, 20, 21, 22, 23, 24, 25, 26, 27, 28, 29, 30] [.float .f64 b, .float .f64 b, .bool false, .bool false, undef, undef, undef, undef, undef, undef, undef, undef, .bool false, .bool false, .float .f64 b, .float .f64 b, .bool true, .bool true, .slice (some ⟨g, 0, none⟩) 2 c, .pointer (some ⟨g, 0, none⟩), .pointer (some ⟨g, 1, none⟩), .pointer (some ⟨g, 4, none⟩), .float .f64 q, .slice (some ⟨g, 0, none⟩) 2 c, .pointer (some ⟨g, 0, none⟩), .pointer (some ⟨g, 1, none⟩), .pointer (some ⟨g, 4, none⟩), .float .f64 q, .bool false, .bool false, .bool false] 0 ?_ hS ?_
            · simp only [tkY, tkf]
              refine ⟨.yes ?_, .yes ?_, .yes ?_, .yes ?_, .no, .no, .no, .no, .no, .no, .no, .no, .yes ?_, .yes ?_, .yes ?_, .yes ?_, .yes ?_, .yes ?_, .yes ?_, .yes ?_, .yes ?_, .yes ?_, .yes ?_, .yes ?_, .yes ?_, .yes ?_, .yes ?_, .yes ?_, .yes ?_, .yes ?_, .yes ?_, trivial⟩
              all_goals
                intro W' hW'
                have hW' : W'.cell? ⟨g, 4, none⟩ = some (.float .f64 q) := hW'
                go_simp
            simp only [tkA, tkf]
            refine wpAnyH_done (by kernel_rfl) ?_ _
            go_wp2_with fail
            go_roundw
            case rel => exact ⟨4, by simp, by go_num, B11.drew⟩
            case measure => simp [RowKit.intOf]
          · have o1 : FloatKind.f64.format.order b b = some .eq := order_self hN
            have hcb : canonB b = b := if_neg hN
            rw [hcb] at e4 SM
            rw [decide_eq_true rfl] at SM
            refine wp_region_held (S := fun W => W.cell? ⟨g, 4, none⟩ = some (.float .f64 b)) hmix ?_
            show wpAnyH _ _ _ _ _ _ _ _ (World.drew _)
            have hS : w11.drew.cell? ⟨g, 4, none⟩ = some (.float .f64 b) := e4
            refine tks [0, 1, 2, 3, 4, 5, 6, 7, 8, 9] [.float .f64 b, .float .f64 b, .bool true, .bool true, .slice (some ⟨g, 0, none⟩) 2 c, .pointer (some ⟨g, 0, none⟩), .pointer (some ⟨g, 1, none⟩), .pointer (some ⟨g, 4, none⟩), .float .f64 b, .float .f64 b] 21 ?_ hS ?_
            · simp only [tkY, tkf]
              refine ⟨.yes ?_, .yes ?_, .yes ?_, .yes ?_, .yes ?_, .yes ?_, .yes ?_, .yes ?_, .yes ?_, .yes ?_, trivial⟩
              all_goals
                intro W' hW'
                have hW' : W'.cell? ⟨g, 4, none⟩ = some (.float .f64 b) := hW'
                go_simp
            simp only [tkA, tkf]
            refine ak 10 (fun K hK => ?_)
            go_wp2_with fail
            refine (SM _).mono ?_
            rintro e w12 ⟨rfl, hw12⟩
            subst hw12
            refine hK _ _ hS ?_
            clear hK K
            refine tks [11, 12, 13, 14, 15, 16, 17, 18, 19, 20, 21, 22, 23, 24, 25, 26, 27, 28, 29, 30] [.bool false, .bool false, .bool false, .float .f64 b, .float .f64 b, .bool false, .bool false, undef, undef, undef, undef, undef, undef, undef, undef, undef, undef, undef, .bool false, .bool false] 0 ?_ hS ?_
            · simp only [tkY, tkf]
              refine ⟨.yes ?_, .yes ?_, .yes ?_, .yes ?_, .yes ?_, .yes ?_, .yes ?_, .no, .no, .no, .no, .no, .no, .no, .no, .no, .no, .no, .yes ?_, .yes ?_, trivial⟩
              all_goals
                intro W' hW'
                have hW' : W'.cell? ⟨g, 4, none⟩ = some (.float .f64 b) := hW'
                go_simp
            simp only [tkA, tkf]
            refine wpAnyH_done (by kernel_rfl) ?_ _
            go_wp2_with fail
            go_roundw
            case rel => exact ⟨4, by simp, by go_num, B11.drew⟩
            case measure => simp [RowKit.intOf]
        | true =>
          have p4 := o4.on b46
          have p2 := o24.on b46
          have z6 := b46.size
          go_wp2_with (at_builtin; refine appB rfl (.tmp 67) (.tmp 68) rfl w6.heap.size _ v4 [] (inF b) _ rfl (own_empty w6 _ (Nat.le_refl _)) rfl (.inl (p4.on (below_new _ _)).rd) (by rw [lF]; decide) (by simp) ?_)
          intro v7 w7 o7 b7
          have b67 := (below_new w6 _).trans b7
          have p27 := p2.on b67
          have z7 := b67.size
          go_wp2_with (at_builtin; refine appB rfl (.tmp 69) (.tmp 70) rfl w6.heap.size _ v2 _ (inI 2 n) w7 rfl o7 rfl (.inl p27.rd) (by rw [lI, lF]; decide) z7 ?_)
          intro v10 w10 o10 b10
          have o10 : Own w10 w6.heap.size v10 (inW true 2 n b) := o10
          have B8 := B6.trans ((b67.trans b10).mono B6.size)
          clear p4 p2 z6 o7 b7 b67 p27 z7 b10 B6 b46 o6 o4 o24
          
          obtain ⟨ai, ci, rfl⟩ := o10.shapeL
          have HL : Hid ((inW true 2 n b).length = 16) := inW_len _ _ _ _
          have u2 : IntKind.u64.wrap ((inW true 2 n b).length : Int) = ((inW true 2 n b).length : Int) := by rw [HL.out]; decide
          have P4 : Calls Tryd.prog 21 #[.slice none 0 0, .int .u64 ((inW true 2 n b).length : Int), .int .i64 4] w10 _ := bigN_any w10 w10.heap.size (.slice none 0 0) [] 4 (inW true 2 n b).length (by decide) (Own.nil _ _) (Nat.le_refl _) (by simp)
          have TQ := fun w => TK w 2 (by simp) hf
          clear TK
          generalize hX : inW true 2 n b = X at *
          go_wp2_with fail
          refine P4.mono ?_
          rintro e w8 ⟨v8, rfl, o8, b8⟩
          have o8 : Own w8 w10.heap.size v8 (beN 4 X.length) := o8
          have ox := o10.on b8.b
          have h8 := b8.b.size
          go_wp2_with (at_builtin; refine appB rfl (.tmp 76) (.tmp 77) rfl w10.heap.size _ _ _ X w8 rfl o8 rfl (.inl ox.rd) (by rw [beN_len, HL.out]; decide) h8 ?_)
          intro v9 w9 o9 b9
          have cv : (convert 23 9 v9).run Tryd.prog w9 = .ok (str (longL X)) w9 := conv_any o9.rd
          have B9 := B8.trans ((b8.b.trans b9).mono B8.size)
          clear P4 o8 ox b8 b9 h8 o10 B8 u2 HL o9
          go_wp2_with fail
          refine (TQ w9).mono ?_
          rintro e w10 ⟨g, c, z, rfl, r, p0, p1, b10⟩
          have B10 := B9.trans (b10.mono B9.size)
          clear TQ B9 b10 cv
          have V := VA w10 _ r
          have P0 : Hid (PrAt w10 g 0 (prF b)) := p0
          have P1 : Hid (PrAt w10 g 5 (prI n)) := p1
          clear p0 p1
          have c0 : w10.cell? ⟨g, 0, none⟩ = some (.string ⟨#[102]⟩) := P0.out.1
          have d0 : w10.cell? ⟨g, 5, none⟩ = some (.string ⟨#[105]⟩) := P1.out.1
          have d2 : w10.cell? ⟨g, 7, none⟩ = some (.int .i64 n) := P1.out.2.2.1
          go_wp2_with (go_at_call 16; refine V.mono ?_; rintro e w11 ⟨rfl, b11⟩)
          have B11 := B10.trans (b11.mono B10.size)
          have e4 : w11.cell? ⟨g, 4, none⟩ = some (.float .f64 (canonB b)) := (P0.out.on b11).2.2.2.2
          clear c0 d0 d2 V P0 P1 b11 B10 r
          by_cases hN : isN double b
          · have o1 : FloatKind.f64.format.order b b = none := order_nan bi64 (.inl hN)
            have hcb : canonB b = 9221120237041090561 := if_pos hN
            have o2 : FloatKind.f64.format.order (canonB b) (canonB b) = none := order_nan bi64 (.inl (by rw [hcb]; decide))
            clear hcb
            generalize canonB b = q at *
            refine wp_region_held (S := fun W => W.cell? ⟨g, 4, none⟩ = some (.float .f64 q)) hmix ?_
            show wpAnyH _ _ _ _ _ _ _ _ (World.drew _)
            have hS : w11.drew.cell? ⟨g, 4, none⟩ = some (.float .f64 q) := e4
            refine tks [0, 1, 2, 3, 4, 5, 6, 7, 8, 9, 10, 11, 12, 13, 14, 15, 16, 17, 18, 19, 20, 21, 22, 23, 24, 25, 26, 27, 28, 29, 30] [.float .f64 b, .float .f64 b, .bool false, .bool false, undef, undef, undef, undef, undef, undef, undef, undef, .bool false, .bool false, .float .f64 b, .float .f64 b, .bool true, .bool true, .slice (some ⟨g, 0, none⟩) 2 c, .pointer (some ⟨g, 0, none⟩), .pointer (some ⟨g, 1, none⟩), .pointer (some ⟨g, 4, none⟩), .float .f64 q, .slice (some ⟨g, 0, none⟩) 2 c, .pointer (some ⟨g, 0, none⟩), .pointer (some ⟨g, 1, none⟩), .pointer (some ⟨g, 4, none⟩), .float .f64 q, .bool false, .bool false, .bool false] 0 ?_ hS ?_
            · simp only [tkY, tkf]
              refine ⟨.yes ?_, .yes ?_, .yes ?_, .yes ?_, .no, .no, .no, .no, .no, .no, .no, .no, .yes ?_, .yes ?_, .yes ?_, .yes ?_, .yes ?_, .yes ?_, .yes ?_, .yes ?_, .yes ?_, .yes ?_, .yes ?_, .yes ?_, .yes ?_, .yes ?_, .yes ?_, .yes ?_, .yes ?_, .yes ?_, .yes ?_, trivial⟩
              all_goals
                intro W' hW'
                have hW' : W'.cell? ⟨g, 4, none⟩ = some (.float .f64 q) := hW'
                go_simp
            simp only [tkA, tkf]
            refine wpAnyH_done (by kernel_rfl) ?_ _
            go_wp2_with fail
            go_roundw
            case rel => exact ⟨4, by simp, by go_num, B11.drew⟩
            case measure => simp [RowKit.intOf]
          · have o1 : FloatKind.f64.format.order b b = some .eq := order_self hN
            have hcb : canonB b = b := if_neg hN
            rw [hcb] at e4 SM
            rw [decide_eq_true rfl] at SM
            refine wp_region_held (S := fun W => W.cell? ⟨g, 4, none⟩ = some (.float .f64 b)) hmix ?_
            show wpAnyH _ _ _ _ _ _ _ _ (World.drew _)
            have hS : w11.drew.cell? ⟨g, 4, none⟩ = some (.float .f64 b) := e4
            refine tks [0, 1, 2, 3, 4, 5, 6, 7, 8, 9] [.float .f64 b, .float .f64 b, .bool true, .bool true, .slice (some ⟨g, 0, none⟩) 2 c, .pointer (some ⟨g, 0, none⟩), .pointer (some ⟨g, 1, none⟩), .pointer (some ⟨g, 4, none⟩), .float .f64 b, .float .f64 b] 21 ?_ hS ?_
            · simp only [tkY, tkf]
              refine ⟨.yes ?_, .yes ?_, .yes ?_, .yes ?_, .yes ?_, .yes ?_, .yes ?_, .yes ?_, .yes ?_, .yes ?_, trivial⟩
              all_goals
                intro W' hW'
                have hW' : W'.cell? ⟨g, 4, none⟩ = some (.float .f64 b) := hW'
                go_simp
            simp only [tkA, tkf]
            refine ak 10 (fun K hK => ?_)
            go_wp2_with fail
            refine (SM _).mono ?_
            rintro e w12 ⟨rfl, hw12⟩
            subst hw12
            refine hK _ _ hS ?_
            clear hK K
            refine tks [11, 12, 13, 14, 15, 16, 17, 18, 19, 20, 21, 22, 23, 24, 25, 26, 27, 28, 29, 30] [.bool false, .bool false, .bool false, .float .f64 b, .float .f64 b, .bool false, .bool false, undef, undef, undef, undef, undef, undef, undef, undef, undef, undef, undef, .bool false, .bool false] 0 ?_ hS ?_
            · simp only [tkY, tkf]
              refine ⟨.yes ?_, .yes ?_, .yes ?_, .yes ?_, .yes ?_, .yes ?_, .yes ?_, .no, .no, .no, .no, .no, .no, .no, .no, .no, .no, .no, .yes ?_, .yes ?_, trivial⟩
              all_goals
                intro W' hW'
                have hW' : W'.cell? ⟨g, 4, none⟩ = some (.float .f64 b) := hW'
                go_simp
            simp only [tkA, tkf]
            refine wpAnyH_done (by kernel_rfl) ?_ _
            go_wp2_with fail
            go_roundw
            case rel => exact ⟨4, by simp, by go_num, B11.drew⟩
            case measure => simp [RowKit.intOf]
      · have hh : ¬ (-32768 ≤ n ∧ n < 32768) := hf
        by_cases hx : n < -32768
        · have g1 : decide (n < -32768) = true := by simp; omega
          go_wp2_with fail
          go_roundw
          case rel => exact ⟨4, by simp, by go_num, B0⟩
          case measure => simp [RowKit.intOf]
        · have g1 : decide (n < -32768) = false := by simp; omega
          have g2 : decide ((32768 : Int) ≤ n) = true := by simp; omega
          go_wp2_with fail
          go_roundw
          case rel => exact ⟨4, by simp, by go_num, B0⟩
          case measure => simp [RowKit.intOf]
    · as_aux_lemma =>
      by_cases hf : fitsK 4 n
      · have hh : -2147483648 ≤ n ∧ n < 2147483648 := hf
        have g1 : decide (n < -2147483648) = false := by simp; omega
        have g2 : decide ((2147483648 : Int) ≤ n) = false := by simp; omega
        go_wp2_with (at_builtin; refine app3 rfl (.tmp 44) (.tmp 48) rfl wr.heap.size wr 1 105 73 _ rfl rfl rfl (Nat.le_refl _) ?_)
        intro v1 w1 o1 b1
        have P1 : Calls Tryd.prog 21 #[v1, .int .u64 (u64L n : Int), .int .i64 4] w1 _ := bigN_any w1 _ v1 _ 4 (u64L n) (by decide) o1 b1.size (by simp)
        go_wp2_with fail
        refine P1.mono ?_
        rintro e w2 ⟨v2, rfl, o2, b2⟩
        have o2 : Own w2 wr.heap.size v2 (inI 4 n) := o2
        have B2 := B0.trans ((b1.trans b2.b).mono B0.size)
        clear P1 o1 b1 b2 B0
        go_wp2_with (at_builtin; refine app3 rfl (.tmp 55) (.tmp 56) rfl w2.heap.size w2 1 102 100 _ rfl rfl rfl (Nat.le_refl _) ?_)
        intro v3 w3 o3 b3
        have P3 : Calls Tryd.prog 21 #[v3, .int .u64 (b : Int), .int .i64 8] w3 _ := bigN_any w3 _ v3 _ 8 b (by decide) o3 b3.size (by simp)
        go_wp2_with fail
        refine P3.mono ?_
        rintro e w4 ⟨v4, rfl, o4, b4⟩
        have o4 : Own w4 w2.heap.size v4 (inF b) := o4
        have b24 := b3.trans b4.b
        have o24 := o2.on b24
        have B4 := B2.trans (b24.mono B2.size)
        have lI : (inI 4 n).length = 7 := by simp [inI, beN_len]
        have lF : (inF b).length = 11 := by simp [inF, beN_len]
        clear P3 o3 o2 b3 b4 b24 B2
        go_wp2_with (at_builtin; refine appB rfl (.tmp 61) (.tmp 62) rfl w4.heap.size _ v2 [] (inI 4 n) _ rfl (own_empty w4 _ (Nat.le_refl _)) rfl (.inl (o24.on (below_new _ _)).rd) (by rw [lI]; decide) (by simp) ?_)
        intro v5 w5 o5 b5
        have b45 := (below_new w4 _).trans b5
        have o45 := o4.on b45
        have o25 := o24.on b45
        have z5 := b45.size
        go_wp2_with (at_builtin; refine appB rfl (.tmp 63) (.tmp 64) rfl w4.heap.size _ v4 _ (inF b) w5 rfl o5 rfl (.inl o45.rd) (by rw [lI, lF]; decide) z5 ?_)
        intro v6 w6 o6 b6
        have b46 := b45.trans b6
        have B6 := B4.trans (b46.mono B4.size)
        clear b5 b45 z5 o5 B4
        cases t with
        | false =>
          have o6 : Own w6 w4.heap.size v6 (inW false 4 n b) := o6
          
          obtain ⟨ai, ci, rfl⟩ := o6.shapeL
          have HL : Hid ((inW false 4 n b).length = 18) := inW_len _ _ _ _
          have u2 : IntKind.u64.wrap ((inW false 4 n b).length : Int) = ((inW false 4 n b).length : Int) := by rw [HL.out]; decide
          have P4 : Calls Tryd.prog 21 #[.slice none 0 0, .int .u64 ((inW false 4 n b).length : Int), .int .i64 4] w6 _ := bigN_any w6 w6.heap.size (.slice none 0 0) [] 4 (inW false 4 n b).length (by decide) (Own.nil _ _) (Nat.le_refl _) (by simp)
          have TQ := fun w => TK w 4 (by simp) hf
          clear TK
          generalize hX : inW false 4 n b = X at *
          go_wp2_with fail
          refine P4.mono ?_
          rintro e w8 ⟨v8, rfl, o8, b8⟩
          have o8 : Own w8 w6.heap.size v8 (beN 4 X.length) := o8
          have ox := o6.on b8.b
          have h8 := b8.b.size
          go_wp2_with (at_builtin; refine appB rfl (.tmp 76) (.tmp 77) rfl w6.heap.size _ _ _ X w8 rfl o8 rfl (.inl ox.rd) (by rw [beN_len, HL.out]; decide) h8 ?_)
          intro v9 w9 o9 b9
          have cv : (convert 23 9 v9).run Tryd.prog w9 = .ok (str (longL X)) w9 := conv_any o9.rd
          have B9 := B6.trans ((b8.b.trans b9).mono B6.size)
          clear P4 o8 ox b8 b9 h8 o6 B6 u2 HL o9
          go_wp2_with fail
          refine (TQ w9).mono ?_
          rintro e w10 ⟨g, c, z, rfl, r, p0, p1, b10⟩
          have B10 := B9.trans (b10.mono B9.size)
          clear TQ B9 b10 cv
          have V := VA w10 _ r
          have P0 : Hid (PrAt w10 g 0 (prF b)) := p0
          have P1 : Hid (PrAt w10 g 5 (prI n)) := p1
          clear p0 p1
          have c0 : w10.cell? ⟨g, 0, none⟩ = some (.string ⟨#[102]⟩) := P0.out.1
          have d0 : w10.cell? ⟨g, 5, none⟩ = some (.string ⟨#[105]⟩) := P1.out.1
          have d2 : w10.cell? ⟨g, 7, none⟩ = some (.int .i64 n) := P1.out.2.2.1
          go_wp2_with (go_at_call 16; refine V.mono ?_; rintro e w11 ⟨rfl, b11⟩)
          have B11 := B10.trans (b11.mono B10.size)
          have e4 : w11.cell? ⟨g, 4, none⟩ = some (.float .f64 (canonB b)) := (P0.out.on b11).2.2.2.2
          clear c0 d0 d2 V P0 P1 b11 B10 r
          by_cases hN : isN double b
          · have o1 : FloatKind.f64.format.order b b = none := order_nan bi64 (.inl hN)
            have hcb : canonB b = 9221120237041090561 := if_pos hN
            have o2 : FloatKind.f64.format.order (canonB b) (canonB b) = none := order_nan bi64 (.inl (by rw [hcb]; decide))
            clear hcb
            generalize canonB b = q at *
            refine wp_region_held (S := fun W => W.cell? ⟨g, 4, none⟩ = some (.float .f64 q)) hmix ?_
            show wpAnyH _ _ _ _ _ _ _ _ (World.drew _)
            have hS : w11.drew.cell? ⟨g, 4, none⟩ = some (.float .f64 q) := e4
            refine tks [0, 1, 2, 3, 4, 5, 6, 7, 8, 9, 10, 11, 12, 13, 14, 15, 16, 17, 18, 19, 20, 21, 22, 23, 24, 25, 26, 27, 28, 29, 30] [.float .f64 b, .float .f64 b, .bool false, .bool false, undef, undef, undef, undef, undef, undef, undef, undef, .bool false, .bool false, .float .f64 b, .float .f64 b, .bool true, .bool true, .slice (some ⟨g, 0, none⟩) 2 c, .pointer (some ⟨g, 0, none⟩), .pointer (some ⟨g, 1, none⟩), .pointer (some ⟨g, 4, none⟩), .float .f64 q, .slice (some ⟨g, 0, none⟩) 2 c, .pointer (some ⟨g, 0, none⟩), .pointer (some ⟨g, 1, none⟩), .pointer (some ⟨g, 4, none⟩), .float .f64 q, .bool false, .bool false, .bool false] 0 ?_ hS ?_
            · simp only [tkY, tkf]
              refine ⟨.yes ?_, .yes ?_, .yes ?_, .yes ?_, .no, .no, .no, .no, .no, .no, .no, .no, .yes ?_, .yes ?_, .yes ?_, .yes ?_, .yes ?_, .yes ?_, .yes ?_, .yes ?_, .yes ?_, .yes ?_, .yes ?_, .yes ?_, .yes ?_, .yes ?_, .yes ?_, .yes ?_, .yes ?_, .yes ?_, .yes ?_, trivial⟩
              all_goals
                intro W' hW'
                have hW' : W'.cell? ⟨g, 4, none⟩ = some (.float .f64 q) := hW'
                go_simp
            simp only [tkA, tkf]
            refine wpAnyH_done (by kernel_rfl) ?_ _
            go_wp2_with fail
            go_roundw
            case rel => exact ⟨8, by simp, by go_num, B11.drew⟩
            case measure => simp [RowKit.intOf]
          · have o1 : FloatKind.f64.format.order b b = some .eq := order_self hN
            have hcb : canonB b = b := if_neg hN
            rw [hcb] at e4 SM
            rw [decide_eq_true rfl] at SM
            refine wp_region_held (S := fun W => W.cell? ⟨g, 4, none⟩ = some (.float .f64 b)) hmix ?_
            show wpAnyH _ _ _ _ _ _ _ _ (World.drew _)
            have hS : w11.drew.cell? ⟨g, 4, none⟩ = some (.float .f64 b) := e4
            refine tks [0, 1, 2, 3, 4, 5, 6, 7, 8, 9] [.float .f64 b, .float .f64 b, .bool true, .bool true, .slice (some ⟨g, 0, none⟩) 2 c, .pointer (some ⟨g, 0, none⟩), .pointer (some ⟨g, 1, none⟩), .pointer (some ⟨g, 4, none⟩), .float .f64 b, .float .f64 b] 21 ?_ hS ?_
            · simp only [tkY, tkf]
              refine ⟨.yes ?_, .yes ?_, .yes ?_, .yes ?_, .yes ?_, .yes ?_, .yes ?_, .yes ?_, .yes ?_, .yes ?_, trivial⟩
              all_goals
                intro W' hW'
                have hW' : W'.cell? ⟨g, 4, none⟩ = some (.float .f64 b) := hW'
                go_simp
            simp only [tkA, tkf]
            refine ak 10 (fun K hK => ?_)
            go_wp2_with fail
            refine (SM _).mono ?_
            rintro e w12 ⟨rfl, hw12⟩
            subst hw12
            refine hK _ _ hS ?_
            clear hK K
            refine tks [11, 12, 13, 14, 15, 16, 17, 18, 19, 20, 21, 22, 23, 24, 25, 26, 27, 28, 29, 30] [.bool false, .bool false, .bool false, .float .f64 b, .float .f64 b, .bool false, .bool false, undef, undef, undef, undef, undef, undef, undef, undef, undef, undef, undef, .bool false, .bool false] 0 ?_ hS ?_
            · simp only [tkY, tkf]
              refine ⟨.yes ?_, .yes ?_, .yes ?_, .yes ?_, .yes ?_, .yes ?_, .yes ?_, .no, .no, .no, .no, .no, .no, .no, .no, .no, .no, .no, .yes ?_, .yes ?_, trivial⟩
              all_goals
                intro W' hW'
                have hW' : W'.cell? ⟨g, 4, none⟩ = some (.float .f64 b) := hW'
                go_simp
            simp only [tkA, tkf]
            refine wpAnyH_done (by kernel_rfl) ?_ _
            go_wp2_with fail
            go_roundw
            case rel => exact ⟨8, by simp, by go_num, B11.drew⟩
            case measure => simp [RowKit.intOf]
        | true =>
          have p4 := o4.on b46
          have p2 := o24.on b46
          have z6 := b46.size
          go_wp2_with (at_builtin; refine appB rfl (.tmp 67) (.tmp 68) rfl w6.heap.size _ v4 [] (inF b) _ rfl (own_empty w6 _ (Nat.le_refl _)) rfl (.inl (p4.on (below_new _ _)).rd) (by rw [lF]; decide) (by simp) ?_)
          intro v7 w7 o7 b7
          have b67 := (below_new w6 _).trans b7
          have p27 := p2.on b67
          have z7 := b67.size
          go_wp2_with (at_builtin; refine appB rfl (.tmp 69) (.tmp 70) rfl w6.heap.size _ v2 _ (inI 4 n) w7 rfl o7 rfl (.inl p27.rd) (by rw [lI, lF]; decide) z7 ?_)
          intro v10 w10 o10 b10
          have o10 : Own w10 w6.heap.size v10 (inW true 4 n b) := o10
          have B8 := B6.trans ((b67.trans b10).mono B6.size)
          clear p4 p2 z6 o7 b7 b67 p27 z7 b10 B6 b46 o6 o4 o24
          
          obtain ⟨ai, ci, rfl⟩ := o10.shapeL
          have HL : Hid ((inW true 4 n b).length = 18) := inW_len _ _ _ _
          have u2 : IntKind.u64.wrap ((inW true 4 n b).length : Int) = ((inW true 4 n b).length : Int) := by rw [HL.out]; decide
          have P4 : Calls Tryd.prog 21 #[.slice none 0 0, .int .u64 ((inW true 4 n b).length : Int), .int .i64 4] w10 _ := bigN_any w10 w10.heap.size (.slice none 0 0) [] 4 (inW true 4 n b).length (by decide) (Own.nil _ _) (Nat.le_refl _) (by simp)
          have TQ := fun w => TK w 4 (by simp) hf
          clear TK
          generalize hX : inW true 4 n b = X at *
          go_wp2_with fail
          refine P4.mono ?_
          rintro e w8 ⟨v8, rfl, o8, b8⟩
          have o8 : Own w8 w10.heap.size v8 (beN 4 X.length) := o8
          have ox := o10.on b8.b
          have h8 := b8.b.size
          go_wp2_with (at_builtin; refine appB rfl (.tmp 76) (.tmp 77) rfl w10.heap.size _ _ _ X w8 rfl o8 rfl (.inl ox.rd) (by rw [beN_len, HL.out]; decide) h8 ?_)
          intro v9 w9 o9 b9
          have cv : (convert 23 9 v9).run Tryd.prog w9 = .ok (str (longL X)) w9 := conv_any o9.rd
          have B9 := B8.trans ((b8.b.trans b9).mono B8.size)
          clear P4 o8 ox b8 b9 h8 o10 B8 u2 HL o9
          go_wp2_with fail
          refine (TQ w9).mono ?_
          rintro e w10 ⟨g, c, z, rfl, r, p0, p1, b10⟩
          have B10 := B9.trans (b10.mono B9.size)
          clear TQ B9 b10 cv
          have V := VA w10 _ r
          have P0 : Hid (PrAt w10 g 0 (prF b)) := p0
          have P1 : Hid (PrAt w10 g 5 (prI n)) := p1
          clear p0 p1
          have c0 : w10.cell? ⟨g, 0, none⟩ = some (.string ⟨#[102]⟩) := P0.out.1
          have d0 : w10.cell? ⟨g, 5, none⟩ = some (.string ⟨#[105]⟩) := P1.out.1
          have d2 : w10.cell? ⟨g, 7, none⟩ = some (.int .i64 n) := P1.out.2.2.1
          go_wp2_with (go_at_call 16; refine V.mono ?_; rintro e w11 ⟨rfl, b11⟩)
          have B11 := B10.trans (b11.mono B10.size)
          have e4 : w11.cell? ⟨g, 4, none⟩ = some (.float .f64 (canonB b)) := (P0.out.on b11).2.2.2.2
          clear c0 d0 d2 V P0 P1 b11 B10 r
          by_cases hN : isN double b
          · have o1 : FloatKind.f64.format.order b b = none := order_nan bi64 (.inl hN)
            have hcb : canonB b = 9221120237041090561 := if_pos hN
            have o2 : FloatKind.f64.format.order (canonB b) (canonB b) = none := order_nan bi64 (.inl (by rw [hcb]; decide))
            clear hcb
            generalize canonB b = q at *
            refine wp_region_held (S := fun W => W.cell? ⟨g, 4, none⟩ = some (.float .f64 q)) hmix ?_
            show wpAnyH _ _ _ _ _ _ _ _ (World.drew _)
            have hS : w11.drew.cell? ⟨g, 4, none⟩ = some (.float .f64 q) := e4
            refine tks [0, 1, 2, 3, 4, 5, 6, 7, 8, 9, 10, 11, 12, 13, 14, 15, 16, 17, 18, 19, 20, 21, 22, 23, 24, 25, 26, 27, 28, 29, 30] [.float .f64 b, .float .f64 b, .bool false, .bool false, undef, undef, undef, undef, undef, undef, undef, undef, .bool false, .bool false, .float .f64 b, .float .f64 b, .bool true, .bool true, .slice (some ⟨g, 0, none⟩) 2 c, .pointer (some ⟨g, 0, none⟩), .pointer (some ⟨g, 1, none⟩), .pointer (some ⟨g, 4, none⟩), .float .f64 q, .slice (some ⟨g, 0, none⟩) 2 c, .pointer (some ⟨g, 0, none⟩), .pointer (some ⟨g, 1, none⟩), .pointer (some ⟨g, 4, none⟩), .float .f64 q, .bool false, .bool false, .bool false] 0 ?_ hS ?_
            · simp only [tkY, tkf]
              refine ⟨.yes ?_, .yes ?_, .yes ?_, .yes ?_, .no, .no, .no, .no, .no, .no, .no, .no, .yes ?_, .yes ?_, .yes ?_, .yes ?_, .yes ?_, .yes ?_, .yes ?_, .yes ?_, .yes ?_, .yes ?_, .yes ?_, .yes ?_, .yes ?_, .yes ?_, .yes ?_, .yes ?_, .yes ?_, .yes ?_, .yes ?_, trivial⟩
              all_goals
                intro W' hW'
                have hW' : W'.cell? ⟨g, 4, none⟩ = some (.float .f64 q) := hW'
                go_simp
            simp only [tkA, tkf]
            refine wpAnyH_done (by kernel_rfl) ?_ _
            go_wp2_with fail
            go_roundw
            case rel => exact ⟨8, by simp, by go_num, B11.drew⟩
            case measure => simp [RowKit.intOf]
          · have o1 : FloatKind.f64.format.order b b = some .eq := order_self hN
            have hcb : canonB b = b := if_neg hN
            rw [hcb] at e4 SM
            rw [decide_eq_true rfl] at SM
            refine wp_region_held (S := fun W => W.cell? ⟨g, 4, none⟩ = some (.float .f64 b)) hmix ?_
            show wpAnyH _ _ _ _ _ _ _ _ (World.drew _)
            have hS : w11.drew.cell? ⟨g, 4, none⟩ = some (.float .f64 b) := e4
            refine tks [0, 1, 2, 3, 4, 5, 6, 7, 8, 9] [.float .f64 b, .float .f64 b, .bool true, .bool true, .slice (some ⟨g, 0, none⟩) 2 c, .pointer (some ⟨g, 0, none⟩), .pointer (some ⟨g, 1, none⟩), .pointer (some ⟨g, 4, none⟩), .float .f64 b, .float .f64 b] 21 ?_ hS ?_
            · simp only [tkY, tkf]
              refine ⟨.yes ?_, .yes ?_, .yes ?_, .yes ?_, .yes ?_, .yes ?_, .yes ?_, .yes ?_, .yes ?_, .yes ?_, trivial⟩
              all_goals
                intro W' hW'
                have hW' : W'.cell? ⟨g, 4, none⟩ = some (.float .f64 b) := hW'
                go_simp
            simp only [tkA, tkf]
            refine ak 10 (fun K hK => ?_)
            go_wp2_with fail
            refine (SM _).mono ?_
            rintro e w12 ⟨rfl, hw12⟩
            subst hw12
            refine hK _ _ hS ?_
            clear hK K
            refine tks [11, 12, 13, 14, 15, 16, 17, 18, 19, 20, 21, 22, 23, 24, 25, 26, 27, 28, 29, 30] [.bool false, .bool false, .bool false, .float .f64 b, .float .f64 b, .bool false, .bool false, undef, undef, undef, undef, undef, undef, undef, undef, undef, undef, undef, .bool false, .bool false] 0 ?_ hS ?_
            · simp only [tkY, tkf]
              refine ⟨.yes ?_, .yes ?_, .yes ?_, .yes ?_, .yes ?_, .yes ?_, .yes ?_, .no, .no, .no, .no, .no, .no, .no, .no, .no, .no, .no, .yes ?_, .yes ?_, trivial⟩
              all_goals
                intro W' hW'
                have hW' : W'.cell? ⟨g, 4, none⟩ = some (.float .f64 b) := hW'
                go_simp
            simp only [tkA, tkf]
            refine wpAnyH_done (by kernel_rfl) ?_ _
            go_wp2_with fail
            go_roundw
            case rel => exact ⟨8, by simp, by go_num, B11.drew⟩
            case measure => simp [RowKit.intOf]
      · have hh : ¬ (-2147483648 ≤ n ∧ n < 2147483648) := hf
        by_cases hx : n < -2147483648
        · have g1 : decide (n < -2147483648) = true := by simp; omega
          go_wp2_with fail
          go_roundw
          case rel => exact ⟨8, by simp, by go_num, B0⟩
          case measure => simp [RowKit.intOf]
        · have g1 : decide (n < -2147483648) = false := by simp; omega
          have g2 : decide ((2147483648 : Int) ≤ n) = true := by simp; omega
          go_wp2_with fail
          go_roundw
          case rel => exact ⟨8, by simp, by go_num, B0⟩
          case measure => simp [RowKit.intOf]
    · as_aux_lemma =>
      by_cases hf : fitsK 8 n
      · have hh : -9223372036854775808 ≤ n ∧ n ≤ 9223372036854775807 := hf
        go_wp2_with (at_builtin; refine app3 rfl (.tmp 44) (.tmp 48) rfl wr.heap.size wr 1 105 108 _ rfl rfl rfl (Nat.le_refl _) ?_)
        intro v1 w1 o1 b1
        have P1 : Calls Tryd.prog 21 #[v1, .int .u64 (u64L n : Int), .int .i64 8] w1 _ := bigN_any w1 _ v1 _ 8 (u64L n) (by decide) o1 b1.size (by simp)
        go_wp2_with fail
        refine P1.mono ?_
        rintro e w2 ⟨v2, rfl, o2, b2⟩
        have o2 : Own w2 wr.heap.size v2 (inI 8 n) := o2
        have B2 := B0.trans ((b1.trans b2.b).mono B0.size)
        clear P1 o1 b1 b2 B0
        go_wp2_with (at_builtin; refine app3 rfl (.tmp 55) (.tmp 56) rfl w2.heap.size w2 1 102 100 _ rfl rfl rfl (Nat.le_refl _) ?_)
        intro v3 w3 o3 b3
        have P3 : Calls Tryd.prog 21 #[v3, .int .u64 (b : Int), .int .i64 8] w3 _ := bigN_any w3 _ v3 _ 8 b (by decide) o3 b3.size (by simp)
        go_wp2_with fail
        refine P3.mono ?_
        rintro e w4 ⟨v4, rfl, o4, b4⟩
        have o4 : Own w4 w2.heap.size v4 (inF b) := o4
        have b24 := b3.trans b4.b
        have o24 := o2.on b24
        have B4 := B2.trans (b24.mono B2.size)
        have lI : (inI 8 n).length = 11 := by simp [inI, beN_len]
        have lF : (inF b).length = 11 := by simp [inF, beN_len]
        clear P3 o3 o2 b3 b4 b24 B2
        go_wp2_with (at_builtin; refine appB rfl (.tmp 61) (.tmp 62) rfl w4.heap.size _ v2 [] (inI 8 n) _ rfl (own_empty w4 _ (Nat.le_refl _)) rfl (.inl (o24.on (below_new _ _)).rd) (by rw [lI]; decide) (by simp) ?_)
        intro v5 w5 o5 b5
        have b45 := (below_new w4 _).trans b5
        have o45 := o4.on b45
        have o25 := o24.on b45
        have z5 := b45.size
        go_wp2_with (at_builtin; refine appB rfl (.tmp 63) (.tmp 64) rfl w4.heap.size _ v4 _ (inF b) w5 rfl o5 rfl (.inl o45.rd) (by rw [lI, lF]; decide) z5 ?_)
        intro v6 w6 o6 b6
        have b46 := b45.trans b6
        have B6 := B4.trans (b46.mono B4.size)
        clear b5 b45 z5 o5 B4
        cases t with
        | false =>
          have o6 : Own w6 w4.heap.size v6 (inW false 8 n b) := o6
          
          obtain ⟨ai, ci, rfl⟩ := o6.shapeL
          have HL : Hid ((inW false 8 n b).length = 22) := inW_len _ _ _ _
          have u2 : IntKind.u64.wrap ((inW false 8 n b).length : Int) = ((inW false 8 n b).length : Int) := by rw [HL.out]; decide
          have P4 : Calls Tryd.prog 21 #[.slice none 0 0, .int .u64 ((inW false 8 n b).length : Int), .int .i64 4] w6 _ := bigN_any w6 w6.heap.size (.slice none 0 0) [] 4 (inW false 8 n b).length (by decide) (Own.nil _ _) (Nat.le_refl _) (by simp)
          have TQ := fun w => TK w 8 (by simp) hf
          clear TK
          generalize hX : inW false 8 n b = X at *
          go_wp2_with fail
          refine P4.mono ?_
          rintro e w8 ⟨v8, rfl, o8, b8⟩
          have o8 : Own w8 w6.heap.size v8 (beN 4 X.length) := o8
          have ox := o6.on b8.b
          have h8 := b8.b.size
          go_wp2_with (at_builtin; refine appB rfl (.tmp 76) (.tmp 77) rfl w6.heap.size _ _ _ X w8 rfl o8 rfl (.inl ox.rd) (by rw [beN_len, HL.out]; decide) h8 ?_)
          intro v9 w9 o9 b9
          have cv : (convert 23 9 v9).run Tryd.prog w9 = .ok (str (longL X)) w9 := conv_any o9.rd
          have B9 := B6.trans ((b8.b.trans b9).mono B6.size)
          clear P4 o8 ox b8 b9 h8 o6 B6 u2 HL o9
          go_wp2_with fail
          refine (TQ w9).mono ?_
          rintro e w10 ⟨g, c, z, rfl, r, p0, p1, b10⟩
          have B10 := B9.trans (b10.mono B9.size)
          clear TQ B9 b10 cv
          have V := VA w10 _ r
          have P0 : Hid (PrAt w10 g 0 (prF b)) := p0
          have P1 : Hid (PrAt w10 g 5 (prI n)) := p1
          clear p0 p1
          have c0 : w10.cell? ⟨g, 0, none⟩ = some (.string ⟨#[102]⟩) := P0.out.1
          have d0 : w10.cell? ⟨g, 5, none⟩ = some (.string ⟨#[105]⟩) := P1.out.1
          have d2 : w10.cell? ⟨g, 7, none⟩ = some (.int .i64 n) := P1.out.2.2.1
          go_wp2_with (go_at_call 16; refine V.mono ?_; rintro e w11 ⟨rfl, b11⟩)
          have B11 := B10.trans (b11.mono B10.size)
          have e4 : w11.cell? ⟨g, 4, none⟩ = some (.float .f64 (canonB b)) := (P0.out.on b11).2.2.2.2
          clear c0 d0 d2 V P0 P1 b11 B10 r
          by_cases hN : isN double b
          · have o1 : FloatKind.f64.format.order b b = none := order_nan bi64 (.inl hN)
            have hcb : canonB b = 9221120237041090561 := if_pos hN
            have o2 : FloatKind.f64.format.order (canonB b) (canonB b) = none := order_nan bi64 (.inl (by rw [hcb]; decide))
            clear hcb
            generalize canonB b = q at *
            refine wp_region_held (S := fun W => W.cell? ⟨g, 4, none⟩ = some (.float .f64 q)) hmix ?_
            show wpAnyH _ _ _ _ _ _ _ _ (World.drew _)
            have hS : w11.drew.cell? ⟨g, 4, none⟩ = some (.float .f64 q) := e4
            refine tks [0, 1, 2, 3, 4, 5, 6, 7, 8, 9, 10, 11, 12, 13, 14, 15, 16, 17, 18, 19, 20, 21, 22, 23, 24, 25, 26, 27, 28, 29, 30] [.float .f64 b, .float .f64 b, .bool false, .bool false, undef, undef, undef, undef, undef, undef, undef, undef, .bool false, .bool false, .float .f64 b, .float .f64 b, .bool true, .bool true, .slice (some ⟨g, 0, none⟩) 2 c, .pointer (some ⟨g, 0, none⟩), .pointer (some ⟨g, 1, none⟩), .pointer (some ⟨g, 4, none⟩), .float .f64 q, .slice (some ⟨g, 0, none⟩) 2 c, .pointer (some ⟨g, 0, none⟩), .pointer (some ⟨g, 1, none⟩), .pointer (some ⟨g, 4, none⟩), .float .f64 q, .bool false, .bool false, .bool false] 0 ?_ hS ?_
            · simp only [tkY, tkf]
              refine ⟨.yes ?_, .yes ?_, .yes ?_, .yes ?_, .no, .no, .no, .no, .no, .no, .no, .no, .yes ?_, .yes ?_, .yes ?_, .yes ?_, .yes ?_, .yes ?_, .yes ?_, .yes ?_, .yes ?_, .yes ?_, .yes ?_, .yes ?_, .yes ?_, .yes ?_, .yes ?_, .yes ?_, .yes ?_, .yes ?_, .yes ?_, trivial⟩
              all_goals
                intro W' hW'
                have hW' : W'.cell? ⟨g, 4, none⟩ = some (.float .f64 q) := hW'
                go_simp
            simp only [tkA, tkf]
            refine wpAnyH_done (by kernel_rfl) ?_ _
            go_wp2_with fail
            go_roundw
            case rel => exact ⟨16, by simp, by go_num, B11.drew⟩
            case measure => simp [RowKit.intOf]
          · have o1 : FloatKind.f64.format.order b b = some .eq := order_self hN
            have hcb : canonB b = b := if_neg hN
            rw [hcb] at e4 SM
            rw [decide_eq_true rfl] at SM
            refine wp_region_held (S := fun W => W.cell? ⟨g, 4, none⟩ = some (.float .f64 b)) hmix ?_
            show wpAnyH _ _ _ _ _ _ _ _ (World.drew _)
            have hS : w11.drew.cell? ⟨g, 4, none⟩ = some (.float .f64 b) := e4
            refine tks [0, 1, 2, 3, 4, 5, 6, 7, 8, 9] [.float .f64 b, .float .f64 b, .bool true, .bool true, .slice (some ⟨g, 0, none⟩) 2 c, .pointer (some ⟨g, 0, none⟩), .pointer (some ⟨g, 1, none⟩), .pointer (some ⟨g, 4, none⟩), .float .f64 b, .float .f64 b] 21 ?_ hS ?_
            · simp only [tkY, tkf]
              refine ⟨.yes ?_, .yes ?_, .yes ?_, .yes ?_, .yes ?_, .yes ?_, .yes ?_, .yes ?_, .yes ?_, .yes ?_, trivial⟩
              all_goals
                intro W' hW'
                have hW' : W'.cell? ⟨g, 4, none⟩ = some (.float .f64 b) := hW'
                go_simp
            simp only [tkA, tkf]
            refine ak 10 (fun K hK => ?_)
            go_wp2_with fail
            refine (SM _).mono ?_
            rintro e w12 ⟨rfl, hw12⟩
            subst hw12
            refine hK _ _ hS ?_
            clear hK K
            refine tks [11, 12, 13, 14, 15, 16, 17, 18, 19, 20, 21, 22, 23, 24, 25, 26, 27, 28, 29, 30] [.bool false, .bool false, .bool false, .float .f64 b, .float .f64 b, .bool false, .bool false, undef, undef, undef, undef, undef, undef, undef, undef, undef, undef, undef, .bool false, .bool false] 0 ?_ hS ?_
            · simp only [tkY, tkf]
              refine ⟨.yes ?_, .yes ?_, .yes ?_, .yes ?_, .yes ?_, .yes ?_, .yes ?_, .no, .no, .no, .no, .no, .no, .no, .no, .no, .no, .no, .yes ?_, .yes ?_, trivial⟩
              all_goals
                intro W' hW'
                have hW' : W'.cell? ⟨g, 4, none⟩ = some (.float .f64 b) := hW'
                go_simp
            simp only [tkA, tkf]
            refine wpAnyH_done (by kernel_rfl) ?_ _
            go_wp2_with fail
            go_roundw
            case rel => exact ⟨16, by simp, by go_num, B11.drew⟩
            case measure => simp [RowKit.intOf]
        | true =>
          have p4 := o4.on b46
          have p2 := o24.on b46
          have z6 := b46.size
          go_wp2_with (at_builtin; refine appB rfl (.tmp 67) (.tmp 68) rfl w6.heap.size _ v4 [] (inF b) _ rfl (own_empty w6 _ (Nat.le_refl _)) rfl (.inl (p4.on (below_new _ _)).rd) (by rw [lF]; decide) (by simp) ?_)
          intro v7 w7 o7 b7
          have b67 := (below_new w6 _).trans b7
          have p27 := p2.on b67
          have z7 := b67.size
          go_wp2_with (at_builtin; refine appB rfl (.tmp 69) (.tmp 70) rfl w6.heap.size _ v2 _ (inI 8 n) w7 rfl o7 rfl (.inl p27.rd) (by rw [lI, lF]; decide) z7 ?_)
          intro v10 w10 o10 b10
          have o10 : Own w10 w6.heap.size v10 (inW true 8 n b) := o10
          have B8 := B6.trans ((b67.trans b10).mono B6.size)
          clear p4 p2 z6 o7 b7 b67 p27 z7 b10 B6 b46 o6 o4 o24
          
          obtain ⟨ai, ci, rfl⟩ := o10.shapeL
          have HL : Hid ((inW true 8 n b).length = 22) := inW_len _ _ _ _
          have u2 : IntKind.u64.wrap ((inW true 8 n b).length : Int) = ((inW true 8 n b).length : Int) := by rw [HL.out]; decide
          have P4 : Calls Tryd.prog 21 #[.slice none 0 0, .int .u64 ((inW true 8 n b).length : Int), .int .i64 4] w10 _ := bigN_any w10 w10.heap.size (.slice none 0 0) [] 4 (inW true 8 n b).length (by decide) (Own.nil _ _) (Nat.le_refl _) (by simp)
          have TQ := fun w => TK w 8 (by simp) hf
          clear TK
          generalize hX : inW true 8 n b = X at *
          go_wp2_with fail
          refine P4.mono ?_
          rintro e w8 ⟨v8, rfl, o8, b8⟩
          have o8 : Own w8 w10.heap.size v8 (beN 4 X.length) := o8
          have ox := o10.on b8.b
          have h8 := b8.b.size
          go_wp2_with (at_builtin; refine appB rfl (.tmp 76) (.tmp 77) rfl w10.heap.size _ _ _ X w8 rfl o8 rfl (.inl ox.rd) (by rw [beN_len, HL.out]; decide) h8 ?_)
          intro v9 w9 o9 b9
          have cv : (convert 23 9 v9).run Tryd.prog w9 = .ok (str (longL X)) w9 := conv_any o9.rd
          have B9 := B8.trans ((b8.b.trans b9).mono B8.size)
          clear P4 o8 ox b8 b9 h8 o10 B8 u2 HL o9
          go_wp2_with fail
          refine (TQ w9).mono ?_
          rintro e w10 ⟨g, c, z, rfl, r, p0, p1, b10⟩
          have B10 := B9.trans (b10.mono B9.size)
          clear TQ B9 b10 cv
          have V := VA w10 _ r
          have P0 : Hid (PrAt w10 g 0 (prF b)) := p0
          have P1 : Hid (PrAt w10 g 5 (prI n)) := p1
          clear p0 p1
          have c0 : w10.cell? ⟨g, 0, none⟩ = some (.string ⟨#[102]⟩) := P0.out.1
          have d0 : w10.cell? ⟨g, 5, none⟩ = some (.string ⟨#[105]⟩) := P1.out.1
          have d2 : w10.cell? ⟨g, 7, none⟩ = some (.int .i64 n) := P1.out.2.2.1
          go_wp2_with (go_at_call 16; refine V.mono ?_; rintro e w11 ⟨rfl, b11⟩)
          have B11 := B10.trans (b11.mono B10.size)
          have e4 : w11.cell? ⟨g, 4, none⟩ = some (.float .f64 (canonB b)) := (P0.out.on b11).2.2.2.2
          clear c0 d0 d2 V P0 P1 b11 B10 r
          by_cases hN : isN double b
          · have o1 : FloatKind.f64.format.order b b = none := order_nan bi64 (.inl hN)
            have hcb : canonB b = 9221120237041090561 := if_pos hN
            have o2 : FloatKind.f64.format.order (canonB b) (canonB b) = none := order_nan bi64 (.inl (by rw [hcb]; decide))
            clear hcb
            generalize canonB b = q at *
            refine wp_region_held (S := fun W => W.cell? ⟨g, 4, none⟩ = some (.float .f64 q)) hmix ?_
            show wpAnyH _ _ _ _ _ _ _ _ (World.drew _)
            have hS : w11.drew.cell? ⟨g, 4, none⟩ = some (.float .f64 q) := e4
            refine tks [0, 1, 2, 3, 4, 5, 6, 7, 8, 9, 10, 11, 12, 13, 14, 15, 16, 17, 18, 19, 20, 21, 22, 23, 24, 25, 26, 27, 28, 29, 30] [.float .f64 b, .float .f64 b, .bool false, .bool false, undef, undef, undef, undef, undef, undef, undef, undef, .bool false, .bool false, .float .f64 b, .float .f64 b, .bool true, .bool true, .slice (some ⟨g, 0, none⟩) 2 c, .pointer (some ⟨g, 0, none⟩), .pointer (some ⟨g, 1, none⟩), .pointer (some ⟨g, 4, none⟩), .float .f64 q, .slice (some ⟨g, 0, none⟩) 2 c, .pointer (some ⟨g, 0, none⟩), .pointer (some ⟨g, 1, none⟩), .pointer (some ⟨g, 4, none⟩), .float .f64 q, .bool false, .bool false, .bool false] 0 ?_ hS ?_
            · simp only [tkY, tkf]
              refine ⟨.yes ?_, .yes ?_, .yes ?_, .yes ?_, .no, .no, .no, .no, .no, .no, .no, .no, .yes ?_, .yes ?_, .yes ?_, .yes ?_, .yes ?_, .yes ?_, .yes ?_, .yes ?_, .yes ?_, .yes ?_, .yes ?_, .yes ?_, .yes ?_, .yes ?_, .yes ?_, .yes ?_, .yes ?_, .yes ?_, .yes ?_, trivial⟩
              all_goals
                intro W' hW'
                have hW' : W'.cell? ⟨g, 4, none⟩ = some (.float .f64 q) := hW'
                go_simp
            simp only [tkA, tkf]
            refine wpAnyH_done (by kernel_rfl) ?_ _
            go_wp2_with fail
            go_roundw
            case rel => exact ⟨16, by simp, by go_num, B11.drew⟩
            case measure => simp [RowKit.intOf]
          · have o1 : FloatKind.f64.format.order b b = some .eq := order_self hN
            have hcb : canonB b = b := if_neg hN
            rw [hcb] at e4 SM
            rw [decide_eq_true rfl] at SM
            refine wp_region_held (S := fun W => W.cell? ⟨g, 4, none⟩ = some (.float .f64 b)) hmix ?_
            show wpAnyH _ _ _ _ _ _ _ _ (World.drew _)
            have hS : w11.drew.cell? ⟨g, 4, none⟩ = some (.float .f64 b) := e4
            refine tks [0, 1, 2, 3, 4, 5, 6, 7, 8, 9] [.float .f64 b, .float .f64 b, .bool true, .bool true, .slice (some ⟨g, 0, none⟩) 2 c, .pointer (some ⟨g, 0, none⟩), .pointer (some ⟨g, 1, none⟩), .pointer (some ⟨g, 4, none⟩), .float .f64 b, .float .f64 b] 21 ?_ hS ?_
            · simp only [tkY, tkf]
              refine ⟨.yes ?_, .yes ?_, .yes ?_, .yes ?_, .yes ?_, .yes ?_, .yes ?_, .yes ?_, .yes ?_, .yes ?_, trivial⟩
              all_goals
                intro W' hW'
                have hW' : W'.cell? ⟨g, 4, none⟩ = some (.float .f64 b) := hW'
                go_simp
            simp only [tkA, tkf]
            refine ak 10 (fun K hK => ?_)
            go_wp2_with fail
            refine (SM _).mono ?_
            rintro e w12 ⟨rfl, hw12⟩
            subst hw12
            refine hK _ _ hS ?_
            clear hK K
            refine tks [11, 12, 13, 14, 15, 16, 17, 18, 19, 20, 21, 22, 23, 24, 25, 26, 27, 28, 29, 30] [.bool false, .bool false, .bool false, .float .f64 b, .float .f64 b, .bool false, .bool false, undef, undef, undef, undef, undef, undef, undef, undef, undef, undef, undef, .bool false, .bool false] 0 ?_ hS ?_
            · simp only [tkY, tkf]
              refine ⟨.yes ?_, .yes ?_, .yes ?_, .yes ?_, .yes ?_, .yes ?_, .yes ?_, .no, .no, .no, .no, .no, .no, .no, .no, .no, .no, .no, .yes ?_, .yes ?_, trivial⟩
              all_goals
                intro W' hW'
                have hW' : W'.cell? ⟨g, 4, none⟩ = some (.float .f64 b) := hW'
                go_simp
            simp only [tkA, tkf]
            refine wpAnyH_done (by kernel_rfl) ?_ _
            go_wp2_with fail
            go_roundw
            case rel => exact ⟨16, by simp, by go_num, B11.drew⟩
            case measure => simp [RowKit.intOf]
      · exact absurd hn hf
    · go_wp2
      go_ret
      exact ⟨rfl, B0⟩
end Go.Proofs.YtmaaacaifpgpaaaDoor
