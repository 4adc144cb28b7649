/- The document's Message and New, and both Holds. Conditions: those that each row states. -/
import Derived.Test.YtlbcefocmdnlgaaGreatDoorZe
import Derived.Test.YtlbcefocmdnlgaaGreatDoorZh
import Derived.Test.YtlbcefocmdnlgaaGreatDoorNw
namespace Go.Proofs.YtlbcefocmdnlgaaGreatDoor
open Go.RowKit Go.Lib
set_option maxRecDepth 100000
set_option linter.unusedSimpArgs false

theorem rmessage_any (w : World) (m : Msg) (pv : Value) (h : RdP w pv m.props) (hf : ∀ p ∈ m.props, Fits p) (hl : m.props.length ≤ 9223372036854775806) :
    Calls Tryz.prog 11 #[.agg (msgV m pv).toArray] w fun e w' => e = .returned (.bool (msgB m)) ∧ Below w.heap.size w w' := by
  obtain ⟨tp, bd, ps, du, ti⟩ := m
  unfold msgV msgB
  dsimp only at *
  have hb1 : Below w.heap.size w (w.alloc (.cells #[tx tp, tx bd, pv, .bool du, .int .i64 ti] 28)) := (Below.refl _ w).alloc (Nat.le_refl _) _
  have hN := Blk.new w #[tx tp, tx bd, pv, .bool du, .int .i64 ti] 28
  have hG := To.rgood_any (w.alloc (.cells #[tx tp, tx bd, pv, .bool du, .int .i64 ti] 28)) tp
  have HP : Hid (RdP w pv ps ∧ (∀ p ∈ ps, Fits p) ∧ ps.length ≤ 9223372036854775806) := ⟨h, hf, hl⟩
  clear h hf hl
  go_enter Tryz.func11, Tryz.ntmps11
  go_wp2_with fail
  refine hG.mono ?_
  rintro e w1 ⟨rfl, b1⟩
  have hN1 := hN.on b1
  have b01 := nxt hb1 b1
  clear hN hb1 hG b1
  obtain ⟨c0, c1, c2, c3, c4⟩ := hN1.c5
  cases hg : good tp with
  | false =>
    go_wp2
    go_ret
    exact ⟨ret_b (by simp [hg]), b01⟩
  | true =>
    by_cases hl : (bd.length : Int) ≤ 1024
    · have hl' : bd.length ≤ 1024 := by omega
      have hV := rvalid7 w1 pv ps (HP.out.1.on b01) HP.out.2.1 HP.out.2.2
      go_wp2_with fail
      refine hV.mono ?_
      rintro e w2 ⟨rfl, b2⟩
      have b02 := nxt b01 b2
      obtain ⟨d0, d1, d2, d3, d4⟩ := (hN1.on b2).c5
      clear hV c0 c1 c2 c3 c4
      cases hva : validL ps with
      | false =>
        go_wp2
        go_ret
        exact ⟨ret_b (by simp [hva]), b02⟩
      | true =>
        by_cases h0 : ti ≥ 0
        · go_wp2
          go_ret
          exact ⟨ret_b (by simp [numB, hl', hg, hva]; omega), b02⟩
        · go_wp2
          go_ret
          exact ⟨ret_b (by simp [numB]; omega), b02⟩
    · have hl' : ¬ bd.length ≤ 1024 := by omega
      go_wp2
      go_ret
      exact ⟨ret_b (by simp [hl']), b01⟩
theorem rnew_any (w : World) (name : List UInt8) (dur : Bool) (depth : Int) (hs : name.length ≤ 9223372036854775807) :
    Calls Tryz.prog 9 #[tx name, .bool dur, .int .i64 depth] w fun e w' => ∃ v', e = .returned (.tuple #[v', .int .i64 (newC name depth)]) ∧ OwnQ w' w.heap.size v' (if newC name depth = 0 then newQ name dur depth else zeroQ) ∧ Below w.heap.size w w' := by
  have k0 := Blk.new w #[.string ⟨#[]⟩, .bool false, .int .i64 0, .int .i64 0, .int .i64 0, .slice none 0 0, .slice none 0 0] 25
  have b0 := (Below.refl w.heap.size w).alloc (Nat.le_refl _) (.cells #[.string ⟨#[]⟩, .bool false, .int .i64 0, .int .i64 0, .int .i64 0, .slice none 0 0, .slice none 0 0] 25)
  have H1 : ∀ W, Calls Tryz.prog 31 #[tx name] W fun e w' => e = .returned (.bool (nameL name)) ∧ w' = W := fun W => (rname7 W ⟨name.toArray⟩ hs).mono fun e w' ⟨h1, h2⟩ => ⟨by rw [h1, Go.ByteArray.toList_mk], h2⟩
  go_enter Tryz.func9, Tryz.ntmps9
  go_upto_region 1 with fail
  generalize w.alloc (.cells #[.string ⟨#[]⟩, .bool false, .int .i64 0, .int .i64 0, .int .i64 0, .slice none 0 0, .slice none 0 0] 25) = w1 at *
  go_wp2_with fail
  refine (H1 _).mono ?_
  rintro e w2 ⟨rfl, rfl⟩
  cases h1 : nameL name with
  | false =>
    have e0 : newC name depth = 31 := by simp [newC, h1]
    go_wp2_with (refine wpl_put rfl (.tmp 6) (.tmp 11) rfl _ _ rfl rfl k0 (by kernel_rfl) rfl (by simp [Value.oneCell']) ?_)
    intro W' k' g' s'
    go_wp2_with fail
    refine ret25t rfl k' rfl rfl rfl ⟨_, rfl, own_zero _ _, b0.grown g' b0.size (fun k hk => by injection hk with hk; omega)⟩
  | true =>
    by_cases hd : depB depth = true
    · have hd' := hd
      simp only [depB, Bool.and_eq_true, decide_eq_true_eq] at hd'
      have e0 : newC name depth = 0 := by simp [newC, h1, hd]
      have g1 : ¬ depth < 1 := by omega
      have g2 : ¬ depth > 64 := by omega
      go_wp2_with (refine wpl_put rfl (.tmp 6) (.tmp 22) rfl _ _ rfl rfl k0 (by kernel_rfl) rfl (by simp [Value.oneCell']) ?_)
      intro W' k' g' s'
      go_wp2_with fail
      refine ret25t rfl k' rfl rfl rfl ⟨_, rfl, own_new _ _ _ _ _, b0.grown g' b0.size (fun k hk => by injection hk with hk; omega)⟩
    · have e0 : newC name depth = 1 := by simp [newC, h1, hd]
      simp only [depB, Bool.and_eq_true, decide_eq_true_eq] at hd
      by_cases g1 : depth < 1
      · go_wp2_with (refine wpl_put rfl (.tmp 6) (.tmp 18) rfl _ _ rfl rfl k0 (by kernel_rfl) rfl (by simp [Value.oneCell']) ?_)
        intro W' k' g' s'
        go_wp2_with fail
        refine ret25t rfl k' rfl rfl rfl ⟨_, rfl, own_zero _ _, b0.grown g' b0.size (fun k hk => by injection hk with hk; omega)⟩
      · have g2 : depth > 64 := by omega
        go_wp2_with (refine wpl_put rfl (.tmp 6) (.tmp 18) rfl _ _ rfl rfl k0 (by kernel_rfl) rfl (by simp [Value.oneCell']) ?_)
        intro W' k' g' s'
        go_wp2_with fail
        refine ret25t rfl k' rfl rfl rfl ⟨_, rfl, own_zero _ _, b0.grown g' b0.size (fun k hk => by injection hk with hk; omega)⟩

set_option maxHeartbeats 4000000 in
theorem holds_any (w : World) (v : Value) (q : Que) (h : RdQ w v q) (conn sub : Int) (hs : lenQ q ≤ 1000000) :
    Calls Tryz.prog 16 #[v, .int .i64 conn, .int .i64 sub] w fun e w' => e = .returned (.int .i64 (holdsQ q conn sub)) ∧ Below w.heap.size w w' := by
  obtain ⟨iv, hv, rfl, hi, ⟨zh, eh, hh⟩⟩ := h
  obtain ⟨ai, ci, rfl⟩ := hi.len
  obtain ⟨ah, ch, rfl⟩ := hh.len
  generalize q.items.length = ni at *
  obtain ⟨nh, hnh⟩ : ∃ n, zh.length = n := ⟨_, rfl⟩
  rw [hnh] at hh ⊢
  have hn : nh ≤ 1000000 := by
    have : nh = q.held.length := by rw [← hnh, ← eh, List.length_map]
    unfold lenQ at hs
    omega
  have HH : Hid (RdZ 10 (HeR (RdP w)) w (.slice ah nh ch) zh ∧ zh.map (·.2) = q.held ∧ zh.length = nh) := ⟨hh, eh, hnh⟩
  clear hh eh hnh hs hi
  have b0 := (Below.refl w.heap.size w).alloc (Nat.le_refl _) (.cells #[tx q.name, .bool q.dur, .int .i64 q.depth, .int .i64 q.seq, .int .i64 q.tag, .slice ai ni ci, .slice ah nh ch] 25)
  have k0 := Blk.new w #[tx q.name, .bool q.dur, .int .i64 q.depth, .int .i64 q.seq, .int .i64 q.tag, .slice ai ni ci, .slice ah nh ch] 25
  unfold queV
  go_enter Tryz.func16, Tryz.ntmps16
  go_upto_region 1 with fail
  generalize w.alloc (.cells #[tx q.name, .bool q.dur, .int .i64 q.depth, .int .i64 q.seq, .int .i64 q.tag, .slice ai ni ci, .slice ah nh ch] 25) = w1 at *
  have c6 : w1.cell? ⟨w.heap.size, 6, none⟩ = some (.slice ah nh ch) := k0.cell 6
  clear k0
  go_wp2_with fail
  go_loopg [7, 13] nh (fun gg s7 s13 wr => ∃ k c : Nat, k ≤ nh ∧ nh - k ≤ gg ∧ s13 = .int .i64 k ∧ s7 = .int .i64 c ∧ c ≤ k ∧ Hid (c = holdsQ ⟨q.name, q.dur, q.depth, q.seq, q.tag, q.items, q.held.take k⟩ conn sub) ∧ Hid (Below w.heap.size w wr))
  case atStart => exact ⟨0, 0, Nat.zero_le _, by omega, rfl, rfl, Nat.le_refl _, rfl, b0⟩
  case round =>
    obtain ⟨k, c, hk, hg, rfl, rfl, hck, HC, HB⟩ := hrel
    clear b0 c6
    obtain ⟨wy, hwy⟩ : ∃ W, W = wr := ⟨_, rfl⟩
    subst hwy
    by_cases hlk : k < nh
    · have hlkz : (k : Int) < (nh : Int) := by omega
      obtain ⟨b2, o2, pv2, rfl, hz2, hp2, e0, e1, e2, e3, e4, e5, e6, e7, e8, e9⟩ := hld_at HH.out.1 HB.out (i := k) (by rw [HH.out.2.2]; exact hlk)
      have ET : Hid (q.held.take (k + 1) = q.held.take k ++ [(zh[k]'(by rw [HH.out.2.2]; exact hlk)).2]) := by
        show q.held.take (k + 1) = _
        rw [List.take_succ_eq_append_getElem (by rw [← HH.out.2.1, List.length_map, HH.out.2.2]; exact hlk)]
        congr 2
        simp only [← HH.out.2.1, List.getElem_map]
      generalize (zh[k]'(by rw [HH.out.2.2]; exact hlk)).2 = z at *
      clear hz2
      obtain ⟨pa2, pc2, rfl⟩ := hp2.shape
      clear hp2
      generalize z.itm.msg.props.length = np2 at *
      go_wp2_with (refine wpl_fresh rfl (.tmp 9) (.tmp 16) rfl _ _ rfl rfl (by kernel_rfl) rfl (by simp [Value.oneCell']) ?_)
      intro wq kz bz sz
      have HB1 : Hid (Below w.heap.size w wq) := nxt HB.out bz
      have d1 : wq.cell? ⟨wy.heap.size, 1, none⟩ = some (.int .i64 z.conn) := kz.cell 1
      have d2 : wq.cell? ⟨wy.heap.size, 2, none⟩ = some (.int .i64 z.sub) := kz.cell 2
      clear HB e0 e1 e2 e3 e4 e5 e6 e7 e8 e9 bz kz sz
      have ES : Hid (holdsQ ⟨q.name, q.dur, q.depth, q.seq, q.tag, q.items, q.held.take (k + 1)⟩ conn sub = c + if z.conn = conn ∧ z.sub = sub then 1 else 0) := by
        show holdsQ _ conn sub = _
        rw [HC.out]
        simp only [holdsQ, ET.out, List.countP_append, List.countP_cons, List.countP_nil, Nat.zero_add, Bool.and_eq_true, decide_eq_true_eq]
      by_cases h1 : z.conn = conn
      · by_cases h2 : z.sub = sub
        · have HC1 : Hid (c + 1 = holdsQ ⟨q.name, q.dur, q.depth, q.seq, q.tag, q.items, q.held.take (k + 1)⟩ conn sub) := by
            show c + 1 = _
            rw [ES.out, if_pos ⟨h1, h2⟩]
          go_wp2_with fail
          go_roundg (nh - (k + 1))
          case measure => omega
          case rel => exact ⟨k + 1, c + 1, by omega, by omega, by go_num, by go_num, by omega, HC1, HB1⟩
        · have HC1 : Hid (c = holdsQ ⟨q.name, q.dur, q.depth, q.seq, q.tag, q.items, q.held.take (k + 1)⟩ conn sub) := by
            show c = _
            rw [ES.out, if_neg (fun h => h2 h.2)]
            rfl
          go_wp2_with fail
          go_roundg (nh - (k + 1))
          case measure => omega
          case rel => exact ⟨k + 1, c, by omega, by omega, by go_num, rfl, by omega, HC1, HB1⟩
      · have HC1 : Hid (c = holdsQ ⟨q.name, q.dur, q.depth, q.seq, q.tag, q.items, q.held.take (k + 1)⟩ conn sub) := by
          show c = _
          rw [ES.out, if_neg (fun h => h1 h.1)]
          rfl
        go_wp2_with fail
        go_roundg (nh - (k + 1))
        case measure => omega
        case rel => exact ⟨k + 1, c, by omega, by omega, by go_num, rfl, by omega, HC1, HB1⟩
    · have hlkz : ¬ (k : Int) < (nh : Int) := by omega
      have hcc : holdsQ q conn sub = c := by
        have et : q.held.take k = q.held := List.take_of_length_le (by rw [← HH.out.2.1, List.length_map, HH.out.2.2]; omega)
        have := HC.out
        rw [et] at this
        exact this.symm
      go_wp2
      go_ret
      exact ⟨rfl, HB.out⟩

set_option maxHeartbeats 4000000 in
theorem rholds_any (w : World) (v : Value) (q : Que) (h : RdQ w v q) (conn sub : Int) (hs : lenQ q ≤ 1000000) :
    Calls Tryz.prog 17 #[v, .int .i64 conn, .int .i64 sub] w fun e w' => e = .returned (.int .i64 (holdsQ q conn sub)) ∧ Below w.heap.size w w' := by
  obtain ⟨iv, hv, rfl, hi, ⟨zh, eh, hh⟩⟩ := h
  obtain ⟨ai, ci, rfl⟩ := hi.len
  obtain ⟨ah, ch, rfl⟩ := hh.len
  generalize q.items.length = ni at *
  obtain ⟨nh, hnh⟩ : ∃ n, zh.length = n := ⟨_, rfl⟩
  rw [hnh] at hh ⊢
  have hn : nh ≤ 1000000 := by
    have : nh = q.held.length := by rw [← hnh, ← eh, List.length_map]
    unfold lenQ at hs
    omega
  have HH : Hid (RdZ 10 (HeR (RdP w)) w (.slice ah nh ch) zh ∧ zh.map (·.2) = q.held ∧ zh.length = nh) := ⟨hh, eh, hnh⟩
  clear hh eh hnh hs hi
  have b0 := (Below.refl w.heap.size w).alloc (Nat.le_refl _) (.cells #[tx q.name, .bool q.dur, .int .i64 q.depth, .int .i64 q.seq, .int .i64 q.tag, .slice ai ni ci, .slice ah nh ch] 25)
  have k0 := Blk.new w #[tx q.name, .bool q.dur, .int .i64 q.depth, .int .i64 q.seq, .int .i64 q.tag, .slice ai ni ci, .slice ah nh ch] 25
  unfold queV
  go_enter Tryz.func17, Tryz.ntmps17
  go_upto_region 1 with fail
  generalize w.alloc (.cells #[tx q.name, .bool q.dur, .int .i64 q.depth, .int .i64 q.seq, .int .i64 q.tag, .slice ai ni ci, .slice ah nh ch] 25) = w1 at *
  have c6 : w1.cell? ⟨w.heap.size, 6, none⟩ = some (.slice ah nh ch) := k0.cell 6
  clear k0
  go_wp2_with fail
  go_loopg [7, 13] nh (fun gg s7 s13 wr => ∃ k c : Nat, k ≤ nh ∧ nh - k ≤ gg ∧ s13 = .int .i64 k ∧ s7 = .int .i64 c ∧ c ≤ k ∧ Hid (c = holdsQ ⟨q.name, q.dur, q.depth, q.seq, q.tag, q.items, q.held.take k⟩ conn sub) ∧ Hid (Below w.heap.size w wr))
  case atStart => exact ⟨0, 0, Nat.zero_le _, by omega, rfl, rfl, Nat.le_refl _, rfl, b0⟩
  case round =>
    obtain ⟨k, c, hk, hg, rfl, rfl, hck, HC, HB⟩ := hrel
    clear b0 c6
    obtain ⟨wy, hwy⟩ : ∃ W, W = wr := ⟨_, rfl⟩
    subst hwy
    by_cases hlk : k < nh
    · have hlkz : (k : Int) < (nh : Int) := by omega
      obtain ⟨b2, o2, pv2, rfl, hz2, hp2, e0, e1, e2, e3, e4, e5, e6, e7, e8, e9⟩ := hld_at HH.out.1 HB.out (i := k) (by rw [HH.out.2.2]; exact hlk)
      have ET : Hid (q.held.take (k + 1) = q.held.take k ++ [(zh[k]'(by rw [HH.out.2.2]; exact hlk)).2]) := by
        show q.held.take (k + 1) = _
        rw [List.take_succ_eq_append_getElem (by rw [← HH.out.2.1, List.length_map, HH.out.2.2]; exact hlk)]
        congr 2
        simp only [← HH.out.2.1, List.getElem_map]
      generalize (zh[k]'(by rw [HH.out.2.2]; exact hlk)).2 = z at *
      clear hz2
      obtain ⟨pa2, pc2, rfl⟩ := hp2.shape
      clear hp2
      generalize z.itm.msg.props.length = np2 at *
      go_wp2_with (refine wpl_fresh rfl (.tmp 9) (.tmp 16) rfl _ _ rfl rfl (by kernel_rfl) rfl (by simp [Value.oneCell']) ?_)
      intro wq kz bz sz
      have HB1 : Hid (Below w.heap.size w wq) := nxt HB.out bz
      have d1 : wq.cell? ⟨wy.heap.size, 1, none⟩ = some (.int .i64 z.conn) := kz.cell 1
      have d2 : wq.cell? ⟨wy.heap.size, 2, none⟩ = some (.int .i64 z.sub) := kz.cell 2
      clear HB e0 e1 e2 e3 e4 e5 e6 e7 e8 e9 bz kz sz
      have ES : Hid (holdsQ ⟨q.name, q.dur, q.depth, q.seq, q.tag, q.items, q.held.take (k + 1)⟩ conn sub = c + if z.conn = conn ∧ z.sub = sub then 1 else 0) := by
        show holdsQ _ conn sub = _
        rw [HC.out]
        simp only [holdsQ, ET.out, List.countP_append, List.countP_cons, List.countP_nil, Nat.zero_add, Bool.and_eq_true, decide_eq_true_eq]
      by_cases h1 : z.conn = conn
      · by_cases h2 : z.sub = sub
        · have HC1 : Hid (c + 1 = holdsQ ⟨q.name, q.dur, q.depth, q.seq, q.tag, q.items, q.held.take (k + 1)⟩ conn sub) := by
            show c + 1 = _
            rw [ES.out, if_pos ⟨h1, h2⟩]
          go_wp2_with fail
          go_roundg (nh - (k + 1))
          case measure => omega
          case rel => exact ⟨k + 1, c + 1, by omega, by omega, by go_num, by go_num, by omega, HC1, HB1⟩
        · have HC1 : Hid (c = holdsQ ⟨q.name, q.dur, q.depth, q.seq, q.tag, q.items, q.held.take (k + 1)⟩ conn sub) := by
            show c = _
            rw [ES.out, if_neg (fun h => h2 h.2)]
            rfl
          go_wp2_with fail
          go_roundg (nh - (k + 1))
          case measure => omega
          case rel => exact ⟨k + 1, c, by omega, by omega, by go_num, rfl, by omega, HC1, HB1⟩
      · have HC1 : Hid (c = holdsQ ⟨q.name, q.dur, q.depth, q.seq, q.tag, q.items, q.held.take (k + 1)⟩ conn sub) := by
          show c = _
          rw [ES.out, if_neg (fun h => h1 h.1)]
          rfl
        go_wp2_with fail
        go_roundg (nh - (k + 1))
        case measure => omega
        case rel => exact ⟨k + 1, c, by omega, by omega, by go_num, rfl, by omega, HC1, HB1⟩
    · have hlkz : ¬ (k : Int) < (nh : Int) := by omega
      have hcc : holdsQ q conn sub = c := by
        have et : q.held.take k = q.held := List.take_of_length_le (by rw [← HH.out.2.1, List.length_map, HH.out.2.2]; omega)
        have := HC.out
        rw [et] at this
        exact this.symm
      go_wp2
      go_ret
      exact ⟨rfl, HB.out⟩
end Go.Proofs.YtlbcefocmdnlgaaGreatDoor
