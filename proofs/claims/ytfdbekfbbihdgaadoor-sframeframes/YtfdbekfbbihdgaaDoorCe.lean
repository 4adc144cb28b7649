
/- putText. Conditions: those that each row states. -/
import Derived.Test.YtfdbekfbbihdgaaDoorCw
import Derived.Test.YtfdbekfbbihdgaaDoorPe
namespace Go.Proofs.YtfdbekfbbihdgaaDoor
open Go.RowKit Go.Lib
set_option maxRecDepth 100000
set_option linter.unusedSimpArgs false

theorem put_bare (w : World) (B : Nat) (v : Value) (l s : Bs) (ho : OwnW w B v l) (hB : B ≤ w.heap.size) (hl : l.length + s.length ≤ 1000000000) :
    Calls Tryd.prog 35 #[v, str s, .bool true] w fun e w' => ∃ v', e = .returned v' ∧ OwnW w' B v' (l ++ s) ∧ GW w w' v v' := by
  go_enter Tryd.func35, Tryd.ntmps35
  go_wp2_with (at_builtin; refine wpList_plain rfl fun K hK => ?_; refine appWS (.tmp 11) (.tmp 12) rfl B v l s w rfl ho rfl hl hB ?_; intro v1 w1 ho1 g1; refine hK _ _ ?_)
  go_ret
  exact ⟨_, rfl, ho1, g1⟩
set_option maxHeartbeats 4000000 in
theorem put_esc (w : World) (B : Nat) (v : Value) (l s : Bs) (ho : OwnW w B v l) (hB : B ≤ w.heap.size) (hl : l.length + 2 * s.length ≤ 1000000000) :
    Calls Tryd.prog 35 #[v, str s, .bool false] w fun e w' => ∃ v', e = .returned v' ∧ OwnW w' B v' (l ++ putL false s) ∧ GW w w' v v' := by
  obtain ⟨c, W, hcv, hcell, hbW⟩ := bytes_of w s
  have HC : Hid (∀ j (h : j < s.length), W.cell? ⟨w.heap.size, j, none⟩ = some (.int .u8 (s[j].toNat : Int))) := hcell
  have hWl : Hid (0 < s.length → w.heap.size < W.heap.size) := fun h => World.block_lt_of_cell? W ⟨w.heap.size, 0, none⟩ (hcell 0 h)
  have I0 : Hid (∀ (w : World), Calls Tryd.prog 34 #[str [92, 13, 10, 58], .int .u8 92] w fun e w' => e = .returned (.int .i64 0) ∧ w' = w) := fun w => ib_any w [92, 13, 10, 58] 92
  have I1 : Hid (∀ (w : World), Calls Tryd.prog 34 #[str [92, 13, 10, 58], .int .u8 13] w fun e w' => e = .returned (.int .i64 1) ∧ w' = w) := fun w => ib_any w [92, 13, 10, 58] 13
  have I2 : Hid (∀ (w : World), Calls Tryd.prog 34 #[str [92, 13, 10, 58], .int .u8 10] w fun e w' => e = .returned (.int .i64 2) ∧ w' = w) := fun w => ib_any w [92, 13, 10, 58] 10
  have I3 : Hid (∀ (w : World), Calls Tryd.prog 34 #[str [92, 13, 10, 58], .int .u8 58] w fun e w' => e = .returned (.int .i64 3) ∧ w' = w) := fun w => ib_any w [92, 13, 10, 58] 58
  have IB : Hid (∀ (w : World) (d : UInt8), cutN d [92, 13, 10, 58] = none → Calls Tryd.prog 34 #[str [92, 13, 10, 58], .int .u8 d.toNat] w fun e w' => e = .returned (.int .i64 (-1)) ∧ w' = w) := fun w d h => by
    refine (ib_any w [92, 13, 10, 58] d).mono fun e w' ⟨h1, h2⟩ => ⟨?_, h2⟩
    rw [h1, h]
  have g0 : GW w W v v := (GW.refl w v).on hbW
  have ho0 := ho.on hbW
  have hne : ∀ k, v.ownBlock = some k → k ≠ w.heap.size := fun k hk => by
    rcases ho with ⟨rfl, _⟩ | ⟨g, cap, cur, fz, rfl, _, hg, _⟩
    · cases hk
    · cases hk; exact Nat.ne_of_lt (Array.getElem?_eq_some_iff.1 hg).1
  clear hcell
  go_enter Tryd.func35, Tryd.ntmps35
  go_wp2_with fail
  go_loopw [0, 17] (fun u i wr => ∃ j : Nat, j ≤ s.length ∧ i = .int .i64 j ∧ OwnW wr B u (l ++ putL false (s.take j)) ∧ GW w wr v u ∧ (∀ k, u.ownBlock = some k → k ≠ w.heap.size) ∧ wr.heap[w.heap.size]? = W.heap[w.heap.size]? ∧ W.heap.size ≤ wr.heap.size) (fun _ i _ => s.length - (RowKit.intOf i).toNat)
  case atStart => exact ⟨0, Nat.zero_le _, rfl, by simpa [putL] using ho0, g0, hne, rfl, Nat.le_refl _⟩
  case round =>
    clear ho ho0 g0 hne hcv
    obtain ⟨j, hj, rfl, ho, hg, hne, hkeep, hsz⟩ := hrel
    have hwr := hg.g.size
    by_cases hlt : j < s.length
    · have hcj : wr.cell? ⟨w.heap.size, j, none⟩ = some (.int .u8 (s[j].toNat : Int)) := by
        have := HC.out j hlt
        simp only [World.cell?] at this ⊢
        rw [hkeep]; exact this
      have hlW := hWl.out (by omega)
      have hlen : (l ++ putL false (s.take j)).length ≤ l.length + 2 * j := by
        have := putL_len false (s.take j)
        rw [List.length_take] at this
        rw [List.length_append]; omega
      have HS : Hid (l ++ putL false (s.take (j + 1)) = (l ++ putL false (s.take j)) ++ put1 s[j]) := by show _ = _; rw [putL_snoc s j hlt, List.append_assoc]
      have hjz : (j : Int) < (s.length : Int) := by omega
      generalize l ++ putL false (s.take j) = L at *
      have NX : ∀ v1 w1, GW wr w1 _ v1 → (∀ k, v1.ownBlock = some k → k ≠ w.heap.size) ∧ w1.heap[w.heap.size]? = W.heap[w.heap.size]? ∧ W.heap.size ≤ w1.heap.size := fun v1 w1 g1 => by
        refine ⟨fun k hk => ?_, (g1.g.block w.heap.size (by omega) (fun e => hne _ e.symm rfl)).trans hkeep, Nat.le_trans hsz g1.g.size⟩
        rcases g1.o k hk with h | h
        · exact hne k h
        · omega
      generalize s[j] = x at *
      rcases marks x with ⟨rfl, h3⟩ | ⟨rfl, h3⟩ | ⟨rfl, h3⟩ | ⟨rfl, h3⟩ | ⟨h3, h4⟩
      · have HS2 : Hid (l ++ putL false (s.take (j + 1)) = L ++ [92, 92]) := by show _ = _; rw [HS.out]; unfold put1; rw [h3]
        go_wp2_with (first | (go_at_call 34; refine (I0.out _).mono ?_; rintro e w' ⟨rfl, rfl⟩) | (at_builtin; refine wpList_plain rfl fun K hK => ?_; refine appW2 (.tmp 25) (.tmp 28) rfl B _ L 92 92 _ _ _ (by rfl) (by rfl) rfl ho rfl (by omega) (by omega) ?_; intro v1 w1 ho1 g1; refine hK _ _ ?_))
        have nx := NX v1 w1 g1
        rw [← HS2.out] at ho1
        go_roundw
        case rel => exact ⟨j + 1, by omega, by go_num, ho1, hg.trans g1, nx⟩
        case measure => simp [RowKit.intOf]; omega
      · have HS2 : Hid (l ++ putL false (s.take (j + 1)) = L ++ [92, 114]) := by show _ = _; rw [HS.out]; unfold put1; rw [h3]
        go_wp2_with (first | (go_at_call 34; refine (I1.out _).mono ?_; rintro e w' ⟨rfl, rfl⟩) | (at_builtin; refine wpList_plain rfl fun K hK => ?_; refine appW2 (.tmp 25) (.tmp 28) rfl B _ L 92 114 _ _ _ (by rfl) (by rfl) rfl ho rfl (by omega) (by omega) ?_; intro v1 w1 ho1 g1; refine hK _ _ ?_))
        have nx := NX v1 w1 g1
        rw [← HS2.out] at ho1
        go_roundw
        case rel => exact ⟨j + 1, by omega, by go_num, ho1, hg.trans g1, nx⟩
        case measure => simp [RowKit.intOf]; omega
      · have HS2 : Hid (l ++ putL false (s.take (j + 1)) = L ++ [92, 110]) := by show _ = _; rw [HS.out]; unfold put1; rw [h3]
        go_wp2_with (first | (go_at_call 34; refine (I2.out _).mono ?_; rintro e w' ⟨rfl, rfl⟩) | (at_builtin; refine wpList_plain rfl fun K hK => ?_; refine appW2 (.tmp 25) (.tmp 28) rfl B _ L 92 110 _ _ _ (by rfl) (by rfl) rfl ho rfl (by omega) (by omega) ?_; intro v1 w1 ho1 g1; refine hK _ _ ?_))
        have nx := NX v1 w1 g1
        rw [← HS2.out] at ho1
        go_roundw
        case rel => exact ⟨j + 1, by omega, by go_num, ho1, hg.trans g1, nx⟩
        case measure => simp [RowKit.intOf]; omega
      · have HS2 : Hid (l ++ putL false (s.take (j + 1)) = L ++ [92, 99]) := by show _ = _; rw [HS.out]; unfold put1; rw [h3]
        go_wp2_with (first | (go_at_call 34; refine (I3.out _).mono ?_; rintro e w' ⟨rfl, rfl⟩) | (at_builtin; refine wpList_plain rfl fun K hK => ?_; refine appW2 (.tmp 25) (.tmp 28) rfl B _ L 92 99 _ _ _ (by rfl) (by rfl) rfl ho rfl (by omega) (by omega) ?_; intro v1 w1 ho1 g1; refine hK _ _ ?_))
        have nx := NX v1 w1 g1
        rw [← HS2.out] at ho1
        go_roundw
        case rel => exact ⟨j + 1, by omega, by go_num, ho1, hg.trans g1, nx⟩
        case measure => simp [RowKit.intOf]; omega
      · have IBx := fun w => IB.out w x h4
        have HS2 : Hid (l ++ putL false (s.take (j + 1)) = L ++ [x]) := by show _ = _; rw [HS.out]; unfold put1; rw [h3]
        go_wp2_with (first | (go_at_call 34; refine (IBx _).mono ?_; rintro e w' ⟨rfl, rfl⟩) | (at_builtin; refine wpList_plain rfl fun K hK => ?_; refine appW1 (.tmp 30) (.tmp 32) rfl B _ L x _ _ rfl rfl ho rfl (by omega) (by omega) ?_; intro v1 w1 ho1 g1; refine hK _ _ ?_))
        have nx := NX v1 w1 g1
        rw [← HS2.out] at ho1
        go_roundw
        case rel => exact ⟨j + 1, by omega, by go_num, ho1, hg.trans g1, nx⟩
        case measure => simp [RowKit.intOf]; omega
    · obtain rfl : j = s.length := by omega
      rw [List.take_length] at ho
      go_wp2
      go_ret
      exact ⟨_, rfl, ho, hg⟩
end Go.Proofs.YtfdbekfbbihdgaaDoor
