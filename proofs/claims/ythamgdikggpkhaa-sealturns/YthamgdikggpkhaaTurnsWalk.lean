/- The statement SealTurns, walked: it answers true, and of what was there nothing has turned, for any seed, bytes that can be read and place. -/
import Derived.Test.YthamgdikggpkhaaTellsWalk
import Derived.Test.YthamgdikggpkhaaPiecesWalk
namespace Go.Proofs.Ythamgdikggpkhaa
open Go.RowKit Go.Lib

set_option maxHeartbeats 1000000 in
set_option maxRecDepth 100000 in
theorem turns_early (w : World) (s : Int) (k : Int) (v : Value) (l : List UInt8) (h : RdA w v l) (hl : l.length ≤ 140737488355328) (hbad : 16384 < l.length ∨ k < 0 ∨ (l.length : Int) - 1 ≤ k) :
    Calls Try.prog 6 #[.int .i64 s, v, .int .i64 k] w fun e w' => e = .returned (.bool true) ∧ Below w.heap.size w w' := by
  obtain ⟨a, c, rfl⟩ := h.len
  clear h
  by_cases h1 : 16384 < l.length
  · clear hbad
    go_enter Try.func6, Try.ntmps6
    go_wp2_with (go_at_call 9; refine (wakes_any _).mono ?_; rintro e w1 ⟨rfl, b1⟩)
    go_ret
    exact ⟨rfl, b1⟩
  · by_cases h2 : k < 0
    · clear hbad
      go_enter Try.func6, Try.ntmps6
      go_wp2_with (go_at_call 9; refine (wakes_any _).mono ?_; rintro e w1 ⟨rfl, b1⟩)
      go_ret
      exact ⟨rfl, b1⟩
    · have h3 : (l.length : Int) - 1 ≤ k := by omega
      clear hbad
      go_enter Try.func6, Try.ntmps6
      go_wp2_with (go_at_call 9; refine (wakes_any _).mono ?_; rintro e w1 ⟨rfl, b1⟩)
      go_ret
      exact ⟨rfl, b1⟩

theorem turned (l : List UInt8) (i : Nat) (hi : i + 1 < l.length) : (l.set i (l.getD (i + 1) 0)).set (i + 1) (l.getD i 0) = l.take i ++ l.getD (i + 1) 0 :: l.getD i 0 :: l.drop (i + 2) := by
  apply List.ext_getElem?
  intro j
  have e1 : l.getD i 0 = l[i] := by simp [List.getElem?_eq_getElem (show i < l.length by omega)]
  have e2 : l.getD (i + 1) 0 = l[i + 1] := by simp [List.getElem?_eq_getElem hi]
  rw [e1, e2]
  rw [List.getElem?_set, List.getElem?_set, List.length_set]
  by_cases h1 : i + 1 = j
  · subst h1
    simp [hi, Nat.min_eq_left (show i ≤ l.length by omega)]
  · by_cases h2 : i = j
    · subst h2
      simp [show i < l.length by omega, Nat.min_eq_left (show i ≤ l.length by omega)]
    · simp only [h1, h2, if_false]
      by_cases h3 : j < i
      · rw [List.getElem?_append_left (by simp; omega), List.getElem?_take_of_lt h3]
      · rw [List.getElem?_append_right (by simp; omega), List.length_take, Nat.min_eq_left (show i ≤ l.length by omega)]
        obtain ⟨m, rfl⟩ : ∃ m, j = i + 2 + m := ⟨j - i - 2, by omega⟩
        rw [show i + 2 + m - i = m + 2 by omega]
        simp
theorem unturned (l : List UInt8) (i : Nat) (hi : i + 1 < l.length) : l = l.take i ++ l.getD i 0 :: l.getD (i + 1) 0 :: l.drop (i + 2) := by
  have e1 := split_at l i (by omega)
  have e3 : l.drop (i + 1) = l.getD (i + 1) 0 :: l.drop (i + 2) := by
    have e2 : l.getD (i + 1) 0 = l[i + 1] := by simp [List.getElem?_eq_getElem hi]
    rw [e2, List.drop_eq_getElem_cons hi]
  rwa [e3] at e1
theorem turns_eq (n : Nat) (l : List UInt8) (i : Nat) (hi : i + 1 < l.length) :
    ((addN n ((l.set i (l.getD (i + 1) 0)).set (i + 1) (l.getD i 0)) : Nat) : Int) = ((addN n l : Nat) : Int) ↔ l.getD i 0 = l.getD (i + 1) 0 := by
  rw [turned l i hi]
  constructor
  · intro h
    have h' : addN n (l.take i ++ l.getD (i + 1) 0 :: l.getD i 0 :: l.drop (i + 2)) / 2147483648 = addN n l / 2147483648 := by omega
    rw [add_left, add_left] at h'
    exact (goL_turns (haL n) (l.take i) (l.drop (i + 2)) _ _ (h'.trans (congrArg (goL (haL n)) (unturned l i hi)))).symm
  · intro h
    rw [h]
    have e := unturned l i hi
    rw [h] at e
    rw [← e]

set_option maxHeartbeats 2000000 in
set_option maxRecDepth 100000 in
theorem turns_late (w : World) (s : Int) (i : Nat) (v : Value) (l : List UInt8) (h : RdA w v l) (hl : l.length ≤ 16384) (hi : i + 1 < l.length) :
    Calls Try.prog 6 #[.int .i64 s, v, .int .i64 i] w fun e w' => e = .returned (.bool true) ∧ Below w.heap.size w w' := by
  obtain ⟨a, c, rfl⟩ := h.len
  have HB : Hid (RdA w (.slice a l.length c) l) := h
  obtain ⟨b, o, rfl, hc⟩ := h.at (k := i) (by omega)
  obtain ⟨_, _, e, hc'⟩ := h.at (k := i + 1) hi
  cases e
  have hbl := World.block_lt_of_cell? w _ hc
  clear h
  go_enter Try.func6, Try.ntmps6
  go_wp2_with (first | (go_at_call 9; refine (wakes_any _).mono ?_; rintro e w1 ⟨rfl, b1⟩; have hs := b1.size; have hr := (HB.out.on b1).on (below_new _ (.cells #[] 5))) | (at_builtin; refine appB rfl (.tmp 24) (.tmp 25) rfl _ _ _ [] l _ rfl (own_empty _ _ (Nat.le_refl _)) rfl hr (by simp; omega) (by simp) ?_; intro v2 w3 ho2 hb2))
  obtain ⟨g, cp, rfl, hg, hgl, hlc⟩ := own_is ho2 (by simp; omega)
  simp only [List.nil_append] at ho2 hlc
  have b3 : Below w.heap.size w w3 := (b1.trans ((below_new w1 (.cells #[] 5)).mono hs)).trans (hb2.mono hs)
  have hwg : w.heap.size ≤ g := by omega
  have ho3 : Own w3 w.heap.size (.slice (some ⟨g, 0, none⟩) l.length cp) l := ho2.from hs
  clear ho2 hb2 hr b1 hg hs
  simp only [List.nil_append]
  go_wp2_with fail
  have E : Hid (_ ↔ _) := turns_eq (startN s) l i hi
  have ho5 := (ho3.set i (l.getD (i + 1) 0))
  have ho6 : Own ((w3.setCell ⟨g, i, none⟩ (.int .u8 ((l.getD (i + 1) 0).toNat : Int))).setCell ⟨g, i + 1, none⟩ (.int .u8 ((l.getD i 0).toNat : Int))) w.heap.size (.slice (some ⟨g, 0, none⟩) l.length cp) ((l.set i (l.getD (i + 1) 0)).set (i + 1) (l.getD i 0)) := by
    have := Own.set (l := l.set i (l.getD (i + 1) 0)) (g := g) (c := cp) (B := w.heap.size) (by simpa using ho5) (i + 1) (l.getD i 0)
    simpa using this
  have k1 : w3.cell? ⟨b, o + i, none⟩ = some (.int .u8 ((l.getD i 0).toNat : Int)) := by
    rw [b3.cell (p := ⟨b, o + i, none⟩) hbl]; exact hc
  have k2 : w3.cell? ⟨b, o + (i + 1), none⟩ = some (.int .u8 ((l.getD (i + 1) 0).toNat : Int)) := by
    rw [b3.cell (p := ⟨b, o + (i + 1), none⟩) hbl]; exact hc'
  have k3 : w3.cell? ⟨g, i, none⟩ = some (.int .u8 ((l.getD i 0).toNat : Int)) := ho3.cell (by omega)
  have k4 : w3.cell? ⟨g, i + 1, none⟩ = some (.int .u8 ((l.getD (i + 1) 0).toNat : Int)) := ho3.cell hi
  have k5 : w3.frozen? ⟨g, i, none⟩ = false := World.ownsRow.frozenAt ho3 i
  have k6 : w3.frozen? ⟨g, i + 1, none⟩ = false := World.ownsRow.frozenAt ho3 (i + 1)
  have k7 : ¬ b = g := by omega
  have hml : ((l.set i (l.getD (i + 1) 0)).set (i + 1) (l.getD i 0)).length = l.length := by simp
  have HC : Hid (w.cell? ⟨b, o + i, none⟩ = some (.int .u8 ((l.getD i 0).toNat : Int)) ∧ w.cell? ⟨b, o + (i + 1), none⟩ = some (.int .u8 ((l.getD (i + 1) 0).toNat : Int))) := ⟨hc, hc'⟩
  clear hc hc' ho5
  generalize (l.set i (l.getD (i + 1) 0)).set (i + 1) (l.getD i 0) = m at *
  generalize l.getD i 0 = x at *
  generalize l.getD (i + 1) 0 = y at *
  have HO : Hid (RdB _ _ _) := ho6.rd
  have HM : Hid (m.length = l.length) := hml
  have hb6 : Below w.heap.size w ((w3.setCell ⟨g, i, none⟩ (.int .u8 (y.toNat : Int))).setCell ⟨g, i + 1, none⟩ (.int .u8 (x.toNat : Int))) := (b3.setCell hwg _).setCell hwg _
  have B6 : Hid _ := hb6
  clear ho3 ho6 hml hb6 b3
  go_region
  clear k1 k2 k3 k4 k5 k6
  generalize ((w3.setCell ⟨g, i, none⟩ (.int .u8 (y.toNat : Int))).setCell ⟨g, i + 1, none⟩ (.int .u8 (x.toNat : Int))) = W at *
  have hB : Below w.heap.size w W.drew := B6.out.drew
  have hO : RdA W.drew (.slice (some ⟨g, 0, none⟩) l.length cp) m := .inl (HO.out.on (Below.refl _ _).drew)
  have hR : RdA W.drew (.slice (some ⟨b, o, none⟩) l.length c) l := HB.out.on hB
  have k1 : W.drew.cell? ⟨b, o + i, none⟩ = some (.int .u8 (x.toNat : Int)) := by
    rw [hB.cell (p := ⟨b, o + i, none⟩) hbl]; exact HC.out.1
  have k2 : W.drew.cell? ⟨b, o + (i + 1), none⟩ = some (.int .u8 (y.toNat : Int)) := by
    rw [hB.cell (p := ⟨b, o + (i + 1), none⟩) hbl]; exact HC.out.2
  generalize W.drew = W2 at *
  have A1 : Hid (∀ k, Calls Try.prog 14 #[.int .i64 s, .slice (some ⟨g, 0, none⟩) l.length cp] (W2.drewN k) fun e w' => e = .returned (.int .u64 (addN (startN s) m : Nat)) ∧ w' = W2.drewN k) := fun k => of_any _ s _ m (hO.on (below_drawn W2 k)) (by rw [HM.out]; omega)
  have A2 : Hid (∀ k, Calls Try.prog 14 #[.int .i64 s, .slice (some ⟨b, o, none⟩) l.length c] (W2.drewN k) fun e w' => e = .returned (.int .u64 (addN (startN s) l : Nat)) ∧ w' = W2.drewN k) := fun k => of_any _ s _ l (hR.on (below_drawn W2 k)) (by omega)
  have BB : Hid (∀ k, Below w.heap.size w (W2.drewN k)) := fun k => hB.trans (below_drawn' W2 k)
  clear hO hR hB HO HM B6 HB HC
  generalize addN (startN s) m = X at *
  generalize addN (startN s) l = Y at *
  go_wp2_with fail
  go_quiet (first | (go_at_call 14; with_reducible exact Calls.quiet_of_same (A1.out _)) | (go_at_call 14; with_reducible exact Calls.quiet_of_same (A2.out _)))
  go_wp2
  go_ret
  refine ⟨ret_true ?_, BB.out _⟩
  have hE := E.out
  by_cases hxy : x = y
  · have := hE.2 hxy
    simp [hxy, this]
  · have h1 : ¬ ((X : Int) = (Y : Int)) := fun h => hxy (hE.1 h)
    have h2 : ¬ ((x.toNat : Int) = (y.toNat : Int)) := fun h => hxy (UInt8.toNat_inj.1 (by omega))
    rw [beq_iff_eq, beq_eq_false_iff_ne.2 h1, beq_eq_false_iff_ne.2 h2]
theorem turns_walk (w : World) (s k : Int) (v : Value) (l : List UInt8) (h : RdA w v l) (hl : l.length ≤ 140737488355328) :
    Calls Try.prog 6 #[.int .i64 s, v, .int .i64 k] w fun e w' => e = .returned (.bool true) ∧ Below w.heap.size w w' := by
  by_cases hbad : 16384 < l.length ∨ k < 0 ∨ (l.length : Int) - 1 ≤ k
  · exact turns_early w s k v l h hl hbad
  · obtain ⟨i, rfl⟩ : ∃ i : Nat, k = i := ⟨k.toNat, by omega⟩
    exact turns_late w s i v l h (by omega) (by omega)
end Go.Proofs.Ythamgdikggpkhaa
