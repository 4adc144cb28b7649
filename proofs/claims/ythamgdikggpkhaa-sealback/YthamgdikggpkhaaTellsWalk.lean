/- The statement SealTells, walked: it answers true, and of what was there nothing has turned, for any seed, bytes that can be read and place. -/
import Derived.Test.YthamgdikggpkhaaAddsWalk
import Derived.Laws.OwnMore
namespace Go.Proofs.Ythamgdikggpkhaa
open Go.RowKit Go.Lib

theorem set_left (n : Nat) (l : List UInt8) (i : Nat) (z : UInt8) (hi : i < l.length) (hz : z ≠ l.getD i 0) : addN n (l.set i z) / 2147483648 ≠ addN n l / 2147483648 := by
  intro h
  rw [add_left, add_left, set_at l i z hi] at h
  exact hz (goL_tells (haL n) (l.take i) (l.drop (i + 1)) z (l.getD i 0) (h.trans (congrArg (goL (haL n)) (split_at l i hi))))
theorem set_right (n : Nat) (l : List UInt8) (i : Nat) (z : UInt8) (hi : i < l.length) (hz : z ≠ l.getD i 0) : addN n (l.set i z) % 2147483648 ≠ addN n l % 2147483648 := by
  intro h
  rw [add_right, add_right, set_at l i z hi] at h
  exact hz (goR_tells (haR n) (l.take i) (l.drop (i + 1)) z (l.getD i 0) (h.trans (congrArg (goR (haR n)) (split_at l i hi))))
theorem other_byte (c : UInt8) (k : Nat) (h1 : 1 ≤ k) (h2 : k < 256) : UInt8.ofNat (c.toNat + k) ≠ c := by
  intro h
  have := congrArg UInt8.toNat h
  rw [UInt8.toNat_ofNat'] at this
  have hc := c.toNat_lt
  omega
theorem left_ne (a b : Nat) (h : a / 2147483648 ≠ b / 2147483648) : ((a : Int) / 2147483648 == (b : Int) / 2147483648) = false := by
  rw [beq_eq_false_iff_ne]; omega
theorem right_ne (a b : Nat) (ha : a < 18446744073709551616) (hb : b < 18446744073709551616) (h : a % 2147483648 ≠ b % 2147483648) : (bits .and .u64 (a : Int) 2147483647 == bits .and .u64 (b : Int) 2147483647) = false := by
  rw [and31 a ha, and31 b hb, beq_eq_false_iff_ne]; omega

set_option maxHeartbeats 1000000 in
theorem tells_early (w : World) (s : Int) (k : Int) (v : Value) (l : List UInt8) (h : RdA w v l) (hl : l.length ≤ 140737488355328) (hbad : 4096 < l.length ∨ k < 0 ∨ (l.length : Int) ≤ k) :
    Calls Try.prog 5 #[.int .i64 s, v, .int .i64 k] w fun e w' => e = .returned (.bool true) ∧ Below w.heap.size w w' := by
  obtain ⟨a, c, rfl⟩ := h.len
  clear h
  by_cases h1 : 4096 < l.length
  · clear hbad
    go_enter Try.func5, Try.ntmps5
    go_wp2_with (go_at_call 9; refine (wakes_any _).mono ?_; rintro e w1 ⟨rfl, b1⟩)
    go_ret
    exact ⟨rfl, b1⟩
  · by_cases h2 : k < 0
    · clear hbad
      go_enter Try.func5, Try.ntmps5
      go_wp2_with (go_at_call 9; refine (wakes_any _).mono ?_; rintro e w1 ⟨rfl, b1⟩)
      go_ret
      exact ⟨rfl, b1⟩
    · have h3 : (l.length : Int) ≤ k := by omega
      clear hbad
      go_enter Try.func5, Try.ntmps5
      go_wp2_with (go_at_call 9; refine (wakes_any _).mono ?_; rintro e w1 ⟨rfl, b1⟩)
      go_ret
      exact ⟨rfl, b1⟩

theorem own_is {w : World} {B : Nat} {v : Value} {l : List UInt8} (h : Own w B v l) (h0 : 0 < l.length) : ∃ g c, v = .slice (some ⟨g, 0, none⟩) l.length c ∧ B ≤ g ∧ g < w.heap.size ∧ l.length ≤ c := by
  rcases h.2 with ⟨_, e⟩ | ⟨g, cap, cur, rfl, hb, hg, hc, _⟩
  · omega
  · exact ⟨g, cap, rfl, hb, (Array.getElem?_eq_some_iff.1 hg).1, hc⟩
theorem Own.from {w : World} {B B' : Nat} {v : Value} {l : List UInt8} (h : Own w B v l) (hB : B' ≤ B) : Own w B' v l := by
  refine ⟨h.1, ?_⟩
  rcases h.2 with h' | ⟨g, cap, cur, e, hb, r⟩
  · exact .inl h'
  · exact .inr ⟨g, cap, cur, e, by omega, r⟩
theorem Own.cell {w : World} {B g n c : Nat} {l : List UInt8} (h : Own w B (.slice (some ⟨g, 0, none⟩) n c) l) {i : Nat} (hi : i < l.length) : w.cell? ⟨g, i, none⟩ = some (.int .u8 ((l.getD i 0).toNat : Int)) := by
  have := World.ownsRow.cells h (g := g) rfl i (.int .u8 ((l.getD i 0).toNat : Int)) (by simp [byteCells, List.getElem?_eq_getElem hi])
  rwa [Addr.add_lit, Nat.zero_add] at this
theorem Own.set {w : World} {B g c : Nat} {l : List UInt8} (h : Own w B (.slice (some ⟨g, 0, none⟩) l.length c) l) (i : Nat) (z : UInt8) :
    Own (w.setCell ⟨g, i, none⟩ (.int .u8 (z.toNat : Int))) B (.slice (some ⟨g, 0, none⟩) l.length c) (l.set i z) := by
  have := (World.ownsRow.stored h i (.int .u8 (z.toNat : Int))).1
  unfold Own
  rw [List.length_set]
  have e : byteCells (l.set i z) = (byteCells l).set i (.int .u8 (z.toNat : Int)) := by simp [byteCells, List.map_set]
  rw [e]
  exact this

set_option maxHeartbeats 2000000 in
set_option maxRecDepth 100000 in
theorem tells_late (w : World) (s : Int) (i : Nat) (v : Value) (l : List UInt8) (h : RdA w v l) (hl : l.length ≤ 4096) (hi : i < l.length) :
    Calls Try.prog 5 #[.int .i64 s, v, .int .i64 i] w fun e w' => e = .returned (.bool true) ∧ Below w.heap.size w w' := by
  obtain ⟨a, c, rfl⟩ := h.len
  have HB : Hid (RdA w (.slice a l.length c) l) := h
  obtain ⟨b, o, rfl, hc⟩ := h.at hi
  have hbl := World.block_lt_of_cell? w _ hc
  have hcc := (l.getD i 0).toNat_lt
  clear h
  obtain ⟨M, hM⟩ : ∃ M, M = addN (startN s) l := ⟨_, rfl⟩
  have HM : Hid (M = addN (startN s) l) := hM
  have HO : Hid (∀ W, RdA W (.slice (some ⟨b, o, none⟩) l.length c) l → Calls Try.prog 14 #[.int .i64 s, .slice (some ⟨b, o, none⟩) l.length c] W fun e w' => e = .returned (.int .u64 (M : Nat)) ∧ w' = W) := fun W hW => by rw [hM]; exact of_any W s _ l hW (by omega)
  clear hM
  go_enter Try.func5, Try.ntmps5
  go_wp2_with (first | (go_at_call 9; refine (wakes_any _).mono ?_; rintro e w1 ⟨rfl, b1⟩) | (go_at_call 14; refine (HO.out _ (HB.out.on b1)).mono ?_; rintro e w2 ⟨rfl, rfl⟩; have hs := b1.size; have hr := (HB.out.on b1).on (below_new _ (.cells #[] 5))) | (at_builtin; refine appB rfl (.tmp 29) (.tmp 30) rfl _ _ _ [] l _ rfl (own_empty _ _ (Nat.le_refl _)) rfl hr (by simp; omega) (by simp) ?_; intro v2 w3 ho2 hb2))
  obtain ⟨g, cp, rfl, hg, hgl, hlc⟩ := own_is ho2 (by simp; omega)
  simp only [List.nil_append] at ho2 hlc
  have b3 : Below w.heap.size w w3 := (b1.trans ((below_new w2 (.cells #[] 5)).mono hs)).trans (hb2.mono hs)
  have hwg : w.heap.size ≤ g := by omega
  have ho3 : Own w3 w.heap.size (.slice (some ⟨g, 0, none⟩) l.length cp) l := ho2.from hs
  clear ho2 hb2 hr b1 hg hs
  simp only [List.nil_append]
  go_wp2_with fail
  go_loopw [9] (fun d wr => ∃ k : Nat, 1 ≤ k ∧ k ≤ 600 ∧ d = .int .i64 k ∧ (∃ x : UInt8, Own wr w.heap.size (.slice (some ⟨g, 0, none⟩) l.length cp) (l.set i x)) ∧ Below w.heap.size w wr) (fun d _ => 600 - (RowKit.intOf d).toNat)
  case atStart => exact ⟨1, by omega, by omega, rfl, ⟨l.getD i 0, by simpa [List.getElem?_eq_getElem hi] using ho3⟩, b3⟩
  case round =>
    clear ho3 b3
    obtain ⟨k, hk1, hk2, rfl, ⟨x, hox⟩, hbr⟩ := hrel
    by_cases hlt : k < 256
    · have hcx : wr.cell? ⟨b, o + i, none⟩ = some (.int .u8 ((l.getD i 0).toNat : Int)) := by
        rw [hbr.cell (p := ⟨b, o + i, none⟩) hbl]; exact hc
      have hcg : wr.cell? ⟨g, i, none⟩ = some (.int .u8 (((l.set i x).getD i 0).toNat : Int)) := hox.cell (by simpa using hi)
      have hfz : wr.frozen? ⟨g, i, none⟩ = false := by
        have e : l.length = (l.set i x).length := by simp
        unfold Own at hox
        rw [← e] at hox
        exact World.ownsRow.frozenAt hox i
      have hz := other_byte (l.getD i 0) k hk1 hlt
      have hb2 : Below w.heap.size w (wr.setCell ⟨g, i, none⟩ (.int .u8 ((UInt8.ofNat ((l.getD i 0).toNat + k)).toNat : Int))) := hbr.setCell hwg _
      have ho2 : Own (wr.setCell ⟨g, i, none⟩ (.int .u8 ((UInt8.ofNat ((l.getD i 0).toNat + k)).toNat : Int))) w.heap.size (.slice (some ⟨g, 0, none⟩) l.length cp) (l.set i (UInt8.ofNat ((l.getD i 0).toNat + k))) := by
        have := Own.set (l := l.set i x) (g := g) (c := cp) (w := wr) (B := w.heap.size) (by simpa using hox) i (UInt8.ofNat ((l.getD i 0).toNat + k))
        simpa using this
      have hL := left_ne _ _ (set_left (startN s) l i _ hi hz)
      have hR := right_ne _ _ (by have := addN_lt (startN s) (l.set i (UInt8.ofNat ((l.getD i 0).toNat + k))); omega) (by have := addN_lt (startN s) l; omega) (set_right (startN s) l i _ hi hz)
      rw [← HM.out] at hL hR
      have O2 := of_any _ s _ _ (.inl ho2.rd) (by simp; omega)
      have hv : ((l.getD i 0).toNat + k) % 256 = (UInt8.ofNat ((l.getD i 0).toNat + k)).toNat := (UInt8.toNat_ofNat').symm
      have hv2 : (((l.getD i 0).toNat : Int) + (k : Int)) % 256 = ((UInt8.ofNat ((l.getD i 0).toNat + k)).toNat : Int) := by omega
      have HO2 : Hid (∃ x : UInt8, Own (wr.setCell ⟨g, i, none⟩ (.int .u8 ((UInt8.ofNat ((l.getD i 0).toNat + k)).toNat : Int))) w.heap.size (.slice (some ⟨g, 0, none⟩) l.length cp) (l.set i x)) := ⟨_, ho2⟩
      clear hz hc HM hox hv ho2 hbr
      generalize addN (startN s) (l.set i (UInt8.ofNat ((l.getD i 0).toNat + k))) = M2 at *
      generalize (UInt8.ofNat ((l.getD i 0).toNat + k)) = z at *
      generalize (l.getD i 0) = cc at *
      go_wp2_with fail
      generalize (wr.setCell ⟨g, i, none⟩ (.int .u8 (z.toNat : Int))) = W5 at *
      refine O2.mono ?_
      rintro e w5 ⟨rfl, rfl⟩
      clear O2 hcx hcg hfz hv2
      go_wp2
      go_roundw
      case rel => exact ⟨k + (1 + l.length / 16), by omega, by omega, int_eq (by omega), HO2.out, hb2⟩
      case measure => simp [RowKit.intOf]; omega
    · clear hc hcc hlc hox HB
      have hge : (256 : Int) ≤ (k : Int) := by omega
      clear hlt hk2
      go_wp2
      go_ret
      exact ⟨rfl, hbr⟩
theorem tells_walk (w : World) (s k : Int) (v : Value) (l : List UInt8) (h : RdA w v l) (hl : l.length ≤ 140737488355328) :
    Calls Try.prog 5 #[.int .i64 s, v, .int .i64 k] w fun e w' => e = .returned (.bool true) ∧ Below w.heap.size w w' := by
  by_cases hbad : 4096 < l.length ∨ k < 0 ∨ (l.length : Int) ≤ k
  · exact tells_early w s k v l h hl hbad
  · obtain ⟨i, rfl⟩ : ∃ i : Nat, k = i := ⟨k.toNat, by omega⟩
    exact tells_late w s i v l h (by omega) (by omega)
end Go.Proofs.Ythamgdikggpkhaa
