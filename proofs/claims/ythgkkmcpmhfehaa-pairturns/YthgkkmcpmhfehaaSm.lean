/- The small functions of tape: size, pass, Count, number, sumOf, framed. -/
import Derived.Test.YthgkkmcpmhfehaaRd
import Derived.Test.YthgkkmcpmhfehaaSlTakes
import Derived.BigQuiet
namespace Go.Proofs.Ythgkkmcpmhfehaa
open Go.RowKit Go.Lib
set_option maxRecDepth 100000

theorem sl_range {w : World} {b o c : Nat} {l : List UInt8} (h : w.rangeAt b o (byteCells l)) (hc : l.length ≤ c) : Sl.RdA w (.slice (some ⟨b, o, none⟩) l.length c) l :=
  .inl (.inr ⟨b, o, c, rfl, hc, fun i hi => by
    rw [h i (.int .u8 ((l.getD i 0).toNat : Int)) (by simp [byteCells, List.getElem?_eq_getElem hi])]⟩)
theorem range_cut {w : World} {b : Nat} {l : List UInt8} {t : TypeId} {fr : Nat × Nat} (h : w.heap[b]? = some (.cells (byteCells l).toArray t fr)) (o m : Nat) : w.rangeAt b o (byteCells ((l.drop o).take m)) := by
  intro j u hj
  rw [cell_of_row _ _ _ _ _ _ h, List.getElem?_toArray, ← hj]
  have hj2 : j < m := by
    have := (List.getElem?_eq_some_iff.1 hj).1
    rw [byteCells_length, List.length_take] at this; omega
  simp only [byteCells, List.getElem?_map, List.getElem?_take, hj2, if_true, List.getElem?_drop]

theorem size_any (w : World) (t q lo hi place count met : Nat) (ht : Tp w t q lo hi place count met) (hlh : lo ≤ hi) (hh : hi ≤ 4096) :
    Calls Try.prog 71 #[.pointer (some ⟨t, 0, none⟩)] w fun e w' => e = .returned (.int .i64 (((hi - lo) * 256 : Nat) : Int)) ∧ w' = w.drew := by
  obtain ⟨t0, t1, t2, t3, t4, t5, tf⟩ := ht.cells
  go_enter Try.func71, Try.ntmps71
  go_wp2
  go_region
  all_goals
    go_wp2
    go_ret
    exact ⟨by show Ending.returned (.int .i64 _) = _; congr 2; omega, rfl⟩
theorem count_any (w : World) (t q lo hi place count met : Nat) (ht : Tp w t q lo hi place count met) :
    Calls Try.prog 55 #[.pointer (some ⟨t, 0, none⟩)] w fun e w' => e = .returned (.int .i64 (count : Int)) ∧ w' = w := by
  obtain ⟨t0, t1, t2, t3, t4, t5, tf⟩ := ht.cells
  go_enter Try.func55, Try.ntmps55
  go_wp2
  go_ret
  exact ⟨rfl, rfl⟩
theorem count_nil (w : World) : Calls Try.prog 55 #[.pointer none] w fun e w' => e = .returned (.int .i64 0) ∧ w' = w := by
  go_enter Try.func55, Try.ntmps55
  go_wp2
  go_ret
  exact ⟨rfl, rfl⟩
theorem pass_any (w : World) (t q lo hi place count met m : Nat) (ht : Tp w t q lo hi place count met) (hp : place ≤ 1048576) (hm : m ≤ 1048576) (hc : count ≤ 1048576) :
    Calls Try.prog 76 #[.pointer (some ⟨t, 0, none⟩), .int .i64 (m : Int)] w fun e w' => e = .returned (.tuple #[]) ∧ Tp w' t q lo hi (place + (12 + m)) (count + 1) met ∧ Step (fun k => k = t) (fun k => k = t) w w' := by
  obtain ⟨t0, t1, t2, t3, t4, t5, tf⟩ := ht.cells
  go_enter Try.func76, Try.ntmps76
  go_wp2
  go_end0
  refine ⟨rfl, ⟨?_⟩, Step.set (Step.set (Step.refl (fun k => k = t) w) (a := ⟨t, 3, none⟩) rfl _) (a := ⟨t, 4, none⟩) rfl _⟩
  rw [heap_setCell_same _ _ _ _ _ _ (heap_setCell_same _ _ _ _ _ _ ht.b)]
  simp
theorem sumOf_any (w : World) (c : Nat) (v1 v2 : Value) (l1 l2 : List UInt8) (h1 : Sl.RdA w v1 l1) (h2 : Sl.RdA w v2 l2) (hl1 : l1.length ≤ 1048576) (hl2 : l2.length ≤ 1048576) :
    Calls Try.prog 91 #[.int .i64 (c : Int), v1, v2] w fun e w' => e = .returned (.int .u64 (Sl.addN (Sl.addN (Sl.startN c) l1) l2 : Nat)) ∧ w' = w := by
  have hs := Sl.startN_lt c
  have N1 := Sl.of_any w c v1 l1 h1 (by omega)
  have hn : Sl.addN (Sl.startN c) l1 < 18446744073709551616 := by have := Sl.addN_lt (Sl.startN c) l1; omega
  have N2 := Sl.add_any w (Sl.addN (Sl.startN c) l1) v2 l2 hn h2 (by omega)
  generalize Sl.addN (Sl.startN c) l1 = A at *
  generalize Sl.addN A l2 = B at *
  go_enter Try.func91, Try.ntmps91
  go_wp2_with (first | (go_at_call 83; refine N1.mono ?_; rintro e w' ⟨rfl, rfl⟩) | (go_at_call 92; refine N2.mono ?_; rintro e w' ⟨rfl, rfl⟩))
  go_ret
  exact ⟨rfl, rfl⟩

/-- The number that three bytes are. -/
def be3 (n : Nat) : List UInt8 := [UInt8.ofNat (n / 65536), UInt8.ofNat (n / 256), UInt8.ofNat n]
theorem bits_or_i64_nat (a b : Nat) (ha : a < 4294967296) (hb : b < 4294967296) : bits .or .i64 (a : Int) (b : Int) = ((a ||| b : Nat) : Int) := by
  have hx : a ||| b < 2 ^ 32 := Nat.or_lt_two_pow (by omega) (by omega)
  have h1 : (BitVec.ofInt 64 (a : Int)).toNat = a := by
    rw [BitVec.ofInt_natCast, BitVec.toNat_ofNat]; exact Nat.mod_eq_of_lt (by omega)
  have h2 : (BitVec.ofInt 64 (b : Int)).toNat = b := by
    rw [BitVec.ofInt_natCast, BitVec.toNat_ofNat]; exact Nat.mod_eq_of_lt (by omega)
  show IntKind.i64.wrap ((BitVec.ofInt 64 (a : Int) ||| BitVec.ofInt 64 (b : Int)).toNat : Int) = _
  rw [BitVec.toNat_or, h1, h2, IntKind.wrap_i64]
  omega
theorem or8i (x : Nat) (c : UInt8) (hx : x < 65536) : bits .or .i64 ((x : Int) * 256) (c.toNat : Int) = ((x * 256 + c.toNat : Nat) : Int) := by
  have hc := c.toNat_lt
  have e : ((x : Int) * 256) = ((x * 256 : Nat) : Int) := by omega
  rw [e, bits_or_i64_nat _ _ (by omega) (by omega)]
  have h := Nat.shiftLeft_add_eq_or_of_lt (i := 8) (b := c.toNat) (by omega) x
  rw [Nat.shiftLeft_eq, show (2 : Nat) ^ 8 = 256 from by decide] at h
  rw [← h]
theorem number_any (w : World) (b o c : Nat) (l : List UInt8) (hl : l.length = 3) (hr : w.rangeAt b o (byteCells l)) :
    Calls Try.prog 98 #[.slice (some ⟨b, o, none⟩) 3 c] w fun e w' => e = .returned (.int .i64 (Sl.de l : Nat)) ∧ w' = w := by
  have HC : Hid _ := hr
  clear hr
  go_enter Try.func98, Try.ntmps98
  go_wp2_with fail
  go_loop [3, 8] (fun x i => ∃ k : Nat, k ≤ 3 ∧ i = .int .i64 k ∧ x = .int .i64 (Sl.de (l.take k) : Nat)) (fun _ i => 3 - (RowKit.intOf i).toNat)
  case atStart => exact ⟨0, by omega, rfl, rfl⟩
  case round =>
    obtain ⟨k, hk, rfl, rfl⟩ := hrel
    by_cases hlt : k < 3
    · have hcx : w.cell? ⟨b, o + k, none⟩ = some (.int .u8 ((l.getD k 0).toNat : Int)) := HC.out k _ (by simp [byteCells, List.getElem?_eq_getElem (show k < l.length by omega)])
      have HD : Hid (Sl.de (l.take (k + 1)) = Sl.de (l.take k) * 256 + (l.getD k 0).toNat) := Sl.de_take l k (by omega)
      have hx : Sl.de (l.take k) < 65536 := by
        have h := Sl.de_lt (l.take k)
        have h2 : (256 : Nat) ^ (l.take k).length ≤ 256 ^ 2 := Nat.pow_le_pow_right (by omega) (by rw [List.length_take]; omega)
        omega
      have HO : Hid _ := or8i (Sl.de (l.take k)) (l.getD k 0) hx
      have hcc := (l.getD k 0).toNat_lt
      generalize Sl.de (l.take k) = X at *
      generalize l.getD k 0 = z at *
      go_wp2
      go_round
      case rel => exact ⟨k + 1, by omega, by go_num, int_eq (by rw [HD.out, HO.out])⟩
      case measure => simp [RowKit.intOf]; omega
    · have ek : l.take k = l := List.take_of_length_le (by omega)
      rw [ek]
      clear ek
      go_wp2
      go_ret
      exact ⟨rfl, rfl⟩

/-- A record's sum. -/
def sumN (c : Nat) (l3 r : List UInt8) : Nat := Sl.addN (Sl.addN (Sl.startN c) l3) r
/-- A record as it stands. -/
def frB (m : UInt8) (c : Nat) (r : List UInt8) : List UInt8 := (m :: be3 r.length) ++ Sl.be8 (sumN c (be3 r.length) r) ++ r
theorem frB_length (m : UInt8) (c : Nat) (r : List UInt8) : (frB m c r).length = 12 + r.length := by simp [frB, be3, Sl.be8]; omega
theorem ownsRow_base {w : World} {B B' : Nat} {e : TypeId} {size : Nat} {v : Value} {n : Nat} {xs : List Value} (h : w.ownsRow B e size v n xs) (hB : B' ≤ B) : w.ownsRow B' e size v n xs := by
  refine ⟨h.1, ?_⟩
  rcases h.2 with hn | ⟨g, cap, cur, rfl, hb, rest⟩
  · exact .inl hn
  · exact .inr ⟨g, cap, cur, rfl, Nat.le_trans hB hb, rest⟩
theorem head_cells (n : Nat) (hn : n ≤ 65536) : #[Value.int IntKind.u8 0, Value.int IntKind.u8 ((n : Int) / 65536), Value.int IntKind.u8 ((n : Int) / 256 % 256), Value.int IntKind.u8 ((n : Int) % 256)] = (byteCells (0 :: be3 n)).toArray := by
  simp only [byteCells, be3, List.map_cons, List.map_nil, UInt8.toNat_ofNat']
  congr 1
  simp only [List.cons.injEq, Value.int.injEq, true_and, and_true]
  refine ⟨rfl, ?_, ?_, ?_⟩ <;> omega
set_option maxHeartbeats 2000000 in
theorem framed_any (w : World) (c : Nat) (v : Value) (r : List UInt8) (h : Sl.RdA w v r) (hl : r.length ≤ 65536) :
    Calls Try.prog 75 #[.int .i64 (c : Int), v] w fun e w' => ∃ v', e = .returned v' ∧ Sl.Own w' w.heap.size v' (frB 0 c r) ∧ Below w.heap.size w w' := by
  obtain ⟨a, k, rfl⟩ := h.len
  have HR : Hid _ := h
  clear h
  go_enter Try.func75, Try.ntmps75
  go_wp2_with fail
  rw [head_cells r.length hl]
  have hb1 : Below w.heap.size w (w.alloc (.cells (byteCells (0 :: be3 r.length)).toArray 5)) := (Below.refl _ _).alloc (Nat.le_refl _) _
  have hh1 : (w.alloc (.cells (byteCells (0 :: be3 r.length)).toArray 5)).heap[w.heap.size]? = some (.cells (byteCells (0 :: be3 r.length)).toArray 5 (0, 0)) := heap_alloc_new w _
  generalize w.alloc (.cells (byteCells (0 :: be3 r.length)).toArray 5) = w1 at hb1 hh1 ⊢
  have hr1 : Sl.RdA w1 (.slice a r.length k) r := Sl.RdA.on HR.out hb1
  have h3 : Sl.RdA w1 (.slice (some ⟨w.heap.size, 1, none⟩) 3 3) (be3 r.length) := by
    have := sl_range (c := 3) (range_cut hh1 1 3) (by simp [be3])
    simpa [be3] using this
  have h4 : Sl.RdA w1 (.slice (some ⟨w.heap.size, 0, none⟩) 4 4) (0 :: be3 r.length) := by
    have := sl_range (c := 4) (range_cut hh1 0 4) (by simp [be3])
    simpa [be3] using this
  have N1 := sumOf_any w1 c _ _ (be3 r.length) r h3 hr1 (by simp [be3]) (by omega)
  have hsl : sumN c (be3 r.length) r < 18446744073709551616 := by have := Sl.addN_lt (Sl.addN (Sl.startN c) (be3 r.length)) r; unfold sumN; omega
  have N2 := Sl.put_any w1 _ (0 :: be3 r.length) (sumN c (be3 r.length) r) hsl h4 (by simp [be3])
  have hfr : Hid (frB 0 c r = 0 :: be3 r.length ++ Sl.be8 (sumN c (be3 r.length) r) ++ r) := rfl
  have hl8 : (0 :: be3 r.length ++ Sl.be8 (sumN c (be3 r.length) r)).length = 12 := by simp [be3, Sl.be8]
  change Calls Try.prog 91 _ w1 (fun e w' => e = .returned (.int .u64 (sumN c (be3 r.length) r : Nat)) ∧ w' = w1) at N1
  generalize sumN c (be3 r.length) r = A at *
  generalize 0 :: be3 r.length ++ Sl.be8 A = L at *
  refine N1.mono ?_
  rintro e w2 ⟨rfl, rfl⟩
  go_wp2_with fail
  refine N2.mono ?_
  rintro e w3 ⟨v', rfl, ho, hb⟩
  have hr3 := hr1.on hb
  have hle : w.heap.size ≤ w3.heap.size := Nat.le_trans hb1.size hb.size
  go_wp2_with (at_builtin; refine Sl.appB rfl (.tmp 24) (.tmp 25) rfl w.heap.size _ _ L r w3 rfl (ownsRow_base ho hb1.size) rfl hr3 (by omega) hle ?_)
  intro v4 w4 ho4 hb4
  go_wp2
  go_ret
  exact ⟨v4, rfl, by rw [hfr.out]; exact ho4, (hb1.trans (hb.mono hb1.size)).trans hb4⟩
end Go.Proofs.Ythgkkmcpmhfehaa
