/- pair: number, sumOf, framed. -/
import Derived.Test.YthgkkmcpmhfehaaPa
namespace Go.Proofs.Ythgkkmcpmhfehaa
open Go.RowKit Go.Lib Go.Shelf
set_option maxRecDepth 100000

theorem or8j (x : Nat) (c : UInt8) (hx : x < 16777216) : bits .or .i64 ((x : Int) * 256) (c.toNat : Int) = ((x * 256 + c.toNat : Nat) : Int) := by
  have hc := c.toNat_lt
  have e : ((x : Int) * 256) = ((x * 256 : Nat) : Int) := by omega
  rw [e, bits_or_i64_nat _ _ (by omega) (by omega)]
  have h := Nat.shiftLeft_add_eq_or_of_lt (i := 8) (b := c.toNat) (by omega) x
  rw [Nat.shiftLeft_eq, show (2 : Nat) ^ 8 = 256 from by decide] at h
  rw [← h]
theorem number4_any (w : World) (b o c : Nat) (l : List UInt8) (hl : l.length = 4) (hr : w.rangeAt b o (byteCells l)) :
    Calls Try.prog 62 #[.slice (some ⟨b, o, none⟩) 4 c] w fun e w' => e = .returned (.int .i64 (Sl.de l : Nat)) ∧ w' = w := by
  have HC : Hid _ := hr
  clear hr
  go_enter Try.func62, Try.ntmps62
  go_wp2_with fail
  go_loop [3, 8] (fun x i => ∃ k : Nat, k ≤ 4 ∧ i = .int .i64 k ∧ x = .int .i64 (Sl.de (l.take k) : Nat)) (fun _ i => 4 - (RowKit.intOf i).toNat)
  case atStart => exact ⟨0, by omega, rfl, rfl⟩
  case round =>
    obtain ⟨k, hk, rfl, rfl⟩ := hrel
    by_cases hlt : k < 4
    · have hcx : w.cell? ⟨b, o + k, none⟩ = some (.int .u8 ((l.getD k 0).toNat : Int)) := HC.out k _ (by simp [byteCells, List.getElem?_eq_getElem (show k < l.length by omega)])
      have HD : Hid (Sl.de (l.take (k + 1)) = Sl.de (l.take k) * 256 + (l.getD k 0).toNat) := Sl.de_take l k (by omega)
      have hx : Sl.de (l.take k) < 16777216 := by
        have h := Sl.de_lt (l.take k)
        have h2 : (256 : Nat) ^ (l.take k).length ≤ 256 ^ 3 := Nat.pow_le_pow_right (by omega) (by rw [List.length_take]; omega)
        omega
      have HO : Hid _ := or8j (Sl.de (l.take k)) (l.getD k 0) hx
      have hcc := (l.getD k 0).toNat_lt
      generalize Sl.de (l.take k) = X at *
      generalize l.getD k 0 = z at *
      go_wp2
      go_round
      case rel => exact ⟨k + 1, by omega, by go_num, int_eq (by rw [HD.out, HO.out])⟩
      case measure => simp [RowKit.intOf]; omega
    · have ek : l.take k = l := List.take_of_length_le (by omega)
      rw [ek]
      clear ek
      go_wp2
      go_ret
      exact ⟨rfl, rfl⟩

/-- The sum of a snapshot. -/
def sumS (b : List UInt8) : Nat := Sl.addN (Sl.startN (b.length : Int)) b
theorem sumS_lt (b : List UInt8) : sumS b < 18446744073709551616 := by have := Sl.addN_lt (Sl.startN (b.length : Int)) b; unfold sumS; omega
theorem sumS_any (w : World) (v : Value) (l : List UInt8) (h : Sl.RdA w v l) (hl : l.length ≤ 1099511627776) :
    Calls Try.prog 65 #[v] w fun e w' => e = .returned (.int .u64 (sumS l : Nat)) ∧ w' = w := by
  obtain ⟨a, k, rfl⟩ := h.len
  have N1 := Sl.of_any w l.length _ l h (by omega)
  change Calls Try.prog 83 _ w (fun e w' => e = .returned (.int .u64 (sumS l : Nat)) ∧ w' = w) at N1
  generalize sumS l = A at *
  clear h
  go_enter Try.func65, Try.ntmps65
  go_wp2_with (go_at_call 83; refine N1.mono ?_; rintro e w' ⟨rfl, rfl⟩)
  go_ret
  exact ⟨rfl, rfl⟩
/-- A number in four bytes. -/
def be4 (n : Nat) : List UInt8 := [UInt8.ofNat (n / 16777216), UInt8.ofNat (n / 65536), UInt8.ofNat (n / 256), UInt8.ofNat n]
theorem de_be4 (n : Nat) (hn : n < 4294967296) : Sl.de (be4 n) = n := by
  simp only [Sl.de, be4, List.foldl_cons, List.foldl_nil, UInt8.toNat_ofNat']
  omega
/-- A snapshot as it stands. -/
def snB (b : List UInt8) : List UInt8 := be4 b.length ++ Sl.be8 (sumS b) ++ b
theorem snB_length (b : List UInt8) : (snB b).length = 12 + b.length := by simp [snB, be4, Sl.be8]; omega
theorem head4_cells (n : Nat) (hn : n ≤ 1048576) : #[Value.int IntKind.u8 ((n : Int) / 16777216), Value.int IntKind.u8 ((n : Int) / 65536), Value.int IntKind.u8 ((n : Int) / 256 % 256), Value.int IntKind.u8 ((n : Int) % 256)] = (byteCells (be4 n)).toArray := by
  simp only [byteCells, be4, List.map_cons, List.map_nil, UInt8.toNat_ofNat']
  congr 1
  simp only [List.cons.injEq, Value.int.injEq, true_and, and_true]
  refine ⟨?_, ?_, ?_, ?_⟩ <;> omega
set_option maxHeartbeats 2000000 in
theorem framedS_any (w : World) (v : Value) (r : List UInt8) (h : Sl.RdA w v r) (hl : r.length ≤ 1048576) :
    Calls Try.prog 78 #[v] w fun e w' => ∃ v', e = .returned v' ∧ Sl.Own w' w.heap.size v' (snB r) ∧ Below w.heap.size w w' := by
  obtain ⟨a, k, rfl⟩ := h.len
  have HR : Hid _ := h
  clear h
  go_enter Try.func78, Try.ntmps78
  go_wp2_with fail
  rw [head4_cells r.length hl]
  have hb1 : Below w.heap.size w (w.alloc (.cells (byteCells (be4 r.length)).toArray 5)) := (Below.refl _ _).alloc (Nat.le_refl _) _
  have hh1 : (w.alloc (.cells (byteCells (be4 r.length)).toArray 5)).heap[w.heap.size]? = some (.cells (byteCells (be4 r.length)).toArray 5 (0, 0)) := heap_alloc_new w _
  generalize w.alloc (.cells (byteCells (be4 r.length)).toArray 5) = w1 at hb1 hh1 ⊢
  have hr1 : Sl.RdA w1 (.slice a r.length k) r := Sl.RdA.on HR.out hb1
  have h4 : Sl.RdA w1 (.slice (some ⟨w.heap.size, 0, none⟩) 4 4) (be4 r.length) := by
    have := sl_range (c := 4) (range_cut hh1 0 4) (by simp [be4])
    simpa [be4] using this
  have N1 := sumS_any w1 _ r hr1 (by omega)
  have N2 := Sl.put_any w1 _ (be4 r.length) (sumS r) (sumS_lt r) h4 (by simp [be4])
  have hfr : Hid (snB r = be4 r.length ++ Sl.be8 (sumS r) ++ r) := rfl
  have hl8 : (be4 r.length ++ Sl.be8 (sumS r)).length = 12 := by simp [be4, Sl.be8]
  generalize sumS r = A at *
  generalize be4 r.length ++ Sl.be8 A = L at *
  refine N1.mono ?_
  rintro e w2 ⟨rfl, rfl⟩
  go_wp2_with fail
  refine N2.mono ?_
  rintro e w3 ⟨v', rfl, ho, hb⟩
  have hr3 := hr1.on hb
  have hle : w.heap.size ≤ w3.heap.size := Nat.le_trans hb1.size hb.size
  go_wp2_with (at_builtin; refine Sl.appB rfl (.tmp 22) (.tmp 23) rfl w.heap.size _ _ L r w3 rfl (ownsRow_base ho hb1.size) rfl hr3 (by omega) hle ?_)
  intro v4 w4 ho4 hb4
  go_wp2
  go_ret
  exact ⟨v4, rfl, by rw [hfr.out]; exact ho4, (hb1.trans (hb.mono hb1.size)).trans hb4⟩
end Go.Proofs.Ythgkkmcpmhfehaa
