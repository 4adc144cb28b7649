/- The statements' first look, trivetlaw01.wakes, answers true wherever the library's table of powers of ten and its two errors' variables read as they were laid. -/
import Derived.Test.YtbdfhmffdnlbfaaDoorNumber
import Derived.Lib.SlBytesConst
namespace Go.Proofs.YtbdfhmffdnlbfaaDoor
open Go.RowKit Go.Lib

theorem itoa_0 : itoa 0 = [48] := by simp [itoa, decDigits_one]
theorem itoa_7 : itoa 7 = [55] := by simp [itoa, decDigits_one]
theorem itoa_2 : itoa 2 = [50] := by simp [itoa, decDigits_one]
theorem itoa_m12 : itoa (-12) = [45, 49, 50] := by simp [itoa, decDigits_two]
theorem enc_two : encNs [0, -12] = [48, 59, 45, 49, 50, 59] := by simp [encNs, encN, itoa_0, itoa_m12]
theorem enc_hi : encS [104, 105] = [50, 58, 104, 105, 44] := by simp [encS, itoa_2]
theorem digs_007 : digs [48, 48, 55, 59] 59 = none := by
  have h1 : indexByte [48, 48, 55, 59] 59 = 3 := by decide
  have h2 : atoiAll [48, 48, 55] = .ok 7 := by decide
  unfold digs
  rw [h1]
  simp [h2, itoa_7]
theorem numR_007 : numR (-9223372036854775808) false [48, 48, 55, 59] = (0, true, []) := by simp [numR, digs_007]

theorem lit4 (w : World) : RdB (w.alloc (.cells #[.int .u8 48, .int .u8 48, .int .u8 55, .int .u8 59] 5 (4, 5))) (.slice (some ⟨w.heap.size, 0, none⟩) 4 4) [48, 48, 55, 59] := by
  refine .inr ⟨w.heap.size, 0, 4, rfl, by simp, fun i hi => ?_⟩
  rw [World.cell?_alloc_mark]
  match i, hi with
  | 0, _ => rfl
  | 1, _ => rfl
  | 2, _ => rfl
  | 3, _ => rfl
theorem lit2 (w : World) : RdN (w.alloc (.cells #[.int .i64 0, .int .i64 (-12)] 3)) (.slice (some ⟨w.heap.size, 0, none⟩) 2 2) [0, -12] := by
  refine ⟨fun z hz => by simp at hz; omega, .inr ⟨w.heap.size, 0, 2, rfl, fun i hi => ?_⟩⟩
  rw [World.cell?_alloc_new]
  match i, hi with
  | 0, _ => rfl
  | 1, _ => rfl

theorem Vars.up {B : Nat} {w w' : World} (h : Vars B w) (hb : Below B w w') (hB : B ≤ w'.heap.size) : Vars w'.heap.size w' := (h.on hb).mono hB

theorem Rdr.on {w w' : World} {R : Nat} {bad : Bool} {l : List UInt8} (h : Rdr w R bad l) (hb : Below w.heap.size w w') : Rdr w' R bad l := by
  obtain ⟨v, h, hv⟩ := h
  exact ⟨v, h.on hb h.lt, hv.on hb⟩
theorem below_alloc {w w' : World} {o : Obj} (h : Below (w.alloc o).heap.size (w.alloc o) w') : Below w.heap.size w w' :=
  ((Below.refl _ w).alloc (Nat.le_refl _) _).trans (h.mono (by simp))
theorem conv_lit {w : World} {B : Nat} {v : Value} {l : List UInt8} (h : Own w B v l) (a : Array UInt8) (e : l.toArray = a) : (convert 22 9 v).run Tryd.prog w = .ok (.string ⟨a⟩) w := by
  rw [← e]; exact conv_any h.rd

set_option maxHeartbeats 1000000 in
theorem wakes_any (w : World) (hV : Vars w.heap.size w) :
    Calls Tryd.prog 9 #[] w fun e w' => e = .returned (.bool true) ∧ Below w.heap.size w w' := by
  have HV : Hid (Vars w.heap.size w) := hV
  clear hV
  have kc := fun (w : World) (C : Array Value) (n c : Nat) => Lib.run_convert_bytes_const (P := Tryd.prog) w 22 5 C n c Tryd.underlying22 Tryd.underlying5
  go_enter Tryd.func9, Tryd.ntmps9
  go_wp2_with fail
  refine (new_any _ _ _ (.inl (lit4 w)) (by simp)).mono ?_
  rintro e w1 ⟨R, rfl, hR, hr1, hb1⟩
  have b1 : Below w.heap.size w w1 := ((Below.refl _ w).alloc (Nat.le_refl _) _).trans (hb1.mono (by simp))
  have hs1 := b1.size
  have hRl : R < w1.heap.size := by obtain ⟨_, h, _⟩ := hr1; exact h.lt
  clear hb1 kc
  have hw1 : w.heap.size ≤ R := by simp at hR; omega
  clear hR
  go_wp2_with fail
  refine (num_any _ _ _ [] [0, -12] (.inl (.inl ⟨rfl, rfl⟩)) (lit2 w1) (by simp) (HV.out.up (b1.alloc hs1 _) (by simp; omega)).tab).mono ?_
  rintro e w2 ⟨v2, rfl, ho2, hb2⟩
  have b2 := below_alloc hb2
  have hc2 := conv_lit ho2 #[48, 59, 45, 49, 50, 59] (by rw [enc_two]; rfl)
  have hr2 := hr1.on b2
  have b02 := b1.trans (b2.mono hs1)
  have hs2 := b02.size
  clear ho2 hb2 b2 hr1 b1
  go_wp2_with fail
  refine (str_any _ _ [] ⟨#[104, 105]⟩ (.inl (.inl ⟨rfl, rfl⟩)) (by simp [ByteArray.size]) (HV.out.up b02 hs2).tab).mono ?_
  rintro e w3 ⟨v3, rfl, ho3, b3⟩
  have hc3 := conv_lit ho3 #[50, 58, 104, 105, 44] (by rw [show (⟨#[104, 105]⟩ : ByteArray).data.toList = [104, 105] from rfl, enc_hi]; rfl)
  have hr3 := hr2.on b3
  have b03 := b02.trans (b3.mono hs2)
  have hs3 := b03.size
  clear ho3 b3 hr2 b02 hc2
  go_wp2_with fail
  have hN := rnum_any w3 w.heap.size R false _ hr3 (HV.out.on b03) hw1
  rw [numR_007] at hN
  refine hN.mono ?_
  rintro e w4 ⟨rfl, hr4, hg4⟩
  have b04 := b03.grown hg4 hs3 (by intro k hk; cases hk; exact hw1)
  clear hN hr3 hc3
  go_wp2_with fail
  refine (bad_any w4 R true [] hr4).mono ?_
  rintro e w5 ⟨rfl, rfl⟩
  clear hr4 hg4
  go_wp2
  go_ret
  exact ⟨rfl, b04⟩
end Go.Proofs.YtbdfhmffdnlbfaaDoor
