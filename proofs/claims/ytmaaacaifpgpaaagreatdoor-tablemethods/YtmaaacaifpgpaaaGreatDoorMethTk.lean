/- table's reader: num, short, long. Conditions: those that each row states. What table's reader takes as a value. Conditions: those that each row states. What table's reader takes as a field. Conditions: those that each row states. What the document's Table and the program's table make of bytes, as functions, and that they make the same. Conditions: those that each row states. The document's Reader.Table. Conditions: those that each row states. The contract of slices.SortFunc that the walks use, laid at this dump: the library of contracts' own theorem at the dump's numbers; with the conditions that it states. slices.SortFunc of properties by their names. Conditions: those that each row states. table's reader: the program's table. Conditions: those that each row states. The document's Reader.Table. Conditions: those that each row states. table.Take. Conditions: those that each row states. -/
import Derived.Test.YtmaaacaifpgpaaaGreatDoorTi
import Derived.Test.YtmaaacaifpgpaaaGreatDoorNu
import Derived.Shelf.SlSortCmp.NoneTotal
import Derived.Ground.SlsfProg
import Derived.Test.YtmaaacaifpgpaaaGreatDoorProg
namespace Go.Proofs.YtmaaacaifpgpaaaGreatDoor
open Go.RowKit Go.Lib
set_option maxRecDepth 100000
set_option linter.unusedSimpArgs false

theorem Cr.on {w w' : World} {b B : Nat} {s : List UInt8} (h : Cr w b s) (hb : Below B w w') (hk : b < B) : Cr w' b s :=
  ⟨by rw [hb.cell (p := ⟨b, 0, none⟩) hk]; exact h.c0, by rw [hb.frozen (p := ⟨b, 0, none⟩) hk]; exact h.f0⟩
set_option maxHeartbeats 4000000 in
theorem cnum_ok (w : World) (b k : Nat) (s : List UInt8) (hr : Cr w b s) (hb : b < w.heap.size) (hs : s.length ≤ 140737488355328) (hk8 : k ≤ 8) (hk : k ≤ s.length) :
    Calls Tryz.prog 55 #[.pointer (some ⟨b, 0, none⟩), .int .i64 k] w fun e w' => e = .returned (.int .u64 (numL (s.take k))) ∧ Cr w' b (s.drop k) ∧ Alb w.heap.size w w' b := by
  have CT := cut_ok w b k s hr hs hk
  have hl : (s.take k).length ≤ 8 := by rw [List.length_take]; omega
  have u1 : IntKind.u64.wrap (k : Int) = (k : Int) := by rw [IntKind.wrap_u64]; omega
  generalize s.take k = l at *
  generalize s.drop k = r at *
  clear hs hk hr hk8
  go_enter Tryz.func55, Tryz.ntmps55
  go_wp2_with fail
  refine CT.mono ?_
  rintro e w1 ⟨rfl, h1, b1⟩
  obtain ⟨c, W, hcv, hcell, hbW⟩ := bytes_of w1 l
  have h2 : Cr W b r := h1.on hbW (by rw [b1.size]; exact hb)
  have hA : Alb w.heap.size w W b := (Alb.but b1).trans (.below (by rw [← b1.size]; exact hbW))
  have HC : Hid (∀ j (h : j < l.length), W.cell? ⟨w1.heap.size, j, none⟩ = some (.int .u8 (l[j].toNat : Int))) := hcell
  clear hcell CT h1 b1 hbW u1
  go_wp2_with fail
  go_loop [5, 14] (fun n i => ∃ j : Nat, j ≤ l.length ∧ i = .int .i64 j ∧ n = .int .u64 (numL (l.take j))) (fun _ i => l.length - (RowKit.intOf i).toNat)
  case atStart => exact ⟨0, Nat.zero_le _, rfl, rfl⟩
  case round =>
    obtain ⟨j, hj, rfl, rfl⟩ := hrel
    by_cases hlt : j < l.length
    · have hcj := HC.out j hlt
      have h8 : numL (l.take j) < 256 ^ j := by
        have := numL_lt (l.take j)
        rwa [List.length_take, Nat.min_eq_left hj] at this
      have h56 : numL (l.take j) < 72057594037927936 := Nat.lt_of_lt_of_le h8 (by have : 256 ^ j ≤ 256 ^ 7 := Nat.pow_le_pow_right (by decide) (by omega); simpa using this)
      have HS : Hid (numL (l.take (j + 1)) = numL (l.take j) * 256 + l[j].toNat) := by
        show _ = _
        rw [List.take_succ_eq_append_getElem hlt, numL_snoc]
      clear h8
      generalize numL (l.take j) = n at *
      have hby := l[j].toNat_lt
      generalize l[j].toNat = x at *
      have hjz : (j : Int) < (l.length : Int) := by omega
      have hn0 : (0 : Int) ≤ (n : Int) := by omega
      go_wp2
      all_goals
        go_round
        case rel => exact ⟨j + 1, by omega, by go_num, by rw [HS.out]; first | rfl | (rw [or_z n x h56 hby])⟩
        case measure => simp [RowKit.intOf]; omega
    · have hjk : j = l.length := by omega
      subst hjk
      go_wp2
      go_ret
      refine ⟨?_, h2, hA⟩
      show Ending.returned (.int .u64 _) = _
      first | rfl | rw [List.take_length]

set_option maxHeartbeats 400000 in
theorem cnum_no (w : World) (b k : Nat) (s : List UInt8) (hr : Cr w b s) (hs : s.length ≤ 140737488355328) (hk8 : k ≤ 8) (hk : s.length < k) :
    Calls Tryz.prog 55 #[.pointer (some ⟨b, 0, none⟩), .int .i64 k] w fun e w' => e = .panicked (gup 11) ∧ w' = w := by
  have CT := cut_no w b k s hr hs hk
  have u1 : IntKind.u64.wrap (k : Int) = (k : Int) := by rw [IntKind.wrap_u64]; omega
  obtain ⟨g, hg⟩ : ∃ g, gup 11 = g := ⟨_, rfl⟩
  rw [hg] at CT ⊢
  clear hg hs hk hk8 hr
  go_enter Tryz.func55, Tryz.ntmps55
  go_wp2_with fail
  refine CT.mono ?_
  rintro e w' ⟨rfl, rfl⟩
  exact ⟨rfl, rfl, rfl⟩
/-- num, in one. -/
theorem cnum_any (w : World) (b k : Nat) (s : List UInt8) (hr : Cr w b s) (hb : b < w.heap.size) (hs : s.length ≤ 140737488355328) (hk8 : k ≤ 8) :
    Calls Tryz.prog 55 #[.pointer (some ⟨b, 0, none⟩), .int .i64 k] w fun e w' =>
      Alb w.heap.size w w' b ∧ ((k ≤ s.length ∧ e = .returned (.int .u64 (numL (s.take k))) ∧ Cr w' b (s.drop k)) ∨ (s.length < k ∧ e = .panicked (gup 11) ∧ Cr w' b s)) := by
  by_cases h : k ≤ s.length
  · exact (cnum_ok w b k s hr hb hs hk8 h).mono fun e w' ⟨h1, h2, h3⟩ => ⟨h3, .inl ⟨h, h1, h2⟩⟩
  · exact (cnum_no w b k s hr hs hk8 (by omega)).mono fun e w' ⟨h1, h2⟩ => ⟨by subst h2; exact Alb.refl _ _ _, .inr ⟨by omega, h1, by subst h2; exact hr⟩⟩

def cshort (s : List UInt8) : Option (List UInt8 × List UInt8) := if s.length < 1 then none else cutP (s.drop 1) (numL (s.take 1))
def clong (s : List UInt8) (most : Nat) : Option (List UInt8 × List UInt8) := if s.length < 4 then none else if most < numL (s.take 4) then none else cutP (s.drop 4) (numL (s.take 4))
set_option maxHeartbeats 1000000 in
theorem cshort_any (w : World) (b : Nat) (s : List UInt8) (hr : Cr w b s) (hb : b < w.heap.size) (hs : s.length ≤ 140737488355328) :
    Calls Tryz.prog 56 #[.pointer (some ⟨b, 0, none⟩)] w fun e w' =>
      Alb w.heap.size w w' b ∧ ((∃ t r, cshort s = some (t, r) ∧ e = .returned (str t) ∧ Cr w' b r) ∨ (cshort s = none ∧ e = .panicked (gup 11))) := by
  have N := cnum_any w b 1 s hr hb hs (by omega)
  obtain ⟨g, hg⟩ : ∃ g, gup 11 = g := ⟨_, rfl⟩
  rw [hg] at N ⊢
  have HS : Hid (s.length ≤ 140737488355328) := hs
  clear hr hs
  go_enter Tryz.func56, Tryz.ntmps56
  go_wp2_with fail
  refine N.mono ?_
  rintro e w1 ⟨hA, ⟨h1, rfl, hc⟩ | ⟨h1, rfl, -⟩⟩
  · have C := cut_any w1 b (numL (s.take 1)) (s.drop 1) hc (by have := HS.out; rw [List.length_drop]; omega)
    rw [hg] at C
    have HE : Hid (cshort s = cutP (s.drop 1) (numL (s.take 1))) := by show _ = _; unfold cshort; rw [if_neg (by omega)]
    have hl : (s.drop 1).length ≤ 140737488355328 := by have := HS.out; rw [List.length_drop]; omega
    have HL : Hid ((s.drop 1).length ≤ 140737488355328) := hl
    clear N hc h1 hl
    generalize numL (s.take 1) = n at *
    generalize s.drop 1 = r at *
    go_wp2_with fail
    refine C.mono ?_
    rintro e w2 ⟨hB, ⟨h2, rfl, hc2⟩ | ⟨h2, rfl, -⟩⟩
    · have K := clone_any w2 (r.take n) (by have := HL.out; rw [List.length_take]; omega)
      have e1 : cutP r n = some (r.take n, r.drop n) := by unfold cutP; rw [if_pos h2]
      have hb2 : b < w2.heap.size := by have := hA.size; have := hB.size; omega
      have hA2 := hA.trans (.but hB)
      clear C h2
      go_wp2_with fail
      refine K.mono ?_
      rintro e w3 ⟨rfl, b3⟩
      have hc3 := hc2.on b3 hb2
      have hA3 := hA2.trans (.below (b3.mono hA2.size))
      go_wp2
      go_ret
      exact ⟨hA3, .inl ⟨_, _, by rw [HE.out, e1], rfl, hc3⟩⟩
    · exact ⟨rfl, hA.trans (.but hB), .inr ⟨by rw [HE.out]; unfold cutP; rw [if_neg (by omega)], rfl⟩⟩
  · exact ⟨rfl, hA, .inr ⟨by unfold cshort; rw [if_pos h1], rfl⟩⟩

set_option maxHeartbeats 1000000 in
theorem clong_any (w : World) (b most : Nat) (s : List UInt8) (hr : Cr w b s) (hb : b < w.heap.size) (hs : s.length ≤ 140737488355328) :
    Calls Tryz.prog 57 #[.pointer (some ⟨b, 0, none⟩), .int .u64 most] w fun e w' =>
      Alb w.heap.size w w' b ∧ ((∃ t r, clong s most = some (t, r) ∧ e = .returned (str t) ∧ Cr w' b r) ∨ (clong s most = none ∧ e = .panicked (gup 11))) := by
  have N := cnum_any w b 4 s hr hb hs (by omega)
  obtain ⟨g, hg⟩ : ∃ g, gup 11 = g := ⟨_, rfl⟩
  have I := fun w => insist_no w 11
  rw [hg] at N I ⊢
  have HS : Hid (s.length ≤ 140737488355328) := hs
  clear hr hs
  go_enter Tryz.func57, Tryz.ntmps57
  go_wp2_with fail
  refine N.mono ?_
  rintro e w1 ⟨hA, ⟨h1, rfl, hc⟩ | ⟨h1, rfl, -⟩⟩
  · have C := cut_any w1 b (numL (s.take 4)) (s.drop 4) hc (by have := HS.out; rw [List.length_drop]; omega)
    rw [hg] at C
    have HE : Hid (clong s most = if most < numL (s.take 4) then none else cutP (s.drop 4) (numL (s.take 4))) := by show _ = _; unfold clong; rw [if_neg (by omega)]
    have HL : Hid ((s.drop 4).length ≤ 140737488355328) := by have := HS.out; show _ ≤ _; rw [List.length_drop]; omega
    clear N hc h1
    generalize numL (s.take 4) = n at *
    generalize s.drop 4 = r at *
    by_cases hm : n ≤ most
    · have hd : decide (n ≤ most) = true := by simpa using hm
      go_wp2_with (first | (go_at_call 33; refine (insist_ok _ _).mono ?_; rintro e w' ⟨rfl, rfl⟩))
      refine C.mono ?_
      rintro e w2 ⟨hB, ⟨h2, rfl, hc2⟩ | ⟨h2, rfl, -⟩⟩
      · have K := clone_any w2 (r.take n) (by have := HL.out; rw [List.length_take]; omega)
        have e1 : cutP r n = some (r.take n, r.drop n) := by unfold cutP; rw [if_pos h2]
        have hb2 : b < w2.heap.size := by have := hA.size; have := hB.size; omega
        have hA2 := hA.trans (.but hB)
        clear C h2
        go_wp2_with fail
        refine K.mono ?_
        rintro e w3 ⟨rfl, b3⟩
        have hc3 := hc2.on b3 hb2
        have hA3 := hA2.trans (.below (b3.mono hA2.size))
        go_wp2
        go_ret
        exact ⟨hA3, .inl ⟨_, _, by rw [HE.out, if_neg (by omega), e1], rfl, hc3⟩⟩
      · exact ⟨rfl, hA.trans (.but hB), .inr ⟨by rw [HE.out, if_neg (by omega)]; unfold cutP; rw [if_neg (by omega)], rfl⟩⟩
    · have hd : decide (n ≤ most) = false := by simpa using hm
      go_wp2_with fail
      refine (I _).mono ?_
      rintro e w2 ⟨rfl, rfl⟩
      exact ⟨rfl, hA, .inr ⟨by rw [HE.out, if_pos (by omega)], rfl⟩⟩
  · exact ⟨rfl, hA, .inr ⟨by unfold clong; rw [if_pos h1], rfl⟩⟩
end Go.Proofs.YtmaaacaifpgpaaaGreatDoor

namespace Go.Proofs.YtmaaacaifpgpaaaGreatDoor
open Go.RowKit Go.Lib
set_option maxRecDepth 100000
set_option linter.unusedSimpArgs false

theorem wrap8 (n : Nat) (hn : n < 256) : IntKind.i8.wrap (n : Int) = sgnZ n 8 := by
  have e : (n : Int) % 256 = n := by omega
  show (if (true && decide ((n : Int) % 256 ≥ 128)) = true then (n : Int) % 256 - 256 else (n : Int) % 256) = _
  rw [e]
  unfold sgnZ
  by_cases h : 128 ≤ n
  · rw [if_pos (by simp; omega), if_pos ⟨by decide, h⟩]; rfl
  · rw [if_neg (by simp; omega), if_neg (fun hh => h hh.2), IntKind.wrap_i64]; omega
theorem wrap16 (n : Nat) (hn : n < 65536) : IntKind.i16.wrap (n : Int) = sgnZ n 16 := by
  have e : (n : Int) % 65536 = n := by omega
  show (if (true && decide ((n : Int) % 65536 ≥ 32768)) = true then (n : Int) % 65536 - 65536 else (n : Int) % 65536) = _
  rw [e]
  unfold sgnZ
  by_cases h : 32768 ≤ n
  · rw [if_pos (by simp; omega), if_pos ⟨by decide, h⟩]; rfl
  · rw [if_neg (by simp; omega), if_neg (fun hh => h hh.2), IntKind.wrap_i64]; omega
theorem wrap32s (n : Nat) (hn : n < 4294967296) : IntKind.i32.wrap (n : Int) = sgnZ n 32 := by
  have e : (n : Int) % 4294967296 = n := by omega
  show (if (true && decide ((n : Int) % 4294967296 ≥ 2147483648)) = true then (n : Int) % 4294967296 - 4294967296 else (n : Int) % 4294967296) = _
  rw [e]
  unfold sgnZ
  by_cases h : 2147483648 ≤ n
  · rw [if_pos (by simp; omega), if_pos ⟨by decide, h⟩]; rfl
  · rw [if_neg (by simp; omega), if_neg (fun hh => h hh.2), IntKind.wrap_i64]; omega
theorem sgn_in (n b : Nat) (hb : b = 8 ∨ b = 16 ∨ b = 32) (hn : n < 2 ^ b) : IntKind.i64.wrap (sgnZ n b) = sgnZ n b := by
  unfold sgnZ
  rcases hb with rfl | rfl | rfl
  all_goals
    split
    · rename_i h
      have := h.2
      rw [IntKind.wrap_i64]
      omega
    · simp only [IntKind.wrap_i64]
      omega
/-- A number of k bytes made into a value. -/
def cn (r : List UInt8) (k : Nat) (f : Nat → Val) : Option (Val × List UInt8) := if r.length < k then none else some (f (numL (r.take k)), r.drop k)
/-- A value. -/
def cval (s : List UInt8) : Option (Val × List UInt8) :=
  if s.length < 1 then none
  else if numL (s.take 1) = 116 then cn (s.drop 1) 1 fun n => ⟨2, (n : Int), ⟨#[]⟩, 0⟩
  else if numL (s.take 1) = 98 then cn (s.drop 1) 1 fun n => ⟨1, sgnZ n 8, ⟨#[]⟩, 0⟩
  else if numL (s.take 1) = 115 then cn (s.drop 1) 2 fun n => ⟨1, sgnZ n 16, ⟨#[]⟩, 0⟩
  else if numL (s.take 1) = 73 then cn (s.drop 1) 4 fun n => ⟨1, sgnZ n 32, ⟨#[]⟩, 0⟩
  else if numL (s.take 1) = 108 then cn (s.drop 1) 8 fun n => ⟨1, sgnZ n 64, ⟨#[]⟩, 0⟩
  else if numL (s.take 1) = 102 then cn (s.drop 1) 4 fun n => ⟨4, 0, ⟨#[]⟩, widB n⟩
  else if numL (s.take 1) = 100 then cn (s.drop 1) 8 fun n => ⟨4, 0, ⟨#[]⟩, canonB n⟩
  else if numL (s.take 1) = 83 then (clong (s.drop 1) 256).map fun x => (⟨3, 0, ⟨x.1.toArray⟩, 0⟩, x.2)
  else none
/-- What is told of a call that takes a value. -/
def ValP (w : World) (b : Nat) (o : Option (Val × List UInt8)) (e : Ending) (w' : World) : Prop :=
  Alb w.heap.size w w' b ∧ ((∃ v r, o = some (v, r) ∧ e = .returned v.v ∧ Cr w' b r) ∨ (o = none ∧ e = .panicked (gup 11)))

set_option maxHeartbeats 1000000 in
theorem cvalue_t (w : World) (b : Nat) (s r : List UInt8) (hb : b < w.heap.size) (hr : r.length ≤ 140737488355328)
    (hn : ∀ w, Cr w b s → b < w.heap.size → Calls Tryz.prog 55 #[.pointer (some ⟨b, 0, none⟩), .int .i64 1] w fun e w' => e = .returned (.int .u64 116) ∧ Cr w' b r ∧ Alb w.heap.size w w' b) (hc : Cr w b s) :
    Calls Tryz.prog 80 #[.pointer (some ⟨b, 0, none⟩)] w (ValP w b (cn r 1 fun n => ⟨2, (n : Int), ⟨#[]⟩, 0⟩)) := by
  have T := hn (w.alloc (.cells Z4 42)) (hc.on (below_new w _) hb) (by simp; omega)
  have N := fun w (h : Cr w b r) (hb : b < w.heap.size) => cnum_any w b 1 r h hb hr (by omega)
  obtain ⟨g, hg⟩ : ∃ g, gup 11 = g := ⟨_, rfl⟩
  unfold ValP
  rw [hg] at N ⊢
  have kR := Blk.new w Z4 42
  have hA : Alb w.heap.size w (w.alloc (.cells Z4 42)) b := .below (below_new w _)
  have hne : w.heap.size ≠ b := by omega
  have hsz : (w.alloc (.cells Z4 42)).heap.size = w.heap.size + 1 := by simp
  have HR : Hid (r.length ≤ 140737488355328) := hr
  clear hc hn hr
  go_enter Tryz.func80, Tryz.ntmps80
  go_wp2_with fail
  refine T.mono ?_
  rintro e w1 ⟨rfl, h1, b1⟩
  have kR1 : Blk w1 w.heap.size Z4 42 := ⟨by rw [b1.block _ (by rw [hsz]; omega) hne]; exact kR.h⟩
  have hb1 : b < w1.heap.size := by have := b1.size; omega
  have hs1 : w.heap.size + 1 ≤ w1.heap.size := by rw [← hsz]; exact b1.size
  have hA1 : Alb w.heap.size w w1 b := hA.trans ⟨b1.os, b1.tape, b1.output, b1.size, fun k h hk => b1.block k (by rw [hsz]; omega) hk⟩
  have N1 := N w1 h1 hb1
  clear T N kR hA b1 h1 hsz
  go_wp2_with fail
  refine N1.mono ?_
  rintro e w2 ⟨hB, ⟨hk, rfl, h2⟩ | ⟨hk, rfl, -⟩⟩
  rotate_left
  · exact ⟨rfl, hA1.trans ⟨hB.os, hB.tape, hB.output, hB.size, fun k h hk => hB.block k (by omega) hk⟩, .inr ⟨by unfold cn; rw [if_pos hk], rfl⟩⟩
  have HE : Hid (cn r 1 (fun n => ⟨2, (n : Int), ⟨#[]⟩, 0⟩) = some ((⟨2, ((numL (r.take 1)) : Int), ⟨#[]⟩, 0⟩ : Val), r.drop 1)) := by show _ = _; unfold cn; rw [if_neg (by omega)]
  have hlt : numL (r.take 1) < 256 := by
    have h := numL_lt (r.take 1)
    rw [List.length_take, Nat.min_eq_left hk] at h
    exact h
  generalize numL (r.take 1) = n at *
  generalize r.drop 1 = r' at *
  have u1 : IntKind.i64.wrap (n : Int) = (n : Int) := by rw [IntKind.wrap_i64]; omega
  clear hlt hk
  have kR2 : Blk w2 w.heap.size Z4 42 := ⟨by rw [hB.block _ (by omega) hne]; exact kR1.h⟩
  have hA2 : Alb w.heap.size w w2 b := hA1.trans ⟨hB.os, hB.tape, hB.output, hB.size, fun k h hk => hB.block k (by omega) hk⟩
  have hs2 : w.heap.size + 1 ≤ w2.heap.size := by have := hB.size; omega
  clear kR1 hA1 hB hb1 hs1 N1
  go_wp2_with (refine wpl_put rfl (.tmp 2) (.tmp 10) rfl w.heap.size _ rfl rfl kR2 (by kernel_rfl) rfl (by kernel_rfl) ?_)
  intro W' kW gW sW
  have h3 : Cr W' b r' := h2.on (B := w.heap.size) ((Below.refl w.heap.size _).grown gW (by omega) (fun k hk => by injection hk with hk; omega)) hb
  go_wp2
  exact ret58 Tryz.results80 kW rfl rfl ⟨hA2.trans (.grown gW (by omega) (Nat.le_refl _)), .inl ⟨_, _, HE.out, rfl, h3⟩⟩

set_option maxHeartbeats 1000000 in
theorem cvalue_b (w : World) (b : Nat) (s r : List UInt8) (hb : b < w.heap.size) (hr : r.length ≤ 140737488355328)
    (hn : ∀ w, Cr w b s → b < w.heap.size → Calls Tryz.prog 55 #[.pointer (some ⟨b, 0, none⟩), .int .i64 1] w fun e w' => e = .returned (.int .u64 98) ∧ Cr w' b r ∧ Alb w.heap.size w w' b) (hc : Cr w b s) :
    Calls Tryz.prog 80 #[.pointer (some ⟨b, 0, none⟩)] w (ValP w b (cn r 1 fun n => ⟨1, sgnZ n 8, ⟨#[]⟩, 0⟩)) := by
  have T := hn (w.alloc (.cells Z4 42)) (hc.on (below_new w _) hb) (by simp; omega)
  have N := fun w (h : Cr w b r) (hb : b < w.heap.size) => cnum_any w b 1 r h hb hr (by omega)
  obtain ⟨g, hg⟩ : ∃ g, gup 11 = g := ⟨_, rfl⟩
  unfold ValP
  rw [hg] at N ⊢
  have kR := Blk.new w Z4 42
  have hA : Alb w.heap.size w (w.alloc (.cells Z4 42)) b := .below (below_new w _)
  have hne : w.heap.size ≠ b := by omega
  have hsz : (w.alloc (.cells Z4 42)).heap.size = w.heap.size + 1 := by simp
  have HR : Hid (r.length ≤ 140737488355328) := hr
  clear hc hn hr
  go_enter Tryz.func80, Tryz.ntmps80
  go_wp2_with fail
  refine T.mono ?_
  rintro e w1 ⟨rfl, h1, b1⟩
  have kR1 : Blk w1 w.heap.size Z4 42 := ⟨by rw [b1.block _ (by rw [hsz]; omega) hne]; exact kR.h⟩
  have hb1 : b < w1.heap.size := by have := b1.size; omega
  have hs1 : w.heap.size + 1 ≤ w1.heap.size := by rw [← hsz]; exact b1.size
  have hA1 : Alb w.heap.size w w1 b := hA.trans ⟨b1.os, b1.tape, b1.output, b1.size, fun k h hk => b1.block k (by rw [hsz]; omega) hk⟩
  have N1 := N w1 h1 hb1
  clear T N kR hA b1 h1 hsz
  go_wp2_with fail
  refine N1.mono ?_
  rintro e w2 ⟨hB, ⟨hk, rfl, h2⟩ | ⟨hk, rfl, -⟩⟩
  rotate_left
  · exact ⟨rfl, hA1.trans ⟨hB.os, hB.tape, hB.output, hB.size, fun k h hk => hB.block k (by omega) hk⟩, .inr ⟨by unfold cn; rw [if_pos hk], rfl⟩⟩
  have HE : Hid (cn r 1 (fun n => ⟨1, sgnZ n 8, ⟨#[]⟩, 0⟩) = some ((⟨1, sgnZ (numL (r.take 1)) 8, ⟨#[]⟩, 0⟩ : Val), r.drop 1)) := by show _ = _; unfold cn; rw [if_neg (by omega)]
  have hlt : numL (r.take 1) < 256 := by
    have h := numL_lt (r.take 1)
    rw [List.length_take, Nat.min_eq_left hk] at h
    exact h
  generalize numL (r.take 1) = n at *
  generalize r.drop 1 = r' at *
  have u1 : IntKind.i8.wrap (n : Int) = sgnZ n 8 := wrap8 n (by omega)
  have u2 : IntKind.i64.wrap (sgnZ n 8) = sgnZ n 8 := sgn_in n 8 (by omega) (by omega)
  generalize sgnZ n 8 = z at *
  clear hlt hk
  have kR2 : Blk w2 w.heap.size Z4 42 := ⟨by rw [hB.block _ (by omega) hne]; exact kR1.h⟩
  have hA2 : Alb w.heap.size w w2 b := hA1.trans ⟨hB.os, hB.tape, hB.output, hB.size, fun k h hk => hB.block k (by omega) hk⟩
  have hs2 : w.heap.size + 1 ≤ w2.heap.size := by have := hB.size; omega
  clear kR1 hA1 hB hb1 hs1 N1
  go_wp2_with fail
  refine (integer_any w2 z).mono ?_
  rintro e w4 ⟨rfl, b4⟩
  have kR4 := kR2.on b4
  have h4 := h2.on b4 (by omega)
  have hA4 := hA2.trans (.below (b4.mono (by omega)))
  have hs4 : w.heap.size + 1 ≤ w4.heap.size := by have := b4.size; omega
  clear kR2 h2 hA2 hs2 b4
  have kR2 := kR4
  have h2 := h4
  have hA2 := hA4
  have hs2 := hs4
  clear kR4 h4 hA4 hs4
  go_wp2_with (refine wpl_put rfl (.tmp 2) (.tmp 17) rfl w.heap.size _ rfl rfl kR2 (by kernel_rfl) rfl (by kernel_rfl) ?_)
  intro W' kW gW sW
  have h3 : Cr W' b r' := h2.on (B := w.heap.size) ((Below.refl w.heap.size _).grown gW (by omega) (fun k hk => by injection hk with hk; omega)) hb
  go_wp2
  exact ret58 Tryz.results80 kW rfl rfl ⟨hA2.trans (.grown gW (by omega) (Nat.le_refl _)), .inl ⟨_, _, HE.out, rfl, h3⟩⟩

set_option maxHeartbeats 1000000 in
theorem cvalue_s (w : World) (b : Nat) (s r : List UInt8) (hb : b < w.heap.size) (hr : r.length ≤ 140737488355328)
    (hn : ∀ w, Cr w b s → b < w.heap.size → Calls Tryz.prog 55 #[.pointer (some ⟨b, 0, none⟩), .int .i64 1] w fun e w' => e = .returned (.int .u64 115) ∧ Cr w' b r ∧ Alb w.heap.size w w' b) (hc : Cr w b s) :
    Calls Tryz.prog 80 #[.pointer (some ⟨b, 0, none⟩)] w (ValP w b (cn r 2 fun n => ⟨1, sgnZ n 16, ⟨#[]⟩, 0⟩)) := by
  have T := hn (w.alloc (.cells Z4 42)) (hc.on (below_new w _) hb) (by simp; omega)
  have N := fun w (h : Cr w b r) (hb : b < w.heap.size) => cnum_any w b 2 r h hb hr (by omega)
  obtain ⟨g, hg⟩ : ∃ g, gup 11 = g := ⟨_, rfl⟩
  unfold ValP
  rw [hg] at N ⊢
  have kR := Blk.new w Z4 42
  have hA : Alb w.heap.size w (w.alloc (.cells Z4 42)) b := .below (below_new w _)
  have hne : w.heap.size ≠ b := by omega
  have hsz : (w.alloc (.cells Z4 42)).heap.size = w.heap.size + 1 := by simp
  have HR : Hid (r.length ≤ 140737488355328) := hr
  clear hc hn hr
  go_enter Tryz.func80, Tryz.ntmps80
  go_wp2_with fail
  refine T.mono ?_
  rintro e w1 ⟨rfl, h1, b1⟩
  have kR1 : Blk w1 w.heap.size Z4 42 := ⟨by rw [b1.block _ (by rw [hsz]; omega) hne]; exact kR.h⟩
  have hb1 : b < w1.heap.size := by have := b1.size; omega
  have hs1 : w.heap.size + 1 ≤ w1.heap.size := by rw [← hsz]; exact b1.size
  have hA1 : Alb w.heap.size w w1 b := hA.trans ⟨b1.os, b1.tape, b1.output, b1.size, fun k h hk => b1.block k (by rw [hsz]; omega) hk⟩
  have N1 := N w1 h1 hb1
  clear T N kR hA b1 h1 hsz
  go_wp2_with fail
  refine N1.mono ?_
  rintro e w2 ⟨hB, ⟨hk, rfl, h2⟩ | ⟨hk, rfl, -⟩⟩
  rotate_left
  · exact ⟨rfl, hA1.trans ⟨hB.os, hB.tape, hB.output, hB.size, fun k h hk => hB.block k (by omega) hk⟩, .inr ⟨by unfold cn; rw [if_pos hk], rfl⟩⟩
  have HE : Hid (cn r 2 (fun n => ⟨1, sgnZ n 16, ⟨#[]⟩, 0⟩) = some ((⟨1, sgnZ (numL (r.take 2)) 16, ⟨#[]⟩, 0⟩ : Val), r.drop 2)) := by show _ = _; unfold cn; rw [if_neg (by omega)]
  have hlt : numL (r.take 2) < 65536 := by
    have h := numL_lt (r.take 2)
    rw [List.length_take, Nat.min_eq_left hk] at h
    exact h
  generalize numL (r.take 2) = n at *
  generalize r.drop 2 = r' at *
  have u1 : IntKind.i16.wrap (n : Int) = sgnZ n 16 := wrap16 n (by omega)
  have u2 : IntKind.i64.wrap (sgnZ n 16) = sgnZ n 16 := sgn_in n 16 (by omega) (by omega)
  generalize sgnZ n 16 = z at *
  clear hlt hk
  have kR2 : Blk w2 w.heap.size Z4 42 := ⟨by rw [hB.block _ (by omega) hne]; exact kR1.h⟩
  have hA2 : Alb w.heap.size w w2 b := hA1.trans ⟨hB.os, hB.tape, hB.output, hB.size, fun k h hk => hB.block k (by omega) hk⟩
  have hs2 : w.heap.size + 1 ≤ w2.heap.size := by have := hB.size; omega
  clear kR1 hA1 hB hb1 hs1 N1
  go_wp2_with fail
  refine (integer_any w2 z).mono ?_
  rintro e w4 ⟨rfl, b4⟩
  have kR4 := kR2.on b4
  have h4 := h2.on b4 (by omega)
  have hA4 := hA2.trans (.below (b4.mono (by omega)))
  have hs4 : w.heap.size + 1 ≤ w4.heap.size := by have := b4.size; omega
  clear kR2 h2 hA2 hs2 b4
  have kR2 := kR4
  have h2 := h4
  have hA2 := hA4
  have hs2 := hs4
  clear kR4 h4 hA4 hs4
  go_wp2_with (refine wpl_put rfl (.tmp 2) (.tmp 24) rfl w.heap.size _ rfl rfl kR2 (by kernel_rfl) rfl (by kernel_rfl) ?_)
  intro W' kW gW sW
  have h3 : Cr W' b r' := h2.on (B := w.heap.size) ((Below.refl w.heap.size _).grown gW (by omega) (fun k hk => by injection hk with hk; omega)) hb
  go_wp2
  exact ret58 Tryz.results80 kW rfl rfl ⟨hA2.trans (.grown gW (by omega) (Nat.le_refl _)), .inl ⟨_, _, HE.out, rfl, h3⟩⟩

set_option maxHeartbeats 1000000 in
theorem cvalue_I (w : World) (b : Nat) (s r : List UInt8) (hb : b < w.heap.size) (hr : r.length ≤ 140737488355328)
    (hn : ∀ w, Cr w b s → b < w.heap.size → Calls Tryz.prog 55 #[.pointer (some ⟨b, 0, none⟩), .int .i64 1] w fun e w' => e = .returned (.int .u64 73) ∧ Cr w' b r ∧ Alb w.heap.size w w' b) (hc : Cr w b s) :
    Calls Tryz.prog 80 #[.pointer (some ⟨b, 0, none⟩)] w (ValP w b (cn r 4 fun n => ⟨1, sgnZ n 32, ⟨#[]⟩, 0⟩)) := by
  have T := hn (w.alloc (.cells Z4 42)) (hc.on (below_new w _) hb) (by simp; omega)
  have N := fun w (h : Cr w b r) (hb : b < w.heap.size) => cnum_any w b 4 r h hb hr (by omega)
  obtain ⟨g, hg⟩ : ∃ g, gup 11 = g := ⟨_, rfl⟩
  unfold ValP
  rw [hg] at N ⊢
  have kR := Blk.new w Z4 42
  have hA : Alb w.heap.size w (w.alloc (.cells Z4 42)) b := .below (below_new w _)
  have hne : w.heap.size ≠ b := by omega
  have hsz : (w.alloc (.cells Z4 42)).heap.size = w.heap.size + 1 := by simp
  have HR : Hid (r.length ≤ 140737488355328) := hr
  clear hc hn hr
  go_enter Tryz.func80, Tryz.ntmps80
  go_wp2_with fail
  refine T.mono ?_
  rintro e w1 ⟨rfl, h1, b1⟩
  have kR1 : Blk w1 w.heap.size Z4 42 := ⟨by rw [b1.block _ (by rw [hsz]; omega) hne]; exact kR.h⟩
  have hb1 : b < w1.heap.size := by have := b1.size; omega
  have hs1 : w.heap.size + 1 ≤ w1.heap.size := by rw [← hsz]; exact b1.size
  have hA1 : Alb w.heap.size w w1 b := hA.trans ⟨b1.os, b1.tape, b1.output, b1.size, fun k h hk => b1.block k (by rw [hsz]; omega) hk⟩
  have N1 := N w1 h1 hb1
  clear T N kR hA b1 h1 hsz
  go_wp2_with fail
  refine N1.mono ?_
  rintro e w2 ⟨hB, ⟨hk, rfl, h2⟩ | ⟨hk, rfl, -⟩⟩
  rotate_left
  · exact ⟨rfl, hA1.trans ⟨hB.os, hB.tape, hB.output, hB.size, fun k h hk => hB.block k (by omega) hk⟩, .inr ⟨by unfold cn; rw [if_pos hk], rfl⟩⟩
  have HE : Hid (cn r 4 (fun n => ⟨1, sgnZ n 32, ⟨#[]⟩, 0⟩) = some ((⟨1, sgnZ (numL (r.take 4)) 32, ⟨#[]⟩, 0⟩ : Val), r.drop 4)) := by show _ = _; unfold cn; rw [if_neg (by omega)]
  have hlt : numL (r.take 4) < 4294967296 := by
    have h := numL_lt (r.take 4)
    rw [List.length_take, Nat.min_eq_left hk] at h
    exact h
  generalize numL (r.take 4) = n at *
  generalize r.drop 4 = r' at *
  have u1 : IntKind.i32.wrap (n : Int) = sgnZ n 32 := wrap32s n (by omega)
  have u2 : IntKind.i64.wrap (sgnZ n 32) = sgnZ n 32 := sgn_in n 32 (by omega) (by omega)
  generalize sgnZ n 32 = z at *
  clear hlt hk
  have kR2 : Blk w2 w.heap.size Z4 42 := ⟨by rw [hB.block _ (by omega) hne]; exact kR1.h⟩
  have hA2 : Alb w.heap.size w w2 b := hA1.trans ⟨hB.os, hB.tape, hB.output, hB.size, fun k h hk => hB.block k (by omega) hk⟩
  have hs2 : w.heap.size + 1 ≤ w2.heap.size := by have := hB.size; omega
  clear kR1 hA1 hB hb1 hs1 N1
  go_wp2_with fail
  refine (integer_any w2 z).mono ?_
  rintro e w4 ⟨rfl, b4⟩
  have kR4 := kR2.on b4
  have h4 := h2.on b4 (by omega)
  have hA4 := hA2.trans (.below (b4.mono (by omega)))
  have hs4 : w.heap.size + 1 ≤ w4.heap.size := by have := b4.size; omega
  clear kR2 h2 hA2 hs2 b4
  have kR2 := kR4
  have h2 := h4
  have hA2 := hA4
  have hs2 := hs4
  clear kR4 h4 hA4 hs4
  go_wp2_with (refine wpl_put rfl (.tmp 2) (.tmp 31) rfl w.heap.size _ rfl rfl kR2 (by kernel_rfl) rfl (by kernel_rfl) ?_)
  intro W' kW gW sW
  have h3 : Cr W' b r' := h2.on (B := w.heap.size) ((Below.refl w.heap.size _).grown gW (by omega) (fun k hk => by injection hk with hk; omega)) hb
  go_wp2
  exact ret58 Tryz.results80 kW rfl rfl ⟨hA2.trans (.grown gW (by omega) (Nat.le_refl _)), .inl ⟨_, _, HE.out, rfl, h3⟩⟩

set_option maxHeartbeats 1000000 in
theorem cvalue_l (w : World) (b : Nat) (s r : List UInt8) (hb : b < w.heap.size) (hr : r.length ≤ 140737488355328)
    (hn : ∀ w, Cr w b s → b < w.heap.size → Calls Tryz.prog 55 #[.pointer (some ⟨b, 0, none⟩), .int .i64 1] w fun e w' => e = .returned (.int .u64 108) ∧ Cr w' b r ∧ Alb w.heap.size w w' b) (hc : Cr w b s) :
    Calls Tryz.prog 80 #[.pointer (some ⟨b, 0, none⟩)] w (ValP w b (cn r 8 fun n => ⟨1, sgnZ n 64, ⟨#[]⟩, 0⟩)) := by
  have T := hn (w.alloc (.cells Z4 42)) (hc.on (below_new w _) hb) (by simp; omega)
  have N := fun w (h : Cr w b r) (hb : b < w.heap.size) => cnum_any w b 8 r h hb hr (by omega)
  obtain ⟨g, hg⟩ : ∃ g, gup 11 = g := ⟨_, rfl⟩
  unfold ValP
  rw [hg] at N ⊢
  have kR := Blk.new w Z4 42
  have hA : Alb w.heap.size w (w.alloc (.cells Z4 42)) b := .below (below_new w _)
  have hne : w.heap.size ≠ b := by omega
  have hsz : (w.alloc (.cells Z4 42)).heap.size = w.heap.size + 1 := by simp
  have HR : Hid (r.length ≤ 140737488355328) := hr
  clear hc hn hr
  go_enter Tryz.func80, Tryz.ntmps80
  go_wp2_with fail
  refine T.mono ?_
  rintro e w1 ⟨rfl, h1, b1⟩
  have kR1 : Blk w1 w.heap.size Z4 42 := ⟨by rw [b1.block _ (by rw [hsz]; omega) hne]; exact kR.h⟩
  have hb1 : b < w1.heap.size := by have := b1.size; omega
  have hs1 : w.heap.size + 1 ≤ w1.heap.size := by rw [← hsz]; exact b1.size
  have hA1 : Alb w.heap.size w w1 b := hA.trans ⟨b1.os, b1.tape, b1.output, b1.size, fun k h hk => b1.block k (by rw [hsz]; omega) hk⟩
  have N1 := N w1 h1 hb1
  clear T N kR hA b1 h1 hsz
  go_wp2_with fail
  refine N1.mono ?_
  rintro e w2 ⟨hB, ⟨hk, rfl, h2⟩ | ⟨hk, rfl, -⟩⟩
  rotate_left
  · exact ⟨rfl, hA1.trans ⟨hB.os, hB.tape, hB.output, hB.size, fun k h hk => hB.block k (by omega) hk⟩, .inr ⟨by unfold cn; rw [if_pos hk], rfl⟩⟩
  have HE : Hid (cn r 8 (fun n => ⟨1, sgnZ n 64, ⟨#[]⟩, 0⟩) = some ((⟨1, sgnZ (numL (r.take 8)) 64, ⟨#[]⟩, 0⟩ : Val), r.drop 8)) := by show _ = _; unfold cn; rw [if_neg (by omega)]
  have hlt : numL (r.take 8) < 18446744073709551616 := by
    have h := numL_lt (r.take 8)
    rw [List.length_take, Nat.min_eq_left hk] at h
    exact h
  generalize numL (r.take 8) = n at *
  generalize r.drop 8 = r' at *
  have u1 : IntKind.i64.wrap (n : Int) = sgnZ n 64 := by unfold sgnZ; rw [if_neg (fun h => absurd h.1 (by decide))]
  generalize sgnZ n 64 = z at *
  clear hlt hk
  have kR2 : Blk w2 w.heap.size Z4 42 := ⟨by rw [hB.block _ (by omega) hne]; exact kR1.h⟩
  have hA2 : Alb w.heap.size w w2 b := hA1.trans ⟨hB.os, hB.tape, hB.output, hB.size, fun k h hk => hB.block k (by omega) hk⟩
  have hs2 : w.heap.size + 1 ≤ w2.heap.size := by have := hB.size; omega
  clear kR1 hA1 hB hb1 hs1 N1
  go_wp2_with fail
  refine (integer_any w2 z).mono ?_
  rintro e w4 ⟨rfl, b4⟩
  have kR4 := kR2.on b4
  have h4 := h2.on b4 (by omega)
  have hA4 := hA2.trans (.below (b4.mono (by omega)))
  have hs4 : w.heap.size + 1 ≤ w4.heap.size := by have := b4.size; omega
  clear kR2 h2 hA2 hs2 b4
  have kR2 := kR4
  have h2 := h4
  have hA2 := hA4
  have hs2 := hs4
  clear kR4 h4 hA4 hs4
  go_wp2_with (refine wpl_put rfl (.tmp 2) (.tmp 37) rfl w.heap.size _ rfl rfl kR2 (by kernel_rfl) rfl (by kernel_rfl) ?_)
  intro W' kW gW sW
  have h3 : Cr W' b r' := h2.on (B := w.heap.size) ((Below.refl w.heap.size _).grown gW (by omega) (fun k hk => by injection hk with hk; omega)) hb
  go_wp2
  exact ret58 Tryz.results80 kW rfl rfl ⟨hA2.trans (.grown gW (by omega) (Nat.le_refl _)), .inl ⟨_, _, HE.out, rfl, h3⟩⟩

set_option maxHeartbeats 1000000 in
theorem cvalue_f (w : World) (b : Nat) (s r : List UInt8) (hb : b < w.heap.size) (hr : r.length ≤ 140737488355328)
    (hn : ∀ w, Cr w b s → b < w.heap.size → Calls Tryz.prog 55 #[.pointer (some ⟨b, 0, none⟩), .int .i64 1] w fun e w' => e = .returned (.int .u64 102) ∧ Cr w' b r ∧ Alb w.heap.size w w' b) (hc : Cr w b s) :
    Calls Tryz.prog 80 #[.pointer (some ⟨b, 0, none⟩)] w (ValP w b (cn r 4 fun n => ⟨4, 0, ⟨#[]⟩, widB n⟩)) := by
  have T := hn (w.alloc (.cells Z4 42)) (hc.on (below_new w _) hb) (by simp; omega)
  have N := fun w (h : Cr w b r) (hb : b < w.heap.size) => cnum_any w b 4 r h hb hr (by omega)
  obtain ⟨g, hg⟩ : ∃ g, gup 11 = g := ⟨_, rfl⟩
  unfold ValP
  rw [hg] at N ⊢
  have kR := Blk.new w Z4 42
  have hA : Alb w.heap.size w (w.alloc (.cells Z4 42)) b := .below (below_new w _)
  have hne : w.heap.size ≠ b := by omega
  have hsz : (w.alloc (.cells Z4 42)).heap.size = w.heap.size + 1 := by simp
  have HR : Hid (r.length ≤ 140737488355328) := hr
  clear hc hn hr
  go_enter Tryz.func80, Tryz.ntmps80
  go_wp2_with fail
  refine T.mono ?_
  rintro e w1 ⟨rfl, h1, b1⟩
  have kR1 : Blk w1 w.heap.size Z4 42 := ⟨by rw [b1.block _ (by rw [hsz]; omega) hne]; exact kR.h⟩
  have hb1 : b < w1.heap.size := by have := b1.size; omega
  have hs1 : w.heap.size + 1 ≤ w1.heap.size := by rw [← hsz]; exact b1.size
  have hA1 : Alb w.heap.size w w1 b := hA.trans ⟨b1.os, b1.tape, b1.output, b1.size, fun k h hk => b1.block k (by rw [hsz]; omega) hk⟩
  have N1 := N w1 h1 hb1
  clear T N kR hA b1 h1 hsz
  go_wp2_with fail
  refine N1.mono ?_
  rintro e w2 ⟨hB, ⟨hk, rfl, h2⟩ | ⟨hk, rfl, -⟩⟩
  rotate_left
  · exact ⟨rfl, hA1.trans ⟨hB.os, hB.tape, hB.output, hB.size, fun k h hk => hB.block k (by omega) hk⟩, .inr ⟨by unfold cn; rw [if_pos hk], rfl⟩⟩
  have HE : Hid (cn r 4 (fun n => ⟨4, 0, ⟨#[]⟩, widB n⟩) = some ((⟨4, 0, ⟨#[]⟩, widB (numL (r.take 4))⟩ : Val), r.drop 4)) := by show _ = _; unfold cn; rw [if_neg (by omega)]
  have hlt : numL (r.take 4) < 4294967296 := by
    have h := numL_lt (r.take 4)
    rw [List.length_take, Nat.min_eq_left hk] at h
    exact h
  generalize numL (r.take 4) = n at *
  generalize r.drop 4 = r' at *
  have u1 : IntKind.u32.wrap (n : Int) = (n : Int) := by rw [IntKind.wrap_u32]; omega
  clear hlt hk
  have kR2 : Blk w2 w.heap.size Z4 42 := ⟨by rw [hB.block _ (by omega) hne]; exact kR1.h⟩
  have hA2 : Alb w.heap.size w w2 b := hA1.trans ⟨hB.os, hB.tape, hB.output, hB.size, fun k h hk => hB.block k (by omega) hk⟩
  have hs2 : w.heap.size + 1 ≤ w2.heap.size := by have := hB.size; omega
  clear kR1 hA1 hB hb1 hs1 N1
  go_wp2_with fail
  refine (widen_any w2 n).mono ?_
  rintro e w4 ⟨rfl, b4⟩
  have kR4 := kR2.on b4
  have h4 := h2.on b4 (by omega)
  have hA4 := hA2.trans (.below (b4.mono (by omega)))
  have hs4 : w.heap.size + 1 ≤ w4.heap.size := by have := b4.size; omega
  clear kR2 h2 hA2 hs2 b4
  have kR2 := kR4
  have h2 := h4
  have hA2 := hA4
  have hs2 := hs4
  clear kR4 h4 hA4 hs4
  go_wp2_with (refine wpl_put rfl (.tmp 2) (.tmp 44) rfl w.heap.size _ rfl rfl kR2 (by kernel_rfl) rfl (by kernel_rfl) ?_)
  intro W' kW gW sW
  have h3 : Cr W' b r' := h2.on (B := w.heap.size) ((Below.refl w.heap.size _).grown gW (by omega) (fun k hk => by injection hk with hk; omega)) hb
  go_wp2
  exact ret58 Tryz.results80 kW rfl rfl ⟨hA2.trans (.grown gW (by omega) (Nat.le_refl _)), .inl ⟨_, _, HE.out, rfl, h3⟩⟩

set_option maxHeartbeats 1000000 in
theorem cvalue_d (w : World) (b : Nat) (s r : List UInt8) (hb : b < w.heap.size) (hr : r.length ≤ 140737488355328)
    (hn : ∀ w, Cr w b s → b < w.heap.size → Calls Tryz.prog 55 #[.pointer (some ⟨b, 0, none⟩), .int .i64 1] w fun e w' => e = .returned (.int .u64 100) ∧ Cr w' b r ∧ Alb w.heap.size w w' b) (hc : Cr w b s) :
    Calls Tryz.prog 80 #[.pointer (some ⟨b, 0, none⟩)] w (ValP w b (cn r 8 fun n => ⟨4, 0, ⟨#[]⟩, canonB n⟩)) := by
  have T := hn (w.alloc (.cells Z4 42)) (hc.on (below_new w _) hb) (by simp; omega)
  have N := fun w (h : Cr w b r) (hb : b < w.heap.size) => cnum_any w b 8 r h hb hr (by omega)
  obtain ⟨g, hg⟩ : ∃ g, gup 11 = g := ⟨_, rfl⟩
  unfold ValP
  rw [hg] at N ⊢
  have kR := Blk.new w Z4 42
  have hA : Alb w.heap.size w (w.alloc (.cells Z4 42)) b := .below (below_new w _)
  have hne : w.heap.size ≠ b := by omega
  have hsz : (w.alloc (.cells Z4 42)).heap.size = w.heap.size + 1 := by simp
  have HR : Hid (r.length ≤ 140737488355328) := hr
  clear hc hn hr
  go_enter Tryz.func80, Tryz.ntmps80
  go_wp2_with fail
  refine T.mono ?_
  rintro e w1 ⟨rfl, h1, b1⟩
  have kR1 : Blk w1 w.heap.size Z4 42 := ⟨by rw [b1.block _ (by rw [hsz]; omega) hne]; exact kR.h⟩
  have hb1 : b < w1.heap.size := by have := b1.size; omega
  have hs1 : w.heap.size + 1 ≤ w1.heap.size := by rw [← hsz]; exact b1.size
  have hA1 : Alb w.heap.size w w1 b := hA.trans ⟨b1.os, b1.tape, b1.output, b1.size, fun k h hk => b1.block k (by rw [hsz]; omega) hk⟩
  have N1 := N w1 h1 hb1
  clear T N kR hA b1 h1 hsz
  go_wp2_with fail
  refine N1.mono ?_
  rintro e w2 ⟨hB, ⟨hk, rfl, h2⟩ | ⟨hk, rfl, -⟩⟩
  rotate_left
  · exact ⟨rfl, hA1.trans ⟨hB.os, hB.tape, hB.output, hB.size, fun k h hk => hB.block k (by omega) hk⟩, .inr ⟨by unfold cn; rw [if_pos hk], rfl⟩⟩
  have HE : Hid (cn r 8 (fun n => ⟨4, 0, ⟨#[]⟩, canonB n⟩) = some ((⟨4, 0, ⟨#[]⟩, canonB (numL (r.take 8))⟩ : Val), r.drop 8)) := by show _ = _; unfold cn; rw [if_neg (by omega)]
  have hlt : numL (r.take 8) < 18446744073709551616 := by
    have h := numL_lt (r.take 8)
    rw [List.length_take, Nat.min_eq_left hk] at h
    exact h
  generalize numL (r.take 8) = n at *
  generalize r.drop 8 = r' at *
  clear hlt hk
  have kR2 : Blk w2 w.heap.size Z4 42 := ⟨by rw [hB.block _ (by omega) hne]; exact kR1.h⟩
  have hA2 : Alb w.heap.size w w2 b := hA1.trans ⟨hB.os, hB.tape, hB.output, hB.size, fun k h hk => hB.block k (by omega) hk⟩
  have hs2 : w.heap.size + 1 ≤ w2.heap.size := by have := hB.size; omega
  clear kR1 hA1 hB hb1 hs1 N1
  go_wp2_with fail
  refine (canon_any _ n).mono ?_
  rintro e w2 ⟨rfl, rfl⟩
  go_wp2_with (refine wpl_put rfl (.tmp 2) (.tmp 51) rfl w.heap.size _ rfl rfl kR2 (by kernel_rfl) rfl (by kernel_rfl) ?_)
  intro W' kW gW sW
  have h3 : Cr W' b r' := h2.on (B := w.heap.size) ((Below.refl w.heap.size _).grown gW (by omega) (fun k hk => by injection hk with hk; omega)) hb
  go_wp2
  exact ret58 Tryz.results80 kW rfl rfl ⟨hA2.trans (.grown gW (by omega) (Nat.le_refl _)), .inl ⟨_, _, HE.out, rfl, h3⟩⟩

set_option maxHeartbeats 1000000 in
theorem cvalue_S (w : World) (b : Nat) (s r : List UInt8) (hb : b < w.heap.size) (hr : r.length ≤ 140737488355328)
    (hn : ∀ w, Cr w b s → b < w.heap.size → Calls Tryz.prog 55 #[.pointer (some ⟨b, 0, none⟩), .int .i64 1] w fun e w' => e = .returned (.int .u64 83) ∧ Cr w' b r ∧ Alb w.heap.size w w' b) (hc : Cr w b s) :
    Calls Tryz.prog 80 #[.pointer (some ⟨b, 0, none⟩)] w (ValP w b ((clong r 256).map fun x => (⟨3, 0, ⟨x.1.toArray⟩, 0⟩, x.2))) := by
  have T := hn (w.alloc (.cells Z4 42)) (hc.on (below_new w _) hb) (by simp; omega)
  have N := fun w (h : Cr w b r) (hb : b < w.heap.size) => clong_any w b 256 r h hb hr
  obtain ⟨g, hg⟩ : ∃ g, gup 11 = g := ⟨_, rfl⟩
  unfold ValP
  rw [hg] at N ⊢
  have kR := Blk.new w Z4 42
  have hA : Alb w.heap.size w (w.alloc (.cells Z4 42)) b := .below (below_new w _)
  have hne : w.heap.size ≠ b := by omega
  have hsz : (w.alloc (.cells Z4 42)).heap.size = w.heap.size + 1 := by simp
  have HR : Hid (r.length ≤ 140737488355328) := hr
  clear hc hn hr
  go_enter Tryz.func80, Tryz.ntmps80
  go_wp2_with fail
  refine T.mono ?_
  rintro e w1 ⟨rfl, h1, b1⟩
  have kR1 : Blk w1 w.heap.size Z4 42 := ⟨by rw [b1.block _ (by rw [hsz]; omega) hne]; exact kR.h⟩
  have hb1 : b < w1.heap.size := by have := b1.size; omega
  have hs1 : w.heap.size + 1 ≤ w1.heap.size := by rw [← hsz]; exact b1.size
  have hA1 : Alb w.heap.size w w1 b := hA.trans ⟨b1.os, b1.tape, b1.output, b1.size, fun k h hk => b1.block k (by rw [hsz]; omega) hk⟩
  have N1 := N w1 h1 hb1
  clear T N kR hA b1 h1 hsz
  go_wp2_with fail
  refine N1.mono ?_
  rintro e w2 ⟨hB, ⟨t, r', he, rfl, h2⟩ | ⟨hk, rfl⟩⟩
  rotate_left
  · exact ⟨rfl, hA1.trans ⟨hB.os, hB.tape, hB.output, hB.size, fun k h hk => hB.block k (by omega) hk⟩, .inr ⟨by rw [hk]; rfl, rfl⟩⟩
  have HE : Hid ((clong r 256).map (fun x => ((⟨3, 0, ⟨x.1.toArray⟩, 0⟩ : Val), x.2)) = some (⟨3, 0, ⟨t.toArray⟩, 0⟩, r')) := by show _ = _; rw [he]; rfl
  clear he
  have kR2 : Blk w2 w.heap.size Z4 42 := ⟨by rw [hB.block _ (by omega) hne]; exact kR1.h⟩
  have hA2 : Alb w.heap.size w w2 b := hA1.trans ⟨hB.os, hB.tape, hB.output, hB.size, fun k h hk => hB.block k (by omega) hk⟩
  have hs2 : w.heap.size + 1 ≤ w2.heap.size := by have := hB.size; omega
  clear kR1 hA1 hB hb1 hs1 N1
  go_wp2_with (refine wpl_put rfl (.tmp 2) (.tmp 56) rfl w.heap.size _ rfl rfl kR2 (by kernel_rfl) rfl (by kernel_rfl) ?_)
  intro W' kW gW sW
  have h3 : Cr W' b r' := h2.on (B := w.heap.size) ((Below.refl w.heap.size _).grown gW (by omega) (fun k hk => by injection hk with hk; omega)) hb
  go_wp2
  exact ret58 Tryz.results80 kW rfl rfl ⟨hA2.trans (.grown gW (by omega) (Nat.le_refl _)), .inl ⟨_, _, HE.out, rfl, h3⟩⟩

set_option maxHeartbeats 1000000 in
theorem cvalue_no (w : World) (b : Nat) (s : List UInt8) (o : Option (Val × List UInt8)) (ho : o = none) (hb : b < w.heap.size)
    (hn : ∀ w, Cr w b s → b < w.heap.size → Calls Tryz.prog 55 #[.pointer (some ⟨b, 0, none⟩), .int .i64 1] w fun e w' => e = .panicked (gup 11) ∧ w' = w) (hc : Cr w b s) :
    Calls Tryz.prog 80 #[.pointer (some ⟨b, 0, none⟩)] w (ValP w b o) := by
  have T := hn (w.alloc (.cells Z4 42)) (hc.on (below_new w _) hb) (by simp; omega)
  obtain ⟨g, hg⟩ : ∃ g, gup 11 = g := ⟨_, rfl⟩
  unfold ValP
  rw [hg] at T ⊢
  have hA : Alb w.heap.size w (w.alloc (.cells Z4 42)) b := .below (below_new w _)
  clear hc hn
  go_enter Tryz.func80, Tryz.ntmps80
  go_wp2_with fail
  refine T.mono ?_
  rintro e w1 ⟨rfl, rfl⟩
  exact ⟨rfl, hA, .inr ⟨ho, rfl⟩⟩
set_option maxHeartbeats 1000000 in
theorem cvalue_else (w : World) (b n : Nat) (s r : List UInt8) (hb : b < w.heap.size)
    (e1 : ¬ n = 116) (e2 : ¬ n = 98) (e3 : ¬ n = 115) (e4 : ¬ n = 73) (e5 : ¬ n = 108) (e6 : ¬ n = 102) (e7 : ¬ n = 100) (e8 : ¬ n = 83)
    (hn : ∀ w, Cr w b s → b < w.heap.size → Calls Tryz.prog 55 #[.pointer (some ⟨b, 0, none⟩), .int .i64 1] w fun e w' => e = .returned (.int .u64 n) ∧ Cr w' b r ∧ Alb w.heap.size w w' b) (hc : Cr w b s) :
    Calls Tryz.prog 80 #[.pointer (some ⟨b, 0, none⟩)] w (ValP w b none) := by
  have T := hn (w.alloc (.cells Z4 42)) (hc.on (below_new w _) hb) (by simp; omega)
  have hA : Alb w.heap.size w (w.alloc (.cells Z4 42)) b := .below (below_new w _)
  have hsz : (w.alloc (.cells Z4 42)).heap.size = w.heap.size + 1 := by simp
  clear hc hn
  go_enter Tryz.func80, Tryz.ntmps80
  go_wp2_with fail
  refine T.mono ?_
  rintro e w1 ⟨rfl, h1, b1⟩
  have hA1 : Alb w.heap.size w w1 b := hA.trans ⟨b1.os, b1.tape, b1.output, b1.size, fun k h hk => b1.block k (by rw [hsz]; omega) hk⟩
  clear T b1 hA
  go_wp2
  exact ⟨rfl, hA1, .inr ⟨rfl, rfl⟩⟩

theorem cvalue_any (w : World) (b : Nat) (s : List UInt8) (hc : Cr w b s) (hb : b < w.heap.size) (hs : s.length ≤ 140737488355328) :
    Calls Tryz.prog 80 #[.pointer (some ⟨b, 0, none⟩)] w (ValP w b (cval s)) := by
  by_cases h1 : s.length < 1
  · exact cvalue_no w b s _ (by unfold cval; rw [if_pos h1]) hb (fun w h _ => cnum_no w b 1 s h hs (by omega) h1) hc
  · have hn : ∀ w, Cr w b s → b < w.heap.size → Calls Tryz.prog 55 #[.pointer (some ⟨b, 0, none⟩), .int .i64 1] w fun e w' => e = .returned (.int .u64 (numL (s.take 1))) ∧ Cr w' b (s.drop 1) ∧ Alb w.heap.size w w' b :=
      fun w h hb => cnum_ok w b 1 s h hb hs (by omega) (by omega)
    have hr : (s.drop 1).length ≤ 140737488355328 := by rw [List.length_drop]; omega
    unfold cval
    rw [if_neg h1]
    generalize numL (s.take 1) = n at *
    generalize s.drop 1 = r at *
    by_cases et : n = 116
    · subst et
      exact cvalue_t w b s r hb hr hn hc
    rw [if_neg et]
    by_cases eb : n = 98
    · subst eb
      exact cvalue_b w b s r hb hr hn hc
    rw [if_neg eb]
    by_cases es : n = 115
    · subst es
      exact cvalue_s w b s r hb hr hn hc
    rw [if_neg es]
    by_cases eI : n = 73
    · subst eI
      exact cvalue_I w b s r hb hr hn hc
    rw [if_neg eI]
    by_cases el : n = 108
    · subst el
      exact cvalue_l w b s r hb hr hn hc
    rw [if_neg el]
    by_cases ef : n = 102
    · subst ef
      exact cvalue_f w b s r hb hr hn hc
    rw [if_neg ef]
    by_cases ed : n = 100
    · subst ed
      exact cvalue_d w b s r hb hr hn hc
    rw [if_neg ed]
    by_cases eS : n = 83
    · subst eS
      exact cvalue_S w b s r hb hr hn hc
    rw [if_neg eS]
    exact cvalue_else w b n s r hb et eb es eI el ef ed eS hn hc
end Go.Proofs.YtmaaacaifpgpaaaGreatDoor

namespace Go.Proofs.YtmaaacaifpgpaaaGreatDoor
open Go.RowKit Go.Lib
set_option maxRecDepth 100000
set_option linter.unusedSimpArgs false

abbrev Z5 : Array Value := #[str [], .int .i64 0, .int .i64 0, str [], .float .f64 0]
theorem ret60 {fn : Func} {p : Tmp} {tmps : Array Value} {W : World} {g : Nat} {cs : Array Value} {R : Ending → World → Prop} (hf : fn.results = #[.cell p 44]) (h : Blk W g cs 44) (hs : cs.size = 5) (hp : tmps.getD p undef = .pointer (some ⟨g, 0, none⟩)) (hR : R (.returned (.agg cs)) W) :
    bodyPost Tryz.prog fn R .ret { tmps := tmps, defers := [] } W :=
  bodyPost_ret (results_cell_row hf tmps W g 44 cs (0, 0) _ hp h.h Tryz.underlying44 rfl (by rw [hs]; kernel_rfl)) rfl hR
/-- A field. -/
def cfield (s : List UInt8) : Option (Pr × List UInt8) :=
  match cshort s with
  | none => none
  | some (t, r) => (cval r).map fun x => (⟨⟨t.toArray⟩, x.1⟩, x.2)
theorem cshort_left {s t r : List UInt8} (h : cshort s = some (t, r)) : r.length ≤ s.length := by
  unfold cshort at h
  split at h
  · cases h
  · unfold cutP at h
    split at h
    · injection h with h
      injection h with _ h
      subst h
      simp only [List.length_drop]
      omega
    · cases h
set_option maxHeartbeats 1000000 in
theorem cfield_any (w : World) (b : Nat) (s : List UInt8) (hc : Cr w b s) (hb : b < w.heap.size) (hs : s.length ≤ 140737488355328) :
    Calls Tryz.prog 69 #[.pointer (some ⟨b, 0, none⟩)] w fun e w' =>
      Alb w.heap.size w w' b ∧ ((∃ p r, cfield s = some (p, r) ∧ e = .returned p.v ∧ Cr w' b r) ∨ (cfield s = none ∧ e = .panicked (gup 11))) := by
  have T := cshort_any (w.alloc (.cells Z5 44)) b s (hc.on (below_new w _) hb) (by simp; omega) hs
  have V := fun w r (h : Cr w b r) (hb : b < w.heap.size) (hl : r.length ≤ 140737488355328) => cvalue_any w b r h hb hl
  obtain ⟨g, hg⟩ : ∃ g, gup 11 = g := ⟨_, rfl⟩
  unfold ValP at V
  rw [hg] at T V ⊢
  have kR := Blk.new w Z5 44
  have hA : Alb w.heap.size w (w.alloc (.cells Z5 44)) b := .below (below_new w _)
  have hne : w.heap.size ≠ b := by omega
  have hsz : (w.alloc (.cells Z5 44)).heap.size = w.heap.size + 1 := by simp
  have HS : Hid (s.length ≤ 140737488355328) := hs
  clear hc hs
  go_enter Tryz.func69, Tryz.ntmps69
  go_wp2_with fail
  refine T.mono ?_
  rintro e w1 ⟨b1, ⟨t, r, ht, rfl, h1⟩ | ⟨ht, rfl⟩⟩
  rotate_left
  · exact ⟨rfl, hA.trans ⟨b1.os, b1.tape, b1.output, b1.size, fun k h hk => b1.block k (by rw [hsz]; omega) hk⟩, .inr ⟨by unfold cfield; rw [ht], rfl⟩⟩
  have kR1 : Blk w1 w.heap.size Z5 44 := ⟨by rw [b1.block _ (by rw [hsz]; omega) hne]; exact kR.h⟩
  have hb1 : b < w1.heap.size := by have := b1.size; omega
  have hs1 : w.heap.size + 1 ≤ w1.heap.size := by rw [← hsz]; exact b1.size
  have hA1 : Alb w.heap.size w w1 b := hA.trans ⟨b1.os, b1.tape, b1.output, b1.size, fun k h hk => b1.block k (by rw [hsz]; omega) hk⟩
  have V1 := V w1 r h1 hb1 (Nat.le_trans (cshort_left ht) HS.out)
  have HE : Hid (cfield s = (cval r).map fun x => (⟨⟨t.toArray⟩, x.1⟩, x.2)) := by show _ = _; unfold cfield; rw [ht]
  clear T V kR hA b1 h1 hsz ht
  go_wp2_with fail
  refine V1.mono ?_
  rintro e w2 ⟨hB, ⟨v, r', hv, rfl, h2⟩ | ⟨hv, rfl⟩⟩
  rotate_left
  · exact ⟨rfl, hA1.trans ⟨hB.os, hB.tape, hB.output, hB.size, fun k h hk => hB.block k (by omega) hk⟩, .inr ⟨by rw [HE.out, hv]; rfl, rfl⟩⟩
  have HF : Hid (cfield s = some (⟨⟨t.toArray⟩, v⟩, r')) := by show _ = _; rw [HE.out, hv]; rfl
  obtain ⟨kd, nu, tx, re⟩ := v
  have kR2 : Blk w2 w.heap.size Z5 44 := ⟨by rw [hB.block _ (by omega) hne]; exact kR1.h⟩
  have hA2 : Alb w.heap.size w w2 b := hA1.trans ⟨hB.os, hB.tape, hB.output, hB.size, fun k h hk => hB.block k (by omega) hk⟩
  have hs2 : w.heap.size + 1 ≤ w2.heap.size := by have := hB.size; omega
  clear kR1 hA1 hB hb1 hs1 V1 hv HE
  unfold Val.v
  go_wp2_with (refine wpl_put rfl (.tmp 2) (.tmp 9) rfl w.heap.size _ rfl rfl kR2 (by kernel_rfl) rfl (by kernel_rfl) ?_)
  intro W' kW gW sW
  have h3 : Cr W' b r' := h2.on (B := w.heap.size) ((Below.refl w.heap.size _).grown gW (by omega) (fun k hk => by injection hk with hk; omega)) hb
  go_wp2
  exact ret60 Tryz.results69 kW rfl rfl ⟨hA2.trans (.grown gW (by omega) (Nat.le_refl _)), .inl ⟨_, _, HF.out, rfl, h3⟩⟩
end Go.Proofs.YtmaaacaifpgpaaaGreatDoor

namespace Go.Proofs.YtmaaacaifpgpaaaGreatDoor
open Go.RowKit Go.Lib
set_option maxRecDepth 100000

def lessP (p x : Pr) : Bool := Op.bytesLess p.name.toList x.name.toList
/-- A property laid ahead of the first one with a greater name. -/
def insP (p : Pr) : List Pr → List Pr
  | [] => [p]
  | x :: L => if lessP p x = true then p :: x :: L else x :: insP p L
def stepI (p : Pr) (m : List Pr × Bool) (x : Pr) : List Pr × Bool := if m.2 = false ∧ lessP p x = true then (m.1 ++ [p] ++ [x], true) else (m.1 ++ [x], m.2)
def finI (p : Pr) (m : List Pr × Bool) : List Pr := if m.2 = true then m.1 else m.1 ++ [p]
def insT (p : Pr) (L : List Pr) : List Pr × Bool := L.foldl (stepI p) ([], false)
def hasN (L : List Pr) (n : ByteArray) : Bool := L.any fun x => x.name.toList == n.toList
theorem insT_snoc (p : Pr) (L : List Pr) (k : Nat) (h : k < L.length) : insT p (L.take (k + 1)) = stepI p (insT p (L.take k)) L[k] := by
  unfold insT
  rw [List.take_succ_eq_append_getElem h, List.foldl_append]
  rfl
theorem hasN_snoc (n : ByteArray) (L : List Pr) (k : Nat) (h : k < L.length) : hasN (L.take (k + 1)) n = (hasN (L.take k) n || L[k].name.toList == n.toList) := by
  unfold hasN
  rw [List.take_succ_eq_append_getElem h, List.any_append]
  simp
theorem foldl_true (p : Pr) : ∀ (L m : List Pr), L.foldl (stepI p) (m, true) = (m ++ L, true)
  | [], m => by simp
  | x :: L, m => by
    have e : stepI p (m, true) x = (m ++ [x], true) := by unfold stepI; simp
    rw [List.foldl_cons, e, foldl_true p L]
    simp
theorem foldl_fin (p : Pr) : ∀ (L m : List Pr), finI p (L.foldl (stepI p) (m, false)) = m ++ insP p L
  | [], m => by simp [finI, insP]
  | x :: L, m => by
    rw [List.foldl_cons]
    by_cases h : lessP p x = true
    · have e : stepI p (m, false) x = (m ++ [p] ++ [x], true) := by unfold stepI; simp [h]
      rw [e, foldl_true]
      simp [finI, insP, h]
    · have e : stepI p (m, false) x = (m ++ [x], false) := by unfold stepI; simp [h]
      rw [e, foldl_fin p L]
      simp [insP, h]
theorem fin_insT (p : Pr) (L : List Pr) : finI p (insT p L) = insP p L := by
  have := foldl_fin p L []
  simpa [insT] using this
theorem insP_perm (p : Pr) : ∀ L : List Pr, (insP p L).Perm (p :: L)
  | [] => List.Perm.refl _
  | x :: L => by
    unfold insP
    split
    · exact List.Perm.refl _
    · exact ((insP_perm p L).cons x).trans (List.Perm.swap p x L)
theorem insP_len (p : Pr) (L : List Pr) : (insP p L).length = L.length + 1 := by rw [(insP_perm p L).length_eq]; rfl
theorem insT_len (p : Pr) (L : List Pr) : ∀ k, k ≤ L.length → (insT p (L.take k)).1.length ≤ 2 * k
  | 0, _ => by simp [insT]
  | k + 1, h => by
    have ih := insT_len p L k (by omega)
    rw [insT_snoc p L k (by omega)]
    unfold stepI
    split
    · simp; omega
    · simp; omega
theorem hasN_iff {L : List Pr} {n : ByteArray} : hasN L n = true ↔ ∃ x ∈ L, x.name.toList = n.toList := by
  simp [hasN]
theorem insP_rise (p : Pr) : ∀ L : List Pr, L.Pairwise ltP → hasN L p.name = false → (insP p L).Pairwise ltP
  | [], _, _ => by simp [insP]
  | x :: L, h, hn => by
    have h2 := List.pairwise_cons.1 h
    have hx : ¬ (x.name.toList = p.name.toList) := fun e => by
      have : hasN (x :: L) p.name = true := hasN_iff.2 ⟨x, by simp, e⟩
      rw [hn] at this
      cases this
    have hn2 : hasN L p.name = false := by
      simp only [hasN, List.any_cons, Bool.or_eq_false_iff] at hn ⊢
      exact hn.2
    unfold insP
    split
    · rename_i hl
      refine List.Pairwise.cons (fun y hy => ?_) h
      rcases List.mem_cons.1 hy with rfl | hy
      · exact hl
      · exact ltP_trans (a := p) (b := x) hl (h2.1 y hy)
    · rename_i hl
      refine List.Pairwise.cons (fun y hy => ?_) (insP_rise p L h2.2 hn2)
      rcases List.mem_cons.1 ((insP_perm p L).mem_iff.1 hy) with rfl | hy
      · unfold ltP
        cases e : Op.bytesLess x.name.toList y.name.toList with
        | true => rfl
        | false => exact absurd (bl_tri _ _ e (by simpa [lessP] using hl)) hx
      · exact h2.1 y hy

/-- A field that the document's Reader takes. -/
def fldR (st : Rs) : Pr × Rs := (⟨⟨(shortR st).1.toArray⟩, (vaR (shortR st).2).1⟩, (vaR (shortR st).2).2)
/-- What the document's Table makes of its fields: the properties, and whether something wasn't there. -/
def tabR : Nat → Rs → List Pr → List Pr × Bool
  | 0, st, L => (L, st.2)
  | k + 1, st, L =>
    if st.1 = [] ∨ st.2 = true then (L, st.2)
    else if (fldR st).2.2 = true ∨ hasN L (fldR st).1.name = true then (L, true)
    else if 16 < L.length then (L, false)
    else tabR k (fldR st).2 (insP (fldR st).1 L)
def okO (r : List Pr × Bool) : Bool := !r.2 && validL r.1
/-- A table's properties. -/
def tabO (t : List UInt8) : Option (List Pr) := if okO (tabR t.length (t, false) []) = true then some (tabR t.length (t, false) []).1 else none
def rtab (st : Rs) : List Pr × Rs := match tabO (longR st).1 with
  | none => ([], ((longR st).2.1, true))
  | some L => (L, (longR st).2)
def ctab (s : List UInt8) : Option (List Pr × List UInt8) :=
  if s.length < 4 then none else match cutP (s.drop 4) (numL (s.take 4)) with
  | none => none
  | some (t, r) => (tabO t).map fun L => (L, r)
/-- The program's fields, as they come. -/
def fldC : Nat → List UInt8 → List Pr → Option (List Pr)
  | 0, _, acc => some acc
  | k + 1, s, acc => if s = [] then some acc else if 16 ≤ acc.length then none else match cfield s with
    | none => none
    | some (p, r) => fldC k r (acc ++ [p])

theorem takeR_bad (s : List UInt8) (n : Nat) : takeR (s, true) n = ([], (s, true)) := by unfold takeR; simp
theorem takeR_no {s : List UInt8} {n : Nat} (h : s.length < n) : takeR (s, false) n = ([], (s, true)) := by unfold takeR; rw [if_pos (.inr h)]
theorem takeR_yes {s : List UInt8} {n : Nat} (h : n ≤ s.length) : takeR (s, false) n = (s.take n, (s.drop n, false)) := by unfold takeR; rw [if_neg (by simp; omega)]
theorem numR_bad (s : List UInt8) (k : Nat) : numR (s, true) k = (0, (s, true)) := by unfold numR; rw [takeR_bad]; rfl
theorem numR_no {s : List UInt8} {k : Nat} (h : s.length < k) : numR (s, false) k = (0, (s, true)) := by unfold numR; rw [takeR_no h]; rfl
theorem numR_yes {s : List UInt8} {k : Nat} (h : k ≤ s.length) : numR (s, false) k = (numL (s.take k), (s.drop k, false)) := by unfold numR; rw [takeR_yes h]
theorem vaR_bad (s : List UInt8) : (vaR (s, true)).2.2 = true := by
  unfold vaR
  simp [takeR_bad]
theorem longR_bad (s : List UInt8) : longR (s, true) = ([], (s, true)) := by unfold longR; rw [numR_bad]; exact takeR_bad s 0
theorem short_rel (s : List UInt8) : (∀ t r, cshort s = some (t, r) → shortR (s, false) = (t, (r, false))) ∧ (cshort s = none → (shortR (s, false)).2.2 = true) := by
  unfold cshort shortR
  by_cases h : s.length < 1
  · rw [if_pos h, numR_no h]
    exact ⟨fun t r e => (nomatch e), fun _ => by rw [takeR_bad]⟩
  · rw [if_neg h, numR_yes (by omega)]
    unfold cutP
    by_cases h2 : numL (s.take 1) ≤ (s.drop 1).length
    · rw [if_pos h2]
      exact ⟨fun t r e => by (injection e with e; rw [takeR_yes h2]; injection e with e1 e2; rw [e1, e2]), fun e => (nomatch e)⟩
    · rw [if_neg h2]
      exact ⟨fun t r e => (nomatch e), fun _ => by rw [takeR_no (by omega)]⟩
theorem long_rel (s : List UInt8) (most : Nat) : (∀ t r, clong s most = some (t, r) → longR (s, false) = (t, (r, false))) ∧ (clong s most = none → (longR (s, false)).2.2 = true ∨ most < (longR (s, false)).1.length) := by
  unfold clong longR
  by_cases h : s.length < 4
  · rw [if_pos h, numR_no h]
    exact ⟨fun t r e => (nomatch e), fun _ => .inl (by rw [takeR_bad])⟩
  · rw [if_neg h, numR_yes (by omega)]
    unfold cutP
    by_cases hm : most < numL (s.take 4)
    · rw [if_pos hm]
      refine ⟨fun t r e => (nomatch e), fun _ => ?_⟩
      by_cases h2 : numL (s.take 4) ≤ (s.drop 4).length
      · rw [takeR_yes h2]
        exact .inr (by rw [List.length_take]; omega)
      · exact .inl (by rw [takeR_no (by omega)])
    · rw [if_neg hm]
      by_cases h2 : numL (s.take 4) ≤ (s.drop 4).length
      · rw [if_pos h2]
        exact ⟨fun t r e => by (injection e with e; rw [takeR_yes h2]; injection e with e1 e2; rw [e1, e2]), fun e => (nomatch e)⟩
      · rw [if_neg h2]
        exact ⟨fun t r e => (nomatch e), fun _ => .inl (by rw [takeR_no (by omega)])⟩
theorem cn_rel (r : List UInt8) (k : Nat) (f : Nat → Val) : (∀ v x, cn r k f = some (v, x) → f (numR (r, false) k).1 = v ∧ (numR (r, false) k).2 = (x, false)) ∧ (cn r k f = none → (numR (r, false) k).2.2 = true) := by
  unfold cn
  by_cases h : r.length < k
  · rw [if_pos h, numR_no h]
    exact ⟨fun _ _ e => (nomatch e), fun _ => rfl⟩
  · rw [if_neg h, numR_yes (by omega)]
    refine ⟨fun v x e => ?_, fun e => (nomatch e)⟩
    injection e with e
    injection e with e1 e2
    rw [e1, e2]
    exact ⟨rfl, rfl⟩
theorem num_one (c : UInt8) (s : List UInt8) (n : Nat) (hn : n < 256) : numL ((c :: s).take 1) = n ↔ [c] = [UInt8.ofNat n] := by
  have e : numL ((c :: s).take 1) = c.toNat := by simp [numL]
  rw [e]
  constructor
  · intro h
    rw [← h]
    simp
  · intro h
    injection h with h
    rw [h]
    simpa using hn
theorem val_rel (s : List UInt8) : (∀ v r, cval s = some (v, r) → vaR (s, false) = (v, (r, false))) ∧ (cval s = none → (vaR (s, false)).2.2 = true ∨ goodV (vaR (s, false)).1 = false) := by
  match s with
  | [] =>
    refine ⟨fun _ _ e => (nomatch e), fun _ => .inl ?_⟩
    unfold vaR
    simp [takeR]
  | c :: s =>
    have ht : takeR (c :: s, false) 1 = ([c], (s, false)) := by rw [takeR_yes (by simp)]; rfl
    unfold cval vaR
    rw [ht]
    rw [if_neg (by simp)]
    simp only [num_one c s _ (by decide : 116 < 256), num_one c s _ (by decide : 98 < 256), num_one c s _ (by decide : 115 < 256), num_one c s _ (by decide : 73 < 256), num_one c s _ (by decide : 108 < 256), num_one c s _ (by decide : 102 < 256), num_one c s _ (by decide : 100 < 256), num_one c s _ (by decide : 83 < 256)]
    simp only [List.drop_succ_cons, List.drop_zero]
    have key : ∀ (k : Nat) (f : Nat → Val) (o : Option (Val × List UInt8)) (q : Val × Rs), o = cn s k f → q = (f (numR (s, false) k).1, (numR (s, false) k).2) → (∀ v r, o = some (v, r) → q = (v, (r, false))) ∧ (o = none → q.2.2 = true ∨ goodV q.1 = false) := by
      intro k f o q ho hq
      subst ho hq
      have h := cn_rel s k f
      exact ⟨fun v r e => by have := h.1 v r e; rw [this.1, this.2], fun e => .inl (h.2 e)⟩
    by_cases h1 : [c] = [UInt8.ofNat 116]
    · rw [if_pos h1, if_pos (show [c] = [116] from h1)]
      exact key _ _ _ _ rfl rfl
    rw [if_neg h1, if_neg (show ¬ [c] = [116] from h1)]
    by_cases h1 : [c] = [UInt8.ofNat 98]
    · rw [if_pos h1, if_pos (show [c] = [98] from h1)]
      exact key _ _ _ _ rfl rfl
    rw [if_neg h1, if_neg (show ¬ [c] = [98] from h1)]
    by_cases h1 : [c] = [UInt8.ofNat 115]
    · rw [if_pos h1, if_pos (show [c] = [115] from h1)]
      exact key _ _ _ _ rfl rfl
    rw [if_neg h1, if_neg (show ¬ [c] = [115] from h1)]
    by_cases h1 : [c] = [UInt8.ofNat 73]
    · rw [if_pos h1, if_pos (show [c] = [73] from h1)]
      exact key _ _ _ _ rfl rfl
    rw [if_neg h1, if_neg (show ¬ [c] = [73] from h1)]
    by_cases h1 : [c] = [UInt8.ofNat 108]
    · rw [if_pos h1, if_pos (show [c] = [108] from h1)]
      exact key _ _ _ _ rfl rfl
    rw [if_neg h1, if_neg (show ¬ [c] = [108] from h1)]
    by_cases h1 : [c] = [UInt8.ofNat 102]
    · rw [if_pos h1, if_pos (show [c] = [102] from h1)]
      exact key _ _ _ _ rfl rfl
    rw [if_neg h1, if_neg (show ¬ [c] = [102] from h1)]
    by_cases h1 : [c] = [UInt8.ofNat 100]
    · rw [if_pos h1, if_pos (show [c] = [100] from h1)]
      exact key _ _ _ _ rfl rfl
    rw [if_neg h1, if_neg (show ¬ [c] = [100] from h1)]
    by_cases h1 : [c] = [UInt8.ofNat 83]
    · rw [if_pos h1, if_pos (show [c] = [83] from h1)]
      have h := long_rel s 256
      refine ⟨fun v r e => ?_, fun e => ?_⟩
      · cases hc : clong s 256 with
        | none => rw [hc] at e; cases e
        | some x =>
          obtain ⟨t, r'⟩ := x
          rw [hc] at e
          rw [h.1 t r' hc]
          injection e with e
          injection e with e1 e2
          rw [← e1, ← e2]
      · cases hc : clong s 256 with
        | some x => rw [hc] at e; cases e
        | none =>
          rcases h.2 hc with h2 | h2
          · exact .inl h2
          · right
            unfold goodV
            simp only [Int.reduceEq, if_false, if_true, Bool.and_eq_false_iff, decide_eq_false_iff_not]
            left
            rw [size_data]
            simp
            omega
    rw [if_neg h1, if_neg (show ¬ [c] = [83] from h1)]
    exact ⟨fun _ _ e => (nomatch e), fun _ => .inl rfl⟩
theorem fld_rel (s : List UInt8) : (∀ p r, cfield s = some (p, r) → fldR (s, false) = (p, (r, false))) ∧ (cfield s = none → (fldR (s, false)).2.2 = true ∨ canB (fldR (s, false)).1 = false) := by
  have hS := short_rel s
  unfold cfield fldR
  cases hc : cshort s with
  | none =>
    refine ⟨fun _ _ e => (nomatch e), fun _ => .inl ?_⟩
    have h := hS.2 hc
    generalize (shortR (s, false)).2 = st at *
    obtain ⟨x, b⟩ := st
    have hb : b = true := h
    subst hb
    exact vaR_bad x
  | some x =>
    obtain ⟨t, r⟩ := x
    rw [hS.1 t r hc]
    have hV := val_rel r
    refine ⟨fun p r' e => ?_, fun e => ?_⟩
    · cases hv : cval r with
      | none => simp [hv] at e
      | some y =>
        obtain ⟨v, r2⟩ := y
        simp only [hv, Option.map_some] at e
        rw [hV.1 v r2 hv]
        injection e with e
        injection e with e1 e2
        rw [← e1, ← e2]
    · cases hv : cval r with
      | some y => simp [hv] at e
      | none =>
        rcases hV.2 hv with h | h
        · exact .inl h
        · right
          unfold canB
          rw [h, Bool.and_false]
theorem vaR_left (st : Rs) : (vaR st).2.1.length ≤ st.1.length := by
  unfold vaR
  have h1 := takeR_left st 1
  have hn : ∀ k, (numR (takeR st 1).2 k).2.1.length ≤ st.1.length := fun k => Nat.le_trans (takeR_left (takeR st 1).2 k) h1
  have hl : (longR (takeR st 1).2).2.1.length ≤ st.1.length := Nat.le_trans (takeR_left (numR (takeR st 1).2 4).2 _) (hn 4)
  simp only
  split
  · exact hn 1
  · split
    · exact hn 1
    · split
      · exact hn 2
      · split
        · exact hn 4
        · split
          · exact hn 8
          · split
            · exact hn 4
            · split
              · exact hn 8
              · split
                · exact hl
                · exact h1
theorem fldR_left {s : List UInt8} (hs : s ≠ []) : (fldR (s, false)).2.1.length < s.length := by
  unfold fldR
  have h1 := vaR_left (shortR (s, false)).2
  have h2 : (shortR (s, false)).2.1.length < s.length := by
    have hl : 0 < s.length := by cases s <;> simp at *
    unfold shortR
    rw [numR_yes (by omega)]
    have := takeR_left (s.drop 1, false) (numL (s.take 1))
    simp only [List.length_drop] at this
    simp only
    omega
  exact Nat.lt_of_le_of_lt h1 h2
theorem vaR_real (st : Rs) : (vaR st).1.real < 2 ^ 64 := by
  unfold vaR
  have h8 : (numR (takeR st 1).2 8).1 < 2 ^ 64 := Nat.lt_of_lt_of_le (numR_lt _ 8) (by decide)
  simp only
  repeat' split
  all_goals first
    | exact canonB_lt h8
    | exact widB_lt _
    | exact (by decide : (0 : Nat) < 2 ^ 64)
theorem fldR_fits (st : Rs) : Fits (fldR st).1 := by
  refine ⟨?_, vaR_real _⟩
  have h1 : (shortR st).1.length ≤ (numR st 1).1 := takeR_len _ _
  have h2 : (numR st 1).1 < 256 := Nat.lt_of_lt_of_le (numR_lt _ 1) (by decide)
  show (⟨(shortR st).1.toArray⟩ : ByteArray).size ≤ _
  rw [List.size_toByteArray_arr]
  omega

theorem tab_long : ∀ (k : Nat) (st : Rs) (L : List Pr), L.length ≤ (tabR k st L).1.length
  | 0, _, _ => Nat.le_refl _
  | k + 1, st, L => by
    unfold tabR
    split
    · exact Nat.le_refl _
    · split
      · exact Nat.le_refl _
      · split
        · exact Nat.le_refl _
        · have := tab_long k (fldR st).2 (insP (fldR st).1 L)
          rw [insP_len] at this
          omega
theorem tab_mem (x : Pr) : ∀ (k : Nat) (st : Rs) (L : List Pr), x ∈ L → x ∈ (tabR k st L).1
  | 0, _, _, h => h
  | k + 1, st, L, h => by
    unfold tabR
    split
    · exact h
    · split
      · exact h
      · split
        · exact h
        · exact tab_mem x k _ _ ((insP_perm _ L).mem_iff.2 (List.mem_cons_of_mem _ h))
theorem okO_true {r : List Pr × Bool} (h : okO r = true) : r.2 = false ∧ validL r.1 = true := by
  unfold okO at h
  simpa using h
theorem no_okO {r : List Pr × Bool} (h : r.2 = true ∨ validL r.1 = false) : okO r = false := by
  unfold okO
  rcases h with h | h <;> simp [h]
theorem fldC_pre : ∀ (k : Nat) (s : List UInt8) (acc A : List Pr), fldC k s acc = some A → ∃ T, A = acc ++ T
  | 0, _, acc, A, h => by injection h with h; exact ⟨[], by simp [h]⟩
  | k + 1, s, acc, A, h => by
    unfold fldC at h
    split at h
    · injection h with h; exact ⟨[], by simp [h]⟩
    · split at h
      · cases h
      · cases hc : cfield s with
        | none => simp [hc] at h
        | some x =>
          obtain ⟨p, r⟩ := x
          simp only [hc] at h
          obtain ⟨T, rfl⟩ := fldC_pre k r (acc ++ [p]) A h
          exact ⟨p :: T, by simp⟩
def neN (a b : Pr) : Prop := a.name.toList ≠ b.name.toList
theorem ne_of_lt {a b : Pr} (h : ltP a b) : neN a b := fun e => by
  unfold ltP at h
  rw [e, bl_irrefl] at h
  cases h
theorem eq_of_name : ∀ {L : List Pr}, L.Pairwise ltP → ∀ {a b : Pr}, a ∈ L → b ∈ L → a.name.toList = b.name.toList → a = b
  | [], _, _, _, h, _, _ => nomatch h
  | x :: L, hr, a, b, ha, hb, e => by
    have h2 := List.pairwise_cons.1 hr
    rcases List.mem_cons.1 ha with h3 | h3
    · rcases List.mem_cons.1 hb with h4 | h4
      · rw [h3, h4]
      · rw [h3] at e
        exact absurd e (ne_of_lt (h2.1 b h4))
    · rcases List.mem_cons.1 hb with h4 | h4
      · rw [h4] at e
        exact absurd e.symm (ne_of_lt (h2.1 a h3))
      · exact eq_of_name h2.2 h3 h4 e
theorem cfield_left {s r : List UInt8} {p : Pr} (hs : s ≠ []) (h : cfield s = some (p, r)) : r.length < s.length := by
  have := fldR_left hs
  rw [(fld_rel s).1 p r h] at this
  exact this
/-- Sorted in whatever way, the program's fields are the document's properties, or neither can be. -/
theorem tab_same : ∀ (k : Nat) (s : List UInt8) (acc L : List Pr), s.length ≤ k → L.Perm acc → L.Pairwise ltP → acc.length ≤ 16 →
    (fldC k s acc = none → okO (tabR k (s, false) L) = false) ∧ (∀ A M, fldC k s acc = some A → M.Perm A → M.Pairwise (fun x y => lessP y x = false) →
      (validL M = true → tabR k (s, false) L = (M, false)) ∧ (validL M = false → okO (tabR k (s, false) L) = false))
  | 0, s, acc, L, hk, hp, hr, h16 => by
    refine ⟨fun e => (nomatch e), fun A M e hM hs => ?_⟩
    injection e with e
    subst e
    have hML : M = L := List.Perm.eq_of_pairwise (le := fun x y => lessP y x = false) (fun a b ha hb h1 h2 => eq_of_name hr (hp.mem_iff.2 (hM.mem_iff.1 ha)) hb (bl_tri _ _ h2 h1)) hs (hr.imp fun h => bl_asymm _ _ h) (hM.trans hp.symm)
    subst hML
    exact ⟨fun _ => rfl, fun h => no_okO (.inr h)⟩
  | k + 1, s, acc, L, hk, hp, hr, h16 => by
    unfold fldC tabR
    by_cases hs : s = []
    · rw [if_pos hs, if_pos (.inl hs)]
      refine ⟨fun e => (nomatch e), fun A M e hM hs => ?_⟩
      injection e with e
      subst e
      have hML : M = L := List.Perm.eq_of_pairwise (le := fun x y => lessP y x = false) (fun a b ha hb h1 h2 => eq_of_name hr (hp.mem_iff.2 (hM.mem_iff.1 ha)) hb (bl_tri _ _ h2 h1)) hs (hr.imp fun h => bl_asymm _ _ h) (hM.trans hp.symm)
      subst hML
      exact ⟨fun _ => rfl, fun h => no_okO (.inr h)⟩
    rw [if_neg hs, if_neg (c := (s, false).1 = [] ∨ (s, false).2 = true) (by simp [hs])]
    have hl := hp.length_eq
    have hF := fld_rel s
    by_cases h15 : 16 ≤ acc.length
    · rw [if_pos h15]
      refine ⟨fun _ => ?_, fun A M e => (nomatch e)⟩
      split
      · exact no_okO (.inl rfl)
      · rw [if_neg (by omega)]
        have h1 := tab_long k (fldR (s, false)).2 (insP (fldR (s, false)).1 L)
        rw [insP_len] at h1
        exact no_okO (.inr (no_many (by omega)))
    rw [if_neg h15]
    cases hc : cfield s with
    | none =>
      refine ⟨fun _ => ?_, fun A M e => (nomatch e)⟩
      split
      · exact no_okO (.inl rfl)
      · rename_i hno
        rw [if_neg (by omega)]
        rcases hF.2 hc with h | h
        · exact absurd (.inl h) hno
        · refine no_okO (.inr ?_)
          cases e : validL (tabR k (fldR (s, false)).2 (insP (fldR (s, false)).1 L)).1 with
          | false => rfl
          | true =>
            have := (valid_parts e).2.1 _ (tab_mem (fldR (s, false)).1 k _ _ ((insP_perm _ L).mem_iff.2 (List.mem_cons_self ..)))
            rw [h] at this
            cases this
    | some x =>
      obtain ⟨p, r⟩ := x
      rw [hF.1 p r hc]
      have hr' := cfield_left hs hc
      by_cases hn : hasN L p.name = true
      · rw [if_pos (.inr hn)]
        refine ⟨fun _ => no_okO (.inl rfl), fun A M e hM _ => ⟨fun hv => ?_, fun _ => no_okO (.inl rfl)⟩⟩
        exfalso
        obtain ⟨T, hT⟩ := fldC_pre k r (acc ++ [p]) A e
        obtain ⟨x, hx, hxn⟩ := hasN_iff.1 hn
        have h1 : M.Pairwise neN := (pairs_of M (valid_parts hv).2.2).imp fun h => ne_of_lt h
        have h2 : A.Pairwise neN := (hM.pairwise_iff (R := neN) (fun h => Ne.symm h)).1 h1
        rw [hT, List.append_assoc, List.pairwise_append] at h2
        exact h2.2.2 x (hp.mem_iff.1 hx) p (by simp) hxn
      · rw [if_neg (by simp [hn]), if_neg (by omega)]
        have hn' : hasN L p.name = false := by simpa using hn
        exact tab_same k r (acc ++ [p]) (insP p L) (by omega) ((insP_perm p L).trans ((hp.cons p).trans (List.perm_append_comm (l₁ := [p])))) (insP_rise p L hr hn') (by simp; omega)
end Go.Proofs.YtmaaacaifpgpaaaGreatDoor

namespace Go.Proofs.YtmaaacaifpgpaaaGreatDoor
open Go.RowKit Go.Lib
set_option maxRecDepth 100000
set_option linter.unusedSimpArgs false

theorem wpl_putAt {ty : TypeId} {ops : Array Oper} {rest : List Oper} {o : Oper} {a : Act} {w : World} {Q : Exit → Act → World → Prop} (hgd : o.guard = none) (x y : Operand) (ho : o.op = .store ty x y)
    (g off : Nat) (cells : Array Value) (hx : a.eval x = .pointer (some ⟨g, off, none⟩)) (hy : a.eval y = .agg cells)
    {t : TypeId} {old : Array Value} (hg : Blk w g old t) (hi : (Tryz.prog.info? ty).map (·.size) = some cells.size)
    (hfit : off + cells.size ≤ old.size) (h1 : cells.all (·.oneCell') = true)
    (h : ∀ W', Blk W' g (old.toList.take off ++ cells.toList ++ old.toList.drop (off + cells.size)).toArray t → w.grownBy W' (some g) → W'.heap.size = w.heap.size → wpList Tryz.prog ops Q rest (a.put o.dst undef) W') : wpList Tryz.prog ops Q (o :: rest) a w := by
  refine wpList_plain hgd fun K hK => ?_
  have hst := run_storeCells_at Tryz.prog g off t cells.toList 0 old w hg.h (by simp; omega) (fun v hv => (Array.all_eq_true_iff_forall_mem.1 h1) v (by simpa using hv))
  simp only [Nat.add_zero, Array.length_toList] at hst
  have hrun : (storeVar ty ⟨g, off, none⟩ (.agg cells)).run Tryz.prog w = .ok () (w.setRow g (old.toList.take off ++ cells.toList ++ old.toList.drop (off + cells.size)).toArray) := by
    cases hq : Tryz.prog.info? ty with
    | none => simp [hq] at hi
    | some i =>
      have hs : cells.size = i.size := by simp [hq] at hi; omega
      simp [storeVar, sizeOf, typeInfo, hq, Value.cells, ← hs, hst]
  unfold Oper.wp execOp
  simp only [ho, hx, hy, Instr.storeAt, Instr.sureAddr, Sem.run_bind, Sem.run_pure, Result.andThen_ok, hrun]
  exact hK _ _ (h _ (hg.row _) (grown_setRow w g _) (by simp [World.setRow]))
/-- A property's cells. -/
abbrev prA (p : Pr) : Array Value := #[.string p.name, .int .i64 p.val.kind, .int .i64 p.val.num, .string p.val.text, .float .f64 p.val.real]
theorem wpl_appP {ops : Array Oper} {rest : List Oper} {o : Oper} {a : Act} {Q : Exit → Act → World → Prop} (hgd : o.guard = none) (s x : Operand)
    (ho : o.op = .call { callee := .builtin .append, args := #[s, x], argTypes := #[24, 24] }) (B : Nat) (v : Value) (l : List Pr) (p : Pr) (w : World)
    (hs : a.eval s = v) (hown : OwnP w B v l) (hx : a.eval x = .slice (some ⟨w.heap.size, 0, none⟩) 1 1) (hn : l.length ≤ 90000) (hB : B ≤ w.heap.size)
    (h : ∀ v' w', OwnP w' B v' (l ++ [p]) → Below B w w' → (∀ (k : Nat) (cs : Array Value) (t : TypeId) (fr : Nat × Nat), k < B ∨ t ≠ 44 ∨ v.ownBlock ≠ some k → w.heap[k]? = some (Obj.cells cs t fr) → w'.heap[k]? = some (Obj.cells cs t fr)) → wpList Tryz.prog ops Q rest (a.put o.dst v') w') : wpList Tryz.prog ops Q (o :: rest) a (w.alloc (.cells (prA p) 44)) := by
  have hb := below_new w (.cells (prA p) 44)
  obtain ⟨i0, hi, hz0, hz1, hz2⟩ := info_parts info33
  have hsrc : ∀ i (h : i < [p].length), PrAt (w.alloc (.cells (prA p) 44)) w.heap.size (0 + i * 5) [p][i] := fun i hi => by
    have : i = 0 := by simpa using hi
    subst this
    exact ⟨World.cell?_alloc_new .., World.cell?_alloc_new .., World.cell?_alloc_new .., World.cell?_alloc_new .., World.cell?_alloc_new ..⟩
  have hown2 := hown.up hb
  refine wpList_plain hgd fun K hK => ?_
  refine wp_append_own _ s x 24 ho B 44 i0 (.agg #[.string ⟨#[]⟩, .int .i64 0, .int .i64 0, .string ⟨#[]⟩, .float .f64 0]) 5 56 Tryz.underlying24 hi hz0 hz1 hz2 rfl (by decide) v l.length (cellsP l) hs hown2 ⟨w.heap.size, 0, none⟩ 1 1 (cellsP [p]) hx (cellsP_len [p]) ?_ (cellsP_one [p]) (by unfold maxLen; omega) (by omega) (by simp; omega) ?_
  · intro j u hj
    rw [Addr.add_lit]
    exact prAt_cells hsrc j u hj
  · intro v' w' h1 h2 _
    refine hK _ _ (h v' w' ?_ ?_ ?_)
    · unfold OwnP
      rw [List.length_append, cellsP_app]
      exact h1
    · exact (hb.mono hB).trans ((Below.refl B _).grown h2 (by simp; omega) (fun k hk => (World.ownsRow.lt hown2 k hk).1))
    · intro k cs t fr hk hc
      have hlt := (Array.getElem?_eq_some_iff.1 hc).1
      have hc2 : (w.alloc (.cells (prA p) 44)).heap[k]? = some (Obj.cells cs t fr) := by rw [hb.block k hlt]; exact hc
      rw [h2.block k (by simp; omega) (fun e => ?_)]
      · exact hc2
      · rcases hk with hk | hk | hk
        · have := (World.ownsRow.lt hown2 k e.symm).1
          omega
        · rcases hown2.2 with ⟨rfl, _⟩ | ⟨g, cap, cur, rfl, _, hg, _⟩
          · simp [Value.ownBlock] at e
          · simp [Value.ownBlock] at e
            subst e
            rw [hc2] at hg
            injection hg with hg
            injection hg with _ hg _
            exact hk hg
        · exact hk e.symm
theorem Rd.on {w w' : World} {b : Nat} {s : List UInt8} {bad : Bool} (h : Rd w b s bad) (hb : w'.heap[b]? = w.heap[b]?) : Rd w' b s bad := by
  refine ⟨?_, ?_, ?_, ?_⟩
  · have := h.c0; unfold World.cell? at this ⊢; simp only [hb]; exact this
  · have := h.c1; unfold World.cell? at this ⊢; simp only [hb]; exact this
  · have := h.f0; unfold World.frozen? at this ⊢; simp only [hb]; exact this
  · have := h.f1; unfold World.frozen? at this ⊢; simp only [hb]; exact this
theorem OwnP.alb {w w' : World} {B b : Nat} {v : Value} {l : List Pr} (h : OwnP w B v l) (hb : Alb w.heap.size w w' b) (hB : b < B) : OwnP w' B v l := by
  obtain ⟨hl, h⟩ := h
  refine ⟨hl, ?_⟩
  rcases h with h | ⟨g, cap, cur, hv, hg, hc, h⟩
  · exact .inl h
  · exact .inr ⟨g, cap, cur, hv, hg, by rw [hb.block g (Array.getElem?_eq_some_iff.1 hc).1 (by omega)]; exact hc, h⟩
theorem Blk.alb {w w' : World} {g b : Nat} {cs : Array Value} {t : TypeId} (h : Blk w g cs t) (hb : Alb w.heap.size w w' b) (hne : g ≠ b) : Blk w' g cs t := ⟨(hb.block g h.lt hne).trans h.h⟩
theorem rd_set (w : World) (b : Nat) (s : List UInt8) (bad : Bool) (h : Rd w b s bad) : Rd (w.setCell ⟨b, 1, none⟩ (.bool true)) b s true :=
  ⟨by rw [World.cell?_setCell_other (h := by simp)]; exact h.c0, World.cell?_setCell_same (h := h.c1) .., by rw [World.frozen?_setCell]; exact h.f0, by rw [World.frozen?_setCell]; exact h.f1⟩
def lenAt (w : World) (b : Nat) : Nat := match w.cell? ⟨b, 0, none⟩ with
  | some (.string s) => s.size
  | _ => 0
theorem Rd.lenAt {w : World} {b : Nat} {s : List UInt8} {bad : Bool} (h : Rd w b s bad) : lenAt w b = s.length := by
  unfold Proofs.YtmaaacaifpgpaaaGreatDoor.lenAt
  rw [h.c0]
  rfl
/-- How the document's Table stands at the head of its loop. -/
structure DT (w w' : World) (b bi : Nat) (st1 st : Rs) (v : Value) (L : List Pr) : Prop where
  r : RdS w' b st1
  i : RdS w' bi st
  o : OwnP w' (bi + 1) v L
  f : Alb w.heap.size w w' b
  s : bi + 1 ≤ w'.heap.size
theorem DT.alb {w w1 w2 : World} {b bi : Nat} {st1 st st' : Rs} {v : Value} {L : List Pr} (h : DT w w1 b bi st1 st v L) (hb : b < bi) (hw : w.heap.size ≤ bi) (ha : Alb w1.heap.size w1 w2 bi) (hr : RdS w2 bi st') : DT w w2 b bi st1 st' v L :=
  ⟨h.r.on (ha.block b (by have := h.s; omega) (by omega)), hr, h.o.alb ha (by omega), ⟨ha.os.trans h.f.os, ha.tape.trans h.f.tape, ha.output.trans h.f.output, Nat.le_trans h.f.size ha.size, fun k hk hk2 => (ha.block k (by have := h.s; omega) (by omega)).trans (h.f.block k hk hk2)⟩, Nat.le_trans h.s ha.size⟩
theorem DT.low {w w1 w2 : World} {b bi : Nat} {st1 st : Rs} {v v' : Value} {L L' : List Pr} (h : DT w w1 b bi st1 st v L) (hb : b < bi) (hw : w.heap.size ≤ bi) (ha : Below (bi + 1) w1 w2) (ho : OwnP w2 (bi + 1) v' L') : DT w w2 b bi st1 st v' L' :=
  ⟨h.r.below ha (by omega), h.i.below ha (by omega), ho, h.f.trans (.below (ha.mono (by omega))), Nat.le_trans h.s ha.size⟩
end Go.Proofs.YtmaaacaifpgpaaaGreatDoor

namespace Go.Proofs
open Go.Shelf
def Tryz.laysSort51_ren : Go.Shelf.Ren := ⟨fun | 6 => 70 | 15 => 82 | 14 => 81 | 28 => 97 | 29 => 98 | 20 => 89 | 21 => 90 | 22 => 91 | 23 => 92 | 24 => 93 | 25 => 94 | 26 => 95 | 27 => 96 | 46 => 99 | 47 => 100 | 48 => 101 | 49 => 102 | 50 => 103 | 57 => 104 | n => n, fun | 22 => 24 | 24 => 44 | 25 => 104 | 3 => 3 | 39 => 57 | 0 => 0 | 53 => 73 | 55 => 55 | 4 => 4 | 46 => 117 | 45 => 116 | 50 => 121 | 5 => 5 | 9 => 9 | 66 => 125 | 70 => 129 | 76 => 131 | 77 => 132 | n => n, fun | n => n⟩
theorem Tryz.laysSort51 : Go.Proofs.SlLaysF0.n6 Tryz.prog Tryz.laysSort51_ren := {
  mixed := by kernel_rfl
  f6 := ⟨Tryz.f70.name, by decide, Tryz.func70.trans (congrArg some (by kernel_rfl))⟩
  f14 := ⟨Tryz.f81.name, by decide, Tryz.func81.trans (congrArg some (by kernel_rfl))⟩
  f15 := Tryz.func82.trans (congrArg some (by kernel_rfl))
  f20 := ⟨Tryz.f89.name, by decide, Tryz.func89.trans (congrArg some (by kernel_rfl))⟩
  f21 := ⟨Tryz.f90.name, by decide, Tryz.func90.trans (congrArg some (by kernel_rfl))⟩
  f22 := ⟨Tryz.f91.name, by decide, Tryz.func91.trans (congrArg some (by kernel_rfl))⟩
  f23 := ⟨Tryz.f92.name, by decide, Tryz.func92.trans (congrArg some (by kernel_rfl))⟩
  f24 := ⟨Tryz.f93.name, by decide, Tryz.func93.trans (congrArg some (by kernel_rfl))⟩
  f25 := ⟨Tryz.f94.name, by decide, Tryz.func94.trans (congrArg some (by kernel_rfl))⟩
  f26 := ⟨Tryz.f95.name, by decide, Tryz.func95.trans (congrArg some (by kernel_rfl))⟩
  f27 := ⟨Tryz.f96.name, by decide, Tryz.func96.trans (congrArg some (by kernel_rfl))⟩
  f28 := Tryz.func97.trans (congrArg some (by kernel_rfl))
  f29 := Tryz.func98.trans (congrArg some (by kernel_rfl))
  f46 := ⟨Tryz.f99.name, by decide, Tryz.func99.trans (congrArg some (by kernel_rfl))⟩
  f47 := Tryz.func100.trans (congrArg some (by kernel_rfl))
  f48 := Tryz.func101.trans (congrArg some (by kernel_rfl))
  f49 := ⟨Tryz.f102.name, by decide, Tryz.func102.trans (congrArg some (by kernel_rfl))⟩
  f50 := ⟨Tryz.f103.name, by decide, Tryz.func103.trans (congrArg some (by kernel_rfl))⟩
  f57 := ⟨Tryz.f104.name, by decide, Tryz.func104.trans (congrArg some (by kernel_rfl))⟩
  t0 := Tryz.underlying0
  a0 := Tryz.isAgg0
  z0 := Tryz.sizeOf0
  v0 := Tryz.zeroValue0
  t3 := Tryz.underlying3
  a3 := Tryz.isAgg3
  z3 := Tryz.sizeOf3
  v3 := Tryz.zeroValue3
  t4 := Tryz.underlying4
  a4 := Tryz.isAgg4
  z4 := Tryz.sizeOf4
  v4 := Tryz.zeroValue4
  t5 := Tryz.underlying5
  a5 := Tryz.isAgg5
  z5 := Tryz.sizeOf5
  v5 := Tryz.zeroValue5
  t9 := Tryz.underlying9
  a9 := Tryz.isAgg9
  z9 := Tryz.sizeOf9
  v9 := Tryz.zeroValue9
  t22 := Tryz.underlying24
  a22 := Tryz.isAgg24
  z22 := Tryz.sizeOf24
  v22 := Tryz.zeroValue24
  t25 := Tryz.underlying104
  a25 := Tryz.isAgg104
  z25 := Tryz.sizeOf104
  v25 := Tryz.zeroValue104
  t39 := Tryz.underlying57
  a39 := Tryz.isAgg57
  z39 := Tryz.sizeOf57
  v39 := Tryz.zeroValue57
  t45 := Tryz.underlying116
  a45 := Tryz.isAgg116
  z45 := Tryz.sizeOf116
  v45 := Tryz.zeroValue116
  t46 := Tryz.underlying117
  a46 := Tryz.isAgg117
  z46 := Tryz.sizeOf117
  v46 := Tryz.zeroValue117
  t50 := Tryz.underlying121
  a50 := Tryz.isAgg121
  z50 := Tryz.sizeOf121
  v50 := Tryz.zeroValue121
  t53 := Tryz.underlying73
  a53 := Tryz.isAgg73
  z53 := Tryz.sizeOf73
  v53 := Tryz.zeroValue73
  t55 := Tryz.underlying55
  a55 := Tryz.isAgg55
  z55 := Tryz.sizeOf55
  v55 := Tryz.zeroValue55
  t66 := Tryz.underlying125
  a66 := Tryz.isAgg125
  z66 := Tryz.sizeOf125
  v66 := Tryz.zeroValue125
  t70 := Tryz.underlying129
  a70 := Tryz.isAgg129
  z70 := Tryz.sizeOf129
  v70 := Tryz.zeroValue129
  t76 := Tryz.underlying131
  a76 := Tryz.isAgg131
  z76 := Tryz.sizeOf131
  v76 := Tryz.zeroValue131
  t77 := Tryz.underlying132
  a77 := Tryz.isAgg132
  z77 := Tryz.sizeOf132
  v77 := Tryz.zeroValue132 }
end Go.Proofs

namespace Go.Proofs.YtmaaacaifpgpaaaGreatDoor
open Go.RowKit Go.Lib Go.Sort
set_option maxRecDepth 100000

theorem retI {a b : Int} (h : a = b) : Ending.returned (.int .i64 a) = Ending.returned (.int .i64 b) := by rw [h]
theorem retB {a b : Bool} (h : a = b) : Ending.returned (.bool a) = Ending.returned (.bool b) := by rw [h]
theorem isnanS (w : World) (a : ByteArray) : Calls Tryz.prog 83 #[.string a] w fun e w' => e = .returned (.bool false) ∧ w' = w := by
  go_enter Tryz.func83, Tryz.ntmps83
  go_wp2
  go_ret
  exact ⟨retB (by simp), rfl⟩
theorem cmpS_any (w : World) (a b : ByteArray) :
    Calls Tryz.prog 72 #[.string a, .string b] w fun e w' => e = .returned (.int .i64 (cmpL a.toList b.toList)) ∧ w' = w := by
  have h1 := isnanS w a
  have h2 := isnanS w b
  go_enter Tryz.func72, Tryz.ntmps72
  go_wp2_with fail
  refine h1.mono ?_
  rintro e w1 ⟨rfl, rfl⟩
  go_wp2_with fail
  refine h2.mono ?_
  rintro e w2 ⟨rfl, rfl⟩
  clear h1 h2
  go_wp2
  all_goals go_ret
  · rename_i h
    exact ⟨retI (cmpL_lt h).symm, rfl⟩
  · rename_i h _ _ h'
    exact ⟨retI (cmpL_gt h (by simp_all)).symm, rfl⟩
  · have e : a.toList = b.toList := by simp_all
    exact ⟨retI (by rw [e, cmpL_self]), rfl⟩
def cfN (x y : Pr) : Int := cmpL x.name.toList y.name.toList
theorem lt_less (x y : Pr) : ltOf cfN x y = lessP x y := by
  unfold ltOf cfN cmpL lessP
  cases h : Op.bytesLess x.name.toList y.name.toList with
  | true => simp
  | false => by_cases e : x.name.toList = y.name.toList <;> simp [e]
theorem swoN : Sort.SWO (ltOf cfN) where
  irrefl x := by rw [lt_less]; exact bl_irrefl _
  trans x y z h1 h2 := by rw [lt_less] at *; exact bl_trans _ _ _ h1 h2
  ntrans x y z h1 h2 := by
    rw [lt_less] at *
    unfold lessP at *
    cases e : Op.bytesLess x.name.toList z.name.toList with
    | false => rfl
    | true =>
      cases e2 : Op.bytesLess y.name.toList x.name.toList with
      | true =>
        have := bl_trans _ _ _ e2 e
        rw [h2] at this
        cases this
      | false =>
        have := bl_tri _ _ h1 e2
        rw [this, h2] at e
        cases e
set_option maxHeartbeats 1000000 in
theorem closN_any (W : World) (x y : Pr) : Calls Tryz.prog 71 #[.agg (prC x).toArray, .agg (prC y).toArray] W fun e w' => e = .returned (.int .i64 (cfN x y)) ∧ ∃ q os', w' = Sort.grow (W.drewN q) os' := by
  have HF : Hid (∀ o1 o2, ∃ q os', ((W.alloc o1).alloc o2) = Sort.grow (W.drewN q) os') := fun o1 o2 => ⟨0, #[o1, o2], by
    rw [Sort.alloc_eq_grow, Sort.alloc_eq_grow, Sort.grow_grow]
    rfl⟩
  have C := fun w => cmpS_any w x.name y.name
  have hE : cfN x y = cmpL x.name.toList y.name.toList := rfl
  rw [hE]
  clear hE
  generalize cmpL x.name.toList y.name.toList = c at *
  simp only [prC]
  go_enter Tryz.func71, Tryz.ntmps71
  go_wp2_with fail
  refine (C _).mono ?_
  rintro e w2 ⟨rfl, rfl⟩
  go_wp2
  go_ret
  exact ⟨rfl, HF.out _ _⟩
instance : Inhabited Pr := ⟨⟨⟨#[]⟩, ⟨0, 0, ⟨#[]⟩, 0⟩⟩⟩
theorem flat_cells (L : List Pr) : Sort.flatK prC 5 L.toArray = (cellsP L).toArray := by
  apply Array.ext
  · simp [cellsP_len]
  · intro t h1 h2
    have ht : t < L.length * 5 := by simpa [cellsP_len] using h2
    have h3 := Sort.get_flatK prC 5 L.toArray t (by simpa using ht)
    rw [getElem!_pos _ t h1] at h3
    rw [h3]
    have hi : t / 5 < L.length := by omega
    have h4 := cellsP_at L (t / 5) hi (t % 5) (Nat.mod_lt _ (by omega))
    rw [show t / 5 * 5 + t % 5 = t by omega] at h4
    have h5 : (cellsP L)[t]? = some ((cellsP L)[t]'(by rw [cellsP_len]; exact ht)) := List.getElem?_eq_getElem _
    rw [h5] at h4
    have h6 : L.toArray[t / 5]! = L[t / 5] := by rw [getElem!_pos _ _ (by simpa using hi)]; simp
    rw [h6]
    have h7 : t % 5 < (prC L[t / 5]).length := by simp [prC]; omega
    rw [getElem!_pos (prC L[t / 5]) (t % 5) h7]
    rw [List.getElem?_eq_getElem h7] at h4
    injection h4 with h4
    simp [h4]
theorem put_row (w : World) (q b t : Nat) (cur : Array Value) (h : w.heap[b]? = some (.cells cur t (0, 0))) (d : List Value) (hs : d.length ≤ cur.size) :
    ∃ cur' : Array Value, (putRow (id : Value → Value) (Sort.ahead w q) b 0 d.toArray).heap[b]? = some (.cells cur' t (0, 0)) ∧ cur'.size = cur.size ∧ cur'.toList.take d.length = d ∧ (∀ k, k ≠ b → (putRow (id : Value → Value) (Sort.ahead w q) b 0 d.toArray).heap[k]? = w.heap[k]?) ∧ (putRow (id : Value → Value) (Sort.ahead w q) b 0 d.toArray).heap.size = w.heap.size ∧
      (putRow (id : Value → Value) (Sort.ahead w q) b 0 d.toArray).os = w.os ∧ (putRow (id : Value → Value) (Sort.ahead w q) b 0 d.toArray).tape = w.tape ∧ (putRow (id : Value → Value) (Sort.ahead w q) b 0 d.toArray).output = w.output := by
  refine ⟨putCells id 0 d.toArray cur, ?_, ?_, ?_, ?_, ?_, rfl, rfl, rfl⟩
  · simp only [putRow, mapBlock, Array.getElem?_modify, if_pos, Sort.ahead, h]
    rfl
  · simp [putCells]
  · apply List.ext_getElem?
    intro j
    by_cases hj : j < d.length
    · rw [List.getElem?_take_of_lt hj]
      have hjc : j < cur.size := by omega
      simp [putCells, hj, hjc]
    · rw [List.getElem?_eq_none (by simp; omega), List.getElem?_eq_none (by omega)]
  · intro k hk
    simp only [putRow, mapBlock, Array.getElem?_modify, Sort.ahead]
    rw [if_neg (fun e => hk e.symm)]
  · simp [putRow, mapBlock, Sort.ahead]
theorem isAgg60 : ∀ w, (isAgg 44).run Tryz.prog w = .ok true w := Tryz.isAgg44
theorem sizeOf60 : ∀ w, (Go.sizeOf 44).run Tryz.prog w = .ok 5 w := Tryz.sizeOf44
/-- Nothing is kept by the call but what its list holds. -/
theorem sort_any (w : World) (B : Nat) (v : Value) (L : List Pr) (h : OwnP w B v L) (hl : L.length ≤ 64) :
    Calls Tryz.prog 70 #[v, .func (.func 71) #[] #[]] w fun e w' => e = .returned (.tuple #[]) ∧ ∃ L' : List Pr, L'.Perm L ∧ L'.Pairwise (fun x y => lessP y x = false) ∧ OwnP w' B v L' ∧ Below B w w' ∧ (∀ (k : Nat) (cs : Array Value) (t : TypeId) (fr : Nat × Nat), t ≠ 44 → w.heap[k]? = some (Obj.cells cs t fr) → w'.heap[k]? = some (Obj.cells cs t fr)) := by
  obtain ⟨hl2, ⟨rfl, h0⟩ | ⟨g, cap, cur, rfl, hB, hg, hnc, hcm, hcs, hct⟩⟩ := h
  · have hL : L = [] := List.eq_nil_of_length_eq_zero h0
    subst hL
    refine (AnyF.slices_SortFunc_none Tryz.laysSort51 none 0 (.func (.func 71) #[] #[]) w).mono ?_
    rintro e w' ⟨rfl, rfl⟩
    exact ⟨rfl, [], List.Perm.refl _, List.Pairwise.nil, ⟨hl2, .inl ⟨rfl, rfl⟩⟩, Below.refl _ _, fun _ _ _ _ _ h => h⟩
  · have hH : Sort.HoldsK prC 5 w g 0 L.toArray := by
      unfold Sort.HoldsK
      rw [flat_cells]
      intro j hj
      have hj' : j < (cellsP L).length := by simpa using hj
      unfold World.cell? World.frozen?
      rw [hg]
      have hjc : j < cur.size := by rw [cellsP_len] at hj'; omega
      have hcj : cur.toList[j]? = some (cellsP L)[j] := by
        rw [← List.getElem?_take_of_lt (show j < L.length * 5 by rw [cellsP_len] at hj'; exact hj'), hct, List.getElem?_eq_getElem hj']
      refine ⟨?_, by simp⟩
      rw [getElem!_pos (cellsP L).toArray j hj]
      simpa using hcj
    have hgl := (Array.getElem?_eq_some_iff.1 hg).1
    have hc := AnyQ.slices_SortFunc Tryz.laysSort51 5 isAgg60 sizeOf60 prC (fun _ => rfl) (fun x u hu => by simp [prC] at hu; rcases hu with rfl | rfl | rfl | rfl | rfl <;> rfl) cfN swoN 71 #[] g 0 cap L.toArray w (enters_of Tryz.func71 (by kernel_rfl) rfl) (fun m os dk _ x y => closN_any _ x y) hH hgl (by simp; omega)
    simp only [List.size_toArray] at hc
    refine hc.mono ?_
    rintro e w' ⟨rfl, d', n, os, hp, hs, rfl⟩
    obtain ⟨L', rfl⟩ : ∃ L' : List Pr, d' = L'.toArray := ⟨d'.toList, by simp⟩
    have hlen : L'.length = L.length := by simpa using hp.1
    have hperm : L'.Perm L := by
      have := hp.2.2
      simp only [List.extract_toArray, List.extract_eq_take_drop, List.drop_zero, Nat.sub_zero, List.toList_toArray] at this
      rw [List.take_length, ← hlen, List.take_length] at this
      exact this
    obtain ⟨cur', h1, h2, h3, h4, h5, h6, h7, h8⟩ := put_row w n g 44 cur hg (cellsP L') (by rw [cellsP_len, hlen]; omega)
    have hgrow : ∀ b, b < w.heap.size → (Sort.grow (Sort.putRow id (Sort.ahead w n) g 0 (cellsP L').toArray) os).heap[b]? = (Sort.putRow id (Sort.ahead w n) g 0 (cellsP L').toArray).heap[b]? := fun b hb => by
      unfold Sort.grow
      rw [Array.getElem?_append_left (by rw [h5]; exact hb)]
    have hW : sortWorldK prC 5 w g 0 n L'.toArray os = Sort.grow (Sort.putRow id (Sort.ahead w n) g 0 (cellsP L').toArray) os := by
      unfold sortWorldK Sort.putRowK
      rw [flat_cells]
    rw [hW]
    refine ⟨rfl, L', hperm, List.pairwise_iff_getElem.2 fun i j hi hj hij => ?_, ?_, ?_, ?_⟩
    · have := hs i j (Nat.zero_le _) hij (by rw [← hlen]; exact hj)
      rw [lt_less, getElem!_pos _ _ (by simpa using hj), getElem!_pos _ _ (by simp; omega)] at this
      simpa using this
    · refine ⟨by rw [cellsP_len], .inr ⟨g, cap, cur', by rw [hlen], hB, (hgrow g hgl).trans h1, by omega, hcm, by omega, ?_⟩⟩
      rw [cellsP_len] at h3
      rw [h3]
    · refine ⟨h6, h7, h8, ?_, fun b hb => ?_⟩
      · unfold Sort.grow
        simp only [Array.size_append]
        omega
      · by_cases hbw : b < w.heap.size
        · rw [hgrow b hbw, h4 b (by omega)]
        · omega
    · intro k cs t fr ht hk
      have hkl := (Array.getElem?_eq_some_iff.1 hk).1
      rw [hgrow k hkl, h4 k (fun e => ?_)]
      · exact hk
      · subst e
        rw [hg] at hk
        injection hk with hk
        injection hk with _ hk _
        exact ht hk.symm
end Go.Proofs.YtmaaacaifpgpaaaGreatDoor

namespace Go.Proofs.YtmaaacaifpgpaaaGreatDoor
open Go.RowKit Go.Lib
set_option maxRecDepth 100000
set_option linter.unusedSimpArgs false

theorem Cr.same {w w' : World} {b : Nat} {s : List UInt8} (h : Cr w b s) (hb : w'.heap[b]? = w.heap[b]?) : Cr w' b s := by
  refine ⟨?_, ?_⟩
  · have := h.c0; unfold World.cell? at this ⊢; simp only [hb]; exact this
  · have := h.f0; unfold World.frozen? at this ⊢; simp only [hb]; exact this
theorem Cr.lenAt {w : World} {b : Nat} {s : List UInt8} (h : Cr w b s) : lenAt w b = s.length := by
  unfold Proofs.YtmaaacaifpgpaaaGreatDoor.lenAt
  rw [h.c0]
  rfl
theorem Cr.new (w : World) (s : List UInt8) (t : TypeId) : Cr (w.alloc (.cells #[str s] t)) w.heap.size s :=
  ⟨by simp [World.cell?_alloc_new], by simp⟩
/-- How the program's table stands at the head of its loop. -/
structure CT (w w' : World) (b bi : Nat) (r s : List UInt8) (v : Value) (L : List Pr) : Prop where
  r : Cr w' b r
  i : Cr w' bi s
  o : OwnP w' (bi + 1) v L
  f : Alb w.heap.size w w' b
  s : bi + 1 ≤ w'.heap.size
theorem CT.alb {w w1 w2 : World} {b bi : Nat} {r s s' : List UInt8} {v : Value} {L : List Pr} (h : CT w w1 b bi r s v L) (hb : b < bi) (hw : w.heap.size ≤ bi) (ha : Alb w1.heap.size w1 w2 bi) (hr : Cr w2 bi s') : CT w w2 b bi r s' v L :=
  ⟨h.r.same (ha.block b (by have := h.s; omega) (by omega)), hr, h.o.alb ha (by omega), ⟨ha.os.trans h.f.os, ha.tape.trans h.f.tape, ha.output.trans h.f.output, Nat.le_trans h.f.size ha.size, fun k hk hk2 => (ha.block k (by have := h.s; omega) (by omega)).trans (h.f.block k hk hk2)⟩, Nat.le_trans h.s ha.size⟩
theorem CT.fr {w w1 w2 : World} {b bi : Nat} {r s : List UInt8} {v : Value} {L : List Pr} (h : CT w w1 b bi r s v L) (hw : w.heap.size ≤ bi) (ha : Alb w1.heap.size w1 w2 bi) : Alb w.heap.size w w2 b :=
  ⟨ha.os.trans h.f.os, ha.tape.trans h.f.tape, ha.output.trans h.f.output, Nat.le_trans h.f.size ha.size, fun k hk hk2 => (ha.block k (by have := h.s; omega) (by omega)).trans (h.f.block k hk hk2)⟩
theorem CT.low {w w1 w2 : World} {b bi : Nat} {r s : List UInt8} {v v' : Value} {L L' : List Pr} (h : CT w w1 b bi r s v L) (hb : b < bi) (hw : w.heap.size ≤ bi) (ha : Below (bi + 1) w1 w2) (ho : OwnP w2 (bi + 1) v' L') : CT w w2 b bi r s v' L' :=
  ⟨h.r.on ha (by omega), h.i.on ha (by omega), ho, h.f.trans (.below (ha.mono (by omega))), Nat.le_trans h.s ha.size⟩
theorem fldC_nil {k : Nat} {acc : List Pr} : fldC k [] acc = some acc := by
  cases k <;> simp [fldC]
theorem fldC_step {k : Nat} {s : List UInt8} {acc : List Pr} (hs : s ≠ []) (hk : s.length ≤ k) :
    (16 ≤ acc.length → fldC k s acc = none) ∧ (acc.length < 16 → (cfield s = none → fldC k s acc = none) ∧ (∀ p r, cfield s = some (p, r) → fldC k s acc = fldC (k - 1) r (acc ++ [p]) ∧ r.length < s.length)) := by
  cases k with
  | zero => exact absurd (List.length_eq_zero_iff.1 (Nat.le_zero.1 hk)) hs
  | succ k =>
    have e : fldC (k + 1) s acc = if s = [] then some acc else if 16 ≤ acc.length then none else match cfield s with
        | none => none
        | some (p, r) => fldC k r (acc ++ [p]) := rfl
    rw [e, if_neg hs]
    refine ⟨fun h => by rw [if_pos h], fun h => ?_⟩
    rw [if_neg (by omega)]
    refine ⟨fun hc => by rw [hc], fun p r hc => ?_⟩
    rw [hc]
    exact ⟨by simp only [Nat.add_sub_cancel], cfield_left hs hc⟩
theorem ctab_none {s t r : List UInt8} (h4 : 4 ≤ s.length) (hc : cutP (s.drop 4) (numL (s.take 4)) = some (t, r)) (ho : okO (tabR t.length (t, false) []) = false) : ctab s = none := by
  unfold ctab
  rw [if_neg (by omega), hc]
  simp only
  unfold tabO
  rw [ho]
  rfl
theorem ctab_some {s t r : List UInt8} {M : List Pr} (h4 : 4 ≤ s.length) (hc : cutP (s.drop 4) (numL (s.take 4)) = some (t, r)) (ho : tabR t.length (t, false) [] = (M, false)) (hv : validL M = true) : ctab s = some (M, r) := by
  unfold ctab
  rw [if_neg (by omega), hc]
  simp only
  unfold tabO
  rw [ho, if_pos (by unfold okO; simp [hv])]
  rfl
set_option maxHeartbeats 4000000 in
theorem ctable_any (w : World) (b : Nat) (s : List UInt8) (hc : Cr w b s) (hb : b < w.heap.size) (hs : s.length ≤ 140737488355328) :
    Calls Tryz.prog 58 #[.pointer (some ⟨b, 0, none⟩)] w fun e w' =>
      Alb w.heap.size w w' b ∧ ((∃ v L r, ctab s = some (L, r) ∧ e = .returned v ∧ OwnP w' w.heap.size v L ∧ Cr w' b r) ∨ (ctab s = none ∧ e = .panicked (gup 11))) := by
  have N := cnum_any w b 4 s hc hb hs (by omega)
  obtain ⟨gu, hg⟩ : ∃ gu, gup 11 = gu := ⟨_, rfl⟩
  have I := fun w => insist_no w 11
  have CF := fun w b s h1 h2 h3 => cfield_any w b s h1 h2 h3
  rw [hg] at N I CF ⊢
  have HS : Hid (s.length ≤ 140737488355328) := hs
  clear hc hs
  go_enter Tryz.func58, Tryz.ntmps58
  go_wp2_with fail
  refine N.mono ?_
  rintro e w1 ⟨hA, ⟨h4, rfl, hc⟩ | ⟨h4, rfl, -⟩⟩
  rotate_left
  · exact ⟨rfl, hA, .inr ⟨by unfold ctab; rw [if_pos (by omega)], rfl⟩⟩
  have C := cut_any w1 b (numL (s.take 4)) (s.drop 4) hc (by have := HS.out; rw [List.length_drop]; omega)
  rw [hg] at C
  have HX : Hid (cutP (s.drop 4) (numL (s.take 4)) = if numL (s.take 4) ≤ (s.drop 4).length then some ((s.drop 4).take (numL (s.take 4)), (s.drop 4).drop (numL (s.take 4))) else none) := rfl
  have HN : Hid (∀ t r, cutP (s.drop 4) (numL (s.take 4)) = some (t, r) → okO (tabR t.length (t, false) []) = false → ctab s = none) := fun t r => ctab_none h4
  have HY : Hid (∀ t r M, cutP (s.drop 4) (numL (s.take 4)) = some (t, r) → tabR t.length (t, false) [] = (M, false) → validL M = true → ctab s = some (M, r)) := fun t r M => ctab_some h4
  have HZ : Hid (cutP (s.drop 4) (numL (s.take 4)) = none → ctab s = none) := fun h => by show _ = _; unfold ctab; rw [if_neg (by omega), h]
  have HL : Hid ((s.drop 4).length ≤ 140737488355328) := by have := HS.out; show _ ≤ _; rw [List.length_drop]; omega
  clear N h4 hg
  generalize cutP (s.drop 4) (numL (s.take 4)) = cp at *
  generalize numL (s.take 4) = n at *
  generalize s.drop 4 = s4 at *
  go_wp2_with fail
  refine C.mono ?_
  rintro e w2 ⟨b2, ⟨h2, rfl, hc2⟩ | ⟨h2, rfl, -⟩⟩
  rotate_left
  · exact ⟨rfl, hA.trans (.but b2), .inr ⟨HZ.out (by rw [HX.out, if_neg (by omega)]), rfl⟩⟩
  have hcp : cp = some (s4.take n, s4.drop n) := by rw [HX.out, if_pos h2]
  have ht : (s4.take n).length ≤ 140737488355328 := by have := HL.out; rw [List.length_take]; omega
  have HN := HN.out _ _ hcp
  have HY := fun M => HY.out _ _ M hcp
  have SAME := tab_same (s4.take n).length (s4.take n) [] [] (Nat.le_refl _) (List.Perm.refl _) List.Pairwise.nil (by simp)
  clear C HX HZ hcp h2 HL HS hc
  generalize s4.take n = t at *
  generalize s4.drop n = r at *
  have HSAME : Hid ((fldC t.length t [] = none → okO (tabR t.length (t, false) []) = false) ∧ (∀ A M, fldC t.length t [] = some A → M.Perm A → M.Pairwise (fun x y => lessP y x = false) →
      (validL M = true → tabR t.length (t, false) [] = (M, false)) ∧ (validL M = false → okO (tabR t.length (t, false) []) = false))) := SAME
  have HF0 : ∃ F, fldC t.length t [] = F := ⟨_, rfl⟩
  obtain ⟨F, hF⟩ := HF0
  have HEND : Hid ((F = none → ctab s = none) ∧ (∀ A M, F = some A → M.Perm A → M.Pairwise (fun x y => lessP y x = false) → (validL M = true → ctab s = some (M, r)) ∧ (validL M = false → ctab s = none))) := by
    refine ⟨fun h => HN (HSAME.out.1 (by rw [hF]; exact h)), fun A M h h2 h3 => ?_⟩
    have := HSAME.out.2 A M (by rw [hF]; exact h) h2 h3
    exact ⟨fun hv => HY M (this.1 hv) hv, fun hv => HN (this.2 hv)⟩
  have HK : ∃ k, t.length = k := ⟨_, rfl⟩
  obtain ⟨k0, hk0⟩ := HK
  have HF : Hid (fldC k0 t [] = F ∧ t.length ≤ k0) := ⟨by rw [← hk0]; exact hF, by omega⟩
  obtain ⟨bi, hbi⟩ : ∃ bi, w2.heap.size = bi := ⟨_, rfl⟩
  have hwb : w.heap.size ≤ bi := by have := hA.size; have := b2.size; omega
  have hD : CT w (w2.alloc (.cells #[str t] 78)) b bi r t (.slice none 0 0) [] := by
    refine ⟨hc2.on (below_new w2 _) (by omega), ?_, World.ownsRow_nil _ _ _ _, (hA.trans (.but b2)).trans (.below ((below_new w2 _).mono (by omega))), by simp; omega⟩
    have := Cr.new w2 t 78
    rw [hbi] at this
    exact this
  have hbb : b < bi := by omega
  clear SAME HSAME hF HN HY hk0 hA b2 hc2
  go_wp2_with fail
  clear hbi
  generalize (w2.alloc (.cells #[str t] 78)) = wA at *
  go_loopw [4] (fun v wr => ∃ k s' acc, CT w wr b bi r s' v acc ∧ Hid (fldC k s' acc = F ∧ s'.length ≤ k) ∧ acc.length ≤ 16 ∧ s'.length ≤ 140737488355328) (fun _ wr => lenAt wr bi)
  case atStart => exact ⟨k0, t, [], hD, HF, by simp, ht⟩
  case round =>
    clear hD HF ht
    obtain ⟨k, s', acc, hd, hf, h16, hl'⟩ := hrel
    have c0 := hd.i.c0
    by_cases hs : s' = []
    · subst hs
      have hFs : Hid (F = some acc) := by show _ = _; rw [← hf.out.1, fldC_nil]
      have SO := sort_any wr (bi + 1) u4 acc hd.o (by omega)
      go_wp2_with fail
      refine SO.mono ?_
      rintro e w4 ⟨rfl, M, hperm, hsort, hoM, bM, nM⟩
      have hE := HEND.out.2 acc M hFs.out hperm hsort
      have VV := valid7 w4 u4 M hoM.rd
      have d4 := hd.low hbb hwb bM hoM
      clear SO hd bM nM hsort hperm hFs c0 hf
      go_wp2_with fail
      refine VV.mono ?_
      rintro e w5 ⟨rfl, b5⟩
      have d5 := d4.low hbb hwb (b5.mono d4.s) (d4.o.up b5)
      clear VV d4 b5 hoM
      cases hv : validL M with
      | true =>
        have hE := hE.1 hv
        go_wp2_with (first | (go_at_call 33; refine (insist_ok _ _).mono ?_; rintro e w' ⟨rfl, rfl⟩))
        go_ret
        exact ⟨d5.f, .inl ⟨_, _, _, hE, rfl, d5.o.low (by omega), d5.r⟩⟩
      | false =>
        have hE := hE.2 hv
        go_wp2_with fail
        refine (I _).mono ?_
        rintro e w6 ⟨rfl, rfl⟩
        exact ⟨rfl, d5.f, .inr ⟨hE, rfl⟩⟩
    · have hne : s'.isEmpty = false := by cases s' <;> simp at *
      obtain ⟨ad, cap, hu4⟩ := hd.o.rd.shape
      have hST := fldC_step (acc := acc) hs hf.out.2
      have HO : OwnP wr (bi + 1) u4 acc := hd.o
      by_cases hm : 16 ≤ acc.length
      · have hE := HEND.out.1 (by rw [← hf.out.1]; exact hST.1 hm)
        have hmz : decide ((acc.length : Int) < 16) = false := by simp; omega
        subst hu4
        go_wp2_with fail
        refine (I _).mono ?_
        rintro e w6 ⟨rfl, rfl⟩
        exact ⟨rfl, hd.f, .inr ⟨hE, rfl⟩⟩
      · have hST := hST.2 (by omega)
        have hmz : decide ((acc.length : Int) < 16) = true := by simp; omega
        have FI := CF wr bi s' hd.i hd.s hl'
        have HST : Hid ((cfield s' = none → ctab s = none) ∧ ∀ p r', cfield s' = some (p, r') → fldC (k - 1) r' (acc ++ [p]) = F ∧ r'.length < s'.length ∧ s'.length ≤ k) := ⟨fun h => HEND.out.1 (by rw [← hf.out.1]; exact hST.1 h), fun p r' h => by
          obtain ⟨h1, h2⟩ := hST.2 p r' h
          exact ⟨by rw [← h1]; exact hf.out.1, h2, hf.out.2⟩⟩
        have hlen := hd.i.lenAt
        clear hST hf
        subst hu4
        go_wp2_with (first | (go_at_call 33; refine (insist_ok _ _).mono ?_; rintro e w' ⟨rfl, rfl⟩))
        refine FI.mono ?_
        rintro e w4 ⟨a4, ⟨p, r', hcf, rfl, i4⟩ | ⟨hcf, rfl⟩⟩
        · obtain ⟨hF1, hF2, hF3⟩ := HST.out.2 p r' hcf
          have HF1 : Hid (fldC (k - 1) r' (acc ++ [p]) = F ∧ r'.length ≤ k - 1) := ⟨hF1, by omega⟩
          have d4 := hd.alb hbb hwb a4 i4
          clear FI hd c0 HO HST hcf hF1 hF3 a4 i4
          unfold Pr.v
          go_wp2_with (at_builtin; refine wpl_appP rfl (.tmp 17) (.tmp 19) rfl (bi + 1) _ acc p w4 rfl d4.o rfl (by omega) d4.s ?_)
          intro v9 w9 o9 b9 _
          have d9 := d4.low hbb hwb b9 o9
          clear d4
          go_wp2_with fail
          go_roundw
          case rel => exact ⟨k - 1, r', acc ++ [p], d9, HF1, by rw [List.length_append, List.length_singleton]; omega, by omega⟩
          case measure =>
            rw [d9.i.lenAt, hlen]
            exact hF2
        · exact ⟨rfl, hd.fr hwb a4, .inr ⟨HST.out.1 hcf, rfl⟩⟩
end Go.Proofs.YtmaaacaifpgpaaaGreatDoor

namespace Go.Proofs.YtmaaacaifpgpaaaGreatDoor
open Go.RowKit Go.Lib
set_option maxRecDepth 100000
set_option linter.unusedSimpArgs false

/-- What is asked of what the loop leaves. -/
structure TR (R : List Pr × Bool) (k : Nat) (s : List UInt8) (L : List Pr) : Prop where
  h : tabR k (s, false) L = R
  l : s.length ≤ k
  n : L.length ≤ 17
  f : ∀ q ∈ L, Fits q
theorem out_ok {out : List Pr × Rs} {t : List UInt8} {st1 : Rs} {R : List Pr × Bool} {L : List Pr} (HO : out = match tabO t with
    | none => ([], (st1.1, true))
    | some L => (L, st1)) (HT : tabO t = if okO R = true then some R.1 else none) (hR : R = (L, false)) (hv : validL L = true) : out = (L, st1) := by
  subst hR
  have e : okO (L, false) = true := by unfold okO; simp [hv]
  rw [HO, HT, if_pos e]
theorem out_bad {out : List Pr × Rs} {t : List UInt8} {st1 : Rs} {R : List Pr × Bool} (HO : out = match tabO t with
    | none => ([], (st1.1, true))
    | some L => (L, st1)) (HT : tabO t = if okO R = true then some R.1 else none) (hR : okO R = false) : out = ([], (st1.1, true)) := by
  rw [HO, HT, hR]
  rfl
theorem tab_nil {R : List Pr × Bool} {k : Nat} {L : List Pr} (h : tabR k ([], false) L = R) : R = (L, false) := by
  cases k <;> simpa [tabR] using h.symm
theorem tab_step {R : List Pr × Bool} {k : Nat} {s : List UInt8} {L : List Pr} (h : TR R k s L) (hs : s ≠ []) :
    ((fldR (s, false)).2.2 = true ∨ hasN L (fldR (s, false)).1.name = true → R = (L, true)) ∧ ((fldR (s, false)).2.2 = false → hasN L (fldR (s, false)).1.name = false → (16 < L.length → R = (L, false)) ∧ (L.length ≤ 16 → (fldR (s, false)).2.1.length < s.length ∧ TR R (k - 1) (fldR (s, false)).2.1 (insP (fldR (s, false)).1 L))) := by
  obtain ⟨h, hl, hn, hf⟩ := h
  have hlt := fldR_left hs
  have hff := fldR_fits (s, false)
  cases k with
  | zero => exact absurd (List.length_eq_zero_iff.1 (Nat.le_zero.1 hl)) hs
  | succ k =>
    unfold tabR at h
    rw [if_neg (by simp [hs])] at h
    refine ⟨fun hb => ?_, fun h1 h2 => ⟨fun h3 => ?_, fun h3 => ⟨hlt, ?_⟩⟩⟩
    · rw [if_pos hb] at h
      exact h.symm
    · rw [if_neg (by simp [h1, h2]), if_pos h3] at h
      exact h.symm
    · rw [if_neg (by simp [h1, h2]), if_neg (by omega)] at h
      refine ⟨?_, by simp only [Nat.add_sub_cancel]; omega, by rw [insP_len]; omega, fun q hq => ?_⟩
      · have e : ((fldR (s, false)).2.1, false) = (fldR (s, false)).2 := Prod.ext rfl h1.symm
        rw [Nat.add_sub_cancel, e]
        exact h
      · rcases List.mem_cons.1 ((insP_perm _ L).mem_iff.1 hq) with rfl | hq
        · exact hff
        · exact hf q hq
theorem OwnP.albB {w w' : World} {B H b : Nat} {v : Value} {l : List Pr} (h : OwnP w B v l) (hv : ∀ k, v.ownBlock = some k → k < H) (hb : Alb H w w' b) (hB : b < B) : OwnP w' B v l := by
  obtain ⟨hl, h⟩ := h
  refine ⟨hl, ?_⟩
  rcases h with h | ⟨g, cap, cur, rfl, hg, hc, h⟩
  · exact .inl h
  · exact .inr ⟨g, cap, cur, rfl, hg, by rw [hb.block g (hv g rfl) (by omega)]; exact hc, h⟩
/-- How the document's Table stands while a field is laid into its place. -/
structure DP (w w' : World) (b bi pb : Nat) (st1 st : Rs) (v : Value) (L : List Pr) (p : Pr) : Prop where
  t : DT w w' b bi st1 st v L
  k : Blk w' pb (prA p) 44
  v : ∀ k, v.ownBlock = some k → k < pb + 1
theorem DP.alb {w w1 w2 : World} {b bi pb : Nat} {st1 st st' : Rs} {v : Value} {L : List Pr} {p : Pr} (h : DP w w1 b bi pb st1 st v L p) (hb : b < bi) (hw : w.heap.size ≤ bi) (hp : bi + 1 ≤ pb) (ha : Alb (pb + 1) w1 w2 bi) (hr : RdS w2 bi st') : DP w w2 b bi pb st1 st' v L p :=
  ⟨⟨h.t.r.on (ha.block b (by omega) (by omega)), hr, h.t.o.albB h.v ha (by omega), ⟨ha.os.trans h.t.f.os, ha.tape.trans h.t.f.tape, ha.output.trans h.t.f.output, Nat.le_trans h.t.f.size ha.size, fun k hk hk2 => (ha.block k (by omega) (by omega)).trans (h.t.f.block k hk hk2)⟩, Nat.le_trans h.t.s ha.size⟩, ⟨(ha.block pb (by omega) (by omega)).trans h.k.h⟩, h.v⟩
theorem DP.low {w w1 w2 : World} {b bi pb : Nat} {st1 st : Rs} {v : Value} {L : List Pr} {p : Pr} (h : DP w w1 b bi pb st1 st v L p) (hb : b < bi) (hw : w.heap.size ≤ bi) (hp : bi + 1 ≤ pb) (ha : Below (pb + 1) w1 w2) : DP w w2 b bi pb st1 st v L p :=
  h.alb hb hw hp (.below ha) (h.t.i.below ha (by omega))
theorem DP.alloc {w w1 : World} {b bi pb : Nat} {st1 st : Rs} {v : Value} {L : List Pr} {p : Pr} (h : DP w w1 b bi pb st1 st v L p) (hb : b < bi) (hw : w.heap.size ≤ bi) (hp : bi + 1 ≤ pb) (o : Obj) : DP w (w1.alloc o) b bi pb st1 st v L p :=
  h.low hb hw hp ((below_new w1 o).mono (by have := h.k.lt; omega))
set_option maxHeartbeats 4000000 in
theorem rtable_any (w : World) (b : Nat) (st : Rs) (hr : RdS w b st) (hb : b < w.heap.size) :
    Calls Tryz.prog 25 #[.pointer (some ⟨b, 0, none⟩)] w fun e w' => ∃ v, e = .returned v ∧ OwnP w' w.heap.size v (rtab st).1 ∧ RdS w' b (rtab st).2 ∧ Alb w.heap.size w w' b := by
  have T := longR_any w b st hr
  have HO : Hid (rtab st = match tabO (longR st).1 with
    | none => ([], ((longR st).2.1, true))
    | some L => (L, (longR st).2)) := rfl
  generalize rtab st = out at *
  generalize longR st = lr at *
  obtain ⟨t, st1⟩ := lr
  obtain ⟨bi, hbi⟩ : ∃ bi, w.heap.size = bi := ⟨_, rfl⟩
  obtain ⟨R, hR⟩ : ∃ R, tabR t.length (t, false) [] = R := ⟨_, rfl⟩
  have HR : TR R t.length t [] := ⟨hR, Nat.le_refl _, by simp, fun q hq => nomatch hq⟩
  have HT : Hid (tabO t = if okO R = true then some R.1 else none) := by show _ = _; unfold tabO; rw [hR]
  clear hr hR
  go_enter Tryz.func25, Tryz.ntmps25
  go_wp2_with fail
  refine T.mono ?_
  rintro e w1 ⟨rfl, h1, b1⟩
  clear T
  have hD : DT w (w1.alloc (.cells #[str t, .bool false] 61)) b bi st1 (t, false) (.slice none 0 0) [] := by
    have hs1 : w1.heap.size = bi := by rw [b1.size, hbi]
    refine ⟨Rd.below h1 (below_new w1 _) (by omega), ?_, World.ownsRow_nil _ _ _ _, (Alb.but b1).trans (.below (by rw [hbi, ← hs1]; exact below_new w1 _)), by simp; omega⟩
    have := Rd.new w1 t false 61
    rw [hs1] at this
    exact this
  have hs1 : w1.heap.size = bi := by rw [b1.size, hbi]
  have HB : Hid (w.heap.size = bi) := hbi
  clear h1 b1 hbi
  go_wp2_with fail
  generalize (w1.alloc (.cells #[str t, .bool false] 61)) = wA at *
  go_loopw [4] (fun v wr => ∃ k s L, DT w wr b bi st1 (s, false) v L ∧ TR R k s L) (fun _ wr => lenAt wr bi)
  case atStart => exact ⟨_, _, _, hD, HR⟩
  case round =>
    obtain ⟨k, s, L, hd, htr⟩ := hrel
    have c0 := hd.i.c0
    have c1 := hd.i.c1
    by_cases hs : s = []
    · subst hs
      have hRL := tab_nil htr.h
      have V := fun w (h : RdP w u4 L) => rvalid7 w u4 L h htr.f (by have := htr.n; omega)
      go_wp2_with fail
      refine (V _ hd.o.rd).mono ?_
      rintro e w9 ⟨rfl, b9⟩
      have hbw : b < wr.heap.size := by have := hd.s; have := HB.out; omega
      have r9 := hd.r.below b9 hbw
      have r1 := r9.c1
      have rf := r9.f1
      clear c0 c1
      cases hv : validL L with
      | true =>
        go_wp2_with fail
        go_ret
        rw [out_ok HO.out HT.out hRL hv]
        exact ⟨_, rfl, (hd.o.up b9).low (by have := HB.out; omega), r9, hd.f.trans (.below (b9.mono hd.f.size))⟩
      | false =>
        go_wp2_with fail
        go_ret
        rw [out_bad HO.out HT.out (no_okO (.inr (by rw [hRL]; exact hv)))]
        exact ⟨_, rfl, World.ownsRow_nil _ _ _ _, rd_set _ _ _ _ r9, (hd.f.trans (.below (b9.mono hd.f.size))).trans (.but (But.set _ _ _ _))⟩
    · have hne : s.isEmpty = false := by cases s <;> simp at *
      have hbw : b < wr.heap.size := by have := hd.s; have := HB.out; omega
      have hiw : bi < wr.heap.size := hd.s
      have hbi : b < bi := by have := HB.out; omega
      have hwb : w.heap.size ≤ bi := by have := HB.out; omega
      have S := shortR_any wr bi (s, false) hd.i
      have V := fun w h1 h2 => rvalue_any w bi (shortR (s, false)).2 h1 h2
      have STEP := tab_step htr hs
      have HF : Hid (fldR (s, false) = (⟨⟨(shortR (s, false)).1.toArray⟩, (vaR (shortR (s, false)).2).1⟩, (vaR (shortR (s, false)).2).2)) := rfl
      have HLn := htr.n
      have HFI : Hid (∀ q ∈ L, Fits q) := htr.f
      have HLen := hd.i.lenAt
      clear htr hD HR
      generalize shortR (s, false) = sr at *
      obtain ⟨nm, sa⟩ := sr
      generalize vaR sa = vr at *
      obtain ⟨va, sb⟩ := vr
      obtain ⟨p, hp⟩ : ∃ p : Pr, (⟨⟨nm.toArray⟩, va⟩ : Pr) = p := ⟨_, rfl⟩
      rw [HF.out, hp] at STEP
      clear HF
      have HSTEP : Hid ((sb.2 = true ∨ hasN L p.name = true → R = (L, true)) ∧ (sb.2 = false → hasN L p.name = false → (16 < L.length → R = (L, false)) ∧ (L.length ≤ 16 → sb.1.length < s.length ∧ TR R (k - 1) sb.1 (insP p L)))) := STEP
      have HP : Hid ((⟨⟨nm.toArray⟩, va⟩ : Pr) = p) := hp
      clear STEP hp
      go_wp2_with fail
      refine S.mono ?_
      rintro e w2 ⟨rfl, i2, f2⟩
      have d2 := hd.alb hbi hwb (.but f2) i2
      clear hd S c0 c1
      go_wp2_with fail
      have kP := Blk.new w2 #[Value.string { data := nm.toArray }, Value.int IntKind.i64 0, Value.int IntKind.i64 0, Value.string { data := #[] }, Value.float FloatKind.f64 0] 44
      have b3 := below_new w2 (.cells #[Value.string { data := nm.toArray }, Value.int IntKind.i64 0, Value.int IntKind.i64 0, Value.string { data := #[] }, Value.float FloatKind.f64 0] 44)
      obtain ⟨pb, hpb⟩ : ∃ pb, w2.heap.size = pb := ⟨_, rfl⟩
      have hpi : bi + 1 ≤ pb := by have := d2.s; omega
      have d3 := d2.low hbi hwb (b3.mono d2.s) (d2.o.up b3)
      rw [hpb] at kP
      have hOB2 : ∀ k, u4.ownBlock = some k → k < pb := fun k hk => by
        have := (World.ownsRow.lt d2.o k hk).2
        omega
      have hOB : ∀ k, u4.ownBlock = some k → k < pb + 1 := fun k hk => Nat.lt_succ_of_lt (hOB2 k hk)
      simp only [hpb]
      clear d2 i2 f2 b3 hpb hiw hbw
      generalize (w2.alloc (Obj.cells #[Value.string { data := nm.toArray }, Value.int IntKind.i64 0, Value.int IntKind.i64 0, Value.string { data := #[] }, Value.float FloatKind.f64 0] 44)) = w3 at *
      have V3 := V w3 (by have := d3.s; omega) d3.i
      clear V
      obtain ⟨vk, vn, vt, vr⟩ := va
      unfold Val.v at V3
      refine V3.mono ?_
      rintro e w4 ⟨rfl, i4, a4⟩
      have kP4 := kP.alb a4 (by omega)
      have d4 := d3.alb hbi hwb a4 i4
      clear V3 d3 kP i4 a4
      go_wp2_with (refine wpl_putAt rfl (.tmp 33) (.tmp 32) rfl pb 1 _ rfl rfl kP4 (by kernel_rfl) (by simp) (by simp [Value.oneCell']) ?_)
      intro w5 kP5 g5 s5
      have k5 : Blk w5 pb (prA p) 44 := by rw [← HP.out]; exact kP5
      have d5 : DP w w5 b bi pb st1 sb u4 L p := by
        have b5 : Below pb w4 w5 := (Below.refl pb w4).grown g5 (by have := kP4.lt; omega) (fun k hk => by injection hk with hk; omega)
        exact ⟨⟨d4.r.below b5 (by omega), d4.i.below b5 (by omega), d4.o.albB hOB2 (.below (b := bi) b5) (by omega), d4.f.trans (.below (b5.mono (by omega))), by have := d4.s; omega⟩, k5, hOB⟩
      clear k5 kP5 g5 s5 d4 kP4 HP hOB hOB2
      obtain ⟨n, hn⟩ : ∃ n, L.length = n := ⟨_, rfl⟩
      obtain ⟨ad, cap, hu4, hcells⟩ : ∃ ad cap, u4 = .slice ad n cap ∧ (0 < n → ∃ g o, ad = some ⟨g, o, none⟩ ∧ g < pb + 1 ∧ g ≠ bi ∧ ∀ i (h : i < L.length), PrAt w5 g (o + i * 5) L[i]) := by
        obtain ⟨hl, ho⟩ := d5.t.o
        rcases ho with ⟨rfl, h0⟩ | ⟨g, c, cur, rfl, hg, hc, hx⟩
        · exact ⟨none, 0, by rw [← hn, h0], fun h => by omega⟩
        · refine ⟨_, c, by rw [hn], fun _ => ⟨g, 0, rfl, d5.v g rfl, by omega, ?_⟩⟩
          rcases d5.t.o.rd with ⟨⟨a, c', e⟩, h0⟩ | ⟨b', o', c', e, _, hP⟩
          · subst h0
            exact fun i h => absurd h (by simp)
          · injection e with e1
            injection e1 with e1
            injection e1 with e1 e2
            subst e1
            rw [← e2] at hP
            exact hP
      subst hu4
      have HN : Hid (L.length = n) := hn
      have HC : Hid (0 < n → ∃ g o, ad = some ⟨g, o, none⟩ ∧ g < pb + 1 ∧ g ≠ bi ∧ ∀ i (h : i < L.length), PrAt w5 g (o + i * 5) L[i]) := hcells
      have HW5 : Hid (∀ W (g o : Nat) (p : Pr), Alb (pb + 1) w5 W bi → g < pb + 1 → g ≠ bi → PrAt w5 g o p → PrAt W g o p) := fun W g o p ha hg hg2 hP => by
        have key : ∀ j, W.cell? ⟨g, j, none⟩ = w5.cell? ⟨g, j, none⟩ := fun j => by unfold World.cell?; simp only [ha.block g hg hg2]
        unfold PrAt
        simp only [key]
        exact hP
      have h17 : n ≤ 17 := by omega
      clear hn hcells HLn
      go_wp2_with fail
      go_loopw [36] (fun i wr => ∃ j : Nat, j ≤ n ∧ i = .int .i64 j ∧ Alb (pb + 1) w5 wr bi ∧ DP w wr b bi pb st1 (sb.1, sb.2 || hasN (L.take j) p.name) (.slice ad n cap) L p) (fun i _ => n - (RowKit.intOf i).toNat)
      case atStart => exact ⟨0, Nat.zero_le _, rfl, Alb.refl _ _ _, by simpa [hasN] using d5⟩
      case round =>
        clear d5
        obtain ⟨j, hj, rfl, ha, d6⟩ := hrel
        by_cases hlt : j < n
        · have hjl : j < L.length := by have := HN.out; omega
          obtain ⟨g, o, rfl, hg, hgi, hP⟩ := HC.out (by omega)
          obtain ⟨c0, c1, c2, c3, c4⟩ := HW5.out _ g _ _ ha hg hgi (hP j hjl)
          have HH : Hid (hasN (L.take (j + 1)) p.name = (hasN (L.take j) p.name || L[j].name.toList == p.name.toList)) := hasN_snoc _ _ _ hjl
          clear hP
          generalize L[j] = x at *
          generalize hasN (L.take j) p.name = hs at *
          have hjz : (j : Int) < (n : Int) := by omega
          go_upto_region 9 with fail
          have d7 := d6.alloc hbi hwb hpi (.cells (prA x) 44)
          have a7 : Alb (pb + 1) w5 (wr.alloc (.cells (prA x) 44)) bi := ha.trans (.below ((below_new wr _).mono (by have := d6.k.lt; omega)))
          have kX := Blk.new wr (prA x) 44
          have e0 := kX.cell 0
          have e1 := d7.k.cell 0
          have f1 := d7.t.i.f1
          have f0 := d7.t.i.c1
          obtain ⟨xb, hxb⟩ : ∃ xb, wr.heap.size = xb := ⟨_, rfl⟩
          simp only [hxb, List.getElem?_toArray, List.getElem?_cons_zero] at e0 e1 ⊢
          clear kX hxb d6 ha c0 c1 c2 c3 c4
          have hP0 : ∀ W st', Alb (pb + 1) (wr.alloc (.cells (prA x) 44)) W bi → RdS W bi st' → DP w W b bi pb st1 st' (.slice (some ⟨g, o, none⟩) n cap) L p := fun W st' h1 h2 => d7.alb hbi hwb hpi h1 h2
          generalize (wr.alloc (.cells (prA x) 44)) = wx at *
          cases heq : (x.name.toList == p.name.toList) with
          | true =>
            go_wp2
            go_roundw
            case rel =>
              have h9 := rd_set wx bi _ _ d7.t.i
              refine ⟨j + 1, by omega, by go_num, a7.trans (.but (But.set _ _ _ _)), ?_⟩
              rw [HH.out, heq, Bool.or_true, Bool.or_true]
              exact hP0 _ _ (.but (But.set _ _ _ _)) h9
            case measure => simp [RowKit.intOf]; omega
          | false =>
            go_wp2
            go_roundw
            case rel =>
              refine ⟨j + 1, by omega, by go_num, a7, ?_⟩
              rw [HH.out, heq, Bool.or_false]
              exact d7
            case measure => simp [RowKit.intOf]; omega
        · have hjn : j = n := by omega
          subst hjn
          have hall : L.take j = L := by rw [← HN.out]; exact List.take_length
          rw [hall] at d6
          have c1 := d6.t.i.c1
          cases hbad : (sb.2 || hasN L p.name) with
          | true =>
            rw [hbad] at c1 d6
            have hRL := HSTEP.out.1 (by simpa using hbad)
            have r9 := d6.t.r
            have r1 := r9.c1
            have rf := r9.f1
            go_wp2_with fail
            go_ret
            rw [out_bad HO.out HT.out (no_okO (.inl (by rw [hRL])))]
            exact ⟨_, rfl, World.ownsRow_nil _ _ _ _, rd_set _ _ _ _ r9, d6.t.f.trans (.but (But.set _ _ _ _))⟩
          | false =>
            rw [hbad] at c1 d6
            simp only [Bool.or_eq_false_iff] at hbad
            have HS2 := HSTEP.out.2 hbad.1 hbad.2
            by_cases h16 : 16 < j
            · have hRL := HS2.1 (by rw [HN.out]; exact h16)
              have hv : validL L = false := no_many (by rw [HN.out]; exact h16)
              have VV := fun w (h : RdP w (.slice ad j cap) L) => rvalid7 w (.slice ad j cap) L h HFI.out (by have := HN.out; omega)
              rw [hv] at VV
              have h16z : (16 : Int) < (j : Int) := by omega
              go_wp2_with fail
              refine (VV _ d6.t.o.rd).mono ?_
              rintro e w9 ⟨rfl, b9⟩
              have hbw : b < wr.heap.size := by have := d6.t.s; omega
              have r9 := d6.t.r.below b9 hbw
              have r1 := r9.c1
              have rf := r9.f1
              clear c1
              go_wp2_with fail
              go_ret
              rw [out_bad HO.out HT.out (no_okO (.inr (by rw [hRL]; exact hv)))]
              exact ⟨_, rfl, World.ownsRow_nil _ _ _ _, rd_set _ _ _ _ r9, (d6.t.f.trans (.below (b9.mono d6.t.f.size))).trans (.but (But.set _ _ _ _))⟩
            · obtain ⟨hshort, hTR⟩ := HS2.2 (by rw [HN.out]; omega)
              have HTR : Hid (sb.1.length < s.length ∧ TR R (k - 1) sb.1 (insP p L)) := ⟨hshort, hTR⟩
              have h16z : ¬ ((16 : Int) < (j : Int)) := by omega
              clear HS2 hshort hTR HSTEP hall hlt
              have ha : Alb (pb + 1) w5 wr bi := by assumption
              have d7 : DP w wr b bi pb st1 (sb.1, false) (.slice ad j cap) L p := d6
              clear d6
              obtain ⟨wq, hwq⟩ : ∃ wq, wq = wr := ⟨_, rfl⟩
              rw [← hwq] at ha d7 c1 ⊢
              clear hwq
              go_wp2_with fail
              go_loopw [8, 9, 60] (fun m la i wr => ∃ q : Nat, q ≤ j ∧ i = .int .i64 q ∧ la = .bool (insT p (L.take q)).2 ∧ OwnP wr (pb + 1) m (insT p (L.take q)).1 ∧ Alb (pb + 1) w5 wr bi ∧ DP w wr b bi pb st1 (sb.1, false) (.slice ad j cap) L p) (fun _ _ i _ => j - (RowKit.intOf i).toNat)
              case atStart => exact ⟨0, Nat.zero_le _, rfl, rfl, World.ownsRow_nil _ _ _ _, ha, d7⟩
              case round =>
                clear ha d7 c1
                obtain ⟨q, hq, rfl, rfl, om, ha, d8⟩ := hrel
                have hsz : pb + 1 ≤ wr.heap.size := by have := d8.k.lt; omega
                have hml := insT_len p L q (by have := HN.out; omega)
                by_cases hlt : q < j
                · have hql : q < L.length := by have := HN.out; omega
                  obtain ⟨g, o, rfl, hg, hgi, hP⟩ := HC.out (by omega)
                  obtain ⟨c0, c1, c2, c3, c4⟩ := HW5.out _ g _ _ ha hg hgi (hP q hql)
                  have HH : Hid (insT p (L.take (q + 1)) = stepI p (insT p (L.take q)) L[q]) := insT_snoc _ _ _ hql
                  clear hP
                  generalize L[q] = x at *
                  generalize insT p (L.take q) = ms at *
                  obtain ⟨M, la⟩ := ms
                  have hqz : (q : Int) < (j : Int) := by omega
                  go_upto_region 18 with fail
                  have d9 := d8.alloc hbi hwb hpi (.cells (prA x) 44)
                  have o9 := om.up (below_new wr (.cells (prA x) 44))
                  have a9 : Alb (pb + 1) w5 (wr.alloc (.cells (prA x) 44)) bi := ha.trans (.below ((below_new wr _).mono hsz))
                  have kX := Blk.new wr (prA x) 44
                  have hne : u8.ownBlock ≠ some wr.heap.size := fun e => by
                    have := (World.ownsRow.lt om _ e).2
                    omega
                  have hsx : pb + 1 ≤ (wr.alloc (.cells (prA x) 44)).heap.size := by simp; omega
                  have hlx : wr.heap.size < (wr.alloc (.cells (prA x) 44)).heap.size := by simp
                  obtain ⟨xb, hxb⟩ : ∃ xb, wr.heap.size = xb := ⟨_, rfl⟩
                  rw [hxb] at kX hne hlx
                  simp only [hxb]
                  have hP0 : ∀ W, Below (pb + 1) (wr.alloc (.cells (prA x) 44)) W → Alb (pb + 1) w5 W bi ∧ DP w W b bi pb st1 (sb.1, false) (.slice (some ⟨g, o, none⟩) j cap) L p := fun W h => ⟨a9.trans (.below h), d9.low hbi hwb hpi h⟩
                  have e0 := kX.cell 0
                  have e1 := kX.cell 1
                  have e2 := kX.cell 2
                  have e3 := kX.cell 3
                  have e4 := kX.cell 4
                  have p0 := d9.k.cell 0
                  have p1 := d9.k.cell 1
                  have p2 := d9.k.cell 2
                  have p3 := d9.k.cell 3
                  have p4 := d9.k.cell 4
                  simp only [List.getElem?_toArray, List.getElem?_cons_zero, List.getElem?_cons_succ] at e0 e1 e2 e3 e4 p0 p1 p2 p3 p4
                  have hml : M.length ≤ 40 := by
                    have : M.length ≤ 2 * q := hml
                    omega
                  have HM : Hid (stepI p (M, la) x = if la = false ∧ lessP p x = true then (M ++ [p] ++ [x], true) else (M ++ [x], la)) := rfl
                  have HK : Hid (Blk (wr.alloc (.cells (prA x) 44)) xb (prA x) 44) := kX
                  clear c0 c1 c2 c3 c4 d8 om ha hsz kX hxb d9 a9
                  generalize (wr.alloc (.cells (prA x) 44)) = wx at *
                  cases la with
                  | true =>
                    go_wp2_with (at_builtin; refine wpl_appP rfl (.tmp 77) (.tmp 79) rfl (pb + 1) _ M x wx rfl o9 rfl (by omega) hsx ?_)
                    intro v9 w9 o10 b10 _
                    clear e0 e1 e2 e3 e4 p0 p1 p2 p3 p4 o9
                    go_wp2_with fail
                    go_roundw
                    case rel =>
                      obtain ⟨h1, h2⟩ := hP0 _ b10
                      have hE := HM.out
                      rw [if_neg (by simp)] at hE
                      refine ⟨q + 1, by omega, by go_num, ?_, ?_, h1, h2⟩
                      · rw [HH.out, hE]
                      · rw [HH.out, hE]; exact o10
                    case measure => simp [RowKit.intOf]; omega
                  | false =>
                    cases hles : lessP p x with
                    | false =>
                      have hls : Op.bytesLess p.name.toList x.name.toList = false := hles
                      go_wp2_with (at_builtin; refine wpl_appP rfl (.tmp 77) (.tmp 79) rfl (pb + 1) _ M x wx rfl o9 rfl (by omega) hsx ?_)
                      intro v9 w9 o10 b10 _
                      clear e0 e1 e2 e3 e4 p0 p1 p2 p3 p4 o9
                      go_wp2_with fail
                      go_roundw
                      case rel =>
                        obtain ⟨h1, h2⟩ := hP0 _ b10
                        have hE := HM.out
                        rw [if_neg (by simp [hles])] at hE
                        refine ⟨q + 1, by omega, by go_num, ?_, ?_, h1, h2⟩
                        · rw [HH.out, hE]
                        · rw [HH.out, hE]; exact o10
                      case measure => simp [RowKit.intOf]; omega
                    | true =>
                      have hls : Op.bytesLess p.name.toList x.name.toList = true := hles
                      go_wp2_with (at_builtin; refine wpl_appP rfl (.tmp 73) (.tmp 75) rfl (pb + 1) _ M p wx rfl o9 rfl (by omega) hsx ?_)
                      intro v9 w9 o10 b10 n10
                      have kX : Blk w9 xb (prA x) 44 := ⟨by first | exact n10 _ _ _ _ (.inr (.inr hne)) HK.out.h | exact n10 _ _ _ _ _ (.inr (.inr hne)) HK.out.h⟩
                      clear e0 e1 e2 e3 e4 p0 p1 p2 p3 p4 o9
                      have e0 := kX.cell 0
                      have e1 := kX.cell 1
                      have e2 := kX.cell 2
                      have e3 := kX.cell 3
                      have e4 := kX.cell 4
                      simp only [List.getElem?_toArray, List.getElem?_cons_zero, List.getElem?_cons_succ] at e0 e1 e2 e3 e4
                      have hs9 := Nat.le_trans hsx b10.size
                      have hm1 : (M ++ [p]).length ≤ 80000 := by rw [List.length_append, List.length_singleton]; omega
                      clear kX n10 hne HK
                      go_wp2_with (at_builtin; refine wpl_appP rfl (.tmp 77) (.tmp 79) rfl (pb + 1) _ (M ++ [p]) x w9 rfl o10 rfl (by omega) hs9 ?_)
                      intro v11 w11 o11 b11 _
                      clear e0 e1 e2 e3 e4 o10
                      go_wp2_with fail
                      go_roundw
                      case rel =>
                        obtain ⟨h1, h2⟩ := hP0 _ (b10.trans b11)
                        have hE : stepI p (M, false) x = (M ++ [p, x], true) := by unfold stepI; simp [hles]
                        refine ⟨q + 1, by omega, by go_num, ?_, ?_, h1, h2⟩
                        · rw [HH.out, hE]
                        · rw [HH.out, hE]; simpa using o11
                      case measure => simp [RowKit.intOf]; omega
                · have hqj : q = j := by omega
                  subst hqj
                  have hall : L.take q = L := by rw [← HN.out]; exact List.take_length
                  rw [hall] at om hml
                  have HF : Hid (finI p (insT p L) = insP p L) := fin_insT p L
                  simp only [hall]
                  have hml : (insT p L).1.length ≤ 40 := by omega
                  generalize insT p L = ms at *
                  obtain ⟨M, la⟩ := ms
                  have hLen := HLen
                  clear HLen
                  cases la with
                  | true =>
                    go_wp2_with fail
                    go_roundw
                    case rel =>
                      have e : insP p L = M := by rw [← HF.out]; rfl
                      exact ⟨k - 1, sb.1, insP p L, ⟨d8.t.r, d8.t.i, by rw [e]; exact om.low (by omega), d8.t.f, d8.t.s⟩, HTR.out.2⟩
                    case measure =>
                      rw [d8.t.i.lenAt, hLen]
                      exact HTR.out.1
                  | false =>
                    have p0 := d8.k.cell 0
                    have p1 := d8.k.cell 1
                    have p2 := d8.k.cell 2
                    have p3 := d8.k.cell 3
                    have p4 := d8.k.cell 4
                    simp only [List.getElem?_toArray, List.getElem?_cons_zero, List.getElem?_cons_succ] at p0 p1 p2 p3 p4
                    have hml : M.length ≤ 40 := hml
                    go_wp2_with (at_builtin; refine wpl_appP rfl (.tmp 84) (.tmp 86) rfl (pb + 1) _ M p wr rfl om rfl (by omega) hsz ?_)
                    intro v9 w9 o10 b10 _
                    have d10 := d8.low hbi hwb hpi b10
                    clear p0 p1 p2 p3 p4 om d8 ha
                    go_wp2_with fail
                    go_roundw
                    case rel =>
                      have e : insP p L = M ++ [p] := by rw [← HF.out]; rfl
                      exact ⟨k - 1, sb.1, insP p L, ⟨d10.t.r, d10.t.i, by rw [e]; exact o10.low (by omega), d10.t.f, d10.t.s⟩, HTR.out.2⟩
                    case measure =>
                      rw [d10.t.i.lenAt, hLen]
                      exact HTR.out.1
end Go.Proofs.YtmaaacaifpgpaaaGreatDoor

namespace Go.Proofs.YtmaaacaifpgpaaaGreatDoor
open Go.RowKit Go.Lib
set_option maxRecDepth 100000
set_option linter.unusedSimpArgs false

theorem ctab_left {s r : List UInt8} {L : List Pr} (h : ctab s = some (L, r)) : r.length ≤ s.length := by
  unfold ctab at h
  split at h
  · cases h
  · unfold cutP at h
    split at h
    · cases h
    · rename_i t r' hc
      split at hc
      · injection hc with hc
        injection hc with _ hc
        cases ho : tabO t with
        | none => rw [ho] at h; cases h
        | some L' =>
          rw [ho] at h
          injection h with h
          injection h with _ h
          rw [← h, ← hc, List.length_drop, List.length_drop]
          omega
      · cases hc
theorem opw_set {ty : TypeId} {K : Act → World → Prop} {o : Oper} {a : Act} {w : World} {Q : Exit → Act → World → Prop} (x y : Operand) (ho : o.op = .store ty x y)
    (g j : Nat) (u : Value) (hx : a.eval x = .pointer (some ⟨g, j, none⟩)) (hy : a.eval y = u)
    {t : TypeId} {old : Array Value} (hg : Blk w g old t) (hi : (Tryz.prog.info? ty).map (·.size) = some 1) (hu : u.cells = #[u]) (h1 : u.oneCell' = true) (hj : j < old.size)
    (h : ∀ W', Blk W' g (old.setIfInBounds j u) t → w.grownBy W' (some g) → W'.heap.size = w.heap.size → K (a.put o.dst undef) W') : o.wp Tryz.prog a w K Q := by
  have hst := run_storeCells_at Tryz.prog g j t [u] 0 old w hg.h (by simp; omega) (fun v hv => by simp at hv; subst hv; exact h1)
  simp only [Nat.add_zero, List.length_singleton] at hst
  have hrun : (storeVar ty ⟨g, j, none⟩ u).run Tryz.prog w = .ok () (w.setRow g (old.toList.take j ++ [u] ++ old.toList.drop (j + 1)).toArray) := by
    cases hq : Tryz.prog.info? ty with
    | none => simp [hq] at hi
    | some i =>
      have hs : i.size = 1 := by simpa [hq] using hi
      simp [storeVar, sizeOf, typeInfo, hq, hu, hs, hst]
  have e : (old.toList.take j ++ [u] ++ old.toList.drop (j + 1)).toArray = old.setIfInBounds j u := by
    apply Array.ext'
    rw [Array.toList_setIfInBounds]
    simp [List.set_eq_take_append_cons_drop, hj]
  rw [e] at hrun
  unfold Oper.wp execOp
  simp only [ho, hx, hy, Instr.storeAt, Instr.sureAddr, Sem.run_bind, Sem.run_pure, Result.andThen_ok, hrun]
  exact h _ (hg.row _) (grown_setRow w g _) (by simp [World.setRow])
theorem OwnP.grown {w w' : World} {B : Nat} {v : Value} {l : List Pr} {row : Option Nat} (h : OwnP w B v l) (hg : w.grownBy w' row) (hr : ∀ k, row = some k → k < B) : OwnP w' B v l := by
  obtain ⟨hl, ho⟩ := h
  refine ⟨hl, ?_⟩
  rcases ho with h | ⟨g, cap, cur, hv, hgB, hc, h⟩
  · exact .inl h
  · refine .inr ⟨g, cap, cur, hv, hgB, ?_, h⟩
    rw [hg.block g (Array.getElem?_eq_some_iff.1 hc).1 (fun e => by have := hr g e.symm; omega)]
    exact hc
/-- What Take answers: the properties, how many bytes they have, the error. -/
def TkP (w' : World) (B : Nat) (s : List UInt8) (v : Value) (z n : Int) : Prop :=
  (∃ L r, ctab s = some (L, r) ∧ n = 0 ∧ OwnP w' B v L ∧ z = ((s.length - r.length : Nat) : Int)) ∨ (ctab s = none ∧ n = 11 ∧ v = .slice none 0 0 ∧ z = 0)
theorem TkP.grown {w w' : World} {B : Nat} {s : List UInt8} {v : Value} {z n : Int} {row : Option Nat} (h : TkP w B s v z n) (hg : w.grownBy w' row) (hr : ∀ k, row = some k → k < B) : TkP w' B s v z n := by
  rcases h with ⟨L, r, h1, h2, h3, h4⟩ | h
  · exact .inl ⟨L, r, h1, h2, h3.grown hg hr, h4⟩
  · exact .inr h
theorem TkP.low {w : World} {B B' : Nat} {s : List UInt8} {v : Value} {z n : Int} (h : TkP w B s v z n) (hB : B' ≤ B) : TkP w B' s v z n := by
  rcases h with ⟨L, r, h1, h2, h3, h4⟩ | h
  · exact .inl ⟨L, r, h1, h2, h3.low hB, h4⟩
  · exact .inr h
end Go.Proofs.YtmaaacaifpgpaaaGreatDoor
