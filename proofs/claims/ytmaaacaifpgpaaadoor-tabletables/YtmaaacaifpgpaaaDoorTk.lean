
/- What table's reader takes as a value. Conditions: those that each row states. -/
import Derived.Test.YtmaaacaifpgpaaaDoorTj
namespace Go.Proofs.YtmaaacaifpgpaaaDoor
open Go.RowKit Go.Lib
set_option maxRecDepth 100000
set_option linter.unusedSimpArgs false

theorem wrap8 (n : Nat) (hn : n < 256) : IntKind.i8.wrap (n : Int) = sgnZ n 8 := by
  have e : (n : Int) % 256 = n := by omega
  show (if (true && decide ((n : Int) % 256 ≥ 128)) = true then (n : Int) % 256 - 256 else (n : Int) % 256) = _
  rw [e]
  unfold sgnZ
  by_cases h : 128 ≤ n
  · rw [if_pos (by simp; omega), if_pos ⟨by decide, h⟩]; rfl
  · rw [if_neg (by simp; omega), if_neg (fun hh => h hh.2), IntKind.wrap_i64]; omega
theorem wrap16 (n : Nat) (hn : n < 65536) : IntKind.i16.wrap (n : Int) = sgnZ n 16 := by
  have e : (n : Int) % 65536 = n := by omega
  show (if (true && decide ((n : Int) % 65536 ≥ 32768)) = true then (n : Int) % 65536 - 65536 else (n : Int) % 65536) = _
  rw [e]
  unfold sgnZ
  by_cases h : 32768 ≤ n
  · rw [if_pos (by simp; omega), if_pos ⟨by decide, h⟩]; rfl
  · rw [if_neg (by simp; omega), if_neg (fun hh => h hh.2), IntKind.wrap_i64]; omega
theorem wrap32s (n : Nat) (hn : n < 4294967296) : IntKind.i32.wrap (n : Int) = sgnZ n 32 := by
  have e : (n : Int) % 4294967296 = n := by omega
  show (if (true && decide ((n : Int) % 4294967296 ≥ 2147483648)) = true then (n : Int) % 4294967296 - 4294967296 else (n : Int) % 4294967296) = _
  rw [e]
  unfold sgnZ
  by_cases h : 2147483648 ≤ n
  · rw [if_pos (by simp; omega), if_pos ⟨by decide, h⟩]; rfl
  · rw [if_neg (by simp; omega), if_neg (fun hh => h hh.2), IntKind.wrap_i64]; omega
theorem sgn_in (n b : Nat) (hb : b = 8 ∨ b = 16 ∨ b = 32) (hn : n < 2 ^ b) : IntKind.i64.wrap (sgnZ n b) = sgnZ n b := by
  unfold sgnZ
  rcases hb with rfl | rfl | rfl
  all_goals
    split
    · rename_i h
      have := h.2
      rw [IntKind.wrap_i64]
      omega
    · simp only [IntKind.wrap_i64]
      omega
/-- A number of k bytes made into a value. -/
def cn (r : List UInt8) (k : Nat) (f : Nat → Val) : Option (Val × List UInt8) := if r.length < k then none else some (f (numL (r.take k)), r.drop k)
/-- A value. -/
def cval (s : List UInt8) : Option (Val × List UInt8) :=
  if s.length < 1 then none
  else if numL (s.take 1) = 116 then cn (s.drop 1) 1 fun n => ⟨2, (n : Int), ⟨#[]⟩, 0⟩
  else if numL (s.take 1) = 98 then cn (s.drop 1) 1 fun n => ⟨1, sgnZ n 8, ⟨#[]⟩, 0⟩
  else if numL (s.take 1) = 115 then cn (s.drop 1) 2 fun n => ⟨1, sgnZ n 16, ⟨#[]⟩, 0⟩
  else if numL (s.take 1) = 73 then cn (s.drop 1) 4 fun n => ⟨1, sgnZ n 32, ⟨#[]⟩, 0⟩
  else if numL (s.take 1) = 108 then cn (s.drop 1) 8 fun n => ⟨1, sgnZ n 64, ⟨#[]⟩, 0⟩
  else if numL (s.take 1) = 102 then cn (s.drop 1) 4 fun n => ⟨4, 0, ⟨#[]⟩, widB n⟩
  else if numL (s.take 1) = 100 then cn (s.drop 1) 8 fun n => ⟨4, 0, ⟨#[]⟩, canonB n⟩
  else if numL (s.take 1) = 83 then (clong (s.drop 1) 256).map fun x => (⟨3, 0, ⟨x.1.toArray⟩, 0⟩, x.2)
  else none
/-- What is told of a call that takes a value. -/
def ValP (w : World) (b : Nat) (o : Option (Val × List UInt8)) (e : Ending) (w' : World) : Prop :=
  Alb w.heap.size w w' b ∧ ((∃ v r, o = some (v, r) ∧ e = .returned v.v ∧ Cr w' b r) ∨ (o = none ∧ e = .panicked (gup 11)))

set_option maxHeartbeats 1000000 in
theorem cvalue_t (w : World) (b : Nat) (s r : List UInt8) (hb : b < w.heap.size) (hr : r.length ≤ 140737488355328)
    (hn : ∀ w, Cr w b s → b < w.heap.size → Calls Tryd.prog 48 #[.pointer (some ⟨b, 0, none⟩), .int .i64 1] w fun e w' => e = .returned (.int .u64 116) ∧ Cr w' b r ∧ Alb w.heap.size w w' b) (hc : Cr w b s) :
    Calls Tryd.prog 67 #[.pointer (some ⟨b, 0, none⟩)] w (ValP w b (cn r 1 fun n => ⟨2, (n : Int), ⟨#[]⟩, 0⟩)) := by
  have T := hn (w.alloc (.cells Z4 49)) (hc.on (below_new w _) hb) (by simp; omega)
  have N := fun w (h : Cr w b r) (hb : b < w.heap.size) => cnum_any w b 1 r h hb hr (by omega)
  obtain ⟨g, hg⟩ : ∃ g, gup 11 = g := ⟨_, rfl⟩
  unfold ValP
  rw [hg] at N ⊢
  have kR := Blk.new w Z4 49
  have hA : Alb w.heap.size w (w.alloc (.cells Z4 49)) b := .below (below_new w _)
  have hne : w.heap.size ≠ b := by omega
  have hsz : (w.alloc (.cells Z4 49)).heap.size = w.heap.size + 1 := by simp
  have HR : Hid (r.length ≤ 140737488355328) := hr
  clear hc hn hr
  go_enter Tryd.func67, Tryd.ntmps67
  go_wp2_with fail
  refine T.mono ?_
  rintro e w1 ⟨rfl, h1, b1⟩
  have kR1 : Blk w1 w.heap.size Z4 49 := ⟨by rw [b1.block _ (by rw [hsz]; omega) hne]; exact kR.h⟩
  have hb1 : b < w1.heap.size := by have := b1.size; omega
  have hs1 : w.heap.size + 1 ≤ w1.heap.size := by rw [← hsz]; exact b1.size
  have hA1 : Alb w.heap.size w w1 b := hA.trans ⟨b1.os, b1.tape, b1.output, b1.size, fun k h hk => b1.block k (by rw [hsz]; omega) hk⟩
  have N1 := N w1 h1 hb1
  clear T N kR hA b1 h1 hsz
  go_wp2_with fail
  refine N1.mono ?_
  rintro e w2 ⟨hB, ⟨hk, rfl, h2⟩ | ⟨hk, rfl, -⟩⟩
  rotate_left
  · exact ⟨rfl, hA1.trans ⟨hB.os, hB.tape, hB.output, hB.size, fun k h hk => hB.block k (by omega) hk⟩, .inr ⟨by unfold cn; rw [if_pos hk], rfl⟩⟩
  have HE : Hid (cn r 1 (fun n => ⟨2, (n : Int), ⟨#[]⟩, 0⟩) = some ((⟨2, ((numL (r.take 1)) : Int), ⟨#[]⟩, 0⟩ : Val), r.drop 1)) := by show _ = _; unfold cn; rw [if_neg (by omega)]
  have hlt : numL (r.take 1) < 256 := by
    have h := numL_lt (r.take 1)
    rw [List.length_take, Nat.min_eq_left hk] at h
    exact h
  generalize numL (r.take 1) = n at *
  generalize r.drop 1 = r' at *
  have u1 : IntKind.i64.wrap (n : Int) = (n : Int) := by rw [IntKind.wrap_i64]; omega
  clear hlt hk
  have kR2 : Blk w2 w.heap.size Z4 49 := ⟨by rw [hB.block _ (by omega) hne]; exact kR1.h⟩
  have hA2 : Alb w.heap.size w w2 b := hA1.trans ⟨hB.os, hB.tape, hB.output, hB.size, fun k h hk => hB.block k (by omega) hk⟩
  have hs2 : w.heap.size + 1 ≤ w2.heap.size := by have := hB.size; omega
  clear kR1 hA1 hB hb1 hs1 N1
  go_wp2_with (refine wpl_put rfl (.tmp 2) (.tmp 10) rfl w.heap.size _ rfl rfl kR2 (by kernel_rfl) rfl (by kernel_rfl) ?_)
  intro W' kW gW sW
  have h3 : Cr W' b r' := h2.on (B := w.heap.size) ((Below.refl w.heap.size _).grown gW (by omega) (fun k hk => by injection hk with hk; omega)) hb
  go_wp2
  exact ret58 Tryd.results67 kW rfl rfl ⟨hA2.trans (.grown gW (by omega) (Nat.le_refl _)), .inl ⟨_, _, HE.out, rfl, h3⟩⟩

set_option maxHeartbeats 1000000 in
theorem cvalue_b (w : World) (b : Nat) (s r : List UInt8) (hb : b < w.heap.size) (hr : r.length ≤ 140737488355328)
    (hn : ∀ w, Cr w b s → b < w.heap.size → Calls Tryd.prog 48 #[.pointer (some ⟨b, 0, none⟩), .int .i64 1] w fun e w' => e = .returned (.int .u64 98) ∧ Cr w' b r ∧ Alb w.heap.size w w' b) (hc : Cr w b s) :
    Calls Tryd.prog 67 #[.pointer (some ⟨b, 0, none⟩)] w (ValP w b (cn r 1 fun n => ⟨1, sgnZ n 8, ⟨#[]⟩, 0⟩)) := by
  have T := hn (w.alloc (.cells Z4 49)) (hc.on (below_new w _) hb) (by simp; omega)
  have N := fun w (h : Cr w b r) (hb : b < w.heap.size) => cnum_any w b 1 r h hb hr (by omega)
  obtain ⟨g, hg⟩ : ∃ g, gup 11 = g := ⟨_, rfl⟩
  unfold ValP
  rw [hg] at N ⊢
  have kR := Blk.new w Z4 49
  have hA : Alb w.heap.size w (w.alloc (.cells Z4 49)) b := .below (below_new w _)
  have hne : w.heap.size ≠ b := by omega
  have hsz : (w.alloc (.cells Z4 49)).heap.size = w.heap.size + 1 := by simp
  have HR : Hid (r.length ≤ 140737488355328) := hr
  clear hc hn hr
  go_enter Tryd.func67, Tryd.ntmps67
  go_wp2_with fail
  refine T.mono ?_
  rintro e w1 ⟨rfl, h1, b1⟩
  have kR1 : Blk w1 w.heap.size Z4 49 := ⟨by rw [b1.block _ (by rw [hsz]; omega) hne]; exact kR.h⟩
  have hb1 : b < w1.heap.size := by have := b1.size; omega
  have hs1 : w.heap.size + 1 ≤ w1.heap.size := by rw [← hsz]; exact b1.size
  have hA1 : Alb w.heap.size w w1 b := hA.trans ⟨b1.os, b1.tape, b1.output, b1.size, fun k h hk => b1.block k (by rw [hsz]; omega) hk⟩
  have N1 := N w1 h1 hb1
  clear T N kR hA b1 h1 hsz
  go_wp2_with fail
  refine N1.mono ?_
  rintro e w2 ⟨hB, ⟨hk, rfl, h2⟩ | ⟨hk, rfl, -⟩⟩
  rotate_left
  · exact ⟨rfl, hA1.trans ⟨hB.os, hB.tape, hB.output, hB.size, fun k h hk => hB.block k (by omega) hk⟩, .inr ⟨by unfold cn; rw [if_pos hk], rfl⟩⟩
  have HE : Hid (cn r 1 (fun n => ⟨1, sgnZ n 8, ⟨#[]⟩, 0⟩) = some ((⟨1, sgnZ (numL (r.take 1)) 8, ⟨#[]⟩, 0⟩ : Val), r.drop 1)) := by show _ = _; unfold cn; rw [if_neg (by omega)]
  have hlt : numL (r.take 1) < 256 := by
    have h := numL_lt (r.take 1)
    rw [List.length_take, Nat.min_eq_left hk] at h
    exact h
  generalize numL (r.take 1) = n at *
  generalize r.drop 1 = r' at *
  have u1 : IntKind.i8.wrap (n : Int) = sgnZ n 8 := wrap8 n (by omega)
  have u2 : IntKind.i64.wrap (sgnZ n 8) = sgnZ n 8 := sgn_in n 8 (by omega) (by omega)
  generalize sgnZ n 8 = z at *
  clear hlt hk
  have kR2 : Blk w2 w.heap.size Z4 49 := ⟨by rw [hB.block _ (by omega) hne]; exact kR1.h⟩
  have hA2 : Alb w.heap.size w w2 b := hA1.trans ⟨hB.os, hB.tape, hB.output, hB.size, fun k h hk => hB.block k (by omega) hk⟩
  have hs2 : w.heap.size + 1 ≤ w2.heap.size := by have := hB.size; omega
  clear kR1 hA1 hB hb1 hs1 N1
  go_wp2_with fail
  refine (integer_any w2 z).mono ?_
  rintro e w4 ⟨rfl, b4⟩
  have kR4 := kR2.on b4
  have h4 := h2.on b4 (by omega)
  have hA4 := hA2.trans (.below (b4.mono (by omega)))
  have hs4 : w.heap.size + 1 ≤ w4.heap.size := by have := b4.size; omega
  clear kR2 h2 hA2 hs2 b4
  have kR2 := kR4
  have h2 := h4
  have hA2 := hA4
  have hs2 := hs4
  clear kR4 h4 hA4 hs4
  go_wp2_with (refine wpl_put rfl (.tmp 2) (.tmp 17) rfl w.heap.size _ rfl rfl kR2 (by kernel_rfl) rfl (by kernel_rfl) ?_)
  intro W' kW gW sW
  have h3 : Cr W' b r' := h2.on (B := w.heap.size) ((Below.refl w.heap.size _).grown gW (by omega) (fun k hk => by injection hk with hk; omega)) hb
  go_wp2
  exact ret58 Tryd.results67 kW rfl rfl ⟨hA2.trans (.grown gW (by omega) (Nat.le_refl _)), .inl ⟨_, _, HE.out, rfl, h3⟩⟩

set_option maxHeartbeats 1000000 in
theorem cvalue_s (w : World) (b : Nat) (s r : List UInt8) (hb : b < w.heap.size) (hr : r.length ≤ 140737488355328)
    (hn : ∀ w, Cr w b s → b < w.heap.size → Calls Tryd.prog 48 #[.pointer (some ⟨b, 0, none⟩), .int .i64 1] w fun e w' => e = .returned (.int .u64 115) ∧ Cr w' b r ∧ Alb w.heap.size w w' b) (hc : Cr w b s) :
    Calls Tryd.prog 67 #[.pointer (some ⟨b, 0, none⟩)] w (ValP w b (cn r 2 fun n => ⟨1, sgnZ n 16, ⟨#[]⟩, 0⟩)) := by
  have T := hn (w.alloc (.cells Z4 49)) (hc.on (below_new w _) hb) (by simp; omega)
  have N := fun w (h : Cr w b r) (hb : b < w.heap.size) => cnum_any w b 2 r h hb hr (by omega)
  obtain ⟨g, hg⟩ : ∃ g, gup 11 = g := ⟨_, rfl⟩
  unfold ValP
  rw [hg] at N ⊢
  have kR := Blk.new w Z4 49
  have hA : Alb w.heap.size w (w.alloc (.cells Z4 49)) b := .below (below_new w _)
  have hne : w.heap.size ≠ b := by omega
  have hsz : (w.alloc (.cells Z4 49)).heap.size = w.heap.size + 1 := by simp
  have HR : Hid (r.length ≤ 140737488355328) := hr
  clear hc hn hr
  go_enter Tryd.func67, Tryd.ntmps67
  go_wp2_with fail
  refine T.mono ?_
  rintro e w1 ⟨rfl, h1, b1⟩
  have kR1 : Blk w1 w.heap.size Z4 49 := ⟨by rw [b1.block _ (by rw [hsz]; omega) hne]; exact kR.h⟩
  have hb1 : b < w1.heap.size := by have := b1.size; omega
  have hs1 : w.heap.size + 1 ≤ w1.heap.size := by rw [← hsz]; exact b1.size
  have hA1 : Alb w.heap.size w w1 b := hA.trans ⟨b1.os, b1.tape, b1.output, b1.size, fun k h hk => b1.block k (by rw [hsz]; omega) hk⟩
  have N1 := N w1 h1 hb1
  clear T N kR hA b1 h1 hsz
  go_wp2_with fail
  refine N1.mono ?_
  rintro e w2 ⟨hB, ⟨hk, rfl, h2⟩ | ⟨hk, rfl, -⟩⟩
  rotate_left
  · exact ⟨rfl, hA1.trans ⟨hB.os, hB.tape, hB.output, hB.size, fun k h hk => hB.block k (by omega) hk⟩, .inr ⟨by unfold cn; rw [if_pos hk], rfl⟩⟩
  have HE : Hid (cn r 2 (fun n => ⟨1, sgnZ n 16, ⟨#[]⟩, 0⟩) = some ((⟨1, sgnZ (numL (r.take 2)) 16, ⟨#[]⟩, 0⟩ : Val), r.drop 2)) := by show _ = _; unfold cn; rw [if_neg (by omega)]
  have hlt : numL (r.take 2) < 65536 := by
    have h := numL_lt (r.take 2)
    rw [List.length_take, Nat.min_eq_left hk] at h
    exact h
  generalize numL (r.take 2) = n at *
  generalize r.drop 2 = r' at *
  have u1 : IntKind.i16.wrap (n : Int) = sgnZ n 16 := wrap16 n (by omega)
  have u2 : IntKind.i64.wrap (sgnZ n 16) = sgnZ n 16 := sgn_in n 16 (by omega) (by omega)
  generalize sgnZ n 16 = z at *
  clear hlt hk
  have kR2 : Blk w2 w.heap.size Z4 49 := ⟨by rw [hB.block _ (by omega) hne]; exact kR1.h⟩
  have hA2 : Alb w.heap.size w w2 b := hA1.trans ⟨hB.os, hB.tape, hB.output, hB.size, fun k h hk => hB.block k (by omega) hk⟩
  have hs2 : w.heap.size + 1 ≤ w2.heap.size := by have := hB.size; omega
  clear kR1 hA1 hB hb1 hs1 N1
  go_wp2_with fail
  refine (integer_any w2 z).mono ?_
  rintro e w4 ⟨rfl, b4⟩
  have kR4 := kR2.on b4
  have h4 := h2.on b4 (by omega)
  have hA4 := hA2.trans (.below (b4.mono (by omega)))
  have hs4 : w.heap.size + 1 ≤ w4.heap.size := by have := b4.size; omega
  clear kR2 h2 hA2 hs2 b4
  have kR2 := kR4
  have h2 := h4
  have hA2 := hA4
  have hs2 := hs4
  clear kR4 h4 hA4 hs4
  go_wp2_with (refine wpl_put rfl (.tmp 2) (.tmp 24) rfl w.heap.size _ rfl rfl kR2 (by kernel_rfl) rfl (by kernel_rfl) ?_)
  intro W' kW gW sW
  have h3 : Cr W' b r' := h2.on (B := w.heap.size) ((Below.refl w.heap.size _).grown gW (by omega) (fun k hk => by injection hk with hk; omega)) hb
  go_wp2
  exact ret58 Tryd.results67 kW rfl rfl ⟨hA2.trans (.grown gW (by omega) (Nat.le_refl _)), .inl ⟨_, _, HE.out, rfl, h3⟩⟩

set_option maxHeartbeats 1000000 in
theorem cvalue_I (w : World) (b : Nat) (s r : List UInt8) (hb : b < w.heap.size) (hr : r.length ≤ 140737488355328)
    (hn : ∀ w, Cr w b s → b < w.heap.size → Calls Tryd.prog 48 #[.pointer (some ⟨b, 0, none⟩), .int .i64 1] w fun e w' => e = .returned (.int .u64 73) ∧ Cr w' b r ∧ Alb w.heap.size w w' b) (hc : Cr w b s) :
    Calls Tryd.prog 67 #[.pointer (some ⟨b, 0, none⟩)] w (ValP w b (cn r 4 fun n => ⟨1, sgnZ n 32, ⟨#[]⟩, 0⟩)) := by
  have T := hn (w.alloc (.cells Z4 49)) (hc.on (below_new w _) hb) (by simp; omega)
  have N := fun w (h : Cr w b r) (hb : b < w.heap.size) => cnum_any w b 4 r h hb hr (by omega)
  obtain ⟨g, hg⟩ : ∃ g, gup 11 = g := ⟨_, rfl⟩
  unfold ValP
  rw [hg] at N ⊢
  have kR := Blk.new w Z4 49
  have hA : Alb w.heap.size w (w.alloc (.cells Z4 49)) b := .below (below_new w _)
  have hne : w.heap.size ≠ b := by omega
  have hsz : (w.alloc (.cells Z4 49)).heap.size = w.heap.size + 1 := by simp
  have HR : Hid (r.length ≤ 140737488355328) := hr
  clear hc hn hr
  go_enter Tryd.func67, Tryd.ntmps67
  go_wp2_with fail
  refine T.mono ?_
  rintro e w1 ⟨rfl, h1, b1⟩
  have kR1 : Blk w1 w.heap.size Z4 49 := ⟨by rw [b1.block _ (by rw [hsz]; omega) hne]; exact kR.h⟩
  have hb1 : b < w1.heap.size := by have := b1.size; omega
  have hs1 : w.heap.size + 1 ≤ w1.heap.size := by rw [← hsz]; exact b1.size
  have hA1 : Alb w.heap.size w w1 b := hA.trans ⟨b1.os, b1.tape, b1.output, b1.size, fun k h hk => b1.block k (by rw [hsz]; omega) hk⟩
  have N1 := N w1 h1 hb1
  clear T N kR hA b1 h1 hsz
  go_wp2_with fail
  refine N1.mono ?_
  rintro e w2 ⟨hB, ⟨hk, rfl, h2⟩ | ⟨hk, rfl, -⟩⟩
  rotate_left
  · exact ⟨rfl, hA1.trans ⟨hB.os, hB.tape, hB.output, hB.size, fun k h hk => hB.block k (by omega) hk⟩, .inr ⟨by unfold cn; rw [if_pos hk], rfl⟩⟩
  have HE : Hid (cn r 4 (fun n => ⟨1, sgnZ n 32, ⟨#[]⟩, 0⟩) = some ((⟨1, sgnZ (numL (r.take 4)) 32, ⟨#[]⟩, 0⟩ : Val), r.drop 4)) := by show _ = _; unfold cn; rw [if_neg (by omega)]
  have hlt : numL (r.take 4) < 4294967296 := by
    have h := numL_lt (r.take 4)
    rw [List.length_take, Nat.min_eq_left hk] at h
    exact h
  generalize numL (r.take 4) = n at *
  generalize r.drop 4 = r' at *
  have u1 : IntKind.i32.wrap (n : Int) = sgnZ n 32 := wrap32s n (by omega)
  have u2 : IntKind.i64.wrap (sgnZ n 32) = sgnZ n 32 := sgn_in n 32 (by omega) (by omega)
  generalize sgnZ n 32 = z at *
  clear hlt hk
  have kR2 : Blk w2 w.heap.size Z4 49 := ⟨by rw [hB.block _ (by omega) hne]; exact kR1.h⟩
  have hA2 : Alb w.heap.size w w2 b := hA1.trans ⟨hB.os, hB.tape, hB.output, hB.size, fun k h hk => hB.block k (by omega) hk⟩
  have hs2 : w.heap.size + 1 ≤ w2.heap.size := by have := hB.size; omega
  clear kR1 hA1 hB hb1 hs1 N1
  go_wp2_with fail
  refine (integer_any w2 z).mono ?_
  rintro e w4 ⟨rfl, b4⟩
  have kR4 := kR2.on b4
  have h4 := h2.on b4 (by omega)
  have hA4 := hA2.trans (.below (b4.mono (by omega)))
  have hs4 : w.heap.size + 1 ≤ w4.heap.size := by have := b4.size; omega
  clear kR2 h2 hA2 hs2 b4
  have kR2 := kR4
  have h2 := h4
  have hA2 := hA4
  have hs2 := hs4
  clear kR4 h4 hA4 hs4
  go_wp2_with (refine wpl_put rfl (.tmp 2) (.tmp 31) rfl w.heap.size _ rfl rfl kR2 (by kernel_rfl) rfl (by kernel_rfl) ?_)
  intro W' kW gW sW
  have h3 : Cr W' b r' := h2.on (B := w.heap.size) ((Below.refl w.heap.size _).grown gW (by omega) (fun k hk => by injection hk with hk; omega)) hb
  go_wp2
  exact ret58 Tryd.results67 kW rfl rfl ⟨hA2.trans (.grown gW (by omega) (Nat.le_refl _)), .inl ⟨_, _, HE.out, rfl, h3⟩⟩

set_option maxHeartbeats 1000000 in
theorem cvalue_l (w : World) (b : Nat) (s r : List UInt8) (hb : b < w.heap.size) (hr : r.length ≤ 140737488355328)
    (hn : ∀ w, Cr w b s → b < w.heap.size → Calls Tryd.prog 48 #[.pointer (some ⟨b, 0, none⟩), .int .i64 1] w fun e w' => e = .returned (.int .u64 108) ∧ Cr w' b r ∧ Alb w.heap.size w w' b) (hc : Cr w b s) :
    Calls Tryd.prog 67 #[.pointer (some ⟨b, 0, none⟩)] w (ValP w b (cn r 8 fun n => ⟨1, sgnZ n 64, ⟨#[]⟩, 0⟩)) := by
  have T := hn (w.alloc (.cells Z4 49)) (hc.on (below_new w _) hb) (by simp; omega)
  have N := fun w (h : Cr w b r) (hb : b < w.heap.size) => cnum_any w b 8 r h hb hr (by omega)
  obtain ⟨g, hg⟩ : ∃ g, gup 11 = g := ⟨_, rfl⟩
  unfold ValP
  rw [hg] at N ⊢
  have kR := Blk.new w Z4 49
  have hA : Alb w.heap.size w (w.alloc (.cells Z4 49)) b := .below (below_new w _)
  have hne : w.heap.size ≠ b := by omega
  have hsz : (w.alloc (.cells Z4 49)).heap.size = w.heap.size + 1 := by simp
  have HR : Hid (r.length ≤ 140737488355328) := hr
  clear hc hn hr
  go_enter Tryd.func67, Tryd.ntmps67
  go_wp2_with fail
  refine T.mono ?_
  rintro e w1 ⟨rfl, h1, b1⟩
  have kR1 : Blk w1 w.heap.size Z4 49 := ⟨by rw [b1.block _ (by rw [hsz]; omega) hne]; exact kR.h⟩
  have hb1 : b < w1.heap.size := by have := b1.size; omega
  have hs1 : w.heap.size + 1 ≤ w1.heap.size := by rw [← hsz]; exact b1.size
  have hA1 : Alb w.heap.size w w1 b := hA.trans ⟨b1.os, b1.tape, b1.output, b1.size, fun k h hk => b1.block k (by rw [hsz]; omega) hk⟩
  have N1 := N w1 h1 hb1
  clear T N kR hA b1 h1 hsz
  go_wp2_with fail
  refine N1.mono ?_
  rintro e w2 ⟨hB, ⟨hk, rfl, h2⟩ | ⟨hk, rfl, -⟩⟩
  rotate_left
  · exact ⟨rfl, hA1.trans ⟨hB.os, hB.tape, hB.output, hB.size, fun k h hk => hB.block k (by omega) hk⟩, .inr ⟨by unfold cn; rw [if_pos hk], rfl⟩⟩
  have HE : Hid (cn r 8 (fun n => ⟨1, sgnZ n 64, ⟨#[]⟩, 0⟩) = some ((⟨1, sgnZ (numL (r.take 8)) 64, ⟨#[]⟩, 0⟩ : Val), r.drop 8)) := by show _ = _; unfold cn; rw [if_neg (by omega)]
  have hlt : numL (r.take 8) < 18446744073709551616 := by
    have h := numL_lt (r.take 8)
    rw [List.length_take, Nat.min_eq_left hk] at h
    exact h
  generalize numL (r.take 8) = n at *
  generalize r.drop 8 = r' at *
  have u1 : IntKind.i64.wrap (n : Int) = sgnZ n 64 := by unfold sgnZ; rw [if_neg (fun h => absurd h.1 (by decide))]
  generalize sgnZ n 64 = z at *
  clear hlt hk
  have kR2 : Blk w2 w.heap.size Z4 49 := ⟨by rw [hB.block _ (by omega) hne]; exact kR1.h⟩
  have hA2 : Alb w.heap.size w w2 b := hA1.trans ⟨hB.os, hB.tape, hB.output, hB.size, fun k h hk => hB.block k (by omega) hk⟩
  have hs2 : w.heap.size + 1 ≤ w2.heap.size := by have := hB.size; omega
  clear kR1 hA1 hB hb1 hs1 N1
  go_wp2_with fail
  refine (integer_any w2 z).mono ?_
  rintro e w4 ⟨rfl, b4⟩
  have kR4 := kR2.on b4
  have h4 := h2.on b4 (by omega)
  have hA4 := hA2.trans (.below (b4.mono (by omega)))
  have hs4 : w.heap.size + 1 ≤ w4.heap.size := by have := b4.size; omega
  clear kR2 h2 hA2 hs2 b4
  have kR2 := kR4
  have h2 := h4
  have hA2 := hA4
  have hs2 := hs4
  clear kR4 h4 hA4 hs4
  go_wp2_with (refine wpl_put rfl (.tmp 2) (.tmp 37) rfl w.heap.size _ rfl rfl kR2 (by kernel_rfl) rfl (by kernel_rfl) ?_)
  intro W' kW gW sW
  have h3 : Cr W' b r' := h2.on (B := w.heap.size) ((Below.refl w.heap.size _).grown gW (by omega) (fun k hk => by injection hk with hk; omega)) hb
  go_wp2
  exact ret58 Tryd.results67 kW rfl rfl ⟨hA2.trans (.grown gW (by omega) (Nat.le_refl _)), .inl ⟨_, _, HE.out, rfl, h3⟩⟩

set_option maxHeartbeats 1000000 in
theorem cvalue_f (w : World) (b : Nat) (s r : List UInt8) (hb : b < w.heap.size) (hr : r.length ≤ 140737488355328)
    (hn : ∀ w, Cr w b s → b < w.heap.size → Calls Tryd.prog 48 #[.pointer (some ⟨b, 0, none⟩), .int .i64 1] w fun e w' => e = .returned (.int .u64 102) ∧ Cr w' b r ∧ Alb w.heap.size w w' b) (hc : Cr w b s) :
    Calls Tryd.prog 67 #[.pointer (some ⟨b, 0, none⟩)] w (ValP w b (cn r 4 fun n => ⟨4, 0, ⟨#[]⟩, widB n⟩)) := by
  have T := hn (w.alloc (.cells Z4 49)) (hc.on (below_new w _) hb) (by simp; omega)
  have N := fun w (h : Cr w b r) (hb : b < w.heap.size) => cnum_any w b 4 r h hb hr (by omega)
  obtain ⟨g, hg⟩ : ∃ g, gup 11 = g := ⟨_, rfl⟩
  unfold ValP
  rw [hg] at N ⊢
  have kR := Blk.new w Z4 49
  have hA : Alb w.heap.size w (w.alloc (.cells Z4 49)) b := .below (below_new w _)
  have hne : w.heap.size ≠ b := by omega
  have hsz : (w.alloc (.cells Z4 49)).heap.size = w.heap.size + 1 := by simp
  have HR : Hid (r.length ≤ 140737488355328) := hr
  clear hc hn hr
  go_enter Tryd.func67, Tryd.ntmps67
  go_wp2_with fail
  refine T.mono ?_
  rintro e w1 ⟨rfl, h1, b1⟩
  have kR1 : Blk w1 w.heap.size Z4 49 := ⟨by rw [b1.block _ (by rw [hsz]; omega) hne]; exact kR.h⟩
  have hb1 : b < w1.heap.size := by have := b1.size; omega
  have hs1 : w.heap.size + 1 ≤ w1.heap.size := by rw [← hsz]; exact b1.size
  have hA1 : Alb w.heap.size w w1 b := hA.trans ⟨b1.os, b1.tape, b1.output, b1.size, fun k h hk => b1.block k (by rw [hsz]; omega) hk⟩
  have N1 := N w1 h1 hb1
  clear T N kR hA b1 h1 hsz
  go_wp2_with fail
  refine N1.mono ?_
  rintro e w2 ⟨hB, ⟨hk, rfl, h2⟩ | ⟨hk, rfl, -⟩⟩
  rotate_left
  · exact ⟨rfl, hA1.trans ⟨hB.os, hB.tape, hB.output, hB.size, fun k h hk => hB.block k (by omega) hk⟩, .inr ⟨by unfold cn; rw [if_pos hk], rfl⟩⟩
  have HE : Hid (cn r 4 (fun n => ⟨4, 0, ⟨#[]⟩, widB n⟩) = some ((⟨4, 0, ⟨#[]⟩, widB (numL (r.take 4))⟩ : Val), r.drop 4)) := by show _ = _; unfold cn; rw [if_neg (by omega)]
  have hlt : numL (r.take 4) < 4294967296 := by
    have h := numL_lt (r.take 4)
    rw [List.length_take, Nat.min_eq_left hk] at h
    exact h
  generalize numL (r.take 4) = n at *
  generalize r.drop 4 = r' at *
  have u1 : IntKind.u32.wrap (n : Int) = (n : Int) := by rw [IntKind.wrap_u32]; omega
  clear hlt hk
  have kR2 : Blk w2 w.heap.size Z4 49 := ⟨by rw [hB.block _ (by omega) hne]; exact kR1.h⟩
  have hA2 : Alb w.heap.size w w2 b := hA1.trans ⟨hB.os, hB.tape, hB.output, hB.size, fun k h hk => hB.block k (by omega) hk⟩
  have hs2 : w.heap.size + 1 ≤ w2.heap.size := by have := hB.size; omega
  clear kR1 hA1 hB hb1 hs1 N1
  go_wp2_with fail
  refine (widen_any w2 n).mono ?_
  rintro e w4 ⟨rfl, b4⟩
  have kR4 := kR2.on b4
  have h4 := h2.on b4 (by omega)
  have hA4 := hA2.trans (.below (b4.mono (by omega)))
  have hs4 : w.heap.size + 1 ≤ w4.heap.size := by have := b4.size; omega
  clear kR2 h2 hA2 hs2 b4
  have kR2 := kR4
  have h2 := h4
  have hA2 := hA4
  have hs2 := hs4
  clear kR4 h4 hA4 hs4
  go_wp2_with (refine wpl_put rfl (.tmp 2) (.tmp 44) rfl w.heap.size _ rfl rfl kR2 (by kernel_rfl) rfl (by kernel_rfl) ?_)
  intro W' kW gW sW
  have h3 : Cr W' b r' := h2.on (B := w.heap.size) ((Below.refl w.heap.size _).grown gW (by omega) (fun k hk => by injection hk with hk; omega)) hb
  go_wp2
  exact ret58 Tryd.results67 kW rfl rfl ⟨hA2.trans (.grown gW (by omega) (Nat.le_refl _)), .inl ⟨_, _, HE.out, rfl, h3⟩⟩

set_option maxHeartbeats 1000000 in
theorem cvalue_d (w : World) (b : Nat) (s r : List UInt8) (hb : b < w.heap.size) (hr : r.length ≤ 140737488355328)
    (hn : ∀ w, Cr w b s → b < w.heap.size → Calls Tryd.prog 48 #[.pointer (some ⟨b, 0, none⟩), .int .i64 1] w fun e w' => e = .returned (.int .u64 100) ∧ Cr w' b r ∧ Alb w.heap.size w w' b) (hc : Cr w b s) :
    Calls Tryd.prog 67 #[.pointer (some ⟨b, 0, none⟩)] w (ValP w b (cn r 8 fun n => ⟨4, 0, ⟨#[]⟩, canonB n⟩)) := by
  have T := hn (w.alloc (.cells Z4 49)) (hc.on (below_new w _) hb) (by simp; omega)
  have N := fun w (h : Cr w b r) (hb : b < w.heap.size) => cnum_any w b 8 r h hb hr (by omega)
  obtain ⟨g, hg⟩ : ∃ g, gup 11 = g := ⟨_, rfl⟩
  unfold ValP
  rw [hg] at N ⊢
  have kR := Blk.new w Z4 49
  have hA : Alb w.heap.size w (w.alloc (.cells Z4 49)) b := .below (below_new w _)
  have hne : w.heap.size ≠ b := by omega
  have hsz : (w.alloc (.cells Z4 49)).heap.size = w.heap.size + 1 := by simp
  have HR : Hid (r.length ≤ 140737488355328) := hr
  clear hc hn hr
  go_enter Tryd.func67, Tryd.ntmps67
  go_wp2_with fail
  refine T.mono ?_
  rintro e w1 ⟨rfl, h1, b1⟩
  have kR1 : Blk w1 w.heap.size Z4 49 := ⟨by rw [b1.block _ (by rw [hsz]; omega) hne]; exact kR.h⟩
  have hb1 : b < w1.heap.size := by have := b1.size; omega
  have hs1 : w.heap.size + 1 ≤ w1.heap.size := by rw [← hsz]; exact b1.size
  have hA1 : Alb w.heap.size w w1 b := hA.trans ⟨b1.os, b1.tape, b1.output, b1.size, fun k h hk => b1.block k (by rw [hsz]; omega) hk⟩
  have N1 := N w1 h1 hb1
  clear T N kR hA b1 h1 hsz
  go_wp2_with fail
  refine N1.mono ?_
  rintro e w2 ⟨hB, ⟨hk, rfl, h2⟩ | ⟨hk, rfl, -⟩⟩
  rotate_left
  · exact ⟨rfl, hA1.trans ⟨hB.os, hB.tape, hB.output, hB.size, fun k h hk => hB.block k (by omega) hk⟩, .inr ⟨by unfold cn; rw [if_pos hk], rfl⟩⟩
  have HE : Hid (cn r 8 (fun n => ⟨4, 0, ⟨#[]⟩, canonB n⟩) = some ((⟨4, 0, ⟨#[]⟩, canonB (numL (r.take 8))⟩ : Val), r.drop 8)) := by show _ = _; unfold cn; rw [if_neg (by omega)]
  have hlt : numL (r.take 8) < 18446744073709551616 := by
    have h := numL_lt (r.take 8)
    rw [List.length_take, Nat.min_eq_left hk] at h
    exact h
  generalize numL (r.take 8) = n at *
  generalize r.drop 8 = r' at *
  clear hlt hk
  have kR2 : Blk w2 w.heap.size Z4 49 := ⟨by rw [hB.block _ (by omega) hne]; exact kR1.h⟩
  have hA2 : Alb w.heap.size w w2 b := hA1.trans ⟨hB.os, hB.tape, hB.output, hB.size, fun k h hk => hB.block k (by omega) hk⟩
  have hs2 : w.heap.size + 1 ≤ w2.heap.size := by have := hB.size; omega
  clear kR1 hA1 hB hb1 hs1 N1
  go_wp2_with fail
  refine (canon_any _ n).mono ?_
  rintro e w2 ⟨rfl, rfl⟩
  go_wp2_with (refine wpl_put rfl (.tmp 2) (.tmp 51) rfl w.heap.size _ rfl rfl kR2 (by kernel_rfl) rfl (by kernel_rfl) ?_)
  intro W' kW gW sW
  have h3 : Cr W' b r' := h2.on (B := w.heap.size) ((Below.refl w.heap.size _).grown gW (by omega) (fun k hk => by injection hk with hk; omega)) hb
  go_wp2
  exact ret58 Tryd.results67 kW rfl rfl ⟨hA2.trans (.grown gW (by omega) (Nat.le_refl _)), .inl ⟨_, _, HE.out, rfl, h3⟩⟩

set_option maxHeartbeats 1000000 in
theorem cvalue_S (w : World) (b : Nat) (s r : List UInt8) (hb : b < w.heap.size) (hr : r.length ≤ 140737488355328)
    (hn : ∀ w, Cr w b s → b < w.heap.size → Calls Tryd.prog 48 #[.pointer (some ⟨b, 0, none⟩), .int .i64 1] w fun e w' => e = .returned (.int .u64 83) ∧ Cr w' b r ∧ Alb w.heap.size w w' b) (hc : Cr w b s) :
    Calls Tryd.prog 67 #[.pointer (some ⟨b, 0, none⟩)] w (ValP w b ((clong r 256).map fun x => (⟨3, 0, ⟨x.1.toArray⟩, 0⟩, x.2))) := by
  have T := hn (w.alloc (.cells Z4 49)) (hc.on (below_new w _) hb) (by simp; omega)
  have N := fun w (h : Cr w b r) (hb : b < w.heap.size) => clong_any w b 256 r h hb hr
  obtain ⟨g, hg⟩ : ∃ g, gup 11 = g := ⟨_, rfl⟩
  unfold ValP
  rw [hg] at N ⊢
  have kR := Blk.new w Z4 49
  have hA : Alb w.heap.size w (w.alloc (.cells Z4 49)) b := .below (below_new w _)
  have hne : w.heap.size ≠ b := by omega
  have hsz : (w.alloc (.cells Z4 49)).heap.size = w.heap.size + 1 := by simp
  have HR : Hid (r.length ≤ 140737488355328) := hr
  clear hc hn hr
  go_enter Tryd.func67, Tryd.ntmps67
  go_wp2_with fail
  refine T.mono ?_
  rintro e w1 ⟨rfl, h1, b1⟩
  have kR1 : Blk w1 w.heap.size Z4 49 := ⟨by rw [b1.block _ (by rw [hsz]; omega) hne]; exact kR.h⟩
  have hb1 : b < w1.heap.size := by have := b1.size; omega
  have hs1 : w.heap.size + 1 ≤ w1.heap.size := by rw [← hsz]; exact b1.size
  have hA1 : Alb w.heap.size w w1 b := hA.trans ⟨b1.os, b1.tape, b1.output, b1.size, fun k h hk => b1.block k (by rw [hsz]; omega) hk⟩
  have N1 := N w1 h1 hb1
  clear T N kR hA b1 h1 hsz
  go_wp2_with fail
  refine N1.mono ?_
  rintro e w2 ⟨hB, ⟨t, r', he, rfl, h2⟩ | ⟨hk, rfl⟩⟩
  rotate_left
  · exact ⟨rfl, hA1.trans ⟨hB.os, hB.tape, hB.output, hB.size, fun k h hk => hB.block k (by omega) hk⟩, .inr ⟨by rw [hk]; rfl, rfl⟩⟩
  have HE : Hid ((clong r 256).map (fun x => ((⟨3, 0, ⟨x.1.toArray⟩, 0⟩ : Val), x.2)) = some (⟨3, 0, ⟨t.toArray⟩, 0⟩, r')) := by show _ = _; rw [he]; rfl
  clear he
  have kR2 : Blk w2 w.heap.size Z4 49 := ⟨by rw [hB.block _ (by omega) hne]; exact kR1.h⟩
  have hA2 : Alb w.heap.size w w2 b := hA1.trans ⟨hB.os, hB.tape, hB.output, hB.size, fun k h hk => hB.block k (by omega) hk⟩
  have hs2 : w.heap.size + 1 ≤ w2.heap.size := by have := hB.size; omega
  clear kR1 hA1 hB hb1 hs1 N1
  go_wp2_with (refine wpl_put rfl (.tmp 2) (.tmp 56) rfl w.heap.size _ rfl rfl kR2 (by kernel_rfl) rfl (by kernel_rfl) ?_)
  intro W' kW gW sW
  have h3 : Cr W' b r' := h2.on (B := w.heap.size) ((Below.refl w.heap.size _).grown gW (by omega) (fun k hk => by injection hk with hk; omega)) hb
  go_wp2
  exact ret58 Tryd.results67 kW rfl rfl ⟨hA2.trans (.grown gW (by omega) (Nat.le_refl _)), .inl ⟨_, _, HE.out, rfl, h3⟩⟩

set_option maxHeartbeats 1000000 in
theorem cvalue_no (w : World) (b : Nat) (s : List UInt8) (o : Option (Val × List UInt8)) (ho : o = none) (hb : b < w.heap.size)
    (hn : ∀ w, Cr w b s → b < w.heap.size → Calls Tryd.prog 48 #[.pointer (some ⟨b, 0, none⟩), .int .i64 1] w fun e w' => e = .panicked (gup 11) ∧ w' = w) (hc : Cr w b s) :
    Calls Tryd.prog 67 #[.pointer (some ⟨b, 0, none⟩)] w (ValP w b o) := by
  have T := hn (w.alloc (.cells Z4 49)) (hc.on (below_new w _) hb) (by simp; omega)
  obtain ⟨g, hg⟩ : ∃ g, gup 11 = g := ⟨_, rfl⟩
  unfold ValP
  rw [hg] at T ⊢
  have hA : Alb w.heap.size w (w.alloc (.cells Z4 49)) b := .below (below_new w _)
  clear hc hn
  go_enter Tryd.func67, Tryd.ntmps67
  go_wp2_with fail
  refine T.mono ?_
  rintro e w1 ⟨rfl, rfl⟩
  exact ⟨rfl, hA, .inr ⟨ho, rfl⟩⟩
set_option maxHeartbeats 1000000 in
theorem cvalue_else (w : World) (b n : Nat) (s r : List UInt8) (hb : b < w.heap.size)
    (e1 : ¬ n = 116) (e2 : ¬ n = 98) (e3 : ¬ n = 115) (e4 : ¬ n = 73) (e5 : ¬ n = 108) (e6 : ¬ n = 102) (e7 : ¬ n = 100) (e8 : ¬ n = 83)
    (hn : ∀ w, Cr w b s → b < w.heap.size → Calls Tryd.prog 48 #[.pointer (some ⟨b, 0, none⟩), .int .i64 1] w fun e w' => e = .returned (.int .u64 n) ∧ Cr w' b r ∧ Alb w.heap.size w w' b) (hc : Cr w b s) :
    Calls Tryd.prog 67 #[.pointer (some ⟨b, 0, none⟩)] w (ValP w b none) := by
  have T := hn (w.alloc (.cells Z4 49)) (hc.on (below_new w _) hb) (by simp; omega)
  have hA : Alb w.heap.size w (w.alloc (.cells Z4 49)) b := .below (below_new w _)
  have hsz : (w.alloc (.cells Z4 49)).heap.size = w.heap.size + 1 := by simp
  clear hc hn
  go_enter Tryd.func67, Tryd.ntmps67
  go_wp2_with fail
  refine T.mono ?_
  rintro e w1 ⟨rfl, h1, b1⟩
  have hA1 : Alb w.heap.size w w1 b := hA.trans ⟨b1.os, b1.tape, b1.output, b1.size, fun k h hk => b1.block k (by rw [hsz]; omega) hk⟩
  clear T b1 hA
  go_wp2
  exact ⟨rfl, hA1, .inr ⟨rfl, rfl⟩⟩

theorem cvalue_any (w : World) (b : Nat) (s : List UInt8) (hc : Cr w b s) (hb : b < w.heap.size) (hs : s.length ≤ 140737488355328) :
    Calls Tryd.prog 67 #[.pointer (some ⟨b, 0, none⟩)] w (ValP w b (cval s)) := by
  by_cases h1 : s.length < 1
  · exact cvalue_no w b s _ (by unfold cval; rw [if_pos h1]) hb (fun w h _ => cnum_no w b 1 s h hs (by omega) h1) hc
  · have hn : ∀ w, Cr w b s → b < w.heap.size → Calls Tryd.prog 48 #[.pointer (some ⟨b, 0, none⟩), .int .i64 1] w fun e w' => e = .returned (.int .u64 (numL (s.take 1))) ∧ Cr w' b (s.drop 1) ∧ Alb w.heap.size w w' b :=
      fun w h hb => cnum_ok w b 1 s h hb hs (by omega) (by omega)
    have hr : (s.drop 1).length ≤ 140737488355328 := by rw [List.length_drop]; omega
    unfold cval
    rw [if_neg h1]
    generalize numL (s.take 1) = n at *
    generalize s.drop 1 = r at *
    by_cases et : n = 116
    · subst et
      exact cvalue_t w b s r hb hr hn hc
    rw [if_neg et]
    by_cases eb : n = 98
    · subst eb
      exact cvalue_b w b s r hb hr hn hc
    rw [if_neg eb]
    by_cases es : n = 115
    · subst es
      exact cvalue_s w b s r hb hr hn hc
    rw [if_neg es]
    by_cases eI : n = 73
    · subst eI
      exact cvalue_I w b s r hb hr hn hc
    rw [if_neg eI]
    by_cases el : n = 108
    · subst el
      exact cvalue_l w b s r hb hr hn hc
    rw [if_neg el]
    by_cases ef : n = 102
    · subst ef
      exact cvalue_f w b s r hb hr hn hc
    rw [if_neg ef]
    by_cases ed : n = 100
    · subst ed
      exact cvalue_d w b s r hb hr hn hc
    rw [if_neg ed]
    by_cases eS : n = 83
    · subst eS
      exact cvalue_S w b s r hb hr hn hc
    rw [if_neg eS]
    exact cvalue_else w b n s r hb et eb es eI el ef ed eS hn hc
end Go.Proofs.YtmaaacaifpgpaaaDoor
