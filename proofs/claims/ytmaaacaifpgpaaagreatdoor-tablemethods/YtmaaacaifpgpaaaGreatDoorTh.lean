
/- What the document's Reader takes as a value. Conditions: those that each row states. -/
import Derived.Test.YtmaaacaifpgpaaaGreatDoorBx
namespace Go.Proofs.YtmaaacaifpgpaaaGreatDoor
open Go.RowKit Go.Lib
set_option maxRecDepth 100000
set_option linter.unusedSimpArgs false

/-- Below B nothing but block b has changed. -/
structure Alb (B : Nat) (w w' : World) (b : Nat) : Prop where
  os : w'.os = w.os
  tape : w'.tape = w.tape
  output : w'.output = w.output
  size : w.heap.size ≤ w'.heap.size
  block : ∀ k, k < B → k ≠ b → w'.heap[k]? = w.heap[k]?
theorem Alb.refl (B : Nat) (w : World) (b : Nat) : Alb B w w b := ⟨rfl, rfl, rfl, Nat.le_refl _, fun _ _ _ => rfl⟩
theorem Alb.trans {B : Nat} {w w1 w2 : World} {b : Nat} (h1 : Alb B w w1 b) (h2 : Alb B w1 w2 b) : Alb B w w2 b :=
  ⟨h2.os.trans h1.os, h2.tape.trans h1.tape, h2.output.trans h1.output, Nat.le_trans h1.size h2.size, fun k h hk => (h2.block k h hk).trans (h1.block k h hk)⟩
theorem Alb.but {B : Nat} {w w' : World} {b : Nat} (h : But w w' b) : Alb B w w' b := ⟨h.os, h.tape, h.output, Nat.le_of_eq h.size.symm, fun k _ hk => h.block k hk⟩
theorem Alb.below {B : Nat} {w w' : World} {b : Nat} (h : Below B w w') : Alb B w w' b := ⟨h.os, h.tape, h.output, h.size, fun k hk _ => h.block k hk⟩
theorem Alb.grown {B : Nat} {w w' : World} {b g : Nat} (h : w.grownBy w' (some g)) (hB : B ≤ w.heap.size) (hg : B ≤ g) : Alb B w w' b :=
  Alb.below ((Below.refl B w).grown h hB (fun k hk => by injection hk with hk; omega))

/-- A value. -/
def vaR (st : Rs) : Val × Rs :=
  let k := takeR st 1
  if k.1 = [116] then (⟨2, ((numR k.2 1).1 : Nat), ⟨#[]⟩, 0⟩, (numR k.2 1).2)
  else if k.1 = [98] then (⟨1, sgnZ (numR k.2 1).1 8, ⟨#[]⟩, 0⟩, (numR k.2 1).2)
  else if k.1 = [115] then (⟨1, sgnZ (numR k.2 2).1 16, ⟨#[]⟩, 0⟩, (numR k.2 2).2)
  else if k.1 = [73] then (⟨1, sgnZ (numR k.2 4).1 32, ⟨#[]⟩, 0⟩, (numR k.2 4).2)
  else if k.1 = [108] then (⟨1, sgnZ (numR k.2 8).1 64, ⟨#[]⟩, 0⟩, (numR k.2 8).2)
  else if k.1 = [102] then (⟨4, 0, ⟨#[]⟩, widB (numR k.2 4).1⟩, (numR k.2 4).2)
  else if k.1 = [100] then (⟨4, 0, ⟨#[]⟩, canonB (numR k.2 8).1⟩, (numR k.2 8).2)
  else if k.1 = [83] then (⟨3, 0, ⟨(longR k.2).1.toArray⟩, 0⟩, (longR k.2).2)
  else (⟨0, 0, ⟨#[]⟩, 0⟩, (k.2.1, true))
abbrev Z4 : Array Value := #[.int .i64 0, .int .i64 0, str [], .float .f64 0]

set_option maxHeartbeats 1000000 in
theorem rvalue_t (w : World) (b : Nat) (st s1 s2 : Rs) (n : Nat) (hb : b < w.heap.size) (hr : RdS w b st) (ht : takeR st 1 = ([116], s1)) (hn : numR s1 1 = (n, s2)) :
    Calls Tryz.prog 42 #[.pointer (some ⟨b, 0, none⟩)] w fun e w' => e = .returned (.agg #[.int .i64 2, .int .i64 n, str [], .float .f64 0]) ∧ RdS w' b s2 ∧ Alb w.heap.size w w' b := by
  have T := take_any (w.alloc (.cells Z4 42)) b 1 st (Rd.below hr (below_new w _) hb)
  rw [ht] at T
  have N := fun w (h : RdS w b s1) => rnum_any w b 1 s1 (by omega) h
  rw [hn] at N
  have hlt := numR_lt s1 1
  rw [hn] at hlt
  have hlt : n < 256 := hlt
  have u1 : IntKind.i64.wrap (n : Int) = (n : Int) := by rw [IntKind.wrap_i64]; omega
  clear hlt
  have kR := Blk.new w Z4 42
  have hA : Alb w.heap.size w (w.alloc (.cells Z4 42)) b := .below (below_new w _)
  have hne : w.heap.size ≠ b := by omega
  clear hr ht hn
  go_enter Tryz.func42, Tryz.ntmps42
  go_wp2_with fail
  refine T.mono ?_
  rintro e w1 ⟨rfl, h1, b1⟩
  have kR1 := kR.but b1 hne
  have hA1 := hA.trans (.but b1)
  have N1 := N w1 h1
  clear T N kR hA b1 h1
  go_wp2_with fail
  refine N1.mono ?_
  rintro e w2 ⟨rfl, h2, b2⟩
  have kR2 := kR1.but b2 hne
  have hA2 := hA1.trans (.but b2)
  have hs2 : w.heap.size ≤ w2.heap.size := hA2.size
  clear N1 kR1 hA1 b2
  go_wp2_with (refine wpl_put rfl (.tmp 2) (.tmp 12) rfl w.heap.size _ rfl rfl kR2 (by kernel_rfl) rfl (by kernel_rfl) ?_)
  intro W' kW gW sW
  have h3 : RdS W' b s2 := Rd.below h2 (B := w.heap.size) ((Below.refl w.heap.size w2).grown gW hs2 (fun k hk => by injection hk with hk; omega)) hb
  go_wp2
  exact ret58 Tryz.results42 kW rfl rfl ⟨rfl, h3, hA2.trans (.grown gW hs2 (Nat.le_refl _))⟩

set_option maxHeartbeats 1000000 in
theorem rvalue_b (w : World) (b : Nat) (st s1 s2 : Rs) (n : Nat) (hb : b < w.heap.size) (hr : RdS w b st) (ht : takeR st 1 = ([98], s1)) (hn : numR s1 1 = (n, s2)) :
    Calls Tryz.prog 42 #[.pointer (some ⟨b, 0, none⟩)] w fun e w' => e = .returned (.agg #[.int .i64 1, .int .i64 (sgnZ n 8), str [], .float .f64 0]) ∧ RdS w' b s2 ∧ Alb w.heap.size w w' b := by
  have T := take_any (w.alloc (.cells Z4 42)) b 1 st (Rd.below hr (below_new w _) hb)
  rw [ht] at T
  have N := fun w (h : RdS w b s1) => rnum_any w b 1 s1 (by omega) h
  rw [hn] at N
  have hlt := numR_lt s1 1
  rw [hn] at hlt
  have hlt : n < 256 := hlt
  have SG := fun w => signed8_any w n hlt
  clear hlt
  have kR := Blk.new w Z4 42
  have hA : Alb w.heap.size w (w.alloc (.cells Z4 42)) b := .below (below_new w _)
  have hne : w.heap.size ≠ b := by omega
  clear hr ht hn
  go_enter Tryz.func42, Tryz.ntmps42
  go_wp2_with fail
  refine T.mono ?_
  rintro e w1 ⟨rfl, h1, b1⟩
  have kR1 := kR.but b1 hne
  have hA1 := hA.trans (.but b1)
  have N1 := N w1 h1
  clear T N kR hA b1 h1
  go_wp2_with fail
  refine N1.mono ?_
  rintro e w2 ⟨rfl, h2, b2⟩
  have kR2 := kR1.but b2 hne
  have hA2 := hA1.trans (.but b2)
  have hs2 : w.heap.size ≤ w2.heap.size := hA2.size
  clear N1 kR1 hA1 b2
  go_wp2_with (first | (go_at_call 59; refine (SG _).mono ?_; rintro e w2 ⟨rfl, rfl⟩) | (refine wpl_put rfl (.tmp 2) (.tmp 18) rfl w.heap.size _ rfl rfl kR2 (by kernel_rfl) rfl (by kernel_rfl) ?_))
  intro W' kW gW sW
  have h3 : RdS W' b s2 := Rd.below h2 (B := w.heap.size) ((Below.refl w.heap.size w2).grown gW hs2 (fun k hk => by injection hk with hk; omega)) hb
  go_wp2
  exact ret58 Tryz.results42 kW rfl rfl ⟨rfl, h3, hA2.trans (.grown gW hs2 (Nat.le_refl _))⟩

set_option maxHeartbeats 1000000 in
theorem rvalue_s (w : World) (b : Nat) (st s1 s2 : Rs) (n : Nat) (hb : b < w.heap.size) (hr : RdS w b st) (ht : takeR st 1 = ([115], s1)) (hn : numR s1 2 = (n, s2)) :
    Calls Tryz.prog 42 #[.pointer (some ⟨b, 0, none⟩)] w fun e w' => e = .returned (.agg #[.int .i64 1, .int .i64 (sgnZ n 16), str [], .float .f64 0]) ∧ RdS w' b s2 ∧ Alb w.heap.size w w' b := by
  have T := take_any (w.alloc (.cells Z4 42)) b 1 st (Rd.below hr (below_new w _) hb)
  rw [ht] at T
  have N := fun w (h : RdS w b s1) => rnum_any w b 2 s1 (by omega) h
  rw [hn] at N
  have hlt := numR_lt s1 2
  rw [hn] at hlt
  have hlt : n < 65536 := hlt
  have SG := fun w => signed16_any w n hlt
  clear hlt
  have kR := Blk.new w Z4 42
  have hA : Alb w.heap.size w (w.alloc (.cells Z4 42)) b := .below (below_new w _)
  have hne : w.heap.size ≠ b := by omega
  clear hr ht hn
  go_enter Tryz.func42, Tryz.ntmps42
  go_wp2_with fail
  refine T.mono ?_
  rintro e w1 ⟨rfl, h1, b1⟩
  have kR1 := kR.but b1 hne
  have hA1 := hA.trans (.but b1)
  have N1 := N w1 h1
  clear T N kR hA b1 h1
  go_wp2_with fail
  refine N1.mono ?_
  rintro e w2 ⟨rfl, h2, b2⟩
  have kR2 := kR1.but b2 hne
  have hA2 := hA1.trans (.but b2)
  have hs2 : w.heap.size ≤ w2.heap.size := hA2.size
  clear N1 kR1 hA1 b2
  go_wp2_with (first | (go_at_call 59; refine (SG _).mono ?_; rintro e w2 ⟨rfl, rfl⟩) | (refine wpl_put rfl (.tmp 2) (.tmp 24) rfl w.heap.size _ rfl rfl kR2 (by kernel_rfl) rfl (by kernel_rfl) ?_))
  intro W' kW gW sW
  have h3 : RdS W' b s2 := Rd.below h2 (B := w.heap.size) ((Below.refl w.heap.size w2).grown gW hs2 (fun k hk => by injection hk with hk; omega)) hb
  go_wp2
  exact ret58 Tryz.results42 kW rfl rfl ⟨rfl, h3, hA2.trans (.grown gW hs2 (Nat.le_refl _))⟩

set_option maxHeartbeats 1000000 in
theorem rvalue_I (w : World) (b : Nat) (st s1 s2 : Rs) (n : Nat) (hb : b < w.heap.size) (hr : RdS w b st) (ht : takeR st 1 = ([73], s1)) (hn : numR s1 4 = (n, s2)) :
    Calls Tryz.prog 42 #[.pointer (some ⟨b, 0, none⟩)] w fun e w' => e = .returned (.agg #[.int .i64 1, .int .i64 (sgnZ n 32), str [], .float .f64 0]) ∧ RdS w' b s2 ∧ Alb w.heap.size w w' b := by
  have T := take_any (w.alloc (.cells Z4 42)) b 1 st (Rd.below hr (below_new w _) hb)
  rw [ht] at T
  have N := fun w (h : RdS w b s1) => rnum_any w b 4 s1 (by omega) h
  rw [hn] at N
  have hlt := numR_lt s1 4
  rw [hn] at hlt
  have hlt : n < 4294967296 := hlt
  have SG := fun w => signed32_any w n hlt
  clear hlt
  have kR := Blk.new w Z4 42
  have hA : Alb w.heap.size w (w.alloc (.cells Z4 42)) b := .below (below_new w _)
  have hne : w.heap.size ≠ b := by omega
  clear hr ht hn
  go_enter Tryz.func42, Tryz.ntmps42
  go_wp2_with fail
  refine T.mono ?_
  rintro e w1 ⟨rfl, h1, b1⟩
  have kR1 := kR.but b1 hne
  have hA1 := hA.trans (.but b1)
  have N1 := N w1 h1
  clear T N kR hA b1 h1
  go_wp2_with fail
  refine N1.mono ?_
  rintro e w2 ⟨rfl, h2, b2⟩
  have kR2 := kR1.but b2 hne
  have hA2 := hA1.trans (.but b2)
  have hs2 : w.heap.size ≤ w2.heap.size := hA2.size
  clear N1 kR1 hA1 b2
  go_wp2_with (first | (go_at_call 59; refine (SG _).mono ?_; rintro e w2 ⟨rfl, rfl⟩) | (refine wpl_put rfl (.tmp 2) (.tmp 30) rfl w.heap.size _ rfl rfl kR2 (by kernel_rfl) rfl (by kernel_rfl) ?_))
  intro W' kW gW sW
  have h3 : RdS W' b s2 := Rd.below h2 (B := w.heap.size) ((Below.refl w.heap.size w2).grown gW hs2 (fun k hk => by injection hk with hk; omega)) hb
  go_wp2
  exact ret58 Tryz.results42 kW rfl rfl ⟨rfl, h3, hA2.trans (.grown gW hs2 (Nat.le_refl _))⟩

set_option maxHeartbeats 1000000 in
theorem rvalue_l (w : World) (b : Nat) (st s1 s2 : Rs) (n : Nat) (hb : b < w.heap.size) (hr : RdS w b st) (ht : takeR st 1 = ([108], s1)) (hn : numR s1 8 = (n, s2)) :
    Calls Tryz.prog 42 #[.pointer (some ⟨b, 0, none⟩)] w fun e w' => e = .returned (.agg #[.int .i64 1, .int .i64 (sgnZ n 64), str [], .float .f64 0]) ∧ RdS w' b s2 ∧ Alb w.heap.size w w' b := by
  have T := take_any (w.alloc (.cells Z4 42)) b 1 st (Rd.below hr (below_new w _) hb)
  rw [ht] at T
  have N := fun w (h : RdS w b s1) => rnum_any w b 8 s1 (by omega) h
  rw [hn] at N
  have hlt := numR_lt s1 8
  rw [hn] at hlt
  have hlt : n < 18446744073709551616 := hlt
  have SG := fun w => signed64 w n
  clear hlt
  have kR := Blk.new w Z4 42
  have hA : Alb w.heap.size w (w.alloc (.cells Z4 42)) b := .below (below_new w _)
  have hne : w.heap.size ≠ b := by omega
  clear hr ht hn
  go_enter Tryz.func42, Tryz.ntmps42
  go_wp2_with fail
  refine T.mono ?_
  rintro e w1 ⟨rfl, h1, b1⟩
  have kR1 := kR.but b1 hne
  have hA1 := hA.trans (.but b1)
  have N1 := N w1 h1
  clear T N kR hA b1 h1
  go_wp2_with fail
  refine N1.mono ?_
  rintro e w2 ⟨rfl, h2, b2⟩
  have kR2 := kR1.but b2 hne
  have hA2 := hA1.trans (.but b2)
  have hs2 : w.heap.size ≤ w2.heap.size := hA2.size
  clear N1 kR1 hA1 b2
  go_wp2_with (first | (go_at_call 59; refine (SG _).mono ?_; rintro e w2 ⟨rfl, rfl⟩) | (refine wpl_put rfl (.tmp 2) (.tmp 36) rfl w.heap.size _ rfl rfl kR2 (by kernel_rfl) rfl (by kernel_rfl) ?_))
  intro W' kW gW sW
  have h3 : RdS W' b s2 := Rd.below h2 (B := w.heap.size) ((Below.refl w.heap.size w2).grown gW hs2 (fun k hk => by injection hk with hk; omega)) hb
  go_wp2
  exact ret58 Tryz.results42 kW rfl rfl ⟨rfl, h3, hA2.trans (.grown gW hs2 (Nat.le_refl _))⟩

set_option maxHeartbeats 1000000 in
theorem rvalue_f (w : World) (b : Nat) (st s1 s2 : Rs) (n : Nat) (hb : b < w.heap.size) (hr : RdS w b st) (ht : takeR st 1 = ([102], s1)) (hn : numR s1 4 = (n, s2)) :
    Calls Tryz.prog 42 #[.pointer (some ⟨b, 0, none⟩)] w fun e w' => e = .returned (.agg #[.int .i64 4, .int .i64 0, str [], .float .f64 (widB n)]) ∧ RdS w' b s2 ∧ Alb w.heap.size w w' b := by
  have T := take_any (w.alloc (.cells Z4 42)) b 1 st (Rd.below hr (below_new w _) hb)
  rw [ht] at T
  have N := fun w (h : RdS w b s1) => rnum_any w b 4 s1 (by omega) h
  rw [hn] at N
  have hlt := numR_lt s1 4
  rw [hn] at hlt
  have hlt : n < 4294967296 := hlt
  have SG := fun w => rwiden_any w n
  have u1 : IntKind.u32.wrap (n : Int) = (n : Int) := by rw [IntKind.wrap_u32]; omega
  clear hlt
  have kR := Blk.new w Z4 42
  have hA : Alb w.heap.size w (w.alloc (.cells Z4 42)) b := .below (below_new w _)
  have hne : w.heap.size ≠ b := by omega
  clear hr ht hn
  go_enter Tryz.func42, Tryz.ntmps42
  go_wp2_with fail
  refine T.mono ?_
  rintro e w1 ⟨rfl, h1, b1⟩
  have kR1 := kR.but b1 hne
  have hA1 := hA.trans (.but b1)
  have N1 := N w1 h1
  clear T N kR hA b1 h1
  go_wp2_with fail
  refine N1.mono ?_
  rintro e w2 ⟨rfl, h2, b2⟩
  have kR2 := kR1.but b2 hne
  have hA2 := hA1.trans (.but b2)
  have hs2 : w.heap.size ≤ w2.heap.size := hA2.size
  clear N1 kR1 hA1 b2
  go_wp2_with fail
  refine (SG w2).mono ?_
  rintro e w4 ⟨rfl, b4⟩
  have kR4 := kR2.on b4
  have h4 : RdS w4 b s2 := Rd.below h2 b4 (by omega)
  have hA4 := hA2.trans (.below (b4.mono hs2))
  have hs4 : w.heap.size ≤ w4.heap.size := hA4.size
  clear kR2 h2 hA2 hs2 b4
  have kR2 := kR4
  have h2 := h4
  have hA2 := hA4
  have hs2 := hs4
  clear kR4 h4 hA4 hs4
  go_wp2_with (refine wpl_put rfl (.tmp 2) (.tmp 43) rfl w.heap.size _ rfl rfl kR2 (by kernel_rfl) rfl (by kernel_rfl) ?_)
  intro W' kW gW sW
  have h3 : RdS W' b s2 := Rd.below h2 (B := w.heap.size) ((Below.refl w.heap.size w4).grown gW hs2 (fun k hk => by injection hk with hk; omega)) hb
  go_wp2
  exact ret58 Tryz.results42 kW rfl rfl ⟨rfl, h3, hA2.trans (.grown gW hs2 (Nat.le_refl _))⟩

set_option maxHeartbeats 1000000 in
theorem rvalue_d (w : World) (b : Nat) (st s1 s2 : Rs) (n : Nat) (hb : b < w.heap.size) (hr : RdS w b st) (ht : takeR st 1 = ([100], s1)) (hn : numR s1 8 = (n, s2)) :
    Calls Tryz.prog 42 #[.pointer (some ⟨b, 0, none⟩)] w fun e w' => e = .returned (.agg #[.int .i64 4, .int .i64 0, str [], .float .f64 (canonB n)]) ∧ RdS w' b s2 ∧ Alb w.heap.size w w' b := by
  have T := take_any (w.alloc (.cells Z4 42)) b 1 st (Rd.below hr (below_new w _) hb)
  rw [ht] at T
  have N := fun w (h : RdS w b s1) => rnum_any w b 8 s1 (by omega) h
  rw [hn] at N
  have hlt := numR_lt s1 8
  rw [hn] at hlt
  have hlt : n < 18446744073709551616 := hlt
  have FR := fun w => rfrom_any w n
  have CN := fun w => rcanon_any w n (by omega)
  clear hlt
  have kR := Blk.new w Z4 42
  have hA : Alb w.heap.size w (w.alloc (.cells Z4 42)) b := .below (below_new w _)
  have hne : w.heap.size ≠ b := by omega
  clear hr ht hn
  go_enter Tryz.func42, Tryz.ntmps42
  go_wp2_with fail
  refine T.mono ?_
  rintro e w1 ⟨rfl, h1, b1⟩
  have kR1 := kR.but b1 hne
  have hA1 := hA.trans (.but b1)
  have N1 := N w1 h1
  clear T N kR hA b1 h1
  go_wp2_with fail
  refine N1.mono ?_
  rintro e w2 ⟨rfl, h2, b2⟩
  have kR2 := kR1.but b2 hne
  have hA2 := hA1.trans (.but b2)
  have hs2 : w.heap.size ≤ w2.heap.size := hA2.size
  clear N1 kR1 hA1 b2
  go_wp2_with (first | (go_at_call 62; refine (FR _).mono ?_; rintro e w2 ⟨rfl, rfl⟩) | (go_at_call 61; refine (CN _).mono ?_; rintro e w2 ⟨rfl, rfl⟩) | (refine wpl_put rfl (.tmp 2) (.tmp 50) rfl w.heap.size _ rfl rfl kR2 (by kernel_rfl) rfl (by kernel_rfl) ?_))
  intro W' kW gW sW
  have h3 : RdS W' b s2 := Rd.below h2 (B := w.heap.size) ((Below.refl w.heap.size w2).grown gW hs2 (fun k hk => by injection hk with hk; omega)) hb
  go_wp2
  exact ret58 Tryz.results42 kW rfl rfl ⟨rfl, h3, hA2.trans (.grown gW hs2 (Nat.le_refl _))⟩

set_option maxHeartbeats 1000000 in
theorem rvalue_S (w : World) (b : Nat) (st s1 s2 : Rs) (n : List UInt8) (hb : b < w.heap.size) (hr : RdS w b st) (ht : takeR st 1 = ([83], s1)) (hn : longR s1 = (n, s2)) :
    Calls Tryz.prog 42 #[.pointer (some ⟨b, 0, none⟩)] w fun e w' => e = .returned (.agg #[.int .i64 3, .int .i64 0, str n, .float .f64 0]) ∧ RdS w' b s2 ∧ Alb w.heap.size w w' b := by
  have T := take_any (w.alloc (.cells Z4 42)) b 1 st (Rd.below hr (below_new w _) hb)
  rw [ht] at T
  have N := fun w (h : RdS w b s1) => longR_any w b s1 h
  rw [hn] at N
  have kR := Blk.new w Z4 42
  have hA : Alb w.heap.size w (w.alloc (.cells Z4 42)) b := .below (below_new w _)
  have hne : w.heap.size ≠ b := by omega
  clear hr ht hn
  go_enter Tryz.func42, Tryz.ntmps42
  go_wp2_with fail
  refine T.mono ?_
  rintro e w1 ⟨rfl, h1, b1⟩
  have kR1 := kR.but b1 hne
  have hA1 := hA.trans (.but b1)
  have N1 := N w1 h1
  clear T N kR hA b1 h1
  go_wp2_with fail
  refine N1.mono ?_
  rintro e w2 ⟨rfl, h2, b2⟩
  have kR2 := kR1.but b2 hne
  have hA2 := hA1.trans (.but b2)
  have hs2 : w.heap.size ≤ w2.heap.size := hA2.size
  clear N1 kR1 hA1 b2
  go_wp2_with (refine wpl_put rfl (.tmp 2) (.tmp 55) rfl w.heap.size _ rfl rfl kR2 (by kernel_rfl) rfl (by kernel_rfl) ?_)
  intro W' kW gW sW
  have h3 : RdS W' b s2 := Rd.below h2 (B := w.heap.size) ((Below.refl w.heap.size w2).grown gW hs2 (fun k hk => by injection hk with hk; omega)) hb
  go_wp2
  exact ret58 Tryz.results42 kW rfl rfl ⟨rfl, h3, hA2.trans (.grown gW hs2 (Nat.le_refl _))⟩

set_option maxHeartbeats 2000000 in
theorem rvalue_else (w : World) (b : Nat) (st s1 : Rs) (l : List UInt8) (hb : b < w.heap.size) (hr : RdS w b st) (ht : takeR st 1 = (l, s1))
    (e1 : ¬ l = [116]) (e2 : ¬ l = [98]) (e3 : ¬ l = [115]) (e4 : ¬ l = [73]) (e5 : ¬ l = [108]) (e6 : ¬ l = [102]) (e7 : ¬ l = [100]) (e8 : ¬ l = [83]) :
    Calls Tryz.prog 42 #[.pointer (some ⟨b, 0, none⟩)] w fun e w' => e = .returned (.agg Z4) ∧ RdS w' b (s1.1, true) ∧ Alb w.heap.size w w' b := by
  have T := take_any (w.alloc (.cells Z4 42)) b 1 st (Rd.below hr (below_new w _) hb)
  rw [ht] at T
  have kR := Blk.new w Z4 42
  have hA : Alb w.heap.size w (w.alloc (.cells Z4 42)) b := .below (below_new w _)
  have hne : w.heap.size ≠ b := by omega
  have hd : ∀ t : List UInt8, ¬ l = t → (l == t) = false := fun t h => by simpa using h
  have d1 := hd _ e1
  have d2 := hd _ e2
  have d3 := hd _ e3
  have d4 := hd _ e4
  have d5 := hd _ e5
  have d6 := hd _ e6
  have d7 := hd _ e7
  have d8 := hd _ e8
  clear hr ht hd e1 e2 e3 e4 e5 e6 e7 e8
  go_enter Tryz.func42, Tryz.ntmps42
  go_wp2_with fail
  refine T.mono ?_
  rintro e w1 ⟨rfl, h1, b1⟩
  have kR1 := kR.but b1 hne
  have hA1 := hA.trans (.but b1)
  have hs1 : w.heap.size ≤ w1.heap.size := hA1.size
  obtain ⟨c0, c1, f0, f1⟩ := h1
  have fin : ∀ w', w' = w1.setCell ⟨b, 1, none⟩ (.bool true) → RdS w' b (s1.1, true) ∧ Blk w' w.heap.size Z4 42 ∧ Alb w.heap.size w1 w' b ∧ w.heap.size ≤ w'.heap.size := by
    rintro w' rfl
    have bt := But.set w1 b 1 (.bool true)
    exact ⟨⟨by rw [World.cell?_setCell_other (h := by simp)]; exact c0, World.cell?_setCell_same (h := c1) .., by rw [World.frozen?_setCell]; exact f0, by rw [World.frozen?_setCell]; exact f1⟩, kR1.but bt hne, .but bt, by rw [bt.size]; exact hs1⟩
  clear T kR hA b1
  go_upto_region 20 with fail
  obtain ⟨h3, kR2, hA3, hs2⟩ := fin _ rfl
  generalize w1.setCell ⟨b, 1, none⟩ (.bool true) = w2 at *
  have hA2 := hA1.trans hA3
  clear fin c0 c1 f0 f1 hA1 hA3 kR1
  go_wp2_with (refine wpl_put rfl (.tmp 2) (.tmp 59) rfl w.heap.size _ rfl rfl kR2 (by kernel_rfl) rfl (by kernel_rfl) ?_)
  intro W' kW gW sW
  have h4 : RdS W' b (s1.1, true) := Rd.below h3 (B := w.heap.size) ((Below.refl w.heap.size w2).grown gW hs2 (fun k hk => by injection hk with hk; omega)) hb
  go_wp2
  exact ret58 Tryz.results42 kW rfl rfl ⟨rfl, h4, hA2.trans (.grown gW hs2 (Nat.le_refl _))⟩

theorem rvalue_any (w : World) (b : Nat) (st : Rs) (hb : b < w.heap.size) (hr : RdS w b st) :
    Calls Tryz.prog 42 #[.pointer (some ⟨b, 0, none⟩)] w fun e w' => e = .returned (vaR st).1.v ∧ RdS w' b (vaR st).2 ∧ Alb w.heap.size w w' b := by
  obtain ⟨l, s1, ht⟩ : ∃ l s1, takeR st 1 = (l, s1) := ⟨_, _, rfl⟩
  unfold vaR
  simp only [ht]
  by_cases hT : l = [116]
  · subst hT
    exact rvalue_t w b st s1 _ _ hb hr ht rfl
  rw [if_neg hT]
  by_cases hB : l = [98]
  · subst hB
    exact rvalue_b w b st s1 _ _ hb hr ht rfl
  rw [if_neg hB]
  by_cases hs : l = [115]
  · subst hs
    exact rvalue_s w b st s1 _ _ hb hr ht rfl
  rw [if_neg hs]
  by_cases hI : l = [73]
  · subst hI
    exact rvalue_I w b st s1 _ _ hb hr ht rfl
  rw [if_neg hI]
  by_cases hl : l = [108]
  · subst hl
    exact rvalue_l w b st s1 _ _ hb hr ht rfl
  rw [if_neg hl]
  by_cases hf : l = [102]
  · subst hf
    exact rvalue_f w b st s1 _ _ hb hr ht rfl
  rw [if_neg hf]
  by_cases hd : l = [100]
  · subst hd
    exact rvalue_d w b st s1 _ _ hb hr ht rfl
  rw [if_neg hd]
  by_cases hS : l = [83]
  · subst hS
    exact rvalue_S w b st s1 _ _ hb hr ht rfl
  rw [if_neg hS]
  exact rvalue_else w b st s1 l hb hr ht hT hB hs hI hl hf hd hS
end Go.Proofs.YtmaaacaifpgpaaaGreatDoor
