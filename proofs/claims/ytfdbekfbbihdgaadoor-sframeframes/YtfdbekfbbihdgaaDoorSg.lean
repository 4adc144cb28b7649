
/- The body of a frame that is read. Conditions: those that each row states. -/
import Derived.Test.YtfdbekfbbihdgaaDoorSf
namespace Go.Proofs.YtfdbekfbbihdgaaDoor
open Go.RowKit Go.Lib
set_option maxRecDepth 100000
set_option linter.unusedSimpArgs false

/-- The smaller one. -/
def capN (n m : Nat) : Nat := min n m
theorem capN_min (n m : Nat) : min (n : Int) (m : Int) = ((capN n m : Nat) : Int) := by unfold capN; omega
@[go_sem] theorem min_1025 (n : Nat) : min (n : Int) 1025 = ((capN n 1025 : Nat) : Int) := capN_min n 1025
@[go_sem] theorem min_16384 (n : Nat) : min (n : Int) 16384 = ((capN n 16384 : Nat) : Int) := capN_min n 16384
/-- What body answers and leaves. -/
def BodyP (w : World) (b : Nat) (R : Except Int (Bs × Bs)) (e : Ending) (w' : World) : Prop :=
  Alb w.heap.size w w' b ∧ ((∃ x r, R = .ok (x, r) ∧ e = .returned (str x) ∧ Cr w' b r) ∨ (∃ g, R = .error g ∧ e = .panicked (gup g)))
theorem BodyP.later {w w1 : World} {b : Nat} {R : Except Int (Bs × Bs)} {e : Ending} {w' : World} (hb : Below w.heap.size w w1) (h : BodyP w1 b R e w') : BodyP w b R e w' := by
  obtain ⟨h1, h2⟩ := h
  have hs := hb.size
  exact ⟨(Alb.below hb).trans ⟨h1.os, h1.tape, h1.output, h1.size, fun k hk => h1.block k (by omega)⟩, h2⟩
set_option maxHeartbeats 2000000 in
theorem body_len (w : World) (b B : Nat) (s : Bs) (c bd : Bs) (hv : Value) (H : List Hd) (t : Bs) (hr : Cr w b s) (hb : b < w.heap.size) (hs : s.length ≤ 100000000) (hV : Vars B w) (hB : B ≤ b) (hH : RdH w hv H) (hHl : H.length ≤ 1000000000) (ht : getL CL H = some t) (htl : t.length ≤ 100000000) :
    Calls Tryd.prog 48 #[.pointer (some ⟨b, 0, none⟩), frV c hv bd] w fun e w' => BodyP w b (bodyL H s) e w' := by
  have hbl : bodyL H s = (match lenL t with
    | some n => upTo n s
    | none => .error 40) := by unfold bodyL; rw [ht]; rfl
  obtain ⟨R, hR⟩ : ∃ R, bodyL H s = R := ⟨_, rfl⟩
  rw [hR] at hbl ⊢
  clear hR
  have kB := Blk.new w #[str c, hv, str bd] 24
  have hb0 := below_new w (.cells #[str c, hv, str bd] 24)
  have G := get_any (w.alloc (.cells #[str c, hv, str bd] 24)) c bd CL hv H (hH.on hb0) (by omega)
  unfold getV at G
  rw [ht] at G
  simp only [] at G
  have hs0 : w.heap.size ≤ (w.alloc (.cells #[str c, hv, str bd] 24)).heap.size := hb0.size
  go_enter Tryd.func48, Tryd.ntmps48
  go_upto_region 1 with fail
  generalize w.alloc (.cells #[str c, hv, str bd] 24) = w0 at *
  have c0 := kB.cell 0; have c1 := kB.cell 1; have c2 := kB.cell 2
  go_wp2_with fail
  refine G.mono ?_
  rintro e w1 ⟨rfl, b1⟩
  have hb1 := hb0.trans (b1.mono hs0)
  have L := length_any w1 B t (by omega) (hV.on (hb1.mono (by omega))) (by have := hb1.size; omega)
  go_wp2_with fail
  refine L.mono ?_
  rintro e w2 ⟨b2, ⟨n, hn, hn2, rfl⟩ | ⟨hn, rfl⟩⟩
  · have hb2 := hb1.trans (b2.mono hb1.size)
    have U := upto_any w2 b n s (hr.on hb2 hb) (by have := hb2.size; omega) (by omega) (by omega)
    rw [hn] at hbl
    simp only [] at hbl
    rw [← hbl] at U
    clear hbl
    go_wp2_with fail
    refine U.mono ?_
    rintro e w3 ⟨hA, ⟨x, r, rfl, rfl, hc⟩ | ⟨g, rfl, rfl⟩⟩
    · go_wp2
      go_ret
      exact BodyP.later hb2 ⟨hA, .inl ⟨x, r, rfl, rfl, hc⟩⟩
    · exact ⟨rfl, BodyP.later hb2 ⟨hA, .inr ⟨g, rfl, rfl⟩⟩⟩
  · rw [hn] at hbl
    simp only [] at hbl
    exact ⟨rfl, Alb.below (hb1.trans (b2.mono hb1.size)), .inr ⟨40, hbl, rfl⟩⟩
set_option maxHeartbeats 2000000 in
theorem body_not (w : World) (b : Nat) (s : Bs) (c bd : Bs) (hv : Value) (H : List Hd) (hr : Cr w b s) (hb : b < w.heap.size) (hs : s.length ≤ 100000000) (hH : RdH w hv H) (hHl : H.length ≤ 1000000000) (ht : getL CL H = none) :
    Calls Tryd.prog 48 #[.pointer (some ⟨b, 0, none⟩), frV c hv bd] w fun e w' => BodyP w b (bodyL H s) e w' := by
  have hbl : bodyL H s = (match cutN 0 (s.take 1025) with
    | some (a, _) => upTo a.length s
    | none => if s.length ≤ 1024 then .error 41 else .error 40) := by unfold bodyL; rw [ht]; rfl
  obtain ⟨R, hR⟩ : ∃ R, bodyL H s = R := ⟨_, rfl⟩
  rw [hR] at hbl ⊢
  clear hR
  have kB := Blk.new w #[str c, hv, str bd] 24
  have hb0 := below_new w (.cells #[str c, hv, str bd] 24)
  have G := get_any (w.alloc (.cells #[str c, hv, str bd] 24)) c bd CL hv H (hH.on hb0) (by omega)
  unfold getV at G
  rw [ht] at G
  simp only [] at G
  have hs0 : w.heap.size ≤ (w.alloc (.cells #[str c, hv, str bd] 24)).heap.size := hb0.size
  have IB : ∀ w, Calls Tryd.prog 34 #[str (s.take 1025), .int .u8 0] w fun e w' => e = .returned (.int .i64 (match cutN 0 (s.take 1025) with | some (a, _) => (a.length : Int) | none => -1)) ∧ w' = w := fun w => ib_any w (s.take 1025) 0
  have e1 : (⟨s.toArray⟩ : ByteArray).extract 0 (capN s.length 1025) = ⟨(s.take 1025).toArray⟩ := by
    rw [ext_str]
    simp [capN, List.take_take, Nat.min_comm]
  have e2 : ((capN s.length 1025 : Nat) : Int) ≤ (s.length : Int) := by unfold capN; omega
  have hle : ∀ a r, cutN 0 (s.take 1025) = some (a, r) → a.length ≤ 100000000 := fun a r h => by
    obtain ⟨h1, _⟩ := cutN_some h
    have := congrArg List.length h1
    simp at this
    omega
  generalize s.take 1025 = s' at *
  have HI := fun w => insist_no w 40
  obtain ⟨g, hg⟩ : ∃ g, gup 40 = g := ⟨_, rfl⟩
  obtain ⟨g1, hg1⟩ : ∃ g, gup 41 = g := ⟨_, rfl⟩
  cases hc : cutN 0 s' with
  | some p =>
    obtain ⟨a, r⟩ := p
    have ha := hle a r hc
    rw [hc] at hbl IB
    simp only [] at hbl IB
    clear hc hle HI
    go_enter Tryd.func48, Tryd.ntmps48
    go_upto_region 1 with fail
    generalize w.alloc (.cells #[str c, hv, str bd] 24) = w0 at *
    have c0 := kB.cell 0; have c1 := kB.cell 1; have c2 := kB.cell 2
    go_upto_region 4 with (go_at_call 14; refine G.mono ?_; rintro e w1 ⟨rfl, b1⟩)
    have hb1 := hb0.trans (b1.mono hs0)
    obtain ⟨k0, f0⟩ := hr.on hb1 hb
    go_quiet ((go_at_call 34; exact Calls.quiet_of_same (IB _)))
    have hb2 := below_drewN hb1 nq
    have hs2 := hb2.size
    have U := fun s1 => upto_any (w1.drewN nq) b a.length s (hr.on hb2 hb) s1 (by omega) (by omega)
    have U := U (by omega)
    rw [← hbl] at U
    clear hbl b1 G
    generalize w1.drewN nq = w2 at *
    have ha0 : decide ((a.length : Int) < 0) = false := by simp
    go_wp2_with fail
    refine U.mono ?_
    rintro e w3 ⟨hA, ⟨x, r, rfl, rfl, hc⟩ | ⟨g, rfl, rfl⟩⟩
    · go_wp2
      go_ret
      exact BodyP.later hb2 ⟨hA, .inl ⟨x, r, rfl, rfl, hc⟩⟩
    · exact ⟨rfl, BodyP.later hb2 ⟨hA, .inr ⟨g, rfl, rfl⟩⟩⟩
  | none =>
    rw [hc] at hbl IB
    simp only [] at hbl IB
    clear hc hle
    by_cases h24 : s.length ≤ 1024
    · rw [if_pos h24] at hbl
      subst hbl
      have hz : decide ((s.length : Int) ≤ 1024) = true := decide_eq_true (by omega)
      go_enter Tryd.func48, Tryd.ntmps48
      go_upto_region 1 with fail
      generalize w.alloc (.cells #[str c, hv, str bd] 24) = w0 at *
      have c0 := kB.cell 0; have c1 := kB.cell 1; have c2 := kB.cell 2
      go_upto_region 4 with (go_at_call 14; refine G.mono ?_; rintro e w1 ⟨rfl, b1⟩)
      have hb1 := hb0.trans (b1.mono hs0)
      obtain ⟨k0, f0⟩ := hr.on hb1 hb
      go_quiet ((go_at_call 34; exact Calls.quiet_of_same (IB _)))
      have hb2 := below_drewN hb1 nq
      obtain ⟨k2, f2⟩ := hr.on hb2 hb
      clear b1 G k0 f0
      generalize w1.drewN nq = w2 at *
      go_wp2_with fail
      refine (insist_ok _ _).mono ?_
      rintro e w2 ⟨rfl, rfl⟩
      go_wp2
      exact ⟨rfl, Alb.below hb2, .inr ⟨41, rfl, rfl⟩⟩
    · rw [if_neg h24] at hbl
      subst hbl
      have hz : decide ((s.length : Int) ≤ 1024) = false := decide_eq_false (by omega)
      have hE : ∃ x, (Except.error 40 : Except Int (Bs × Bs)) = .error x ∧ g = gup x := ⟨40, rfl, hg.symm⟩
      rw [hg] at HI
      clear hg hg1
      go_enter Tryd.func48, Tryd.ntmps48
      go_upto_region 1 with fail
      generalize w.alloc (.cells #[str c, hv, str bd] 24) = w0 at *
      have c0 := kB.cell 0; have c1 := kB.cell 1; have c2 := kB.cell 2
      go_upto_region 4 with (go_at_call 14; refine G.mono ?_; rintro e w1 ⟨rfl, b1⟩)
      have hb1 := hb0.trans (b1.mono hs0)
      obtain ⟨k0, f0⟩ := hr.on hb1 hb
      go_quiet ((go_at_call 34; exact Calls.quiet_of_same (IB _)))
      have hb2 := below_drewN hb1 nq
      obtain ⟨k2, f2⟩ := hr.on hb2 hb
      clear b1 G k0 f0
      generalize w1.drewN nq = w2 at *
      go_wp2_with fail
      refine (HI _).mono ?_
      rintro e w2 ⟨rfl, rfl⟩
      obtain ⟨x, h3, h4⟩ := hE
      exact ⟨rfl, Alb.below hb2, .inr ⟨x, h3, by rw [h4]⟩⟩
theorem body_any (w : World) (b B : Nat) (s : Bs) (c bd : Bs) (hv : Value) (H : List Hd) (hr : Cr w b s) (hb : b < w.heap.size) (hs : s.length ≤ 100000000) (hV : Vars B w) (hB : B ≤ b) (hH : RdH w hv H) (hHl : H.length ≤ 1000000000) (htl : ∀ h ∈ H, h.2.length ≤ 100000000) :
    Calls Tryd.prog 48 #[.pointer (some ⟨b, 0, none⟩), frV c hv bd] w fun e w' => BodyP w b (bodyL H s) e w' := by
  cases ht : getL CL H with
  | none => exact body_not w b s c bd hv H hr hb hs hH hHl ht
  | some t =>
    have key : ∀ (H : List Hd), (∀ h ∈ H, h.2.length ≤ 100000000) → getL CL H = some t → t.length ≤ 100000000 := by
      intro H
      induction H with
      | nil => intro _ h; cases h
      | cons a H ih =>
        intro h1 h2
        rw [getL] at h2
        split at h2
        · injection h2 with h2; subst h2; exact h1 a (by simp)
        · exact ih (fun h hh => h1 h (List.mem_cons_of_mem _ hh)) h2
    exact body_len w b B s c bd hv H t hr hb hs hV hB hH hHl ht (key H htl ht)
end Go.Proofs.YtfdbekfbbihdgaaDoor
