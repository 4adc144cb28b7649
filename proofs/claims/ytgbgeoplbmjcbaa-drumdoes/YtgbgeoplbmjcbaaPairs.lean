/- The program's drum beside the document's: each call of both. -/
import Derived.Test.YtgbgeoplbmjcbaaRefOps
import Derived.Test.YtgbgeoplbmjcbaaRefWrite
import Derived.Test.YtgbgeoplbmjcbaaRefNew
import Derived.Test.YtgbgeoplbmjcbaaPage
namespace Go.Proofs.Ytgbgeoplbmjcbaa
open Go.RowKit Go.Lib

/-- A state of both. -/
structure St where
  safe : List UInt8
  log : List (Nat × List UInt8)
  ops : Nat
  down : Bool
  armed : Nat
  keep : Int
  k : Int
structure St.Ok (s : St) (n j : Nat) : Prop where
  link : s.armed = 0 ∨ s.k = s.keep
  log : LogOk n s.log
  len : s.safe.length = n * 256
  few : s.log.length ≤ j
  cnt : s.ops ≤ j
  klo : -9223372036854775808 ≤ s.k
  khi : s.k < 9223372036854775808
/-- Both drums in memory, apart from one another, all from block B on; and a call's own cells at V. -/
structure Two (B : Nat) (w0 w : World) (X Y : Nat → Prop) (q m n V : Nat) (C : Array Value) (s : St) : Prop where
  dr : Drum w X q n (mkS s.safe s.log s.ops s.down s.armed s.keep)
  re : Ref w Y m n s.safe s.log s.ops (!s.down) s.armed s.k
  ap : ∀ k, X k → ¬ Y k
  ax : ∀ k, X k → B ≤ k
  ay : ∀ k, Y k → B ≤ k
  be : Below B w0 w
  hv : w.heap[V]? = some (.cells C 34 (0, 0))
  vx : ¬ X V
  vy : ¬ Y V
theorem Ref.lt {w : World} {Y : Nat → Prop} {m n : Nat} {safe : List UInt8} {log : List (Nat × List UInt8)} {count : Nat} {power : Bool} {armed : Nat} {k : Int} (h : Ref w Y m n safe log count power armed k) : ∀ i, Y i → i < w.heap.size := by
  obtain ⟨_, _, _, _, _, hr⟩ := h
  exact hr.lt
theorem Ref.on {w w' : World} {X X' Y : Nat → Prop} {m n : Nat} {safe : List UInt8} {log : List (Nat × List UInt8)} {count : Nat} {power : Bool} {armed : Nat} {k : Int} (h : Ref w Y m n safe log count power armed k) (hs : Step X X' w w') (hd : ∀ i, Y i → ¬ X i) : Ref w' Y m n safe log count power armed k := by
  obtain ⟨a, b, c, d, e, hr⟩ := h
  exact ⟨a, b, c, d, e, hr.on hs hd⟩
theorem Two.vlt {B : Nat} {w0 w : World} {X Y : Nat → Prop} {q m n V : Nat} {C : Array Value} {s : St} (h : Two B w0 w X Y q m n V C s) : V < w.heap.size := (Array.getElem?_eq_some_iff.1 h.hv).1
theorem Two.bs {B : Nat} {w0 w : World} {X Y : Nat → Prop} {q m n V : Nat} {C : Array Value} {s : St} (h : Two B w0 w X Y q m n V C s) (hB : B ≤ w0.heap.size) : B ≤ w.heap.size := Nat.le_trans hB h.be.size
/-- New memory beside. -/
theorem Two.below {B : Nat} {w0 w w' : World} {X Y : Nat → Prop} {q m n V : Nat} {C : Array Value} {s : St} (h : Two B w0 w X Y q m n V C s) (hB : B ≤ w0.heap.size) (hb : Below w.heap.size w w') : Two B w0 w' X Y q m n V C s :=
  ⟨h.dr.below hb, h.re.on (Step.of_below (X := fun _ => False) hb) (fun _ _ h => h), h.ap, h.ax, h.ay, h.be.trans (hb.mono (h.bs hB)), (hb.block _ h.vlt).trans h.hv, h.vx, h.vy⟩
/-- The program's drum is changed. -/
theorem Two.left {B : Nat} {w0 w w' : World} {X Y X' : Nat → Prop} {q m n V : Nat} {C : Array Value} {s : St} (h : Two B w0 w X Y q m n V C s) (hB : B ≤ w0.heap.size) (hs : Step X X' w w') :
    Ref w' Y m n s.safe s.log s.ops (!s.down) s.armed s.k ∧ (∀ k, X' k → ¬ Y k) ∧ (∀ k, X' k → B ≤ k) ∧ Below B w0 w' ∧ w'.heap[V]? = some (.cells C 34 (0, 0)) ∧ ¬ X' V :=
  ⟨h.re.on hs (fun k hy hx => h.ap k hx hy), fun k hx hy => (hs.grow k hx).elim (fun hx => h.ap k hx hy) (fun hg => absurd (h.re.lt k hy) (Nat.not_lt.2 hg)), hs.above h.ax (h.bs hB), h.be.trans (hs.below h.ax (h.bs hB)), (hs.block V h.vlt h.vx).trans h.hv, fun hx => (hs.grow V hx).elim h.vx (fun hg => absurd h.vlt (Nat.not_lt.2 hg))⟩
/-- Then the document's one. -/
theorem two_right {B : Nat} {w0 w w' : World} {X Y Y' : Nat → Prop} {q m n V : Nat} {C : Array Value} {s' : St} (hB : B ≤ w.heap.size) (hd : Drum w X q n (mkS s'.safe s'.log s'.ops s'.down s'.armed s'.keep)) (ap : ∀ k, X k → ¬ Y k) (ax : ∀ k, X k → B ≤ k) (ay : ∀ k, Y k → B ≤ k) (be : Below B w0 w) (hv : w.heap[V]? = some (.cells C 34 (0, 0))) (vx : ¬ X V) (vy : ¬ Y V)
    (hr : Ref w' Y' m n s'.safe s'.log s'.ops (!s'.down) s'.armed s'.k) (hs : Step Y Y' w w') : Two B w0 w' X Y' q m n V C s' := by
  have hvl : V < w.heap.size := (Array.getElem?_eq_some_iff.1 hv).1
  exact ⟨hd.on hs ap, hr, fun k hx hy' => (hs.grow k hy').elim (ap k hx) (fun hg => absurd (Raw.lt' hd k hx) (Nat.not_lt.2 hg)), ax, hs.above ay hB, be.trans (hs.below ay hB), (hs.block V hvl vy).trans hv, vx, fun hy' => (hs.grow V hy').elim vy (fun hg => absurd hvl (Nat.not_lt.2 hg))⟩

/-- One raw operation of both. -/
theorem oper_pair (n j : Nat) (s : St) (h : s.Ok n j) (ha : s.armed < 9223372036854775808) (log1 : List (Nat × List UInt8)) (hl1 : LogOk n log1) (hf1 : log1.length ≤ j + 1) (hj1 : j + 1 ≤ 1000) :
    ∃ (s' : St) (r : Bool), s'.Ok n (j + 1) ∧ (mkS s.safe log1 s.ops false s.armed s.keep).oper = (mkS s'.safe s'.log s'.ops s'.down s'.armed s'.keep, if r = true then 20 else 0) ∧ s'.k = s.k ∧
      ∀ m w5 Y5, Ref w5 Y5 m n s.safe log1 s.ops true s.armed s.k → Calls Try.prog 29 #[.pointer (some ⟨m, 0, none⟩)] w5 fun e w' => ∃ Y', e = .returned (.bool r) ∧ Ref w' Y' m n s'.safe s'.log s'.ops (!s'.down) s'.armed s'.k ∧ Step Y5 Y' w5 w' := by
  have hc : s.ops ≤ 1000000 := by have := h.cnt; omega
  have hcn := h.cnt
  have hk := h.klo
  have hk' := h.khi
  match ea : s.armed with
  | 0 =>
    refine ⟨⟨s.safe, log1, s.ops + 1, false, 0, s.keep, s.k⟩, false, ⟨.inl rfl, hl1, h.len, hf1, (by show s.ops + 1 ≤ _; omega), hk, hk'⟩, rfl, rfl, fun m w5 Y5 hr => (opr0 w5 Y5 m n s.safe log1 s.ops true s.k hc hr).mono ?_⟩
    rintro e w' ⟨rfl, h1, h2⟩
    exact ⟨Y5, rfl, h1, h2⟩
  | 1 =>
    have hkk : s.k = s.keep := h.link.resolve_left (by omega)
    refine ⟨⟨partAll s.safe s.keep.toNat log1, [], s.ops + 1, true, 0, 0, s.k⟩, true, ⟨.inl rfl, fun x hx => (by cases hx), part_length n _ _ _ h.len hl1, Nat.zero_le _, (by show s.ops + 1 ≤ _; omega), hk, hk'⟩, oper_mk1 n _ _ _ _ h.len hl1, rfl, fun m w5 Y5 hr => (opr1 w5 Y5 m n s.safe log1 s.ops s.k hc hk hk' h.len hl1 (by omega) hr).mono ?_⟩
    rintro e w' ⟨Y', rfl, h1, h2⟩
    refine ⟨Y', rfl, ?_, h2⟩
    rw [hkk] at h1 ⊢
    exact h1
  | a + 2 =>
    have hkk : s.k = s.keep := h.link.resolve_left (by omega)
    refine ⟨⟨s.safe, log1, s.ops + 1, false, a + 1, s.keep, s.k⟩, false, ⟨.inr hkk, hl1, h.len, hf1, (by show s.ops + 1 ≤ _; omega), hk, hk'⟩, oper_mk2 _ _ _ _ _ _, rfl, fun m w5 Y5 hr => (opr2 w5 Y5 m n s.safe log1 s.ops true a s.k hc (by omega) hr).mono ?_⟩
    rintro e w' ⟨rfl, h1, h2⟩
    exact ⟨Y5, rfl, h1, h2⟩

/-- Both, in some state. -/
def TT (B : Nat) (w0 : World) (q m n V : Nat) (C : Array Value) (j : Nat) (w : World) : Prop := ∃ X Y s, Two B w0 w X Y q m n V C s ∧ s.Ok n j
theorem St.Ok.mono {s : St} {n j : Nat} (h : s.Ok n j) : s.Ok n (j + 1) := ⟨h.link, h.log, h.len, Nat.le_succ_of_le h.few, Nat.le_succ_of_le h.cnt, h.klo, h.khi⟩
theorem Two.ok {B : Nat} {w0 w : World} {X Y : Nat → Prop} {q m n V : Nat} {C : Array Value} {s : St} (h : Two B w0 w X Y q m n V C s) : (mkS s.safe s.log s.ops s.down s.armed s.keep).Ok n := by
  obtain ⟨_, _, _, ok⟩ := h.dr
  exact ok
theorem histlen (s : St) : (mkS s.safe s.log s.ops s.down s.armed s.keep).W.length = s.log.length := hist_length _ _


/-- Between the two calls: the program's drum is in the state s', the document's one still in s. -/
structure Mid (B : Nat) (w0 w : World) (X Y : Nat → Prop) (q m n V : Nat) (C : Array Value) (s s' : St) : Prop where
  dr : Drum w X q n (mkS s'.safe s'.log s'.ops s'.down s'.armed s'.keep)
  re : Ref w Y m n s.safe s.log s.ops (!s.down) s.armed s.k
  ap : ∀ k, X k → ¬ Y k
  ax : ∀ k, X k → B ≤ k
  ay : ∀ k, Y k → B ≤ k
  be : Below B w0 w
  hv : w.heap[V]? = some (.cells C 34 (0, 0))
  vx : ¬ X V
  vy : ¬ Y V
def MM (B : Nat) (w0 : World) (Y : Nat → Prop) (q m n V : Nat) (C : Array Value) (s s' : St) (w : World) : Prop := ∃ X, Mid B w0 w X Y q m n V C s s'
theorem Two.mid {B : Nat} {w0 w w' : World} {X Y X' : Nat → Prop} {q m n V : Nat} {C : Array Value} {s s' : St} (h : Two B w0 w X Y q m n V C s) (hB : B ≤ w0.heap.size) (hd : Drum w' X' q n (mkS s'.safe s'.log s'.ops s'.down s'.armed s'.keep)) (hs : Step X X' w w') : MM B w0 Y q m n V C s s' w' := by
  obtain ⟨a1, a2, a3, a4, a5, a6⟩ := h.left hB hs
  exact ⟨X', hd, a1, a2, a3, h.ay, a4, a5, a6, h.vy⟩
theorem MM.below {B : Nat} {w0 w w' : World} {Y : Nat → Prop} {q m n V : Nat} {C : Array Value} {s s' : St} (h : MM B w0 Y q m n V C s s' w) (hB : B ≤ w0.heap.size) (hb : Below w.heap.size w w') : MM B w0 Y q m n V C s s' w' := by
  obtain ⟨X, h⟩ := h
  exact ⟨X, h.dr.below hb, h.re.on (Step.of_below (X := fun _ => False) hb) (fun _ _ h => h), h.ap, h.ax, h.ay, h.be.trans (hb.mono (Nat.le_trans hB h.be.size)), (hb.block _ (Array.getElem?_eq_some_iff.1 h.hv).1).trans h.hv, h.vx, h.vy⟩
theorem MM.hv {B : Nat} {w0 w : World} {Y : Nat → Prop} {q m n V : Nat} {C : Array Value} {s s' : St} (h : MM B w0 Y q m n V C s s' w) : w.heap[V]? = some (.cells C 34 (0, 0)) := by
  obtain ⟨X, h⟩ := h
  exact h.hv
theorem MM.re {B : Nat} {w0 w : World} {Y : Nat → Prop} {q m n V : Nat} {C : Array Value} {s s' : St} (h : MM B w0 Y q m n V C s s' w) : Ref w Y m n s.safe s.log s.ops (!s.down) s.armed s.k := by
  obtain ⟨X, h⟩ := h
  exact h.re
theorem MM.right {B : Nat} {w0 w w' : World} {Y Y' : Nat → Prop} {q m n V j : Nat} {C : Array Value} {s s' : St} (h : MM B w0 Y q m n V C s s' w) (hB : B ≤ w0.heap.size) (ok : s'.Ok n j) (hr : Ref w' Y' m n s'.safe s'.log s'.ops (!s'.down) s'.armed s'.k) (hs : Step Y Y' w w') : TT B w0 q m n V C j w' := by
  obtain ⟨X, h⟩ := h
  exact ⟨X, Y', s', two_right (Nat.le_trans hB h.be.size) h.dr h.ap h.ax h.ay h.be h.hv h.vx h.vy hr hs, ok⟩

theorem pair_flush (B : Nat) (w0 w : World) (q m n V : Nat) (C : Array Value) (j : Nat) (hB : B ≤ w0.heap.size) (hj : j + 1 ≤ 1000) (h : TT B w0 q m n V C j w) :
    ∃ (code : Int) (Sx : World → Prop), (Calls Try.prog 15 #[.pointer (some ⟨q, 0, none⟩)] w fun e w' => e = .returned (.int .i64 code) ∧ Sx w') ∧
      ∀ w', Sx w' → Calls Try.prog 16 #[.pointer (some ⟨m, 0, none⟩)] w' fun e w'' => e = .returned (.int .i64 code) ∧ TT B w0 q m n V C (j + 1) w'' := by
  obtain ⟨X, Y, s, h2, ho⟩ := h
  have hfew := ho.few
  have hcnt := ho.cnt
  have hal : s.armed < 9223372036854775808 := h2.ok.arm
  have N15 := flush_any w X q n _ (by rw [histlen]; omega) (by show s.ops ≤ _; omega) h2.dr
  have hc : s.ops ≤ 1000000 := by omega
  have core : ∀ (s' : St) (code : Int), (mkS s.safe s.log s.ops s.down s.armed s.keep).flush = (mkS s'.safe s'.log s'.ops s'.down s'.armed s'.keep, code) → s'.Ok n (j + 1) →
      (∀ w', Ref w' Y m n s.safe s.log s.ops (!s.down) s.armed s.k → Calls Try.prog 16 #[.pointer (some ⟨m, 0, none⟩)] w' fun e w'' => ∃ Y', e = .returned (.int .i64 code) ∧ Ref w'' Y' m n s'.safe s'.log s'.ops (!s'.down) s'.armed s'.k ∧ Step Y Y' w' w'') →
      ∃ (code : Int) (Sx : World → Prop), (Calls Try.prog 15 #[.pointer (some ⟨q, 0, none⟩)] w fun e w' => e = .returned (.int .i64 code) ∧ Sx w') ∧
        ∀ w', Sx w' → Calls Try.prog 16 #[.pointer (some ⟨m, 0, none⟩)] w' fun e w'' => e = .returned (.int .i64 code) ∧ TT B w0 q m n V C (j + 1) w'' := by
    intro s' code ef ok' N16
    rw [ef] at N15
    refine ⟨code, MM B w0 Y q m n V C s s', N15.mono ?_, ?_⟩
    · rintro e w' ⟨rfl, hd', hs'⟩
      exact ⟨rfl, h2.mid hB hd' hs'⟩
    · intro w' hm
      refine (N16 w' hm.re).mono ?_
      rintro e w'' ⟨Y', rfl, hr', hs'⟩
      exact ⟨rfl, hm.right hB ok' hr' hs'⟩
  obtain ⟨safe, log, ops, down, armed, keep, k⟩ := s
  simp only at *
  cases down
  · match armed, ho, core, hal with
    | 0, ho, core, hal =>
      refine core ⟨appAll safe log, [], ops + 1, false, 0, keep, k⟩ 0 (flush_mk0 _ _ _ _) ⟨.inl rfl, fun x hx => (by cases hx), appAll_length n _ _ ho.len ho.log, Nat.zero_le _, (by show ops + 1 ≤ _; omega), ho.klo, ho.khi⟩ (fun w' hr => (flush_ref w' Y m n safe log ops 0 0 k ho.len ho.log (by omega) hr (opr0 w' Y m n safe log ops true k hc hr)).mono ?_)
      rintro e w'' ⟨rfl, h1, h3⟩
      exact ⟨Y, rfl, h1, h3⟩
    | 1, ho, core, hal =>
      have hkk : k = keep := ho.link.resolve_left (by simp)
      refine core ⟨partAll safe keep.toNat log, [], ops + 1, true, 0, 0, k⟩ 20 (flush_mk1 n _ _ _ _ ho.len ho.log) ⟨.inl rfl, fun x hx => (by cases hx), part_length n _ _ _ ho.len ho.log, Nat.zero_le _, (by show ops + 1 ≤ _; omega), ho.klo, ho.khi⟩ (fun w' hr => (flush_ref1 w' Y m n safe log ops k hc ho.klo ho.khi ho.len ho.log (by omega) hr).mono ?_)
      rintro e w'' ⟨Y', rfl, h1, h3⟩
      refine ⟨Y', rfl, ?_, h3⟩
      rw [hkk] at h1 ⊢
      exact h1
    | a + 2, ho, core, hal =>
      have hkk : k = keep := ho.link.resolve_left (by simp)
      refine core ⟨appAll safe log, [], ops + 1, false, a + 1, keep, k⟩ 0 (flush_mk2 _ _ _ _ _) ⟨.inr hkk, fun x hx => (by cases hx), appAll_length n _ _ ho.len ho.log, Nat.zero_le _, (by show ops + 1 ≤ _; omega), ho.klo, ho.khi⟩ (fun w' hr => (flush_ref w' Y m n safe log ops (a + 2) (a + 1) k ho.len ho.log (by omega) hr (opr2 w' Y m n safe log ops true a k hc hal hr)).mono ?_)
      rintro e w'' ⟨rfl, h1, h3⟩
      exact ⟨Y, rfl, h1, h3⟩
  · refine core ⟨safe, log, ops, true, armed, keep, k⟩ 20 rfl ho.mono (fun w' hr => (flush_ref_down w' Y m n _ _ _ _ _ hr).mono ?_)
    rintro e w'' ⟨rfl, rfl⟩
    exact ⟨Y, rfl, hr, Step.refl _ _⟩

theorem pair_off (B : Nat) (w0 w : World) (q m n V : Nat) (C : Array Value) (j : Nat) (z : Int) (hz : -9223372036854775808 ≤ z) (hz' : z < 9223372036854775808) (hB : B ≤ w0.heap.size) (hj : j + 1 ≤ 1000) (h : TT B w0 q m n V C j w) :
    ∃ Sx : World → Prop, (Calls Try.prog 19 #[.pointer (some ⟨q, 0, none⟩), .int .i64 z] w fun e w' => e = .returned (.tuple #[]) ∧ w'.heap[V]? = some (.cells C 34 (0, 0)) ∧ Sx w') ∧
      ∀ w', Sx w' → Calls Try.prog 20 #[.pointer (some ⟨m, 0, none⟩), .int .i64 z] w' fun e w'' => e = .returned (.tuple #[]) ∧ TT B w0 q m n V C (j + 1) w'' := by
  obtain ⟨X, Y, s, h2, ho⟩ := h
  have hfew := ho.few
  have N19 := off_any w X q n _ z hz hz' (by rw [histlen]; omega) h2.dr
  obtain ⟨safe, log, ops, down, armed, keep, k⟩ := s
  simp only at *
  cases down
  · rw [off_mk n safe log ops armed keep z ho.len ho.log] at N19
    refine ⟨MM B w0 Y q m n V C ⟨safe, log, ops, false, armed, keep, k⟩ ⟨partAll safe z.toNat log, [], ops, true, 0, 0, k⟩, N19.mono ?_, ?_⟩
    · rintro e w' ⟨rfl, hd', hs'⟩
      have hm := h2.mid (s' := ⟨partAll safe z.toNat log, [], ops, true, 0, 0, k⟩) hB hd' hs'
      exact ⟨rfl, hm.hv, hm⟩
    · intro w' hm
      refine (off_ref w' Y m n safe log ops armed k z hz hz' ho.len ho.log (by omega) hm.re).mono ?_
      rintro e w'' ⟨Y', rfl, hr', hs'⟩
      exact ⟨rfl, hm.right hB ⟨.inl rfl, fun x hx => (by cases hx), part_length n _ _ _ ho.len ho.log, Nat.zero_le _, Nat.le_succ_of_le ho.cnt, ho.klo, ho.khi⟩ hr' hs'⟩
  · have e : (mkS safe log ops true armed keep).off z = mkS safe log ops true armed keep := rfl
    rw [e] at N19
    refine ⟨MM B w0 Y q m n V C ⟨safe, log, ops, true, armed, keep, k⟩ ⟨safe, log, ops, true, armed, keep, k⟩, N19.mono ?_, ?_⟩
    · rintro e w' ⟨rfl, hd', hs'⟩
      have hm := h2.mid (s' := ⟨safe, log, ops, true, armed, keep, k⟩) hB hd' hs'
      exact ⟨rfl, hm.hv, hm⟩
    · intro w' hm
      refine (off_ref_down w' Y m n safe log ops armed k z hm.re).mono ?_
      rintro e w'' ⟨rfl, rfl⟩
      exact ⟨rfl, hm.right hB ho.mono hm.re (Step.refl _ _)⟩

theorem pair_arm (B : Nat) (w0 w : World) (q m n V : Nat) (C : Array Value) (j : Nat) (a z : Int) (ha : -9223372036854775808 ≤ a) (ha' : a < 9223372036854775808) (hz : -9223372036854775808 ≤ z) (hz' : z < 9223372036854775808) (hB : B ≤ w0.heap.size) (h : TT B w0 q m n V C j w) :
    ∃ Sx : World → Prop, (Calls Try.prog 22 #[.pointer (some ⟨q, 0, none⟩), .int .i64 a, .int .i64 z] w fun e w' => e = .returned (.tuple #[]) ∧ w'.heap[V]? = some (.cells C 34 (0, 0)) ∧ Sx w') ∧
      ∀ w', Sx w' → Calls Try.prog 23 #[.pointer (some ⟨m, 0, none⟩), .int .i64 a, .int .i64 z] w' fun e w'' => e = .returned (.tuple #[]) ∧ TT B w0 q m n V C (j + 1) w'' := by
  obtain ⟨X, Y, s, h2, ho⟩ := h
  have N22 := arm_any w X q n _ a z ha ha' hz hz' h2.dr
  refine ⟨MM B w0 Y q m n V C s ⟨s.safe, s.log, s.ops, s.down, a.toNat, z, z⟩, N22.mono ?_, ?_⟩
  · rintro e w' ⟨rfl, hd', hs'⟩
    have hm := h2.mid (s' := ⟨s.safe, s.log, s.ops, s.down, a.toNat, z, z⟩) hB hd' hs'
    exact ⟨rfl, hm.hv, hm⟩
  · intro w' hm
    refine (arm_ref w' Y m n s.safe s.log s.ops _ s.armed s.k a z hm.re).mono ?_
    rintro e w'' ⟨rfl, hr', hs'⟩
    exact ⟨rfl, hm.right hB ⟨.inr rfl, ho.log, ho.len, Nat.le_succ_of_le ho.few, Nat.le_succ_of_le ho.cnt, hz, hz'⟩ hr' hs'⟩

/-- On of the one, and the power of the other set. -/
theorem pair_on (B : Nat) (w0 w : World) (q m n V : Nat) (C : Array Value) (j : Nat) (hB : B ≤ w0.heap.size) (h : TT B w0 q m n V C j w) :
    Calls Try.prog 21 #[.pointer (some ⟨q, 0, none⟩)] w fun e w' => e = .returned (.tuple #[]) ∧ (∃ x, w'.cell? ⟨m, 3, none⟩ = some x) ∧ w'.frozen? ⟨m, 3, none⟩ = false ∧ Hid (∃ X Y s, Two B w0 (w'.setCell ⟨m, 3, none⟩ (.bool true)) X Y q m n V C s ∧ s.Ok n (j + 1) ∧ s.down = false) := by
  obtain ⟨X, Y, s, h2, ho⟩ := h
  refine (on_any w X q n _ h2.dr).mono ?_
  rintro e w' ⟨rfl, hd', hs'⟩
  have hm := h2.mid (s' := ⟨s.safe, s.log, s.ops, false, s.armed, s.keep, s.k⟩) hB hd' hs'
  have hm' := hm
  obtain ⟨sv, wv, hv, ss, hs, hr⟩ := hm.re
  obtain ⟨c0, c1, c2, c3, c4, c5, c6, fz⟩ := hr.cells
  refine ⟨rfl, ⟨_, c3⟩, fz 3, ?_⟩
  obtain ⟨X', hM⟩ := hm'
  exact ⟨X', Y, ⟨s.safe, s.log, s.ops, false, s.armed, s.keep, s.k⟩, two_right (s' := ⟨s.safe, s.log, s.ops, false, s.armed, s.keep, s.k⟩) (Nat.le_trans hB hM.be.size) hM.dr hM.ap hM.ax hM.ay hM.be hM.hv hM.vx hM.vy ⟨sv, wv, hv, ss, hs, hr.set 3 (.bool true)⟩ ((Step.refl Y w').set hr.hm _), ⟨ho.link, ho.log, ho.len, Nat.le_succ_of_le ho.few, Nat.le_succ_of_le ho.cnt, ho.klo, ho.khi⟩, rfl⟩

theorem conv_nil (w : World) : (convert 37 9 (.slice none 0 0)).run Try.prog w = .ok (.string ⟨([] : List UInt8).toArray⟩) w := run_convert_bytes_nil (P := Try.prog) w 37 5 Try.underlying37 Try.underlying5 0 0 9 Try.underlying9
/-- Reads of both: the same code, the same bytes. -/
theorem pair_read (B : Nat) (w0 w : World) (q m n V : Nat) (C : Array Value) (j : Nat) (a : Int) (hB : B ≤ w0.heap.size) (hj : j ≤ 1000) (X Y : Nat → Prop) (s : St) (h2 : Two B w0 w X Y q m n V C s) (ho : s.Ok n j) :
    ∃ (code : Int) (v1 : Value) (T : ByteArray) (Sx : World → Prop), (Calls Try.prog 17 #[.pointer (some ⟨q, 0, none⟩), .int .i64 a] w fun e w' => e = .returned (.tuple #[v1, .int .i64 code]) ∧ w'.heap[V]? = some (.cells C 34 (0, 0)) ∧ Sx w') ∧
      ∀ w', Sx w' → Calls Try.prog 18 #[.pointer (some ⟨m, 0, none⟩), .int .i64 a] w' fun e w'' => ∃ v2, e = .returned (.tuple #[v2, .int .i64 code]) ∧ (convert 37 9 v1).run Try.prog w'' = .ok (.string T) w'' ∧ (convert 37 9 v2).run Try.prog w'' = .ok (.string T) w'' ∧ Two B w0 w'' X Y q m n V C s := by
  have hfew := ho.few
  by_cases hc : (mkS s.safe s.log s.ops s.down s.armed s.keep).readCode n a = 0
  · have hin : 0 ≤ a ∧ a < n := by
      unfold DS.readCode at hc
      by_cases hh : 0 ≤ a ∧ a < n
      · exact hh
      · rw [if_neg hh] at hc; omega
    have hd : s.down = false := by
      unfold DS.readCode at hc
      rw [if_pos hin] at hc
      cases e : s.down
      · rfl
      · simp [mkS, e] at hc
    obtain ⟨i, rfl⟩ : ∃ i : Nat, a = i := ⟨a.toNat, by omega⟩
    have hi : i < n := by omega
    have hpl : (pageOf (appAll s.safe s.log) i).length = 256 := pageOf_length _ n _ (appAll_length n _ _ ho.len ho.log) hi
    refine ⟨0, .slice (some ⟨w.heap.size, 0, none⟩) 256 256, ⟨(pageOf (appAll s.safe s.log) i).toArray⟩, fun w' => w'.rangeAt w.heap.size 0 (byteCells (pageOf (appAll s.safe s.log) i)) ∧ Two B w0 w' X Y q m n V C s, (read0 w X q n _ i hi (by simpa [mkS] using hd) h2.dr).mono ?_, ?_⟩
    · rintro e w' ⟨rfl, hp⟩
      exact ⟨rfl, (hp.below.block _ h2.vlt).trans h2.hv, range_of_block hp.block, h2.below hB hp.below⟩
    · rintro w' ⟨hrg, h3⟩
      have hr := h3.re
      rw [hd] at hr
      refine (read_ref_ok w' Y m n _ _ _ _ _ i hi ho.len ho.log (by omega) hr).mono ?_
      rintro e w'' ⟨g, c, rfl, hrg2, hb⟩
      exact ⟨_, rfl, conv37 hpl (range_below hrg hb), conv37 hpl hrg2, h3.below hB hb⟩
  · refine ⟨(mkS s.safe s.log s.ops s.down s.armed s.keep).readCode n a, .slice none 0 0, ⟨([] : List UInt8).toArray⟩, fun w' => w' = w, (read_bad w X q n _ a hc h2.dr).mono ?_, ?_⟩
    · rintro e w' ⟨rfl, rfl⟩
      exact ⟨rfl, h2.hv, rfl⟩
    · rintro w' rfl
      refine (read_ref_bad w' Y m n _ _ _ _ _ _ a (mkS s.safe s.log s.ops s.down s.armed s.keep) (by simp [mkS]) hc h2.re).mono ?_
      rintro e w'' ⟨rfl, rfl⟩
      exact ⟨_, rfl, conv_nil _, conv_nil _, h2⟩

/-- What is counted, and whether the power is off. -/
theorem pair_tell (B : Nat) (w0 w : World) (q m n V : Nat) (C : Array Value) (X Y : Nat → Prop) (s : St) (h2 : Two B w0 w X Y q m n V C s) :
    (Calls Try.prog 24 #[.pointer (some ⟨q, 0, none⟩)] w fun e w' => e = .returned (.int .i64 s.ops) ∧ w' = w) ∧ (Calls Try.prog 25 #[.pointer (some ⟨q, 0, none⟩)] w fun e w' => e = .returned (.bool s.down) ∧ w' = w) ∧
      w.cell? ⟨m, 4, none⟩ = some (.int .i64 s.ops) ∧ w.cell? ⟨m, 3, none⟩ = some (.bool (!s.down)) ∧ (∃ a cap, w.cell? ⟨m, 0, none⟩ = some (.slice a n cap)) ∧ w.frozen? ⟨m, 3, none⟩ = false := by
  obtain ⟨sv, wv, hv, ss, hs, hr⟩ := h2.re
  obtain ⟨c0, c1, c2, c3, c4, c5, c6, fz⟩ := hr.cells
  obtain ⟨sa, scap, rfl, -⟩ := row_cells hr.bs
  exact ⟨ops_any w X q n _ h2.dr, down_any w X q n _ h2.dr, c4, c3, ⟨_, _, c0⟩, fz 3⟩

/-- Writes of both, of two pages of the same bytes. -/
theorem pair_write (B : Nat) (w0 w : World) (q m n V : Nat) (C : Array Value) (j : Nat) (a b c : Int) (f : UInt8) (sh : Bool) (hB : B ≤ w0.heap.size) (hj : j + 1 ≤ 1000) (h : TT B w0 q m n V C j w) :
    ∃ (code : Int) (S1 : World → Nat → Prop) (S2 : World → Prop) (S3 : World → Nat → Prop),
      (Calls Try.prog 13 #[.agg #[.int .i64 a, .int .i64 b, .int .i64 c, .int .u8 (f.toNat : Int), .bool sh]] w fun e w' => ∃ g, e = .returned (.slice (some ⟨g, 0, none⟩) (if sh = true then 255 else 256) 256) ∧ w'.heap[V]? = some (.cells C 34 (0, 0)) ∧ S1 w' g) ∧
      (∀ w' g, S1 w' g → Calls Try.prog 12 #[.pointer (some ⟨q, 0, none⟩), .int .i64 b, .slice (some ⟨g, 0, none⟩) (if sh = true then 255 else 256) 256] w' fun e w'' => e = .returned (.int .i64 code) ∧ w''.heap[V]? = some (.cells C 34 (0, 0)) ∧ S2 w'') ∧
      (∀ w', S2 w' → Calls Try.prog 13 #[.agg #[.int .i64 a, .int .i64 b, .int .i64 c, .int .u8 (f.toNat : Int), .bool sh]] w' fun e w'' => ∃ g, e = .returned (.slice (some ⟨g, 0, none⟩) (if sh = true then 255 else 256) 256) ∧ w''.heap[V]? = some (.cells C 34 (0, 0)) ∧ S3 w'' g) ∧
      (∀ w' g, S3 w' g → Calls Try.prog 14 #[.pointer (some ⟨m, 0, none⟩), .int .i64 b, .slice (some ⟨g, 0, none⟩) (if sh = true then 255 else 256) 256] w' fun e w'' => e = .returned (.int .i64 code) ∧ w''.heap[V]? = some (.cells C 34 (0, 0)) ∧ TT B w0 q m n V C (j + 1) w'') := by
  obtain ⟨X, Y, s, h2, ho⟩ := h
  have hfew := ho.few
  have hcnt := ho.cnt
  have ttv : ∀ w'' : World, TT B w0 q m n V C (j + 1) w'' → w''.heap[V]? = some (.cells C 34 (0, 0)) := fun w'' ⟨_, _, _, h, _⟩ => h.hv
  by_cases hc : (mkS s.safe s.log s.ops s.down s.armed s.keep).writeCode n b (if sh = true then 255 else 256) = 0
  · have hin : 0 ≤ b ∧ b < n := by
      unfold DS.writeCode at hc
      by_cases hh : (0 ≤ b ∧ b < n) ∧ (if sh = true then 255 else 256) = 256
      · exact hh.1
      · rw [if_neg hh] at hc; omega
    have hsh : sh = false := by
      unfold DS.writeCode at hc
      by_cases hh : (0 ≤ b ∧ b < n) ∧ (if sh = true then 255 else 256) = 256
      · cases sh
        · rfl
        · exact absurd hh.2 (by simp)
      · rw [if_neg hh] at hc; omega
    subst hsh
    have hd : s.down = false := by
      unfold DS.writeCode at hc
      rw [if_pos ⟨hin, by simp⟩] at hc
      cases e : s.down
      · rfl
      · simp [mkS, e] at hc
    obtain ⟨i, rfl⟩ : ∃ i : Nat, b = i := ⟨b.toNat, by omega⟩
    have hi : i < n := by omega
    have hal : s.armed < 9223372036854775808 := h2.ok.arm
    obtain ⟨s', r, ok', eo, ek, N29⟩ := oper_pair n j s ho hal (s.log ++ [(i, cpage f)]) (fun x hx => by
      rcases List.mem_append.1 hx with hx | hx
      · exact ho.log x hx
      · obtain rfl := List.mem_singleton.1 hx
        exact ⟨hi, cpage_length f⟩) (by rw [List.length_append]; simp; omega) hj
    have rdb : ∀ (w' : World) (g : Nat), w'.rangeAt g 0 (byteCells (cpage f)) → RdB w' (.slice (some ⟨g, 0, none⟩) 256 256) (cpage f) := fun w' g hr => ⟨_, _, by rw [cpage_length], fun _ => ⟨_, _, rfl, hr⟩⟩
    refine ⟨if r = true then 20 else 0, fun w' g => Two B w0 w' X Y q m n V C s ∧ w'.rangeAt g 0 (byteCells (cpage f)) ∧ ¬ X g, MM B w0 Y q m n V C s s', fun w' g => MM B w0 Y q m n V C s s' w' ∧ w'.rangeAt g 0 (byteCells (cpage f)) ∧ ¬ Y g, (page_any w a i c f false).mono ?_, ?_, ?_, ?_⟩
    · rintro e w' ⟨g, rfl, hr, hg, hb⟩
      exact ⟨g, rfl, (hb.block _ h2.vlt).trans h2.hv, h2.below hB hb, hr, fun hx => absurd (Raw.lt' h2.dr g hx) (Nat.not_lt.2 hg)⟩
    · rintro w' g ⟨h3, hr, hnx⟩
      have := write_ok w' X q n _ i _ (cpage f) hi (by simpa [mkS] using hd) (by rw [histlen]; omega) (by show s.ops ≤ _; omega) h3.dr (cpage_length f) (rdb w' g hr) (fun k hk => by cases hk; exact hnx)
      rw [put_mk] at this
      rw [hd] at this
      rw [eo] at this
      refine this.mono ?_
      rintro e w'' ⟨X', rfl, hd', hs'⟩
      have hm := h3.mid hB hd' hs'
      exact ⟨rfl, hm.hv, hm⟩
    · intro w' hm
      refine (page_any w' a i c f false).mono ?_
      rintro e w'' ⟨g, rfl, hr, hg, hb⟩
      have hm2 := hm.below hB hb
      exact ⟨g, rfl, hm2.hv, hm2, hr, fun hy => absurd (hm.re.lt g hy) (Nat.not_lt.2 hg)⟩
    · rintro w' g ⟨hm, hr, hny⟩
      have hre := hm.re
      rw [hd] at hre
      refine (write_ref w' Y m n s.safe s.log s.ops s.armed s.k i hi _ (cpage f) (cpage_length f) (rdb w' g hr) (fun k hk => by cases hk; exact hny) (by omega) hre r _ (fun w5 Y5 h5 => N29 m w5 Y5 h5)).mono ?_
      rintro e w'' ⟨Y', rfl, hr', hs'⟩
      have ht := hm.right hB ok' hr' hs'
      exact ⟨rfl, ttv _ ht, ht⟩
  · refine ⟨(mkS s.safe s.log s.ops s.down s.armed s.keep).writeCode n b (if sh = true then 255 else 256), fun w' g => Two B w0 w' X Y q m n V C s, fun w' => Two B w0 w' X Y q m n V C s, fun w' g => Two B w0 w' X Y q m n V C s, (page_any w a b c f sh).mono ?_, ?_, ?_, ?_⟩
    · rintro e w' ⟨g, rfl, hr, hg, hb⟩
      exact ⟨g, rfl, (hb.block _ h2.vlt).trans h2.hv, h2.below hB hb⟩
    · intro w' g h3
      refine (write_bad w' X q n _ b (some ⟨g, 0, none⟩) _ 256 hc h3.dr).mono ?_
      rintro e w'' ⟨rfl, rfl⟩
      exact ⟨rfl, h3.hv, h3⟩
    · intro w' h3
      refine (page_any w' a b c f sh).mono ?_
      rintro e w'' ⟨g, rfl, hr, hg, hb⟩
      exact ⟨g, rfl, (hb.block _ h3.vlt).trans h3.hv, h3.below hB hb⟩
    · intro w' g h3
      refine (write_ref_bad w' Y m n _ _ _ _ _ _ b (some ⟨g, 0, none⟩) _ 256 (mkS s.safe s.log s.ops s.down s.armed s.keep) (by simp [mkS]) hc h3.re).mono ?_
      rintro e w'' ⟨rfl, rfl⟩
      exact ⟨rfl, h3.hv, X, Y, s, h3, ho.mono⟩
end Go.Proofs.Ytgbgeoplbmjcbaa
