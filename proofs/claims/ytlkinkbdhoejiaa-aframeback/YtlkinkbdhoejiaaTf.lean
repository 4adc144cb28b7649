/- The document's and the program's Head of any size and any properties. Conditions: those that each row states. -/
import Derived.Test.YtlkinkbdhoejiaaTe
import Derived.Test.YtlkinkbdhoejiaaWk
namespace Go.Proofs.Ytlkinkbdhoejiaa
open Go.RowKit Go.Lib
set_option maxRecDepth 100000
set_option linter.unusedSimpArgs false

/-- The error that a header is answered with. -/
def errH (size : Int) (ps : List Pr) : Int := if size < 0 ∨ 1024 < size then 1 else if validL ps = true then 0 else 36
/-- A header. -/
def headL (size : Nat) (ps : List Pr) (d : Bool) : List UInt8 :=
  (if ps = [] then fixL size 4096 else fixL size 12288 ++ tabL ps) ++ [if d then 2 else 1]
def outH (size : Int) (ps : List Pr) (d : Bool) : List UInt8 := if errH size ps = 0 then headL size.toNat ps d else []
theorem fixL_len (s f : Nat) : (fixL s f).length = 14 := by simp [fixL, beN_len]
theorem valid_nil : validL [] = true := rfl

set_option maxHeartbeats 400000 in
theorem head_nil (w : World) (size : Nat) (d : Bool) (a : Option Addr) (cp : Nat) (hs : size ≤ 1024) : Calls Try.prog 14 #[.int .i64 size, .slice a 0 cp, .bool d] w fun e w' => ∃ v, e = .returned (.tuple #[v, .int .i64 0]) ∧ Own w' w.heap.size v (headL size [] d) ∧ Below w.heap.size w w' := by
  obtain ⟨c, hd⟩ : ∃ c : UInt8, c = if d then 2 else 1 := ⟨_, rfl⟩
  have HE : Hid (headL size [] d = fixL size 4096 ++ [c]) := by show _ = _; rw [hd]; rfl
  have F := fix_any w size 4096
  have hz : (size : Int) ≤ 1024 := by omega
  have M := fun w => mode_any w d
  have hcv : (if d then (2 : Int) else 1) = (c.toNat : Int) := by subst hd; cases d <;> rfl
  rw [hcv] at M
  clear hcv hd
  go_enter Try.func14, Try.ntmps14
  go_wp2_with fail
  refine F.mono ?_
  rintro e w1 ⟨v1, rfl, ho1, hb1⟩
  have hs1 := hb1.size
  clear F
  go_wp2_with fail
  refine (M _).mono ?_
  rintro e w2 ⟨rfl, rfl⟩
  go_wp2_with (at_builtin; refine app1 rfl (.tmp 20) (.tmp 23) rfl w.heap.size _ _ _ c _ rfl rfl ho1 rfl (by rw [fixL_len]; omega) hs1 ?_)
  intro v5 w5 ho5 hb5
  go_wp2
  go_ret2
  exact ⟨_, rfl, by rw [HE.out]; exact ho5, hb1.trans hb5⟩

set_option maxHeartbeats 400000 in
theorem head_big (w : World) (size : Int) (va : Value) (d : Bool) (hs : size < 0 ∨ 1024 < size) : Calls Try.prog 14 #[.int .i64 size, va, .bool d] w fun e w' => e = .returned (.tuple #[.slice none 0 0, .int .i64 1]) ∧ w' = w := by
  by_cases h : size < 0
  · clear hs
    go_enter Try.func14, Try.ntmps14
    go_wp2_with fail
    go_ret2
    exact ⟨rfl, rfl⟩
  · have h2 : 1024 < size := by omega
    have h3 : decide (size < 0) = false := by simpa using h
    clear hs h
    go_enter Try.func14, Try.ntmps14
    go_wp2_with fail
    go_ret2
    exact ⟨rfl, rfl⟩
set_option maxHeartbeats 400000 in
theorem rhead_big (w : World) (size : Int) (va : Value) (d : Bool) (hs : size < 0 ∨ 1024 < size) : Calls Try.prog 15 #[.int .i64 size, va, .bool d] w fun e w' => e = .returned (.tuple #[.slice none 0 0, .int .i64 1]) ∧ w' = w := by
  by_cases h : size < 0
  · clear hs
    go_enter Try.func15, Try.ntmps15
    go_wp2_with fail
    go_ret2
    exact ⟨rfl, rfl⟩
  · have h2 : 1024 < size := by omega
    have h3 : decide (size < 0) = false := by simpa using h
    clear hs h
    go_enter Try.func15, Try.ntmps15
    go_wp2_with fail
    go_ret2
    exact ⟨rfl, rfl⟩

set_option maxHeartbeats 400000 in
theorem head_bad (w : World) (size : Nat) (b o n c : Nat) (d : Bool) (ps : List Pr) (hs : size ≤ 1024) (hn : n ≠ 0) (hr : RdP w (.slice (some ⟨b, o, none⟩) n c) ps) (hv : validL ps = false) : Calls Try.prog 14 #[.int .i64 size, .slice (some ⟨b, o, none⟩) n c, .bool d] w fun e w' => e = .returned (.tuple #[.slice none 0 0, .int .i64 36]) ∧ Below w.heap.size w w' := by
  have F := fix_any w size 12288
  have hz : (size : Int) ≤ 1024 := by omega
  have hnz : decide ((n : Int) = 0) = false := by simp; omega
  go_enter Try.func14, Try.ntmps14
  go_wp2_with fail
  refine F.mono ?_
  rintro e w1 ⟨v1, rfl, ho1, hb1⟩
  have PB := fun v => put_bad w1 v _ ps (hr.on hb1) hv
  clear F hr
  go_wp2_with fail
  refine (PB _).mono ?_
  rintro e w2 ⟨rfl, hb2⟩
  go_wp2_with fail
  go_ret2
  exact ⟨rfl, hb1.trans (hb2.mono hb1.size)⟩

set_option maxHeartbeats 400000 in
theorem head_some (w : World) (size : Nat) (b o n c : Nat) (d : Bool) (ps : List Pr) (hs : size ≤ 1024) (hn : n ≠ 0) (hr : RdP w (.slice (some ⟨b, o, none⟩) n c) ps) (hp : ps ≠ []) (hv : validL ps = true) (hf : ∀ q ∈ ps, q.val.real < 2 ^ 64) (hL : (tabL ps).length ≤ 100000) :
    Calls Try.prog 14 #[.int .i64 size, .slice (some ⟨b, o, none⟩) n c, .bool d] w fun e w' => ∃ v, e = .returned (.tuple #[v, .int .i64 0]) ∧ Own w' w.heap.size v (headL size ps d) ∧ Below w.heap.size w w' := by
  obtain ⟨cc, hd⟩ : ∃ c : UInt8, c = if d then 2 else 1 := ⟨_, rfl⟩
  have HE : Hid (headL size ps d = fixL size 12288 ++ tabL ps ++ [cc]) := by show _ = _; unfold headL; rw [if_neg hp, hd]
  have F := fix_any w size 12288
  have hz : (size : Int) ≤ 1024 := by omega
  have hnz : decide ((n : Int) = 0) = false := by simp; omega
  have M := fun w => mode_any w d
  have hcv : (if d then (2 : Int) else 1) = (cc.toNat : Int) := by subst hd; cases d <;> rfl
  rw [hcv] at M
  clear hcv hd
  go_enter Try.func14, Try.ntmps14
  go_wp2_with fail
  refine F.mono ?_
  rintro e w1 ⟨v1, rfl, ho1, hb1⟩
  have PB := put_ok w1 v1 _ _ ps ho1.rd (by rw [fixL_len]; omega) (hr.on hb1) hv hf
  clear F hr
  go_wp2_with fail
  refine PB.mono ?_
  rintro e w2 ⟨v2, rfl, ho2, hb2⟩
  have hB2 := hb1.trans (hb2.mono hb1.size)
  have ho2 := ho2.lower hb1.size
  have hs2 := hB2.size
  clear PB
  generalize tabL ps = TL at *
  go_wp2_with (first | (go_at_call 28; refine (M _).mono ?_; rintro e w2 ⟨rfl, rfl⟩) | (at_builtin; refine app1 rfl (.tmp 35) (.tmp 38) rfl w.heap.size _ _ _ cc _ rfl rfl ho2 rfl (by rw [List.length_append, fixL_len]; omega) hs2 ?_))
  intro v5 w5 ho5 hb5
  go_wp2
  go_ret2
  exact ⟨_, rfl, by rw [HE.out]; exact ho5, hB2.trans hb5⟩

set_option maxHeartbeats 400000 in
theorem rhead_bad (w : World) (size : Nat) (va : Value) (d : Bool) (ps : List Pr) (hs : size ≤ 1024) (hr : RdP w va ps) (hv : validL ps = false) (hf : ∀ q ∈ ps, Fits q) (h63 : ps.length ≤ 9223372036854775806) : Calls Try.prog 15 #[.int .i64 size, va, .bool d] w fun e w' => e = .returned (.tuple #[.slice none 0 0, .int .i64 36]) ∧ Below w.heap.size w w' := by
  have hz : (size : Int) ≤ 1024 := by omega
  have V := rvalid7 w va ps hr hf h63
  rw [hv] at V
  clear hr hv hf h63
  go_enter Try.func15, Try.ntmps15
  go_wp2_with fail
  refine V.mono ?_
  rintro e w1 ⟨rfl, hb1⟩
  go_wp2_with fail
  go_ret2
  exact ⟨rfl, hb1⟩

set_option maxHeartbeats 1000000 in
theorem rhead_nil (w : World) (size : Nat) (d : Bool) (a : Option Addr) (cp : Nat) (hs : size ≤ 1024) : Calls Try.prog 15 #[.int .i64 size, .slice a 0 cp, .bool d] w fun e w' => ∃ v, e = .returned (.tuple #[v, .int .i64 0]) ∧ Own w' w.heap.size v (headL size [] d) ∧ Below w.heap.size w w' := by
  have HE : Hid (headL size [] d = fixL size 4096 ++ [if d then 2 else 1]) := rfl
  have V := rvalid7_nil w a cp
  have hz : (size : Int) ≤ 1024 := by omega
  have u1 : IntKind.u64.wrap (size : Int) = (size : Int) := by rw [IntKind.wrap_u64]; omega
  have P : ∀ (k n : Nat) (w : World) (B : Nat) (v : Value) (l : List UInt8), k ≤ 8 → Own w B v l → B ≤ w.heap.size → l.length ≤ 100 → Calls Try.prog 22 #[v, .int .u64 n, .int .i64 k] w fun e w' => ∃ v', e = .returned v' ∧ Own w' B v' (l ++ beN k n) ∧ Below B w w' := fun k n w B v l hk ho hB hl => big_any w B v l k n hk ho hB (by omega)
  have P1 := P 2 60
  have P2 := P 2 0
  have P3 := P 8 size
  have P4 := P 2 4096
  clear P
  go_enter Try.func15, Try.ntmps15
  go_wp2_with fail
  refine V.mono ?_
  rintro e w0 ⟨rfl, hb0⟩
  have hs0 := hb0.size
  clear V
  go_wp2_with fail
  refine (P1 w0 w.heap.size _ [] (by omega) (Own.nil _ _) hs0 (by simp)).mono ?_
  rintro e w1 ⟨v1, rfl, ho1, hb1⟩
  have hb1 := hb0.trans hb1
  have hs1 := hb1.size
  go_wp2_with fail
  refine (P2 w1 w.heap.size _ _ (by omega) ho1 hs1 (by simp [beN_len])).mono ?_
  rintro e w2 ⟨v2, rfl, ho2, hb2⟩
  have hb2 := hb1.trans hb2
  have hs2 := hb2.size
  go_wp2_with fail
  refine (P3 w2 w.heap.size _ _ (by omega) ho2 hs2 (by simp [beN_len])).mono ?_
  rintro e w3 ⟨v3, rfl, ho3, hb3⟩
  have hb3 := hb2.trans hb3
  have hs3 := hb3.size
  go_wp2_with fail
  refine (P4 w3 w.heap.size _ _ (by omega) ho3 hs3 (by simp [beN_len])).mono ?_
  rintro e w4 ⟨v4, rfl, ho4, hb4⟩
  have hb4 := hb3.trans hb4
  have hs4 := hb4.size
  have ho4 : Own w4 w.heap.size v4 (fixL size 4096) := by simpa [fixL] using ho4
  clear P1 P2 P3 P4 ho1 ho2 ho3 hb0 hb1 hb2 hb3
  cases d with
  | true =>
    go_wp2_with (at_builtin; refine app1 rfl (.tmp 43) (.tmp 44) rfl w.heap.size _ _ _ 2 2 rfl rfl ho4 rfl (by rw [fixL_len]; omega) hs4 ?_)
    intro v5 w5 ho5 hb5
    go_wp2
    go_ret2
    exact ⟨_, rfl, by rw [HE.out]; exact ho5, hb4.trans hb5⟩
  | false =>
    go_wp2_with (at_builtin; refine app1 rfl (.tmp 46) (.tmp 47) rfl w.heap.size _ _ _ 1 1 rfl rfl ho4 rfl (by rw [fixL_len]; omega) hs4 ?_)
    intro v5 w5 ho5 hb5
    go_wp2
    go_ret2
    exact ⟨_, rfl, by rw [HE.out]; exact ho5, hb4.trans hb5⟩

set_option maxHeartbeats 1000000 in
theorem rhead_some (w : World) (size : Nat) (b o n c : Nat) (d : Bool) (ps : List Pr) (hs : size ≤ 1024) (hn : n ≠ 0) (hr : RdP w (.slice (some ⟨b, o, none⟩) n c) ps) (hp : ps ≠ []) (hv : validL ps = true) (hf : ∀ q ∈ ps, Fits q) (h63 : ps.length ≤ 9223372036854775806) (hL : (tabL ps).length ≤ 100000) :
    Calls Try.prog 15 #[.int .i64 size, .slice (some ⟨b, o, none⟩) n c, .bool d] w fun e w' => ∃ v, e = .returned (.tuple #[v, .int .i64 0]) ∧ Own w' w.heap.size v (headL size ps d) ∧ Below w.heap.size w w' := by
  have HE : Hid (headL size ps d = fixL size 12288 ++ tabL ps ++ [if d then 2 else 1]) := by show _ = _; unfold headL; rw [if_neg hp]
  have V := rvalid7 w _ ps hr hf h63
  rw [hv] at V
  have hz : (size : Int) ≤ 1024 := by omega
  have hnz : decide ((0 : Int) < (n : Int)) = true := by simp; omega
  have u1 : IntKind.u64.wrap (size : Int) = (size : Int) := by rw [IntKind.wrap_u64]; omega
  have P : ∀ (k n : Nat) (w : World) (B : Nat) (v : Value) (l : List UInt8), k ≤ 8 → Own w B v l → B ≤ w.heap.size → l.length ≤ 100 → Calls Try.prog 22 #[v, .int .u64 n, .int .i64 k] w fun e w' => ∃ v', e = .returned v' ∧ Own w' B v' (l ++ beN k n) ∧ Below B w w' := fun k n w B v l hk ho hB hl => big_any w B v l k n hk ho hB (by omega)
  have P1 := P 2 60
  have P2 := P 2 0
  have P3 := P 8 size
  have P4 := P 2 12288
  clear P
  go_enter Try.func15, Try.ntmps15
  go_wp2_with fail
  refine V.mono ?_
  rintro e w0 ⟨rfl, hb0⟩
  have hs0 := hb0.size
  clear V
  go_wp2_with fail
  refine (P1 w0 w.heap.size _ [] (by omega) (Own.nil _ _) hs0 (by simp)).mono ?_
  rintro e w1 ⟨v1, rfl, ho1, hb1⟩
  have hb1 := hb0.trans hb1
  have hs1 := hb1.size
  go_wp2_with fail
  refine (P2 w1 w.heap.size _ _ (by omega) ho1 hs1 (by simp [beN_len])).mono ?_
  rintro e w2 ⟨v2, rfl, ho2, hb2⟩
  have hb2 := hb1.trans hb2
  have hs2 := hb2.size
  go_wp2_with fail
  refine (P3 w2 w.heap.size _ _ (by omega) ho2 hs2 (by simp [beN_len])).mono ?_
  rintro e w3 ⟨v3, rfl, ho3, hb3⟩
  have hb3 := hb2.trans hb3
  have hs3 := hb3.size
  go_wp2_with fail
  refine (P4 w3 w.heap.size _ _ (by omega) ho3 hs3 (by simp [beN_len])).mono ?_
  rintro e w4 ⟨v4, rfl, ho4, hb4⟩
  have hb4 := hb3.trans hb4
  have hs4 := hb4.size
  have ho4 : Own w4 w.heap.size v4 (fixL size 12288) := by simpa [fixL] using ho4
  have PB := rput_ok w4 v4 _ _ ps ho4.rd (by rw [fixL_len]; omega) (hr.on hb4) hv hf h63
  clear P1 P2 P3 P4 ho1 ho2 ho3 hb0 hb1 hb2 hb3 hr hv hf h63 hp
  go_wp2_with fail
  refine PB.mono ?_
  rintro e w5 ⟨v5, rfl, ho5, hb5⟩
  have ho5 := ho5.lower hs4
  have hb5 := hb4.trans (hb5.mono hs4)
  have hs5 := hb5.size
  clear PB ho4 hb4
  generalize tabL ps = TL at *
  cases d with
  | true =>
    go_wp2_with (at_builtin; refine app1 rfl (.tmp 43) (.tmp 44) rfl w.heap.size _ _ _ 2 2 rfl rfl ho5 rfl (by rw [List.length_append, fixL_len]; omega) hs5 ?_)
    intro v6 w6 ho6 hb6
    go_wp2
    go_ret2
    exact ⟨_, rfl, by rw [HE.out]; exact ho6, hb5.trans hb6⟩
  | false =>
    go_wp2_with (at_builtin; refine app1 rfl (.tmp 46) (.tmp 47) rfl w.heap.size _ _ _ 1 1 rfl rfl ho5 rfl (by rw [List.length_append, fixL_len]; omega) hs5 ?_)
    intro v6 w6 ho6 hb6
    go_wp2
    go_ret2
    exact ⟨_, rfl, by rw [HE.out]; exact ho6, hb5.trans hb6⟩

theorem tabL_len {ps : List Pr} (hv : validL ps = true) (hf : ∀ q ∈ ps, q.val.real < 2 ^ 64) : (tabL ps).length ≤ 100000 := by
  obtain ⟨h1, h2⟩ := sm_all hv hf
  have := flatT_len h2
  simp only [tabL, longL, List.length_append, beN_len]
  omega
theorem outH_ok {size : Nat} {ps : List Pr} {d : Bool} (hs : size ≤ 1024) (hv : validL ps = true) : errH size ps = 0 ∧ outH size ps d = headL size ps d := by
  have e : errH size ps = 0 := by unfold errH; rw [if_neg (by omega), if_pos hv]
  exact ⟨e, by unfold outH; rw [if_pos e]; rfl⟩
theorem outH_bad {size : Nat} {ps : List Pr} {d : Bool} (hs : size ≤ 1024) (hv : validL ps = false) : errH size ps = 36 ∧ outH size ps d = [] := by
  have e : errH size ps = 36 := by unfold errH; rw [if_neg (by omega), if_neg (by simp [hv])]
  exact ⟨e, by unfold outH; rw [if_neg (by rw [e]; decide)]⟩
theorem outH_big {size : Int} {ps : List Pr} {d : Bool} (hs : size < 0 ∨ 1024 < size) : errH size ps = 1 ∧ outH size ps d = [] := by
  have e : errH size ps = 1 := by unfold errH; rw [if_pos hs]
  exact ⟨e, by unfold outH; rw [if_neg (by rw [e]; decide)]⟩
/-- The program's. -/
theorem head_any (w : World) (size : Int) (va : Value) (d : Bool) (ps : List Pr) (hr : RdP w va ps) (hf : ∀ q ∈ ps, Fits q) :
    Calls Try.prog 14 #[.int .i64 size, va, .bool d] w fun e w' => ∃ v, e = .returned (.tuple #[v, .int .i64 (errH size ps)]) ∧ Own w' w.heap.size v (outH size ps d) ∧ Below w.heap.size w w' := by
  by_cases hb : size < 0 ∨ 1024 < size
  · obtain ⟨e1, e2⟩ := outH_big (ps := ps) (d := d) hb
    rw [e1, e2]
    exact (head_big w size va d hb).mono (by rintro e w' ⟨rfl, rfl⟩; exact ⟨_, rfl, Own.nil _ _, Below.refl _ _⟩)
  · obtain ⟨s, rfl⟩ : ∃ s : Nat, size = (s : Int) := ⟨size.toNat, by omega⟩
    have hs : s ≤ 1024 := by omega
    by_cases hp : ps = []
    · subst hp
      obtain ⟨e1, e2⟩ := outH_ok (d := d) hs valid_nil
      rw [e1, e2]
      rcases hr with ⟨⟨a, c, rfl⟩, _⟩ | ⟨b, o, c, rfl, _⟩
      · exact head_nil w s d a c hs
      · exact head_nil w s d _ c hs
    · rcases hr with ⟨_, h⟩ | ⟨b, o, c, rfl, h⟩
      · exact absurd h hp
      · have hn : ps.length ≠ 0 := by simpa using hp
        have hr : RdP w (.slice (some ⟨b, o, none⟩) ps.length c) ps := .inr ⟨b, o, c, rfl, h⟩
        cases hv : validL ps with
        | false =>
          obtain ⟨e1, e2⟩ := outH_bad (d := d) hs hv
          rw [e1, e2]
          exact (head_bad w s b o _ c d ps hs hn hr hv).mono (by rintro e w' ⟨rfl, h⟩; exact ⟨_, rfl, Own.nil _ _, h⟩)
        | true =>
          obtain ⟨e1, e2⟩ := outH_ok (d := d) hs hv
          rw [e1, e2]
          exact head_some w s b o _ c d ps hs hn hr hp hv (fun q hq => (hf q hq).2) (tabL_len hv fun q hq => (hf q hq).2)
/-- The document's. -/
theorem rhead_any (w : World) (size : Int) (va : Value) (d : Bool) (ps : List Pr) (hr : RdP w va ps) (hf : ∀ q ∈ ps, Fits q) (h63 : ps.length ≤ 9223372036854775806) :
    Calls Try.prog 15 #[.int .i64 size, va, .bool d] w fun e w' => ∃ v, e = .returned (.tuple #[v, .int .i64 (errH size ps)]) ∧ Own w' w.heap.size v (outH size ps d) ∧ Below w.heap.size w w' := by
  by_cases hb : size < 0 ∨ 1024 < size
  · obtain ⟨e1, e2⟩ := outH_big (ps := ps) (d := d) hb
    rw [e1, e2]
    exact (rhead_big w size va d hb).mono (by rintro e w' ⟨rfl, rfl⟩; exact ⟨_, rfl, Own.nil _ _, Below.refl _ _⟩)
  · obtain ⟨s, rfl⟩ : ∃ s : Nat, size = (s : Int) := ⟨size.toNat, by omega⟩
    have hs : s ≤ 1024 := by omega
    cases hv : validL ps with
    | false =>
      obtain ⟨e1, e2⟩ := outH_bad (d := d) hs hv
      rw [e1, e2]
      exact (rhead_bad w s va d ps hs hr hv hf h63).mono (by rintro e w' ⟨rfl, h⟩; exact ⟨_, rfl, Own.nil _ _, h⟩)
    | true =>
      obtain ⟨e1, e2⟩ := outH_ok (d := d) hs hv
      rw [e1, e2]
      by_cases hp : ps = []
      · subst hp
        rcases hr with ⟨⟨a, c, rfl⟩, _⟩ | ⟨b, o, c, rfl, _⟩
        · exact rhead_nil w s d a c hs
        · exact rhead_nil w s d _ c hs
      · rcases hr with ⟨_, h⟩ | ⟨b, o, c, rfl, h⟩
        · exact absurd h hp
        · have hn : ps.length ≠ 0 := by simpa using hp
          exact rhead_some w s b o _ c d ps hs hn (.inr ⟨b, o, c, rfl, h⟩) hp hv hf h63 (tabL_len hv fun q hq => (hf q hq).2)
end Go.Proofs.Ytlkinkbdhoejiaa
