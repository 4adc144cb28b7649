/- table's writer: width, num. Conditions: those that each row states. -/
import Derived.Test.YtmaaacaifpgpaaaDoorTi
import Derived.Test.YtmaaacaifpgpaaaDoorFo
namespace Go.Proofs.YtmaaacaifpgpaaaDoor
open Go.RowKit Go.Lib
set_option maxRecDepth 100000
set_option linter.unusedSimpArgs false

/-- Of how many bytes a letter's number is. -/
def wid (c : Nat) : Nat := if c = 104 then 2 else if c = 108 then 4 else if c = 76 then 8 else 1
theorem width_any (w : World) (c : Nat) : Calls Tryd.prog 79 #[.int .u8 (c : Int)] w fun e w' => e = .returned (.int .i64 (wid c : Nat)) ∧ w' = w := by
  by_cases h1 : c = 104
  · subst h1
    go_enter Tryd.func79, Tryd.ntmps79
    go_wp2
    go_ret
    exact ⟨rfl, rfl⟩
  by_cases h2 : c = 108
  · subst h2
    go_enter Tryd.func79, Tryd.ntmps79
    go_wp2
    go_ret
    exact ⟨rfl, rfl⟩
  by_cases h3 : c = 76
  · subst h3
    go_enter Tryd.func79, Tryd.ntmps79
    go_wp2
    go_ret
    exact ⟨rfl, rfl⟩
  have e : wid c = 1 := by unfold wid; rw [if_neg h1, if_neg h2, if_neg h3]
  rw [e]
  have b1 : ((c : Int) == 104) = false := by simp; omega
  have b2 : ((c : Int) == 108) = false := by simp; omega
  have b3 : ((c : Int) == 76) = false := by simp; omega
  clear h1 h2 h3 e
  go_enter Tryd.func79, Tryd.ntmps79
  go_wp2
  go_ret
  exact ⟨rfl, rfl⟩

/-- Numbers that can be read, in a block below b. -/
def RdN (w : World) (b : Nat) (v : Value) (l : List Int) : Prop :=
  ((∃ a c, v = .slice a 0 c) ∧ l = []) ∨ ∃ (g o c : Nat), v = .slice (some ⟨g, o, none⟩) l.length c ∧ l.length ≤ c ∧ g < b ∧ ∀ i (h : i < l.length), w.cell? ⟨g, o + i, none⟩ = some (.int .i64 l[i])
theorem RdN.on {w w' : World} {b : Nat} {v : Value} {l : List Int} (h : RdN w b v l) (hb : Below b w w') : RdN w' b v l := by
  rcases h with h | ⟨g, o, c, rfl, hc, hg, hx⟩
  · exact .inl h
  · exact .inr ⟨g, o, c, rfl, hc, hg, fun i hi => by rw [hb.cell hg]; exact hx i hi⟩
/-- Whether a number has room in so many bytes. -/
def fitN (n : Int) (k : Nat) : Bool := decide (0 ≤ n) && decide (n < 256 ^ k)
/-- The writer at its block. -/
abbrev wrA (o n t p : Value) : Array Value := #[o, n, t, p]
set_option maxHeartbeats 1000000 in
theorem wnum_no (w : World) (b k : Nat) (o t p : Value) (ad : Option Addr) (cp : Nat) (hw : Blk w b (wrA o (.slice ad 0 cp) t p) 90) :
    Calls Tryd.prog 80 #[.pointer (some ⟨b, 0, none⟩), .int .i64 (k : Int)] w fun e w' => e = .panicked (gup 1) ∧ w' = w := by
  obtain ⟨g, hg⟩ : ∃ g, gup 1 = g := ⟨_, rfl⟩
  have I := fun w => insist_no w 1
  rw [hg] at I ⊢
  have c1 := hw.cell 1
  simp only [List.getElem?_toArray, List.getElem?_cons_zero, List.getElem?_cons_succ] at c1
  clear hw
  go_enter Tryd.func80, Tryd.ntmps80
  go_wp2_with fail
  refine (I _).mono ?_
  rintro e w' ⟨rfl, rfl⟩
  exact ⟨rfl, rfl, rfl⟩
/-- What num answers of a number that is there. -/
def WnP (w w' : World) (b k : Nat) (o t p : Value) (n : Int) (rest : List Int) (e : Ending) : Prop :=
  w.grownBy w' (some b) ∧ w'.heap.size = w.heap.size ∧ ((fitN n k = true ∧ ∃ v', e = .returned (.int .u64 n) ∧ Blk w' b (wrA o v' t p) 90 ∧ RdN w' b v' rest) ∨ (fitN n k = false ∧ e = .panicked (gup 1)))
theorem rdN_rest {w w' : World} {b g q len cap : Nat} {rest : List Int} (hb : Below b w w') (hg : g < b) (hl : rest.length = len) (hc : len ≤ cap) (hx : ∀ i (h : i < rest.length), w.cell? ⟨g, q + i, none⟩ = some (.int .i64 rest[i])) : RdN w' b (.slice (some ⟨g, q, none⟩) len cap) rest := by
  subst hl
  exact (RdN.on (.inr ⟨g, q, cap, rfl, hc, hg, hx⟩) hb)
set_option maxHeartbeats 2000000 in
theorem wnum_neg (w : World) (b k : Nat) (o t p : Value) (g q cp len : Nat) (n : Int) (rest : List Int) (hw : Blk w b (wrA o (.slice (some ⟨g, q, none⟩) (len + 1) cp) t p) 90) (hn : w.cell? ⟨g, q, none⟩ = some (.int .i64 n)) (hc : len + 1 ≤ cp) (hneg : n < 0) :
    Calls Tryd.prog 80 #[.pointer (some ⟨b, 0, none⟩), .int .i64 (k : Int)] w fun e w' => WnP w w' b k o t p n rest e := by
  have hf : fitN n k = false := by unfold fitN; simp; omega
  obtain ⟨gu, hg⟩ : ∃ gu, gup 1 = gu := ⟨_, rfl⟩
  have I := fun w => insist_no w 1
  unfold WnP
  rw [hg] at I ⊢
  have c1 := hw.cell 1
  simp only [List.getElem?_toArray, List.getElem?_cons_zero, List.getElem?_cons_succ] at c1
  have hnz : ¬ (0 ≤ n) := by omega
  have HF : Hid (fitN n k = false) := hf
  clear hf hneg
  by_cases hcp : cp = 1
  · obtain rfl : len = 0 := by omega
    subst hcp
    go_enter Tryd.func80, Tryd.ntmps80
    go_wp2_with (first | (go_at_call 49; refine (insist_ok _ _).mono ?_; rintro e w' ⟨rfl, rfl⟩) | (refine wpl_set rfl (.tmp 26) (.tmp 24) rfl b 1 _ rfl rfl hw (by kernel_rfl) rfl rfl (by simp) ?_))
    intro W' kW gW sW
    go_wp2_with fail
    refine (I _).mono ?_
    rintro e w' ⟨rfl, rfl⟩
    exact ⟨rfl, gW, sW, .inr ⟨HF.out, rfl⟩⟩
  · have hcp2 : ¬ (cp = 1) := hcp
    go_enter Tryd.func80, Tryd.ntmps80
    go_wp2_with (first | (go_at_call 49; refine (insist_ok _ _).mono ?_; rintro e w' ⟨rfl, rfl⟩) | (refine wpl_set rfl (.tmp 26) (.tmp 24) rfl b 1 _ rfl rfl hw (by kernel_rfl) rfl rfl (by simp) ?_))
    intro W' kW gW sW
    go_wp2_with fail
    refine (I _).mono ?_
    rintro e w' ⟨rfl, rfl⟩
    exact ⟨rfl, gW, sW, .inr ⟨HF.out, rfl⟩⟩
theorem fitT_1 {m : Nat} (h : ((m : Int) / 256 == 0) = true) : fitN (m : Int) 1 = true := by
  have h1 : (m : Int) / 256 = 0 := by simpa using h
  unfold fitN
  have h2 : (m : Int) < 256 := by omega
  have e : ((256 : Int) ^ 1) = 256 := by decide
  rw [e]; simp; omega
theorem fitF_1 {m : Nat} (h : ((m : Int) / 256 == 0) = false) : fitN (m : Int) 1 = false := by
  have h1 : ¬ ((m : Int) / 256 = 0) := by simpa using h
  unfold fitN
  have e : ((256 : Int) ^ 1) = 256 := by decide
  rw [e]; simp; omega
set_option maxHeartbeats 2000000 in
theorem wnum_1 (w : World) (b : Nat) (o t p : Value) (g q cp len m : Nat) (rest : List Int) (hw : Blk w b (wrA o (.slice (some ⟨g, q, none⟩) (len + 1) cp) t p) 90) (hn : w.cell? ⟨g, q, none⟩ = some (.int .i64 (m : Int))) (hc : len + 1 ≤ cp) (hlt : m < 9223372036854775808) (hl : rest.length = len) (hgb : g < b) (hx : ∀ i (h : i < rest.length), w.cell? ⟨g, q + 1 + i, none⟩ = some (.int .i64 rest[i])) :
    Calls Tryd.prog 80 #[.pointer (some ⟨b, 0, none⟩), .int .i64 1] w fun e w' => WnP w w' b 1 o t p m rest e := by
  obtain ⟨gu, hg⟩ : ∃ gu, gup 1 = gu := ⟨_, rfl⟩
  have I := fun w => insist_no w 1
  unfold WnP
  rw [hg] at I ⊢
  have c1 := hw.cell 1
  simp only [List.getElem?_toArray, List.getElem?_cons_zero, List.getElem?_cons_succ] at c1
  have u1 : IntKind.u64.wrap (m : Int) = (m : Int) := by rw [IntKind.wrap_u64]; omega
  have HX : Hid (∀ i (h : i < rest.length), w.cell? ⟨g, q + 1 + i, none⟩ = some (.int .i64 rest[i])) := hx
  have HL : Hid (m < 9223372036854775808) := hlt
  have F0 := @fitF_1 m
  have F1 := @fitT_1 m
  clear hx hlt
  by_cases hcp : cp = 1
  · obtain rfl : len = 0 := by omega
    subst hcp
    go_enter Tryd.func80, Tryd.ntmps80
    go_wp2_with (first | (go_at_call 49; refine (insist_ok _ _).mono ?_; rintro e w' ⟨rfl, rfl⟩) | (refine wpl_set rfl (.tmp 26) (.tmp 24) rfl b 1 _ rfl rfl hw (by kernel_rfl) rfl rfl (by simp) ?_))
    intro W' kW gW sW
    go_wp2_with fail
    cases hd : ((m : Int) / 256 == 0)
    · refine (I _).mono ?_
      rintro e w' ⟨rfl, rfl⟩
      exact ⟨rfl, gW, sW, .inr ⟨F0 hd, rfl⟩⟩
    · refine (insist_ok _ _).mono ?_
      rintro e w' ⟨rfl, rfl⟩
      go_wp2_with fail
      go_ret
      exact ⟨gW, sW, .inl ⟨F1 hd, _, rfl, kW, .inl ⟨⟨_, _, rfl⟩, List.length_eq_zero_iff.mp hl⟩⟩⟩
  · have hcp2 : ¬ (cp = 1) := hcp
    go_enter Tryd.func80, Tryd.ntmps80
    go_wp2_with (first | (go_at_call 49; refine (insist_ok _ _).mono ?_; rintro e w' ⟨rfl, rfl⟩) | (refine wpl_set rfl (.tmp 26) (.tmp 24) rfl b 1 _ rfl rfl hw (by kernel_rfl) rfl rfl (by simp) ?_))
    intro W' kW gW sW
    go_wp2_with fail
    cases hd : ((m : Int) / 256 == 0)
    · refine (I _).mono ?_
      rintro e w' ⟨rfl, rfl⟩
      exact ⟨rfl, gW, sW, .inr ⟨F0 hd, rfl⟩⟩
    · refine (insist_ok _ _).mono ?_
      rintro e w' ⟨rfl, rfl⟩
      go_wp2_with fail
      go_ret
      exact ⟨gW, sW, .inl ⟨F1 hd, _, rfl, kW, rdN_rest ((Below.refl _ _).grown gW (Nat.le_of_lt hw.lt) (fun k hk => by cases hk; exact Nat.le_refl _)) hgb hl (by omega) HX.out⟩⟩
theorem fitT_2 {m : Nat} (h : ((m : Int) / 65536 == 0) = true) : fitN (m : Int) 2 = true := by
  have h1 : (m : Int) / 65536 = 0 := by simpa using h
  unfold fitN
  have h2 : (m : Int) < 65536 := by omega
  have e : ((256 : Int) ^ 2) = 65536 := by decide
  rw [e]; simp; omega
theorem fitF_2 {m : Nat} (h : ((m : Int) / 65536 == 0) = false) : fitN (m : Int) 2 = false := by
  have h1 : ¬ ((m : Int) / 65536 = 0) := by simpa using h
  unfold fitN
  have e : ((256 : Int) ^ 2) = 65536 := by decide
  rw [e]; simp; omega
set_option maxHeartbeats 2000000 in
theorem wnum_2 (w : World) (b : Nat) (o t p : Value) (g q cp len m : Nat) (rest : List Int) (hw : Blk w b (wrA o (.slice (some ⟨g, q, none⟩) (len + 1) cp) t p) 90) (hn : w.cell? ⟨g, q, none⟩ = some (.int .i64 (m : Int))) (hc : len + 1 ≤ cp) (hlt : m < 9223372036854775808) (hl : rest.length = len) (hgb : g < b) (hx : ∀ i (h : i < rest.length), w.cell? ⟨g, q + 1 + i, none⟩ = some (.int .i64 rest[i])) :
    Calls Tryd.prog 80 #[.pointer (some ⟨b, 0, none⟩), .int .i64 2] w fun e w' => WnP w w' b 2 o t p m rest e := by
  obtain ⟨gu, hg⟩ : ∃ gu, gup 1 = gu := ⟨_, rfl⟩
  have I := fun w => insist_no w 1
  unfold WnP
  rw [hg] at I ⊢
  have c1 := hw.cell 1
  simp only [List.getElem?_toArray, List.getElem?_cons_zero, List.getElem?_cons_succ] at c1
  have u1 : IntKind.u64.wrap (m : Int) = (m : Int) := by rw [IntKind.wrap_u64]; omega
  have HX : Hid (∀ i (h : i < rest.length), w.cell? ⟨g, q + 1 + i, none⟩ = some (.int .i64 rest[i])) := hx
  have HL : Hid (m < 9223372036854775808) := hlt
  have F0 := @fitF_2 m
  have F1 := @fitT_2 m
  clear hx hlt
  by_cases hcp : cp = 1
  · obtain rfl : len = 0 := by omega
    subst hcp
    go_enter Tryd.func80, Tryd.ntmps80
    go_wp2_with (first | (go_at_call 49; refine (insist_ok _ _).mono ?_; rintro e w' ⟨rfl, rfl⟩) | (refine wpl_set rfl (.tmp 26) (.tmp 24) rfl b 1 _ rfl rfl hw (by kernel_rfl) rfl rfl (by simp) ?_))
    intro W' kW gW sW
    go_wp2_with fail
    cases hd : ((m : Int) / 65536 == 0)
    · refine (I _).mono ?_
      rintro e w' ⟨rfl, rfl⟩
      exact ⟨rfl, gW, sW, .inr ⟨F0 hd, rfl⟩⟩
    · refine (insist_ok _ _).mono ?_
      rintro e w' ⟨rfl, rfl⟩
      go_wp2_with fail
      go_ret
      exact ⟨gW, sW, .inl ⟨F1 hd, _, rfl, kW, .inl ⟨⟨_, _, rfl⟩, List.length_eq_zero_iff.mp hl⟩⟩⟩
  · have hcp2 : ¬ (cp = 1) := hcp
    go_enter Tryd.func80, Tryd.ntmps80
    go_wp2_with (first | (go_at_call 49; refine (insist_ok _ _).mono ?_; rintro e w' ⟨rfl, rfl⟩) | (refine wpl_set rfl (.tmp 26) (.tmp 24) rfl b 1 _ rfl rfl hw (by kernel_rfl) rfl rfl (by simp) ?_))
    intro W' kW gW sW
    go_wp2_with fail
    cases hd : ((m : Int) / 65536 == 0)
    · refine (I _).mono ?_
      rintro e w' ⟨rfl, rfl⟩
      exact ⟨rfl, gW, sW, .inr ⟨F0 hd, rfl⟩⟩
    · refine (insist_ok _ _).mono ?_
      rintro e w' ⟨rfl, rfl⟩
      go_wp2_with fail
      go_ret
      exact ⟨gW, sW, .inl ⟨F1 hd, _, rfl, kW, rdN_rest ((Below.refl _ _).grown gW (Nat.le_of_lt hw.lt) (fun k hk => by cases hk; exact Nat.le_refl _)) hgb hl (by omega) HX.out⟩⟩
theorem fitT_4 {m : Nat} (h : ((m : Int) / 4294967296 == 0) = true) : fitN (m : Int) 4 = true := by
  have h1 : (m : Int) / 4294967296 = 0 := by simpa using h
  unfold fitN
  have h2 : (m : Int) < 4294967296 := by omega
  have e : ((256 : Int) ^ 4) = 4294967296 := by decide
  rw [e]; simp; omega
theorem fitF_4 {m : Nat} (h : ((m : Int) / 4294967296 == 0) = false) : fitN (m : Int) 4 = false := by
  have h1 : ¬ ((m : Int) / 4294967296 = 0) := by simpa using h
  unfold fitN
  have e : ((256 : Int) ^ 4) = 4294967296 := by decide
  rw [e]; simp; omega
set_option maxHeartbeats 2000000 in
theorem wnum_4 (w : World) (b : Nat) (o t p : Value) (g q cp len m : Nat) (rest : List Int) (hw : Blk w b (wrA o (.slice (some ⟨g, q, none⟩) (len + 1) cp) t p) 90) (hn : w.cell? ⟨g, q, none⟩ = some (.int .i64 (m : Int))) (hc : len + 1 ≤ cp) (hlt : m < 9223372036854775808) (hl : rest.length = len) (hgb : g < b) (hx : ∀ i (h : i < rest.length), w.cell? ⟨g, q + 1 + i, none⟩ = some (.int .i64 rest[i])) :
    Calls Tryd.prog 80 #[.pointer (some ⟨b, 0, none⟩), .int .i64 4] w fun e w' => WnP w w' b 4 o t p m rest e := by
  obtain ⟨gu, hg⟩ : ∃ gu, gup 1 = gu := ⟨_, rfl⟩
  have I := fun w => insist_no w 1
  unfold WnP
  rw [hg] at I ⊢
  have c1 := hw.cell 1
  simp only [List.getElem?_toArray, List.getElem?_cons_zero, List.getElem?_cons_succ] at c1
  have u1 : IntKind.u64.wrap (m : Int) = (m : Int) := by rw [IntKind.wrap_u64]; omega
  have HX : Hid (∀ i (h : i < rest.length), w.cell? ⟨g, q + 1 + i, none⟩ = some (.int .i64 rest[i])) := hx
  have HL : Hid (m < 9223372036854775808) := hlt
  have F0 := @fitF_4 m
  have F1 := @fitT_4 m
  clear hx hlt
  by_cases hcp : cp = 1
  · obtain rfl : len = 0 := by omega
    subst hcp
    go_enter Tryd.func80, Tryd.ntmps80
    go_wp2_with (first | (go_at_call 49; refine (insist_ok _ _).mono ?_; rintro e w' ⟨rfl, rfl⟩) | (refine wpl_set rfl (.tmp 26) (.tmp 24) rfl b 1 _ rfl rfl hw (by kernel_rfl) rfl rfl (by simp) ?_))
    intro W' kW gW sW
    go_wp2_with fail
    cases hd : ((m : Int) / 4294967296 == 0)
    · refine (I _).mono ?_
      rintro e w' ⟨rfl, rfl⟩
      exact ⟨rfl, gW, sW, .inr ⟨F0 hd, rfl⟩⟩
    · refine (insist_ok _ _).mono ?_
      rintro e w' ⟨rfl, rfl⟩
      go_wp2_with fail
      go_ret
      exact ⟨gW, sW, .inl ⟨F1 hd, _, rfl, kW, .inl ⟨⟨_, _, rfl⟩, List.length_eq_zero_iff.mp hl⟩⟩⟩
  · have hcp2 : ¬ (cp = 1) := hcp
    go_enter Tryd.func80, Tryd.ntmps80
    go_wp2_with (first | (go_at_call 49; refine (insist_ok _ _).mono ?_; rintro e w' ⟨rfl, rfl⟩) | (refine wpl_set rfl (.tmp 26) (.tmp 24) rfl b 1 _ rfl rfl hw (by kernel_rfl) rfl rfl (by simp) ?_))
    intro W' kW gW sW
    go_wp2_with fail
    cases hd : ((m : Int) / 4294967296 == 0)
    · refine (I _).mono ?_
      rintro e w' ⟨rfl, rfl⟩
      exact ⟨rfl, gW, sW, .inr ⟨F0 hd, rfl⟩⟩
    · refine (insist_ok _ _).mono ?_
      rintro e w' ⟨rfl, rfl⟩
      go_wp2_with fail
      go_ret
      exact ⟨gW, sW, .inl ⟨F1 hd, _, rfl, kW, rdN_rest ((Below.refl _ _).grown gW (Nat.le_of_lt hw.lt) (fun k hk => by cases hk; exact Nat.le_refl _)) hgb hl (by omega) HX.out⟩⟩
theorem fitT_8 {m : Nat} (h : ((m : Int) / 18446744073709551616 == 0) = true) : fitN (m : Int) 8 = true := by
  have h1 : (m : Int) / 18446744073709551616 = 0 := by simpa using h
  unfold fitN
  have h2 : (m : Int) < 18446744073709551616 := by omega
  have e : ((256 : Int) ^ 8) = 18446744073709551616 := by decide
  rw [e]; simp; omega
theorem fitF_8 {m : Nat} (h : ((m : Int) / 18446744073709551616 == 0) = false) : fitN (m : Int) 8 = false := by
  have h1 : ¬ ((m : Int) / 18446744073709551616 = 0) := by simpa using h
  unfold fitN
  have e : ((256 : Int) ^ 8) = 18446744073709551616 := by decide
  rw [e]; simp; omega
set_option maxHeartbeats 2000000 in
theorem wnum_8 (w : World) (b : Nat) (o t p : Value) (g q cp len m : Nat) (rest : List Int) (hw : Blk w b (wrA o (.slice (some ⟨g, q, none⟩) (len + 1) cp) t p) 90) (hn : w.cell? ⟨g, q, none⟩ = some (.int .i64 (m : Int))) (hc : len + 1 ≤ cp) (hlt : m < 9223372036854775808) (hl : rest.length = len) (hgb : g < b) (hx : ∀ i (h : i < rest.length), w.cell? ⟨g, q + 1 + i, none⟩ = some (.int .i64 rest[i])) :
    Calls Tryd.prog 80 #[.pointer (some ⟨b, 0, none⟩), .int .i64 8] w fun e w' => WnP w w' b 8 o t p m rest e := by
  obtain ⟨gu, hg⟩ : ∃ gu, gup 1 = gu := ⟨_, rfl⟩
  have I := fun w => insist_no w 1
  unfold WnP
  rw [hg] at I ⊢
  have c1 := hw.cell 1
  simp only [List.getElem?_toArray, List.getElem?_cons_zero, List.getElem?_cons_succ] at c1
  have u1 : IntKind.u64.wrap (m : Int) = (m : Int) := by rw [IntKind.wrap_u64]; omega
  have HX : Hid (∀ i (h : i < rest.length), w.cell? ⟨g, q + 1 + i, none⟩ = some (.int .i64 rest[i])) := hx
  have HL : Hid (m < 9223372036854775808) := hlt
  have F0 := @fitF_8 m
  have F1 := @fitT_8 m
  clear hx hlt
  by_cases hcp : cp = 1
  · obtain rfl : len = 0 := by omega
    subst hcp
    go_enter Tryd.func80, Tryd.ntmps80
    go_wp2_with (first | (go_at_call 49; refine (insist_ok _ _).mono ?_; rintro e w' ⟨rfl, rfl⟩) | (refine wpl_set rfl (.tmp 26) (.tmp 24) rfl b 1 _ rfl rfl hw (by kernel_rfl) rfl rfl (by simp) ?_))
    intro W' kW gW sW
    go_wp2_with fail
    cases hd : ((m : Int) / 18446744073709551616 == 0)
    · refine (I _).mono ?_
      rintro e w' ⟨rfl, rfl⟩
      exact ⟨rfl, gW, sW, .inr ⟨F0 hd, rfl⟩⟩
    · refine (insist_ok _ _).mono ?_
      rintro e w' ⟨rfl, rfl⟩
      go_wp2_with fail
      go_ret
      exact ⟨gW, sW, .inl ⟨F1 hd, _, rfl, kW, .inl ⟨⟨_, _, rfl⟩, List.length_eq_zero_iff.mp hl⟩⟩⟩
  · have hcp2 : ¬ (cp = 1) := hcp
    go_enter Tryd.func80, Tryd.ntmps80
    go_wp2_with (first | (go_at_call 49; refine (insist_ok _ _).mono ?_; rintro e w' ⟨rfl, rfl⟩) | (refine wpl_set rfl (.tmp 26) (.tmp 24) rfl b 1 _ rfl rfl hw (by kernel_rfl) rfl rfl (by simp) ?_))
    intro W' kW gW sW
    go_wp2_with fail
    cases hd : ((m : Int) / 18446744073709551616 == 0)
    · refine (I _).mono ?_
      rintro e w' ⟨rfl, rfl⟩
      exact ⟨rfl, gW, sW, .inr ⟨F0 hd, rfl⟩⟩
    · refine (insist_ok _ _).mono ?_
      rintro e w' ⟨rfl, rfl⟩
      go_wp2_with fail
      go_ret
      exact ⟨gW, sW, .inl ⟨F1 hd, _, rfl, kW, rdN_rest ((Below.refl _ _).grown gW (Nat.le_of_lt hw.lt) (fun k hk => by cases hk; exact Nat.le_refl _)) hgb hl (by omega) HX.out⟩⟩
/-- What num answers of any numbers. -/
def WnA (w w' : World) (b k : Nat) (o t p : Value) (ns : List Int) (e : Ending) : Prop :=
  (ns = [] ∧ e = .panicked (gup 1) ∧ w' = w) ∨ ∃ n rest, ns = n :: rest ∧ WnP w w' b k o t p n rest e
theorem wnum_any (w : World) (b k : Nat) (o v t p : Value) (ns : List Int) (hk : k = 1 ∨ k = 2 ∨ k = 4 ∨ k = 8) (hw : Blk w b (wrA o v t p) 90) (hv : RdN w b v ns) (hr : ∀ x ∈ ns, x < 9223372036854775808) :
    Calls Tryd.prog 80 #[.pointer (some ⟨b, 0, none⟩), .int .i64 (k : Int)] w fun e w' => WnA w w' b k o t p ns e := by
  rcases hv with ⟨⟨a, c, rfl⟩, rfl⟩ | ⟨g, q, cp, rfl, hc, hg, hx⟩
  · exact (wnum_no w b k o t p a c hw).mono (fun e w' h => .inl ⟨rfl, h⟩)
  · cases ns with
    | nil => exact (wnum_no w b k o t p _ cp hw).mono (fun e w' h => .inl ⟨rfl, h⟩)
    | cons n rest =>
      have hn : w.cell? ⟨g, q, none⟩ = some (.int .i64 n) := hx 0 (by simp)
      have hx1 : ∀ i (h : i < rest.length), w.cell? ⟨g, q + 1 + i, none⟩ = some (.int .i64 rest[i]) := fun i h => by
        have := hx (i + 1) (by simp; omega)
        simpa [Nat.add_assoc, Nat.add_comm 1 i] using this
      have hlt := hr n (by simp)
      simp only [List.length_cons] at hw hc
      have H : Calls Tryd.prog 80 #[.pointer (some ⟨b, 0, none⟩), .int .i64 (k : Int)] w fun e w' => WnP w w' b k o t p n rest e := by
        by_cases h0 : n < 0
        · exact wnum_neg w b k o t p g q cp rest.length n rest hw hn hc h0
        · obtain ⟨m, rfl⟩ : ∃ m : Nat, n = (m : Int) := ⟨n.toNat, by omega⟩
          have hm : m < 9223372036854775808 := by omega
          rcases hk with rfl | rfl | rfl | rfl
          · exact wnum_1 w b o t p g q cp rest.length m rest hw hn hc hm rfl hg hx1
          · exact wnum_2 w b o t p g q cp rest.length m rest hw hn hc hm rfl hg hx1
          · exact wnum_4 w b o t p g q cp rest.length m rest hw hn hc hm rfl hg hx1
          · exact wnum_8 w b o t p g q cp rest.length m rest hw hn hc hm rfl hg hx1
      exact H.mono (fun e w' h => .inr ⟨n, rest, rfl, h⟩)
end Go.Proofs.YtmaaacaifpgpaaaDoor
