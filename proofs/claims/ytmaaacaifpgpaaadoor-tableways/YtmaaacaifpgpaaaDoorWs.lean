/- table's writer: text. Conditions: those that each row states. -/
import Derived.Test.YtmaaacaifpgpaaaDoorWr
namespace Go.Proofs.YtmaaacaifpgpaaaDoor
open Go.RowKit Go.Lib
set_option maxRecDepth 100000
set_option linter.unusedSimpArgs false

/-- Texts that can be read, in a block below b. -/
def RdT (w : World) (b : Nat) (v : Value) (l : List (List UInt8)) : Prop :=
  ((∃ a c, v = .slice a 0 c) ∧ l = []) ∨ ∃ (g o c : Nat), v = .slice (some ⟨g, o, none⟩) l.length c ∧ l.length ≤ c ∧ g < b ∧ ∀ i (h : i < l.length), w.cell? ⟨g, o + i, none⟩ = some (str l[i])
theorem RdT.on {w w' : World} {b : Nat} {v : Value} {l : List (List UInt8)} (h : RdT w b v l) (hb : Below b w w') : RdT w' b v l := by
  rcases h with h | ⟨g, o, c, rfl, hc, hg, hx⟩
  · exact .inl h
  · exact .inr ⟨g, o, c, rfl, hc, hg, fun i hi => by rw [hb.cell hg]; exact hx i hi⟩
set_option maxHeartbeats 1000000 in
theorem wtext_no (w : World) (b k : Nat) (o n p : Value) (ad : Option Addr) (cp : Nat) (hw : Blk w b (wrA o n (.slice ad 0 cp) p) 90) :
    Calls Tryd.prog 78 #[.pointer (some ⟨b, 0, none⟩), .int .i64 (k : Int)] w fun e w' => e = .panicked (gup 1) ∧ w' = w := by
  obtain ⟨g, hg⟩ : ∃ g, gup 1 = g := ⟨_, rfl⟩
  have I := fun w => insist_no w 1
  rw [hg] at I ⊢
  have c2 := hw.cell 2
  simp only [List.getElem?_toArray, List.getElem?_cons_zero, List.getElem?_cons_succ] at c2
  clear hw
  go_enter Tryd.func78, Tryd.ntmps78
  go_wp2_with fail
  refine (I _).mono ?_
  rintro e w' ⟨rfl, rfl⟩
  exact ⟨rfl, rfl, rfl⟩
/-- What text answers of a text that is there. -/
def WtP (w w' : World) (b k : Nat) (o n p : Value) (s : List UInt8) (rest : List (List UInt8)) (e : Ending) : Prop :=
  w.grownBy w' (some b) ∧ w'.heap.size = w.heap.size ∧ ((s.length ≤ k ∧ ∃ v', e = .returned (str s) ∧ Blk w' b (wrA o n v' p) 90 ∧ RdT w' b v' rest) ∨ (k < s.length ∧ e = .panicked (gup 1)))
theorem rdT_rest {w w' : World} {b g q len cap : Nat} {rest : List (List UInt8)} (hb : Below b w w') (hg : g < b) (hl : rest.length = len) (hc : len ≤ cap) (hx : ∀ i (h : i < rest.length), w.cell? ⟨g, q + i, none⟩ = some (str rest[i])) : RdT w' b (.slice (some ⟨g, q, none⟩) len cap) rest := by
  subst hl
  exact (RdT.on (.inr ⟨g, q, cap, rfl, hc, hg, hx⟩) hb)
set_option maxHeartbeats 2000000 in
theorem wtext_is (w : World) (b k : Nat) (o n p : Value) (g q cp len : Nat) (s : List UInt8) (rest : List (List UInt8)) (hw : Blk w b (wrA o n (.slice (some ⟨g, q, none⟩) (len + 1) cp) p) 90) (hn : w.cell? ⟨g, q, none⟩ = some (str s)) (hc : len + 1 ≤ cp) (hl : rest.length = len) (hgb : g < b) (hx : ∀ i (h : i < rest.length), w.cell? ⟨g, q + 1 + i, none⟩ = some (str rest[i])) :
    Calls Tryd.prog 78 #[.pointer (some ⟨b, 0, none⟩), .int .i64 (k : Int)] w fun e w' => WtP w w' b k o n p s rest e := by
  obtain ⟨gu, hg⟩ : ∃ gu, gup 1 = gu := ⟨_, rfl⟩
  have I := fun w => insist_no w 1
  unfold WtP
  rw [hg] at I ⊢
  have c2 := hw.cell 2
  simp only [List.getElem?_toArray, List.getElem?_cons_zero, List.getElem?_cons_succ] at c2
  have HX : Hid (∀ i (h : i < rest.length), w.cell? ⟨g, q + 1 + i, none⟩ = some (str rest[i])) := hx
  clear hx
  by_cases hcp : cp = 1
  · obtain rfl : len = 0 := by omega
    subst hcp
    go_enter Tryd.func78, Tryd.ntmps78
    go_wp2_with (first | (go_at_call 49; refine (insist_ok _ _).mono ?_; rintro e w' ⟨rfl, rfl⟩) | (refine wpl_set rfl (.tmp 26) (.tmp 24) rfl b 2 _ rfl rfl hw (by kernel_rfl) rfl rfl (by simp) ?_))
    intro W' kW gW sW
    go_wp2_with fail
    cases hd : decide (s.length ≤ k)
    · refine (I _).mono ?_
      rintro e w' ⟨rfl, rfl⟩
      exact ⟨rfl, gW, sW, .inr ⟨by have := of_decide_eq_false hd; omega, rfl⟩⟩
    · refine (insist_ok _ _).mono ?_
      rintro e w' ⟨rfl, rfl⟩
      go_wp2_with fail
      go_ret
      exact ⟨gW, sW, .inl ⟨of_decide_eq_true hd, _, rfl, kW, .inl ⟨⟨_, _, rfl⟩, List.length_eq_zero_iff.mp hl⟩⟩⟩
  · have hcp2 : ¬ (cp = 1) := hcp
    go_enter Tryd.func78, Tryd.ntmps78
    go_wp2_with (first | (go_at_call 49; refine (insist_ok _ _).mono ?_; rintro e w' ⟨rfl, rfl⟩) | (refine wpl_set rfl (.tmp 26) (.tmp 24) rfl b 2 _ rfl rfl hw (by kernel_rfl) rfl rfl (by simp) ?_))
    intro W' kW gW sW
    go_wp2_with fail
    cases hd : decide (s.length ≤ k)
    · refine (I _).mono ?_
      rintro e w' ⟨rfl, rfl⟩
      exact ⟨rfl, gW, sW, .inr ⟨by have := of_decide_eq_false hd; omega, rfl⟩⟩
    · refine (insist_ok _ _).mono ?_
      rintro e w' ⟨rfl, rfl⟩
      go_wp2_with fail
      go_ret
      exact ⟨gW, sW, .inl ⟨of_decide_eq_true hd, _, rfl, kW, rdT_rest ((Below.refl _ _).grown gW (Nat.le_of_lt hw.lt) (fun k hk => by cases hk; exact Nat.le_refl _)) hgb hl (by omega) HX.out⟩⟩
/-- What text answers of any texts. -/
def WtA (w w' : World) (b k : Nat) (o n p : Value) (ts : List (List UInt8)) (e : Ending) : Prop :=
  (ts = [] ∧ e = .panicked (gup 1) ∧ w' = w) ∨ ∃ s rest, ts = s :: rest ∧ WtP w w' b k o n p s rest e
theorem wtext_any (w : World) (b k : Nat) (o n v p : Value) (ts : List (List UInt8)) (hw : Blk w b (wrA o n v p) 90) (hv : RdT w b v ts) :
    Calls Tryd.prog 78 #[.pointer (some ⟨b, 0, none⟩), .int .i64 (k : Int)] w fun e w' => WtA w w' b k o n p ts e := by
  rcases hv with ⟨⟨a, c, rfl⟩, rfl⟩ | ⟨g, q, cp, rfl, hc, hg, hx⟩
  · exact (wtext_no w b k o n p a c hw).mono (fun e w' h => .inl ⟨rfl, h⟩)
  · cases ts with
    | nil => exact (wtext_no w b k o n p _ cp hw).mono (fun e w' h => .inl ⟨rfl, h⟩)
    | cons s rest =>
      have hn : w.cell? ⟨g, q, none⟩ = some (str s) := hx 0 (by simp)
      have hx1 : ∀ i (h : i < rest.length), w.cell? ⟨g, q + 1 + i, none⟩ = some (str rest[i]) := fun i h => by
        have := hx (i + 1) (by simp; omega)
        simpa [Nat.add_assoc, Nat.add_comm 1 i] using this
      simp only [List.length_cons] at hw hc
      exact (wtext_is w b k o n p g q cp rest.length s rest hw hn hc rfl hg hx1).mono (fun e w' h => .inr ⟨s, rest, rfl, h⟩)
end Go.Proofs.YtmaaacaifpgpaaaDoor
