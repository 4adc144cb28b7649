/- A core, as lists; where it lies in memory; where a name stands in a list that rises. -/
import Derived.Test.YtnpikgakpmkipabGreatDoorZ04
import Derived.Test.YtnpikgakpmkipabGreatDoorZ14
import Derived.Test.YtnpikgakpmkipabGreatDoorZ06
import Derived.Test.YtnpikgakpmkipabGreatDoorZ07
import Derived.Test.YtnpikgakpmkipabGreatDoorZ09
namespace Go.Proofs.YtnpikgakpmkipabGreatDoor
open Go.RowKit Go.Lib
set_option maxRecDepth 100000
structure Bnd where
 queue : List UInt8
 pat : List UInt8
structure Sbs where
 conn : Int
 sub : Int
 queue : List UInt8
 win : Int
 auto : Bool
structure Cli where
 name : List UInt8
 packets : List Int
structure Cor where
 now : Int
 queues : List Que
 binds : List Bnd
 subs : List Sbs
 kept : List Msg
 clients : List Cli
def oQ (a b : Que) : Int := cmpL a.name b.name
def oB (a b : Bnd) : Int := or2 (cmpL a.queue b.queue) (cmpL a.pat b.pat)
def oS (a b : Sbs) : Int := or2 (cmpZ a.conn b.conn) (cmpZ a.sub b.sub)
def oM (a b : Msg) : Int := cmpL a.topic b.topic
def oC (a b : Cli) : Int := cmpL a.name b.name
def risB {α : Type} (o : α → α → Int) : List α → Bool
 | a :: b :: l => decide (o a b < 0) && risB o (b :: l)
 | _ => true
def canL {α : Type} (most : Int) (o : α → α → Int) (good : α → Bool) (l : List α) : Bool := decide ((l.length : Int) ≤ most) && l.all good && risB o l
theorem risB_iff {α : Type} (o : α → α → Int) : ∀ l : List α, risB o l = true ↔ ∀ i (h : i + 1 < l.length), o (l[i]) (l[i + 1]) < 0
 | [] => by simp [risB]
 | [a] => by simp [risB]
 | a :: b :: l => by
  simp only [risB, Bool.and_eq_true, decide_eq_true_eq, risB_iff o (b :: l)]
  constructor
  ·rintro ⟨h1, h2⟩ i h
   cases i with
   | zero => exact h1
   | succ i => exact h2 i (by simpa using h)
  ·intro h
   exact ⟨h 0 (by simp), fun i hi => h (i + 1) (by simpa using hi)⟩
theorem canL_iff {α : Type} (most : Int) (o : α → α → Int) (good : α → Bool) (zs : Zs α) : canL most o good (zs.map (·.2)) = true ↔ CaP most o good zs := by
 simp only [canL, Bool.and_eq_true, decide_eq_true_eq, List.all_eq_true, risB_iff, List.length_map, List.getElem_map, CaP]
 constructor
 ·rintro ⟨⟨h1, h2⟩, h3⟩
  exact ⟨h1, fun i h => h2 _ (List.mem_map.2 ⟨zs[i], List.getElem_mem h, rfl⟩), h3⟩
 ·rintro ⟨h1, h2, h3⟩
  refine ⟨⟨h1, fun x hx => ?_⟩, h3⟩
  obtain ⟨z, hz, rfl⟩ := List.mem_map.1 hx
  obtain ⟨i, hi, rfl⟩ := List.mem_iff_getElem.1 hz
  exact h2 i hi
theorem car_of {α : Type} {most : Int} {o : α → α → Int} {good : α → Bool} {zs : Zs α} {e : Ending} (h : CaR most o good zs e) : e = .returned (.bool (canL most o good (zs.map (·.2)))) := by
 obtain ⟨b, rfl, hb⟩ := h
 have h2 := (canL_iff most o good zs).symm
 cases b <;> cases hc : canL most o good (zs.map (·.2)) <;> simp_all
def QuR (p : Value → Que → Prop) (vs : List Value) (q : Que) : Prop := p (.agg vs.toArray) q
def BnR (vs : List Value) (b : Bnd) : Prop := vs = [tx b.queue, tx b.pat]
def SbR (vs : List Value) (s : Sbs) : Prop := vs = [.int .i64 s.conn, .int .i64 s.sub, tx s.queue, .int .i64 s.win, .bool s.auto]
def MsR (p : Value → List Pr → Prop) (vs : List Value) (m : Msg) : Prop := ∃ pv, vs = msgV m pv ∧ p pv m.props
def NuR (vs : List Value) (n : Int) : Prop := vs = [.int .i64 n]
def ClR (p : Value → List Int → Prop) (vs : List Value) (c : Cli) : Prop := ∃ nv, vs = [tx c.name, nv] ∧ p nv c.packets
def RdNu (w : World) (v : Value) (l : List Int) : Prop := RdL 1 NuR w v l
def OwnNu (w : World) (B : Nat) (v : Value) (l : List Int) : Prop := OwnL 3 1 NuR w B v l
theorem RdNu.on {w w' : World} {v : Value} {l : List Int} (h : RdNu w v l) (hb : Bw w w') : RdNu w' v l := by
 obtain ⟨zs, h1, h2⟩ := h
 exact ⟨zs, h1, h2.on hb⟩
def corV (c : Cor) (qv bv sv kv cv : Value) : Value := .agg #[.int .i64 c.now, qv, bv, sv, kv, cv]
structure RdC5 (w : World) (c : Cor) (qv bv sv kv cv : Value) : Prop where
 q : RdL 7 (QuR (RdQ w)) w qv c.queues
 b : RdL 2 BnR w bv c.binds
 s : RdL 5 SbR w sv c.subs
 k : RdL 5 (MsR (RdP w)) w kv c.kept
 c : RdL 2 (ClR (RdNu w)) w cv c.clients
def RdC (w : World) (v : Value) (c : Cor) : Prop := ∃ qv bv sv kv cv, v = corV c qv bv sv kv cv ∧ RdC5 w c qv bv sv kv cv
theorem RdC5.on {w w' : World} {c : Cor} {qv bv sv kv cv : Value} (h : RdC5 w c qv bv sv kv cv) (hb : Bw w w') : RdC5 w' c qv bv sv kv cv := by
 obtain ⟨⟨zq, e1, h1⟩, ⟨zb, e2, h2⟩, ⟨zs, e3, h3⟩, ⟨zk, e4, h4⟩, ⟨zc, e5, h5⟩⟩ := h
 refine ⟨⟨zq, e1, (h1.on hb).imp fun _ _ h => RdQ.on h hb⟩, ⟨zb, e2, h2.on hb⟩, ⟨zs, e3, h3.on hb⟩, ⟨zk, e4, (h4.on hb).imp ?_⟩, ⟨zc, e5, (h5.on hb).imp ?_⟩⟩
 ·rintro vs m ⟨pv, h1, h2⟩
  exact ⟨pv, h1, h2.on hb⟩
 ·rintro vs m ⟨pv, h1, h2⟩
  exact ⟨pv, h1, h2.on hb⟩
theorem cmpL_neg {x y : List UInt8} : cmpL x y < 0 ↔ Op.bytesLess x y = true := by
 unfold cmpL
 split
 ·rename_i h
  simp [h]
 ·rename_i h
  split <;> simp [h]
theorem cmpL_zero {x y : List UInt8} : cmpL x y = 0 ↔ x = y := by
 unfold cmpL
 split
 ·rename_i h
  constructor
  ·intro h2
   cases h2
  ·intro h2
   rw [h2, bl_irrefl] at h
   cases h
 ·split
  ·rename_i h
   simp [h]
  ·rename_i h
   simp [h]
theorem cmpL_trans {x y z : List UInt8} (h : cmpL x y < 0) (h' : cmpL y z < 0) : cmpL x z < 0 := by
 rw [cmpL_neg] at *
 exact bl_trans _ _ _ h h'
theorem rise_all {α : Type} (f : α → List UInt8) {l : List α} (h : risB (fun a b => cmpL (f a) (f b)) l = true) : ∀ i j (hj : j < l.length) (hij : i < j), cmpL (f (l[i]'(by omega))) (f l[j]) < 0 := by
 rw [risB_iff] at h
 intro i j hj hij
 induction j with
 | zero => omega
 | succ j ih =>
  by_cases e : i = j
  ·subst e
   exact h i hj
  ·exact cmpL_trans (ih (by omega) (by omega)) (h j hj)
theorem place {α : Type} (f : α → List UInt8) (x : List UInt8) {l : List α} (h : risB (fun a b => cmpL (f a) (f b)) l = true) :
  ∃ p, p ≤ l.length ∧ (∀ i (hi : i < l.length), i < p → cmpL (f l[i]) x < 0) ∧ (∀ i (hi : i < l.length), p ≤ i → ¬ cmpL (f l[i]) x < 0) := by
 have hr := rise_all f h
 have key : ∀ n, n ≤ l.length → ∃ p, p ≤ n ∧ (∀ i (hi : i < l.length), i < p → cmpL (f l[i]) x < 0) ∧ (∀ i (hi : i < l.length), i < n → p ≤ i → ¬ cmpL (f l[i]) x < 0) := by
  intro n
  induction n with
  | zero => exact fun _ => ⟨0, Nat.le_refl _, fun i _ h => absurd h (by omega), fun i _ h => absurd h (by omega)⟩
  | succ n ih =>
   intro hn
   obtain ⟨p, h1, h2, h3⟩ := ih (by omega)
   by_cases hc : cmpL (f (l[n]'(by omega))) x < 0
   ·refine ⟨n + 1, Nat.le_refl _, fun i hi hlt => ?_, fun i _ hlt hle => absurd hlt (by omega)⟩
    by_cases e : i = n
    ·subst e
     exact hc
    ·exact cmpL_trans (hr i n (by omega) (by omega)) hc
   ·refine ⟨p, by omega, h2, fun i hi hlt hle => ?_⟩
    by_cases e : i = n
    ·subst e
     exact hc
    ·exact h3 i hi (by omega) hle
 obtain ⟨p, h1, h2, h3⟩ := key l.length (Nat.le_refl _)
 exact ⟨p, h1, h2, fun i hi hle => h3 i hi hi hle⟩
theorem at_place {α : Type} (f : α → List UInt8) (x : List UInt8) {l : List α} {p : Nat} (hlo : ∀ i (hi : i < l.length), i < p → cmpL (f l[i]) x < 0) (h : risB (fun a b => cmpL (f a) (f b)) l = true) (hhi : ∀ i (hi : i < l.length), p ≤ i → ¬ cmpL (f l[i]) x < 0) :
  (∃ hi : p < l.length, cmpL (f l[p]) x = 0) ↔ ∃ y ∈ l, f y = x := by
 constructor
 ·rintro ⟨hi, h2⟩
  exact ⟨l[p], List.getElem_mem hi, cmpL_zero.1 h2⟩
 ·rintro ⟨y, hy, rfl⟩
  obtain ⟨i, hi, rfl⟩ := List.mem_iff_getElem.1 hy
  have hpi : p ≤ i := Nat.le_of_not_lt fun hlt => by
   have := hlo i hi hlt
   rw [cmpL_self] at this
   omega
  have hip : i ≤ p := Nat.le_of_not_lt fun hlt => hhi p (by omega) (Nat.le_refl _) (rise_all f h p i hi hlt)
  obtain rfl : p = i := by omega
  exact ⟨hi, cmpL_self _⟩
abbrev sbA (s : Sbs) : Array Value := #[.int .i64 s.conn, .int .i64 s.sub, tx s.queue, .int .i64 s.win, .bool s.auto]
end Go.Proofs.YtnpikgakpmkipabGreatDoor
namespace Go.Proofs.YtnpikgakpmkipabGreatDoor
open Go.RowKit Go.Lib
set_option maxRecDepth 100000
set_option linter.unusedVariables false
set_option linter.unusedSimpArgs false
structure LinO {α : Type} (o : α → α → Int) : Prop where
 refl : ∀ a, o a a = 0
 anti : ∀ a b, o a b < 0 ↔ 0 < o b a
 trans : ∀ a b c, o a b ≤ 0 → o b c ≤ 0 → o a c ≤ 0
namespace LinO
variable {α : Type} {o : α → α → Int}
theorem lt_le (h : LinO o) {a b c : α} (h1 : o a b < 0) (h2 : o b c ≤ 0) : o a c < 0 := by
 have h3 := h.trans a b c (by omega) h2
 rcases Int.lt_or_eq_of_le h3 with h4 | h4
 ·exact h4
 ·have h5 : o c a ≤ 0 := by
   have := h.anti a c
   omega
  have h6 := h.trans b c a h2 h5
  have := (h.anti a b).1 h1
  omega
theorem le_lt (h : LinO o) {a b c : α} (h1 : o a b ≤ 0) (h2 : o b c < 0) : o a c < 0 := by
 have h3 := h.trans a b c h1 (by omega)
 rcases Int.lt_or_eq_of_le h3 with h4 | h4
 ·exact h4
 ·have h5 : o c a ≤ 0 := by
   have := h.anti a c
   omega
  have h6 := h.trans c a b h5 h1
  have := (h.anti b c).1 h2
  omega
theorem lt_lt (h : LinO o) {a b c : α} (h1 : o a b < 0) (h2 : o b c < 0) : o a c < 0 := h.lt_le h1 (by omega)
theorem eq_symm (h : LinO o) {a b : α} (h1 : o a b = 0) : o b a = 0 := by
 have := h.anti a b
 have := h.anti b a
 omega
theorem eq_lt (h : LinO o) {a b c : α} (h1 : o a b = 0) (h2 : o b c < 0) : o a c < 0 := h.le_lt (by omega) h2
theorem lt_eq (h : LinO o) {a b c : α} (h1 : o a b < 0) (h2 : o b c = 0) : o a c < 0 := h.lt_le h1 (by omega)
end LinO
theorem linZ : LinO cmpZ := by
 refine ⟨fun a => ?_, fun a b => ?_, fun a b c => ?_⟩
 ·simp [cmpZ]
 ·unfold cmpZ
  repeat' split
  all_goals omega
 ·unfold cmpZ
  repeat' split
  all_goals omega
theorem cmpL_cases (x y : List UInt8) : (cmpL x y = -1 ∧ Op.bytesLess x y = true) ∨ (cmpL x y = 0 ∧ x = y) ∨ (cmpL x y = 1 ∧ Op.bytesLess y x = true) := by
 unfold cmpL
 split
 ·rename_i h
  exact .inl ⟨rfl, h⟩
 ·rename_i h
  split
  ·rename_i h2
   exact .inr (.inl ⟨rfl, h2⟩)
  ·rename_i h2
   refine .inr (.inr ⟨rfl, ?_⟩)
   cases h3 : Op.bytesLess y x with
   | true => rfl
   | false => exact absurd (bl_tri x y (by simpa using h) h3) h2
theorem linL : LinO cmpL := by
 have anti : ∀ a b, cmpL a b < 0 ↔ 0 < cmpL b a := fun a b => by
  rcases cmpL_cases a b with ⟨h1, h2⟩ | ⟨h1, h2⟩ | ⟨h1, h2⟩ <;> rcases cmpL_cases b a with ⟨h3, h4⟩ | ⟨h3, h4⟩ | ⟨h3, h4⟩
  ·have := bl_trans _ _ _ h2 h4
   rw [bl_irrefl] at this
   cases this
  ·rw [h4, bl_irrefl] at h2
   cases h2
  ·omega
  ·rw [h2, bl_irrefl] at h4
   cases h4
  ·omega
  ·rw [h2, bl_irrefl] at h4
   cases h4
  ·omega
  ·rw [h4, bl_irrefl] at h2
   cases h2
  ·have := bl_trans _ _ _ h2 h4
   rw [bl_irrefl] at this
   cases this
 refine ⟨fun a => cmpL_self a, anti, fun a b c h1 h2 => ?_⟩
 rcases cmpL_cases a b with ⟨h3, h4⟩ | ⟨h3, rfl⟩ | ⟨h3, h4⟩
 ·rcases cmpL_cases b c with ⟨h5, h6⟩ | ⟨h5, rfl⟩ | ⟨h5, h6⟩
  ·have := cmpL_neg.2 (bl_trans _ _ _ h4 h6)
   omega
  ·omega
  ·omega
 ·exact h2
 ·omega
theorem linO_key {α β : Type} {o : β → β → Int} (h : LinO o) (f : α → β) : LinO (fun a b => o (f a) (f b)) := ⟨fun a => h.refl _, fun a b => h.anti _ _, fun a b c => h.trans _ _ _⟩
theorem linO_or {α : Type} {o o' : α → α → Int} (h : LinO o) (h' : LinO o') : LinO (fun a b => or2 (o a b) (o' a b)) := by
 refine ⟨fun a => by simp [or2, h.refl, h'.refl], fun a b => ?_, fun a b c h1 h2 => ?_⟩
 ·have e1 := h.anti a b
  have e2 := h.anti b a
  have e3 := h'.anti a b
  simp only [or2]
  split <;> split <;> omega
 ·simp only [or2] at *
  by_cases e1 : o a b = 0 <;> by_cases e2 : o b c = 0
  ·have e3 : o a c = 0 := by
    have := h.trans a b c (by omega) (by omega)
    have := h.trans c b a (by have := h.eq_symm e2; omega) (by have := h.eq_symm e1; omega)
    have := h.anti a c
    omega
   simp only [e1, e2, e3, ne_eq, not_true_eq_false, if_false] at *
   exact h'.trans a b c h1 h2
  ·simp only [e2, ne_eq, not_false_eq_true, if_true] at h2
   have := h.eq_lt e1 (show o b c < 0 by omega)
   rw [if_pos (by omega)]
   omega
  ·simp only [e1, ne_eq, not_false_eq_true, if_true] at h1
   have := h.lt_eq (show o a b < 0 by omega) e2
   rw [if_pos (by omega)]
   omega
  ·simp only [e1, e2, ne_eq, not_false_eq_true, if_true] at h1 h2
   have := h.lt_lt (show o a b < 0 by omega) (show o b c < 0 by omega)
   rw [if_pos (by omega)]
   omega
theorem linQ : LinO oQ := linO_key linL Que.name
theorem linM : LinO oM := linO_key linL Msg.topic
theorem linC : LinO oC := linO_key linL Cli.name
theorem linB : LinO oB := linO_or (linO_key linL Bnd.queue) (linO_key linL Bnd.pat)
theorem linS : LinO oS := linO_or (linO_key linZ Sbs.conn) (linO_key linZ Sbs.sub)
def Inc {α : Type} (o : α → α → Int) (l : List α) : Prop := l.Pairwise fun a b => o a b < 0
theorem risB_inc {α : Type} {o : α → α → Int} (h : LinO o) : ∀ l : List α, risB o l = true ↔ Inc o l
 | [] => by simp [risB, Inc]
 | [a] => by simp [risB, Inc]
 | a :: b :: l => by
  simp only [risB, Bool.and_eq_true, decide_eq_true_eq, risB_inc h (b :: l)]
  constructor
  ·rintro ⟨h1, h2⟩
   refine List.pairwise_cons.2 ⟨fun x hx => ?_, h2⟩
   rcases List.mem_cons.1 hx with rfl | hx
   ·exact h1
   ·exact h.lt_lt h1 ((List.pairwise_cons.1 h2).1 x hx)
  ·intro h1
   exact ⟨(List.pairwise_cons.1 h1).1 b (by simp), (List.pairwise_cons.1 h1).2⟩
def hasL {α : Type} (o : α → α → Int) (x : α) (l : List α) : Bool := l.any fun y => decide (o y x = 0)
def enL {α : Type} (o : α → α → Int) (x : α) (l : List α) : List α := l.filter (fun y => decide (o y x < 0)) ++ x :: l.filter (fun y => decide (0 < o y x))
def leL {α : Type} (o : α → α → Int) (x : α) (l : List α) : List α := l.filter fun y => decide (o y x ≠ 0)
section
variable {α : Type} {o : α → α → Int}
theorem mem_enL {x y : α} {l : List α} : y ∈ enL o x l ↔ y = x ∨ (y ∈ l ∧ o y x ≠ 0) := by
 simp only [enL, List.mem_append, List.mem_filter, decide_eq_true_eq, List.mem_cons]
 constructor
 ·rintro (⟨h1, h2⟩ | rfl | ⟨h1, h2⟩)
  ·exact .inr ⟨h1, by omega⟩
  ·exact .inl rfl
  ·exact .inr ⟨h1, by omega⟩
 ·rintro (rfl | ⟨h1, h2⟩)
  ·exact .inr (.inl rfl)
  ·rcases Int.lt_trichotomy (o y x) 0 with h3 | h3 | h3
   ·exact .inl ⟨h1, h3⟩
   ·exact absurd h3 h2
   ·exact .inr (.inr ⟨h1, h3⟩)
theorem mem_leL {x y : α} {l : List α} : y ∈ leL o x l ↔ y ∈ l ∧ o y x ≠ 0 := by simp [leL]
theorem inc_enL (h : LinO o) {x : α} {l : List α} (hl : Inc o l) : Inc o (enL o x l) := by
 refine List.pairwise_append.2 ⟨hl.sublist List.filter_sublist, List.pairwise_cons.2 ⟨fun y hy => ?_, hl.sublist List.filter_sublist⟩, fun a ha b hb => ?_⟩
 ·have := (List.mem_filter.1 hy).2
  simp only [decide_eq_true_eq] at this
  exact (h.anti x y).2 this
 ·have h1 := (List.mem_filter.1 ha).2
  simp only [decide_eq_true_eq] at h1
  rcases List.mem_cons.1 hb with rfl | hb
  ·exact h1
  ·have h2 := (List.mem_filter.1 hb).2
   simp only [decide_eq_true_eq] at h2
   exact h.lt_lt h1 ((h.anti x b).2 h2)
theorem inc_leL {x : α} {l : List α} (hl : Inc o l) : Inc o (leL o x l) := hl.sublist List.filter_sublist
theorem inc_cut (h : LinO o) {x : α} : ∀ {l : List α}, Inc o l → hasL o x l = false → l.filter (fun y => decide (o y x < 0)) ++ l.filter (fun y => decide (0 < o y x)) = l
 | [], _, _ => by simp
 | a :: l, hl, hh => by
  have hl2 := List.pairwise_cons.1 hl
  simp only [hasL, List.any_cons, Bool.or_eq_false_iff, decide_eq_false_iff_not] at hh
  rcases Int.lt_trichotomy (o a x) 0 with h1 | h1 | h1
  ·rw [List.filter_cons_of_pos (by simpa using h1), List.filter_cons_of_neg (by simp; omega), List.cons_append, inc_cut h hl2.2 (by simpa [hasL] using hh.2)]
  ·exact absurd h1 hh.1
  ·have hall : ∀ y ∈ l, 0 < o y x := fun y hy => by
    have h2 := h.lt_lt ((h.anti x a).2 h1) (hl2.1 y hy)
    exact (h.anti x y).1 h2
   rw [List.filter_cons_of_neg (by simp; omega), List.filter_cons_of_pos (by simpa using h1), List.filter_eq_nil_iff.2 (fun y hy => by have := hall y hy; simp; omega), List.nil_append, List.filter_eq_self.2 (fun y hy => by simpa using hall y hy)]
theorem leL_none {x : α} {l : List α} (hh : hasL o x l = false) : leL o x l = l := by
 refine List.filter_eq_self.2 fun y hy => ?_
 simp only [hasL, List.any_eq_false, decide_eq_true_eq] at hh
 simpa using hh y hy
theorem le_en (h : LinO o) {x : α} {l : List α} (hl : Inc o l) (hh : hasL o x l = false) : leL o x (enL o x l) = l := by
 have e1 : (l.filter (fun y => decide (o y x < 0))).filter (fun y => decide (o y x ≠ 0)) = l.filter (fun y => decide (o y x < 0)) := by
  refine List.filter_eq_self.2 fun y hy => ?_
  have := (List.mem_filter.1 hy).2
  simp only [decide_eq_true_eq] at this ⊢
  omega
 have e2 : (l.filter (fun y => decide (0 < o y x))).filter (fun y => decide (o y x ≠ 0)) = l.filter (fun y => decide (0 < o y x)) := by
  refine List.filter_eq_self.2 fun y hy => ?_
  have := (List.mem_filter.1 hy).2
  simp only [decide_eq_true_eq] at this ⊢
  omega
 unfold leL enL
 rw [List.filter_append, List.filter_cons_of_neg (by simp [h.refl]), e1, e2, inc_cut h hl hh]
theorem len_enL_le {x : α} : ∀ l : List α, (enL o x l).length ≤ l.length + 1 := fun l => by
 have h1 : ∀ l : List α, (l.filter (fun y => decide (o y x < 0))).length + (l.filter (fun y => decide (0 < o y x))).length ≤ l.length := fun l => by
  induction l with
  | nil => simp
  | cons a l ih =>
   rcases Int.lt_trichotomy (o a x) 0 with h1 | h1 | h1
   ·rw [List.filter_cons_of_pos (by simpa using h1), List.filter_cons_of_neg (by simp; omega)]
    simp only [List.length_cons]
    omega
   ·rw [List.filter_cons_of_neg (by simp; omega), List.filter_cons_of_neg (by simp; omega)]
    simp only [List.length_cons]
    omega
   ·rw [List.filter_cons_of_neg (by simp; omega), List.filter_cons_of_pos (by simpa using h1)]
    simp only [List.length_cons]
    omega
 have := h1 l
 unfold enL
 simp only [List.length_append, List.length_cons]
 omega
theorem len_enL_has (h : LinO o) {x : α} : ∀ {l : List α}, Inc o l → hasL o x l = true → (enL o x l).length = l.length
 | [], _, hh => by simp [hasL] at hh
 | a :: l, hl, hh => by
  have hl2 := List.pairwise_cons.1 hl
  simp only [enL, List.length_append, List.length_cons]
  rcases Int.lt_trichotomy (o a x) 0 with h1 | h1 | h1
  ·have hh2 : hasL o x l = true := by
    simp only [hasL, List.any_cons, Bool.or_eq_true, decide_eq_true_eq] at hh ⊢
    exact hh.resolve_left (by omega)
   have ih := len_enL_has h hl2.2 hh2
   simp only [enL, List.length_append, List.length_cons] at ih
   rw [List.filter_cons_of_pos (by simpa using h1), List.filter_cons_of_neg (by simp; omega)]
   simp only [List.length_cons]
   omega
  ·have hall : ∀ y ∈ l, 0 < o y x := fun y hy => (h.anti x y).1 (h.eq_lt (h.eq_symm h1) (hl2.1 y hy))
   rw [List.filter_cons_of_neg (by simp; omega), List.filter_cons_of_neg (by simp; omega), List.filter_eq_nil_iff.2 (fun y hy => by have := hall y hy; simp; omega), List.filter_eq_self.2 (fun y hy => by simpa using hall y hy)]
   simp
  ·exfalso
   simp only [hasL, List.any_cons, Bool.or_eq_true, decide_eq_true_eq, List.any_eq_true] at hh
   rcases hh with hh | ⟨y, hy, h2⟩
   ·omega
   ·have := h.lt_lt ((h.anti x a).2 h1) (hl2.1 y hy)
    have := (h.anti x y).1 this
    omega
theorem at_cut (h : LinO o) {x : α} {l : List α} (hl : Inc o l) {p : Nat} (hp : p ≤ l.length) (hlo : ∀ i (hi : i < l.length), i < p → o l[i] x < 0) (hhi : ∀ i (hi : i < l.length), p ≤ i → ¬ o l[i] x < 0) :
  l.filter (fun y => decide (o y x < 0)) = l.take p := by
 have e : l = l.take p ++ l.drop p := (List.take_append_drop p l).symm
 conv => lhs; rw [e]
 rw [List.filter_append, List.filter_eq_self.2 ?_, List.filter_eq_nil_iff.2 ?_, List.append_nil]
 ·intro y hy
  obtain ⟨i, hi, rfl⟩ := List.mem_iff_getElem.1 hy
  rw [List.length_drop] at hi
  rw [List.getElem_drop]
  simpa using hhi (p + i) (by omega) (by omega)
 ·intro y hy
  obtain ⟨i, hi, rfl⟩ := List.mem_iff_getElem.1 hy
  rw [List.length_take] at hi
  rw [List.getElem_take]
  simpa using hlo i (by omega) (by omega)
theorem at_there (h : LinO o) {x : α} {l : List α} (hl : Inc o l) {p : Nat} (hp : p < l.length) (he : o l[p] x = 0) : l.filter (fun y => decide (0 < o y x)) = l.drop (p + 1) := by
 have e : l = l.take (p + 1) ++ l.drop (p + 1) := (List.take_append_drop (p + 1) l).symm
 conv => lhs; rw [e]
 have hr := List.pairwise_iff_getElem.1 hl
 rw [List.filter_append, List.filter_eq_nil_iff.2 ?_, List.filter_eq_self.2 ?_, List.nil_append]
 ·intro y hy
  obtain ⟨i, hi, rfl⟩ := List.mem_iff_getElem.1 hy
  rw [List.length_drop] at hi
  rw [List.getElem_drop]
  have h1 := hr p (p + 1 + i) hp (by omega) (by omega)
  simpa using (h.anti x _).1 (h.eq_lt (h.eq_symm he) h1)
 ·intro y hy
  obtain ⟨i, hi, rfl⟩ := List.mem_iff_getElem.1 hy
  rw [List.length_take] at hi
  rw [List.getElem_take]
  by_cases e : i = p
  ·subst e
   simp
   omega
  ·have h1 := hr i p (by omega) hp (by omega)
   have h2 := h.lt_eq h1 he
   simp
   omega
theorem at_gone (h : LinO o) {x : α} {l : List α} (hl : Inc o l) {p : Nat} (hp : p ≤ l.length) (hlo : ∀ i (hi : i < l.length), i < p → o l[i] x < 0) (hhi : ∀ i (hi : i < l.length), p ≤ i → ¬ o l[i] x < 0) (hn : ¬ ∃ hi : p < l.length, o l[p] x = 0) :
  l.filter (fun y => decide (0 < o y x)) = l.drop p ∧ hasL o x l = false := by
 have hr := List.pairwise_iff_getElem.1 hl
 have key : ∀ i (hi : i < l.length), p ≤ i → 0 < o l[i] x := fun i hi hpi => by
  have h1 := hhi i hi hpi
  by_cases e : i = p
  ·subst e
   have : o l[i] x ≠ 0 := fun h2 => hn ⟨hi, h2⟩
   omega
  ·have h2 := hr p i (by omega) hi (by omega)
   have h3 := hhi p (by omega) (Nat.le_refl _)
   have h4 : o x l[p] ≤ 0 := by
    have := h.anti x l[p]
    have := h.anti l[p] x
    omega
   exact (h.anti x _).1 (h.le_lt h4 h2)
 constructor
 ·have e : l = l.take p ++ l.drop p := (List.take_append_drop p l).symm
  conv => lhs; rw [e]
  rw [List.filter_append, List.filter_eq_nil_iff.2 ?_, List.filter_eq_self.2 ?_, List.nil_append]
  ·intro y hy
   obtain ⟨i, hi, rfl⟩ := List.mem_iff_getElem.1 hy
   rw [List.length_drop] at hi
   rw [List.getElem_drop]
   simpa using key (p + i) (by omega) (by omega)
  ·intro y hy
   obtain ⟨i, hi, rfl⟩ := List.mem_iff_getElem.1 hy
   rw [List.length_take] at hi
   rw [List.getElem_take]
   have := hlo i (by omega) (by omega)
   simp
   omega
 ·simp only [hasL, List.any_eq_false, decide_eq_true_eq]
  intro y hy
  obtain ⟨i, hi, rfl⟩ := List.mem_iff_getElem.1 hy
  by_cases hpi : p ≤ i
  ·have := key i hi hpi
   omega
  ·have := hlo i hi (by omega)
   omega
theorem en_there (h : LinO o) {x y : α} {l : List α} (hl : Inc o l) {p : Nat} (hlo : ∀ i (hi : i < l.length), i < p → o l[i] x < 0) (hhi : ∀ i (hi : i < l.length), p ≤ i → ¬ o l[i] x < 0) (hp : p < l.length) (he : o l[p] x = 0) (hy : o y x = 0) : l.set p y = enL o y l := by
 have e1 : ∀ z, (o z y < 0 ↔ o z x < 0) := fun z => ⟨fun h1 => h.lt_eq h1 hy, fun h1 => h.lt_eq h1 (h.eq_symm hy)⟩
 have e2 : ∀ z, (0 < o z y ↔ 0 < o z x) := fun z => by
  rw [← h.anti, ← h.anti]
  exact ⟨fun h1 => h.eq_lt (h.eq_symm hy) h1, fun h1 => h.eq_lt hy h1⟩
 unfold enL
 simp only [e1, e2]
 rw [at_cut h hl (Nat.le_of_lt hp) hlo hhi, at_there h hl hp he, List.set_eq_take_append_cons_drop, if_pos hp]
theorem en_gone (h : LinO o) {x : α} {l : List α} (hl : Inc o l) {p : Nat} (hp : p ≤ l.length) (hlo : ∀ i (hi : i < l.length), i < p → o l[i] x < 0) (hhi : ∀ i (hi : i < l.length), p ≤ i → ¬ o l[i] x < 0) (hn : ¬ ∃ hi : p < l.length, o l[p] x = 0) : l.take p ++ x :: l.drop p = enL o x l := by
 unfold enL
 rw [at_cut h hl hp hlo hhi, (at_gone h hl hp hlo hhi hn).1]
theorem le_there (h : LinO o) {x : α} {l : List α} (hl : Inc o l) {p : Nat} (hlo : ∀ i (hi : i < l.length), i < p → o l[i] x < 0) (hhi : ∀ i (hi : i < l.length), p ≤ i → ¬ o l[i] x < 0) (hp : p < l.length) (he : o l[p] x = 0) : l.take p ++ l.drop (p + 1) = leL o x l := by
 rw [← at_cut h hl (Nat.le_of_lt hp) hlo hhi, ← at_there h hl hp he]
 have e : l = l.take (p + 1) ++ l.drop (p + 1) := (List.take_append_drop (p + 1) l).symm
 have e2 : ∀ y ∈ l, decide (o y x ≠ 0) = true ↔ (o y x < 0 ∨ 0 < o y x) := fun y _ => by simp; omega
 have key : ∀ l : List α, Inc o l → l.filter (fun y => decide (o y x < 0)) ++ l.filter (fun y => decide (0 < o y x)) = leL o x l := fun l => by
  induction l with
  | nil => intro _; simp [leL]
  | cons a l ih =>
   intro hl
   have hl2 := List.pairwise_cons.1 hl
   have ih2 := ih hl2.2
   unfold leL at ih2 ⊢
   rcases Int.lt_trichotomy (o a x) 0 with h1 | h1 | h1
   ·rw [List.filter_cons_of_pos (by simpa using h1), List.filter_cons_of_neg (by simp; omega), List.filter_cons_of_pos (by simp; omega), List.cons_append, ih2]
   ·rw [List.filter_cons_of_neg (by simp; omega), List.filter_cons_of_neg (by simp; omega), List.filter_cons_of_neg (by simp; omega), ih2]
   ·have hall : ∀ y ∈ l, 0 < o y x := fun y hy => (h.anti x y).1 (h.lt_lt ((h.anti x a).2 h1) (hl2.1 y hy))
    rw [List.filter_cons_of_neg (by simp; omega), List.filter_cons_of_pos (by simpa using h1), List.filter_cons_of_pos (by simp; omega), List.filter_eq_nil_iff.2 (fun y hy => by have := hall y hy; simp; omega), List.nil_append, List.filter_eq_self.2 (fun y hy => by simpa using hall y hy), List.filter_eq_self.2 (fun y hy => by have := hall y hy; simp; omega)]
 exact key l hl
theorem place_any (h : LinO o) (x : α) {l : List α} (hl : Inc o l) : ∃ p, p ≤ l.length ∧ (∀ i (hi : i < l.length), i < p → o l[i] x < 0) ∧ (∀ i (hi : i < l.length), p ≤ i → ¬ o l[i] x < 0) := by
 have hr := List.pairwise_iff_getElem.1 hl
 have key : ∀ n, n ≤ l.length → ∃ p, p ≤ n ∧ (∀ i (hi : i < l.length), i < p → o l[i] x < 0) ∧ (∀ i (hi : i < l.length), i < n → p ≤ i → ¬ o l[i] x < 0) := by
  intro n
  induction n with
  | zero => exact fun _ => ⟨0, Nat.le_refl _, fun i _ h => absurd h (by omega), fun i _ h => absurd h (by omega)⟩
  | succ n ih =>
   intro hn
   obtain ⟨p, h1, h2, h3⟩ := ih (by omega)
   by_cases hc : o (l[n]'(by omega)) x < 0
   ·refine ⟨n + 1, Nat.le_refl _, fun i hi hlt => ?_, fun i _ hlt hle => absurd hlt (by omega)⟩
    by_cases e : i = n
    ·subst e
     exact hc
    ·exact h.lt_lt (hr i n hi (by omega) (by omega)) hc
   ·refine ⟨p, by omega, h2, fun i hi hlt hle => ?_⟩
    by_cases e : i = n
    ·subst e
     exact hc
    ·exact h3 i hi (by omega) hle
 obtain ⟨p, h1, h2, h3⟩ := key l.length (Nat.le_refl _)
 exact ⟨p, h1, h2, fun i hi hle => h3 i hi hi hle⟩
theorem has_there {x : α} {l : List α} {p : Nat} (hp : p < l.length) (he : o l[p] x = 0) : hasL o x l = true := by
 simp only [hasL, List.any_eq_true, decide_eq_true_eq]
 exact ⟨l[p], List.getElem_mem hp, he⟩
theorem has_iff (h : LinO o) {x : α} {l : List α} (hl : Inc o l) {p : Nat} (hp : p ≤ l.length) (hlo : ∀ i (hi : i < l.length), i < p → o l[i] x < 0) (hhi : ∀ i (hi : i < l.length), p ≤ i → ¬ o l[i] x < 0) : (∃ hi : p < l.length, o l[p] x = 0) ↔ hasL o x l = true := by
 constructor
 ·rintro ⟨h1, h2⟩
  exact has_there h1 h2
 ·intro h1
  by_cases hc : ∃ hi : p < l.length, o l[p] x = 0
  ·exact hc
  ·rw [(at_gone h hl hp hlo hhi hc).2] at h1
   cases h1
end
end Go.Proofs.YtnpikgakpmkipabGreatDoor
namespace Go.Proofs.YtnpikgakpmkipabGreatDoor
open Go.RowKit Go.Lib
set_option maxRecDepth 100000
set_option linter.unusedSimpArgs false
set_option linter.unusedVariables false
def winB (n : Int) : Bool := decide (1 ≤ n) && decide (n ≤ 32)
def pktB (n : Int) : Bool := decide (1 ≤ n) && decide (n ≤ 65535)
def subB (conn sub : Int) : Bool := conB conn && numB sub
def hasNm (qs : List Que) (n : List UInt8) : Bool := qs.any (fun q => decide (q.name = n))
def bndB (qs : List Que) (b : Bnd) : Bool := hasNm qs b.queue && pat b.pat
def sbsB (qs : List Que) (s : Sbs) : Bool := subB s.conn s.sub && hasNm qs s.queue && winB s.win
def kepB (m : Msg) : Bool := msgB m && decide (m.body ≠ [])
def cliB (c : Cli) : Bool := nameL c.name && decide (0 < c.packets.length) && canL 32 cmpZ pktB c.packets
def goodC (c : Cor) : Bool := numB c.now && canL 16 oQ goodQ c.queues && canL 64 oB (bndB c.queues) c.binds && canL 32 oS (sbsB c.queues) c.subs && canL 16 oM kepB c.kept && canL 16 oC cliB c.clients
theorem isNum_any (w : World) (n : Int) : Calls Tryz.prog 61 #[.int .i64 n] w fun e w' => e = .returned (.bool (numB n)) ∧ w' = w := by
 unfold numB
 by_cases h1 : (0 : Int) ≤ n <;> by_cases h2 : n ≤ (1099511627776 : Int)
 all_goals
  go_enter Tryz.func61, Tryz.ntmps61
  go_wp2
  go_ret
  exact ⟨ret_b (by simp [h1, h2]), rfl⟩
theorem isConn_any (w : World) (n : Int) : Calls Tryz.prog 140 #[.int .i64 n] w fun e w' => e = .returned (.bool (conB n)) ∧ w' = w := by
 unfold conB
 by_cases h1 : (0 : Int) ≤ n <;> by_cases h2 : n < (8 : Int)
 all_goals
  go_enter Tryz.func140, Tryz.ntmps140
  go_wp2
  go_ret
  exact ⟨ret_b (by simp [h1, h2]), rfl⟩
theorem isWin_any (w : World) (n : Int) : Calls Tryz.prog 73 #[.int .i64 n] w fun e w' => e = .returned (.bool (winB n)) ∧ w' = w := by
 unfold winB
 by_cases h1 : (1 : Int) ≤ n <;> by_cases h2 : n ≤ (32 : Int)
 all_goals
  go_enter Tryz.func73, Tryz.ntmps73
  go_wp2
  go_ret
  exact ⟨ret_b (by simp [h1, h2]), rfl⟩
theorem isPkt_any (w : World) (n : Int) : Calls Tryz.prog 154 #[.int .i64 n] w fun e w' => e = .returned (.bool (pktB n)) ∧ w' = w := by
 unfold pktB
 by_cases h1 : (1 : Int) ≤ n <;> by_cases h2 : n ≤ (65535 : Int)
 all_goals
  go_enter Tryz.func154, Tryz.ntmps154
  go_wp2
  go_ret
  exact ⟨ret_b (by simp [h1, h2]), rfl⟩
theorem isSub_any (w : World) (c s : Int) : Calls Tryz.prog 72 #[.int .i64 c, .int .i64 s] w fun e w' => e = .returned (.bool (subB c s)) ∧ w' = w := by
 have H1 := isConn_any w c
 have H2 := isNum_any w s
 unfold subB
 go_enter Tryz.func72, Tryz.ntmps72
 go_wp2_with fail
 refine H1.mono ?_
 rintro e w1 ⟨rfl, rfl⟩
 cases hc : conB c with
 | false =>
  go_wp2_with fail
  go_ret
  exact ⟨ret_b (by simp [hc]), rfl⟩
 | true =>
  go_wp2_with fail
  refine H2.mono ?_
  rintro e w2 ⟨rfl, rfl⟩
  go_wp2_with fail
  go_ret
  exact ⟨ret_b (by simp [hc]), rfl⟩
theorem cQ (W : World) {v v' : Value} {q q' : Que} {w : World} (h : RdQ w v q) (h' : RdQ w v' q') : Calls Tryz.prog 63 #[v, v'] W fun e w' => e = .returned (.int .i64 (oQ q q')) ∧ Bw W w' := by
 obtain ⟨_, _, rfl, _⟩ := h
 obtain ⟨_, _, rfl, _⟩ := h'
 refine (byQ W ⟨q.name.toArray⟩ ⟨q'.name.toArray⟩ _ _ _ _ _ _ _ _ _ _ _ _).mono fun e w' h => ⟨?_, h.2⟩
 rw [h.1, Go.ByteArray.toList_mk, Go.ByteArray.toList_mk]
 rfl
theorem cB (W : World) {vs vs' : List Value} {b b' : Bnd} (h : BnR vs b) (h' : BnR vs' b') : Calls Tryz.prog 66 #[.agg vs.toArray, .agg vs'.toArray] W fun e w' => e = .returned (.int .i64 (oB b b')) ∧ Bw W w' := by
 unfold BnR at h h'
 subst h h'
 refine (byB W ⟨b.queue.toArray⟩ ⟨b.pat.toArray⟩ ⟨b'.queue.toArray⟩ ⟨b'.pat.toArray⟩).mono fun e w' h => ⟨?_, h.2⟩
 rw [h.1, Go.ByteArray.toList_mk, Go.ByteArray.toList_mk, Go.ByteArray.toList_mk, Go.ByteArray.toList_mk]
 rfl
theorem cS (W : World) {vs vs' : List Value} {b b' : Sbs} (h : SbR vs b) (h' : SbR vs' b') : Calls Tryz.prog 70 #[.agg vs.toArray, .agg vs'.toArray] W fun e w' => e = .returned (.int .i64 (oS b b')) ∧ Bw W w' := by
 unfold SbR at h h'
 subst h h'
 exact byS W b.conn b.sub b'.conn b'.sub _ _ _ _ _ _
theorem cM (W : World) {vs vs' : List Value} {m m' : Msg} {p p' : Value → List Pr → Prop} (h : MsR p vs m) (h' : MsR p' vs' m') : Calls Tryz.prog 75 #[.agg vs.toArray, .agg vs'.toArray] W fun e w' => e = .returned (.int .i64 (oM m m')) ∧ Bw W w' := by
 obtain ⟨_, rfl, _⟩ := h
 obtain ⟨_, rfl, _⟩ := h'
 refine (byM W ⟨m.topic.toArray⟩ ⟨m'.topic.toArray⟩ _ _ _ _ _ _ _ _).mono fun e w' h => ⟨?_, h.2⟩
 rw [h.1, Go.ByteArray.toList_mk, Go.ByteArray.toList_mk]
 rfl
theorem cC (W : World) {vs vs' : List Value} {m m' : Cli} {p p' : Value → List Int → Prop} (h : ClR p vs m) (h' : ClR p' vs' m') : Calls Tryz.prog 79 #[.agg vs.toArray, .agg vs'.toArray] W fun e w' => e = .returned (.int .i64 (oC m m')) ∧ Bw W w' := by
 obtain ⟨_, rfl, _⟩ := h
 obtain ⟨_, rfl, _⟩ := h'
 refine (byC W ⟨m.name.toArray⟩ ⟨m'.name.toArray⟩ _ _).mono fun e w' h => ⟨?_, h.2⟩
 rw [h.1, Go.ByteArray.toList_mk, Go.ByteArray.toList_mk]
 rfl
theorem e63 : ∀ args w, (callFunc 63 args).run Tryz.prog w = .ok (.enter 63 args) w := fun args w => by go_simp
theorem hasName (w : World) (v : Value) (qs : List Que) (h : RdL 7 (QuR (RdQ w)) w v qs) (hr : risB oQ qs = true) (hb : qs.length ≤ 1000000) (name : List UInt8) :
  Calls Tryz.prog 114 #[v, .agg #[tx name, .bool false, .int .i64 0, .int .i64 0, .int .i64 0, .slice none 0 0, .slice none 0 0], .func (.func 63) #[] #[]] w fun e w' => e = .returned (.bool (hasNm qs name)) ∧ Bw w w' := by
 obtain ⟨zs, rfl, hz⟩ := h
 obtain ⟨a, c, rfl⟩ := hz.len
 obtain ⟨p, h1, h2, h3⟩ := place Que.name name hr
 have hat := at_place Que.name name h2 hr h3
 simp only [List.length_map, List.getElem_map] at h1 h2 h3 hat hb
 refine (hasQ w a zs.length c zs _ hz rfl hb _ _ _ _ _ _ _ ⟨rfl, rfl, rfl, rfl, rfl, rfl, rfl⟩ 63 e63 (fun q => cmpL q.name name) (fun W z hm => ?_) p h1 h2 h3).mono ?_
 ·have := cQ W (hz.2 z hm).2 (q' := ⟨name, false, 0, 0, 0, [], []⟩) (v' := .agg #[tx name, .bool false, .int .i64 0, .int .i64 0, .int .i64 0, .slice none 0 0, .slice none 0 0]) ⟨.slice none 0 0, .slice none 0 0, rfl, ⟨[], rfl, ⟨.inl ⟨⟨none, 0, rfl⟩, rfl⟩, by simp⟩⟩, ⟨[], rfl, ⟨.inl ⟨⟨none, 0, rfl⟩, rfl⟩, by simp⟩⟩⟩
  exact this
 ·rintro e w' ⟨⟨b, rfl, hb'⟩, b1⟩
  refine ⟨?_, b1⟩
  rw [hat] at hb'
  have e : hasNm (zs.map (·.2)) name = true ↔ ∃ y ∈ zs.map (·.2), Que.name y = name := by
   unfold hasNm
   rw [List.any_eq_true]
   simp only [decide_eq_true_eq]
  cases b <;> cases hc : hasNm (zs.map (·.2)) name
  ·rfl
  ·rw [← e, hc] at hb'
   simp at hb'
  ·rw [← e, hc] at hb'
   simp at hb'
  ·rfl
theorem hasQueue_any (w : World) (c : Cor) (qv bv sv kv cv : Value) (h : RdL 7 (QuR (RdQ w)) w qv c.queues) (hr : risB oQ c.queues = true) (hb : c.queues.length ≤ 1000000) (name : List UInt8) :
  Calls Tryz.prog 68 #[corV c qv bv sv kv cv, tx name] w fun e w' => e = .returned (.bool (hasNm c.queues name)) ∧ Bw w w' := by
 unfold corV
 have b0 := (Below.refl w.heap.size w).alloc (Nat.le_refl _) (.cells #[.int .i64 c.now, qv, bv, sv, kv, cv] 30)
 have h1 : RdL 7 (QuR (RdQ (w.alloc (.cells #[.int .i64 c.now, qv, bv, sv, kv, cv] 30)))) (w.alloc (.cells #[.int .i64 c.now, qv, bv, sv, kv, cv] 30)) qv c.queues := by
  obtain ⟨zq, e1, h1⟩ := h
  exact ⟨zq, e1, (h1.on b0).imp fun _ _ h => RdQ.on h b0⟩
 have HH := hasName _ qv c.queues h1 hr hb name
 generalize hasNm c.queues name = r at *
 clear h h1 hr hb
 go_enter Tryz.func68, Tryz.ntmps68
 go_wp2_with fail
 refine HH.mono ?_
 rintro e w1 ⟨rfl, b1⟩
 have b2 := nxt b0 b1
 clear HH b0 b1
 go_wp2_with fail
 go_ret
 exact ⟨rfl, b2⟩
structure Ot where
 conn : Int
 sub : Int
 tag : Int
 queue : List UInt8
 again : Bool
 kept : Bool
 msg : Msg
structure Opr where
 kind : Int
 conn : Int
 sub : Int
 n : Int
 queue : List UInt8
 text : List UInt8
 dur : Bool
 auto : Bool
 keep : Bool
 msg : Msg
def bnd {α β : Type} (x : Except Int α) (f : α → Except Int β) : Except Int β :=
 match x with
 | .ok a => f a
 | .error n => .error n
theorem bnd_ok {α β : Type} {x : Except Int α} {f : α → Except Int β} {y : β} : bnd x f = .ok y ↔ ∃ a, x = .ok a ∧ f a = .ok y := by
 cases x <;> simp [bnd]
def ins {β : Type} (b : Bool) (n : Int) (k : Except Int β) : Except Int β := if b then k else .error n
theorem ins_ok {β : Type} {b : Bool} {n : Int} {k : Except Int β} {y : β} : ins b n k = .ok y ↔ b = true ∧ k = .ok y := by
 cases b <;> simp [ins]
def sureE {β : Type} (n : Int) (k : β) : Except Int β := if n = 0 then .ok k else .error n
theorem sureE_ok {β : Type} {n : Int} {k y : β} : sureE n k = .ok y ↔ n = 0 ∧ k = y := by
 unfold sureE
 split <;> simp_all
def namedC (c : Cor) (n : List UInt8) : Except Int Que :=
 match c.queues.find? (fun q => decide (q.name = n)) with
 | some q => .ok q
 | none => .error 33
def setQ (c : Cor) (q : Que) : Cor := { c with queues := enL oQ q c.queues }
def enE {α : Type} (o : α → α → Int) (most : Int) (x : α) (l : List α) : Except Int (List α) := ins (hasL o x l || decide ((l.length : Int) < most)) 34 (.ok (enL o x l))
def declareC (c : Cor) (o : Opr) : Except Int Cor :=
 match c.queues.find? (fun q => decide (q.name = o.queue)) with
 | some q => ins (decide (q.dur = o.dur) && decide (q.depth = o.n)) 32 (.ok c)
 | none => bnd (sureE (newC o.queue o.n) (newQ o.queue o.dur o.n)) fun q => bnd (enE oQ 16 q c.queues) fun l => .ok { c with queues := l }
def removeC (c : Cor) (o : Opr) : Except Int Cor :=
 ins (hasNm c.queues o.queue) 33 (.ok { c with queues := leL oQ (newQ o.queue false 0) c.queues, binds := c.binds.filter (fun b => !decide (b.queue = o.queue)), subs := c.subs.filter (fun s => !decide (s.queue = o.queue)) })
def keptO (c : Cor) (o : Opr) : List Ot := (c.kept.filter (fun m => mat o.text m.topic)).map fun m => ⟨o.conn, o.sub, 0, o.queue, false, true, m⟩
def bindC (c : Cor) (o : Opr) : Except Int (Cor × List Ot) :=
 ins (hasNm c.queues o.queue) 33 <| ins (pat o.text) 30 <| bnd (enE oB 64 ⟨o.queue, o.text⟩ c.binds) fun l =>
  if o.keep then ins (subB o.conn o.sub) 1 (.ok ({ c with binds := l }, keptO c o)) else .ok ({ c with binds := l }, [])
def unbindC (c : Cor) (o : Opr) : Except Int Cor :=
 ins (hasL oB ⟨o.queue, o.text⟩ c.binds) 33 (.ok { c with binds := leL oB ⟨o.queue, o.text⟩ c.binds })
def cliP (c : Cor) (n : List UInt8) : List Int := ((c.clients.find? (fun k => decide (k.name = n))).map Cli.packets).getD []
def isNewC (c : Cor) (n : List UInt8) (pk : Int) : Except Int (Bool × Cor) :=
 ins (nameL n) 31 <| ins (pktB pk) 1 <|
  if hasL cmpZ pk (cliP c n) then .ok (false, c) else
   bnd (enE cmpZ 32 pk (cliP c n)) fun ps => bnd (enE oC 16 ⟨n, ps⟩ c.clients) fun l => .ok (true, { c with clients := l })
def meantB (c : Cor) (o : Opr) (q : Que) : Bool :=
 if o.queue ≠ [] then decide (q.name = o.queue) else c.binds.any fun b => decide (b.queue = q.name) && mat b.pat o.msg.topic
def mapE (f : Que → Except Int Que) : List Que → Except Int (List Que)
 | [] => .ok []
 | q :: l => bnd (f q) fun q' => bnd (mapE f l) fun l' => .ok (q' :: l')
def pushE (p : Que → Bool) (m : Msg) (q : Que) : Except Int Que := if p q then sureE (pushC q m) (pushQ q m) else .ok q
def pushAll (c : Cor) (p : Que → Bool) (m : Msg) : Except Int Cor :=
 if decide (0 < m.til) && decide (m.til ≤ c.now) then .ok c else bnd (mapE (pushE p m) c.queues) fun l => .ok { c with queues := l }
def retainC (c : Cor) (m : Msg) : Except Int Cor :=
 if m.body = [] then .ok { c with kept := leL oM m c.kept } else bnd (enE oM 16 m c.kept) fun l => .ok { c with kept := l }
def publish2 (c : Cor) (o : Opr) : Except Int Cor :=
 ins (decide (o.queue = []) || hasNm c.queues o.queue) 33 <| bnd (pushAll c (meantB c o) o.msg) fun c2 => if o.keep then retainC c2 o.msg else .ok c2
def publishC (c : Cor) (o : Opr) : Except Int Cor :=
 ins (msgB o.msg) 36 <| if o.text = [] then publish2 c o else bnd (isNewC c o.text o.n) fun r => if r.1 then publish2 r.2 o else .ok r.2
def forgetC (c : Cor) (o : Opr) : Except Int Cor := ins (nameL o.text) 31 (.ok { c with clients := leL oC ⟨o.text, []⟩ c.clients })
def releaseC (c : Cor) (o : Opr) : Except Int Cor :=
 ins (nameL o.text) 31 <|
  match c.clients.find? (fun k => decide (k.name = o.text)) with
  | none => .ok c
  | some k => if leL cmpZ o.n k.packets = [] then forgetC c o else .ok { c with clients := enL oC ⟨k.name, leL cmpZ o.n k.packets⟩ c.clients }
def subscribeC (c : Cor) (o : Opr) : Except Int Cor :=
 ins (subB o.conn o.sub && winB o.n) 1 <| ins (hasNm c.queues o.queue) 33 <| ins (!hasL oS ⟨o.conn, o.sub, o.queue, o.n, o.auto⟩ c.subs) 32 <|
  bnd (enE oS 32 ⟨o.conn, o.sub, o.queue, o.n, o.auto⟩ c.subs) fun l => .ok { c with subs := l }
def unsubscribeC (c : Cor) (o : Opr) : Except Int Cor :=
 match c.subs.find? (fun s => decide (oS s ⟨o.conn, o.sub, [], 0, false⟩ = 0)) with
 | none => .error 33
 | some s => bnd (namedC c s.queue) fun q => bnd (sureE (relC q) (releaseQ q o.conn o.sub)) fun q' => .ok { setQ c q' with subs := leL oS ⟨o.conn, o.sub, [], 0, false⟩ c.subs }
def handQ (q : Que) (conn sub : Int) (hold : Bool) : Except Int (Que × Ot) :=
 sureE (takeC q conn sub) (takeQ q conn sub hold, ⟨conn, sub, if hold then q.tag + 1 else 0, q.name, (q.items.headD zeroI).again, false, (q.items.headD zeroI).msg⟩)
def getC (c : Cor) (o : Opr) : Except Int (Cor × List Ot) :=
 ins (subB o.conn o.sub) 1 <| bnd (namedC c o.queue) fun q => bnd (sureE (relC q) (expireQ q c.now)) fun q1 => bnd (handQ q1 o.conn o.sub (!o.auto)) fun r => .ok (setQ c r.1, [r.2])
def settleK (c : Cor) (o : Opr) (again : Bool) : Except Int Cor :=
 bnd (namedC c o.queue) fun q => bnd (sureE (settleC q o.conn o.n) (settleQ q o.conn o.n again)) fun q' => .ok (setQ c q')
def relE (conn : Int) (q : Que) : Except Int Que := sureE (relC q) (releaseQ q conn (-1))
def detachC (c : Cor) (o : Opr) : Except Int Cor :=
 ins (conB o.conn) 1 <| bnd (mapE (relE o.conn) c.queues) fun l => .ok { c with subs := c.subs.filter (fun s => !decide (s.conn = o.conn)), queues := l }
def tickC (c : Cor) (o : Opr) : Except Int Cor := ins (decide (0 ≤ o.n) && decide (o.n ≤ 1099511627776 - c.now)) 1 (.ok { c with now := c.now + o.n })
def mayB (q : Que) (s : Sbs) : Bool := decide (s.queue = q.name) && (s.auto || decide ((holdsQ q s.conn s.sub : Int) < s.win))
def pumpQ (subs : List Sbs) : Nat → Que → Except Int (Que × List Ot)
 | 0, q => .ok (q, [])
 | n + 1, q => if q.items = [] then .ok (q, []) else
  match subs.find? (mayB q) with
  | none => .ok (q, [])
  | some s => bnd (handQ q s.conn s.sub (!s.auto)) fun r => bnd (pumpQ subs n r.1) fun r2 => .ok (r2.1, r.2 :: r2.2)
def pumpE (subs : List Sbs) (now : Int) (q : Que) : Except Int (Que × List Ot) := bnd (sureE (relC q) (expireQ q now)) fun q1 => pumpQ subs q1.items.length q1
def pumpL (subs : List Sbs) (now : Int) : List Que → Except Int (List Que × List Ot)
 | [] => .ok ([], [])
 | q :: l => bnd (pumpE subs now q) fun r => bnd (pumpL subs now l) fun r2 => .ok (r.1 :: r2.1, r.2 ++ r2.2)
def pumpC (c : Cor) : Except Int (Cor × List Ot) := bnd (pumpL c.subs c.now c.queues) fun r => .ok ({ c with queues := r.1 }, r.2)
def noO (x : Except Int Cor) : Except Int (Cor × List Ot) := bnd x fun c => .ok (c, [])
def actC (c : Cor) (o : Opr) : Except Int (Cor × List Ot) :=
 if o.kind = 1 then noO (declareC c o) else if o.kind = 2 then noO (removeC c o) else if o.kind = 3 then bindC c o else if o.kind = 4 then noO (unbindC c o)
 else if o.kind = 5 then noO (publishC c o) else if o.kind = 6 then noO (releaseC c o) else if o.kind = 7 then noO (forgetC c o) else if o.kind = 8 then noO (subscribeC c o)
 else if o.kind = 9 then noO (unsubscribeC c o) else if o.kind = 10 then getC c o else if o.kind = 11 then noO (settleK c o false) else if o.kind = 12 then noO (settleK c o o.auto)
 else if o.kind = 13 then noO (detachC c o) else noO (tickC c o)
def doC (c : Cor) (o : Opr) : Except Int (Cor × List Ot) :=
 ins (decide (1 ≤ o.kind) && decide (o.kind ≤ 14) && goodC c) 1 <| bnd (actC c o) fun r => bnd (pumpC r.1) fun r2 => .ok (r2.1, r.2 ++ r2.2)
structure GoodC (c : Cor) : Prop where
 now : numB c.now = true
 ql : (c.queues.length : Int) ≤ 16
 qg : ∀ q ∈ c.queues, goodQ q = true
 qi : Inc oQ c.queues
 bl : (c.binds.length : Int) ≤ 64
 bg : ∀ b ∈ c.binds, bndB c.queues b = true
 bi : Inc oB c.binds
 sl : (c.subs.length : Int) ≤ 32
 sg : ∀ s ∈ c.subs, sbsB c.queues s = true
 si : Inc oS c.subs
 kl : (c.kept.length : Int) ≤ 16
 kg : ∀ m ∈ c.kept, kepB m = true
 ki : Inc oM c.kept
 cl : (c.clients.length : Int) ≤ 16
 cg : ∀ m ∈ c.clients, cliB m = true
 ci : Inc oC c.clients
theorem goodC_iff (c : Cor) : goodC c = true ↔ GoodC c := by
 simp only [goodC, canL, Bool.and_eq_true, decide_eq_true_eq, List.all_eq_true, risB_inc linQ, risB_inc linB, risB_inc linS, risB_inc linM, risB_inc linC]
 constructor
 ·rintro ⟨⟨⟨⟨⟨h1, ⟨h2, h3⟩, h4⟩, ⟨h5, h6⟩, h7⟩, ⟨h8, h9⟩, h10⟩, ⟨h11, h12⟩, h13⟩, ⟨h14, h15⟩, h16⟩
  exact ⟨h1, h2, h3, h4, h5, h6, h7, h8, h9, h10, h11, h12, h13, h14, h15, h16⟩
 ·rintro ⟨h1, h2, h3, h4, h5, h6, h7, h8, h9, h10, h11, h12, h13, h14, h15, h16⟩
  exact ⟨⟨⟨⟨⟨h1, ⟨h2, h3⟩, h4⟩, ⟨h5, h6⟩, h7⟩, ⟨h8, h9⟩, h10⟩, ⟨h11, h12⟩, h13⟩, ⟨h14, h15⟩, h16⟩
theorem hasNm_iff {qs : List Que} {n : List UInt8} : hasNm qs n = true ↔ n ∈ qs.map Que.name := by
 simp only [hasNm, List.any_eq_true, decide_eq_true_eq, List.mem_map]
theorem hasNm_names {qs qs' : List Que} (h : qs'.map Que.name = qs.map Que.name) (n : List UInt8) : hasNm qs' n = hasNm qs n := by
 rw [Bool.eq_iff_iff, hasNm_iff, hasNm_iff, h]
theorem bndB_names {qs qs' : List Que} (h : qs'.map Que.name = qs.map Que.name) (b : Bnd) : bndB qs' b = bndB qs b := by
 unfold bndB
 rw [hasNm_names h]
theorem sbsB_names {qs qs' : List Que} (h : qs'.map Que.name = qs.map Que.name) (b : Sbs) : sbsB qs' b = sbsB qs b := by
 unfold sbsB
 rw [hasNm_names h]
theorem inc_names {qs : List Que} : Inc oQ qs ↔ (qs.map Que.name).Pairwise fun a b => cmpL a b < 0 := by
 rw [List.pairwise_map]
 rfl
theorem GoodC.names {c : Cor} (h : GoodC c) {l : List Que} (hl : l.map Que.name = c.queues.map Que.name) (hg : ∀ q ∈ l, goodQ q = true) : GoodC { c with queues := l } := by
 refine ⟨h.now, ?_, hg, ?_, h.bl, fun b hb => ?_, h.bi, h.sl, fun s hs => ?_, h.si, h.kl, h.kg, h.ki, h.cl, h.cg, h.ci⟩
 ·have := congrArg List.length hl
  simp only [List.length_map] at this
  show (l.length : Int) ≤ 16
  rw [this]
  exact h.ql
 ·show Inc oQ l
  rw [inc_names, hl, ← inc_names]
  exact h.qi
 ·show bndB l b = true
  rw [bndB_names hl]
  exact h.bg b hb
 ·show sbsB l s = true
  rw [sbsB_names hl]
  exact h.sg s hs
theorem oQ_zero {a b : Que} : oQ a b = 0 ↔ a.name = b.name := cmpL_zero
theorem set_names {l : List Que} (hl : Inc oQ l) {q' : Que} (h : q'.name ∈ l.map Que.name) : (enL oQ q' l).map Que.name = l.map Que.name := by
 obtain ⟨p, h1, h2, h3⟩ := place_any linQ q' hl
 have hh : hasL oQ q' l = true := by
  obtain ⟨q, hq, e⟩ := List.mem_map.1 h
  simp only [hasL, List.any_eq_true, decide_eq_true_eq]
  exact ⟨q, hq, oQ_zero.2 e⟩
 obtain ⟨hp, he⟩ := (has_iff linQ hl h1 h2 h3).2 hh
 rw [← en_there linQ hl h2 h3 hp he (linQ.refl q'), List.map_set]
 refine List.ext_getElem (by simp) fun i hi hi' => ?_
 rw [List.getElem_set]
 split
 ·rename_i e
  subst e
  simp only [List.getElem_map]
  exact (oQ_zero.1 he).symm
 ·rfl
theorem GoodC.atQ {c : Cor} (h : GoodC c) {q' : Que} (hn : q'.name ∈ c.queues.map Que.name) (hg : goodQ q' = true) : GoodC (setQ c q') := by
 refine h.names (set_names h.qi hn) fun q hq => ?_
 rcases mem_enL.1 hq with rfl | ⟨h1, _⟩
 ·exact hg
 ·exact h.qg q h1
theorem namedC_ok {c : Cor} {n : List UInt8} {q : Que} (h : namedC c n = .ok q) : q ∈ c.queues ∧ q.name = n := by
 unfold namedC at h
 split at h
 ·rename_i q' e
  injection h with h
  subst h
  exact ⟨List.mem_of_find?_eq_some e, by have := List.find?_some e; simpa using this⟩
 ·cases h
theorem enE_ok {α : Type} {o : α → α → Int} {most : Int} {x : α} {l l' : List α} (h : enE o most x l = .ok l') : (hasL o x l = true ∨ (l.length : Int) < most) ∧ l' = enL o x l := by
 unfold enE at h
 rw [ins_ok] at h
 obtain ⟨h1, h2⟩ := h
 injection h2 with h2
 simp only [Bool.or_eq_true, decide_eq_true_eq] at h1
 exact ⟨h1, h2.symm⟩
theorem en_len {α : Type} {o : α → α → Int} (ho : LinO o) {most : Int} {x : α} {l : List α} (hl : Inc o l) (hm : (l.length : Int) ≤ most) (h : hasL o x l = true ∨ (l.length : Int) < most) : ((enL o x l).length : Int) ≤ most := by
 rcases h with h | h
 ·rw [len_enL_has ho hl h]
  exact hm
 ·have := len_enL_le (o := o) (x := x) l
  omega
theorem len_le {α : Type} (p : α → Bool) (l : List α) {most : Int} (h : (l.length : Int) ≤ most) : ((l.filter p).length : Int) ≤ most := by
 have := List.length_filter_le p l
 omega
theorem zero_good {name : List UInt8} {dur : Bool} {d : Int} (h : newC name d = 0) : goodQ (newQ name dur d) = true := by
 unfold newC at h
 split at h
 ·cases h
 ·rename_i h1
  split at h
  ·cases h
  ·rename_i h2
   have h3 : nameL name = true := by simpa using h1
   have h4 : depB d = true := by simpa using h2
   have h5 := h4
   simp only [depB, Bool.and_eq_true, decide_eq_true_eq] at h5
   refine (goodQ_iff _).2 ⟨h3, h4, by simp [newQ, numB], by simp [newQ, numB], ?_, List.Pairwise.nil, fun x hx => (by cases hx), List.Pairwise.nil, fun x hx => (by cases hx), by simp [newQ, seqs]⟩
   show ((0 : Nat) : Int) ≤ d
   omega
theorem mapE_ok {f : Que → Except Int Que} : ∀ {l l' : List Que}, mapE f l = .ok l' → (∀ q q', f q = .ok q' → q'.name = q.name) → l'.map Que.name = l.map Que.name ∧ ∀ q' ∈ l', ∃ q ∈ l, f q = .ok q'
 | [], l', h, _ => by
  injection h with h
  subst h
  simp
 | q :: l, l', h, hf => by
  unfold mapE at h
  obtain ⟨a, h1, h2⟩ := bnd_ok.1 h
  obtain ⟨b, h3, h4⟩ := bnd_ok.1 h2
  injection h4 with h4
  subst h4
  obtain ⟨i1, i2⟩ := mapE_ok h3 hf
  refine ⟨by simp [i1, hf q a h1], fun q' hq' => ?_⟩
  rcases List.mem_cons.1 hq' with rfl | hq'
  ·exact ⟨q, by simp, h1⟩
  ·obtain ⟨z, hz, e⟩ := i2 q' hq'
   exact ⟨z, by simp [hz], e⟩
end Go.Proofs.YtnpikgakpmkipabGreatDoor
namespace Go.Proofs.YtnpikgakpmkipabGreatDoor
abbrev opA (o : Opr) (pv : Value) : Array Value := #[.int .i64 o.kind, .int .i64 o.conn, .int .i64 o.sub, .int .i64 o.n, tx o.queue, tx o.text, .bool o.dur, .bool o.auto, .bool o.keep, tx o.msg.topic, tx o.msg.body, pv, .bool o.msg.dur, .int .i64 o.msg.til]
end Go.Proofs.YtnpikgakpmkipabGreatDoor
namespace Go.Proofs.YtnpikgakpmkipabGreatDoor
open Go.RowKit Go.Lib
set_option maxRecDepth 100000
set_option linter.unusedSimpArgs false
theorem wpl_appNn {α : Type} {ops : Array Oper} {rest : List Oper} {o : Oper} {a : Act} {Q : Exit → Act → World → Prop} (hgd : o.guard = none) (s x : Operand)
  (ho : o.op = .call { callee := .builtin .append, args := #[s, x], argTypes := #[86, 86] }) (B : Nat) (v vx : Value) (zs zs2 : Zs α) (R : List Value → α → Prop) (w : World)
  (hs : a.eval s = v) (hown : OwnZ 3 1 R w B v zs) (hx : a.eval x = vx) (hsrc : RdZ 1 R w vx zs2) (hn : zs.length + zs2.length ≤ 100000) (hB : B ≤ w.heap.size)
  (h : ∀ v' w', OwnZ 3 1 R w' B v' (zs ++ zs2) → w.grownBy w' v.ownBlock → wpList Tryz.prog ops Q rest (a.put o.dst v') w') : wpList Tryz.prog ops Q (o :: rest) a w := by
 refine wpList_plain hgd fun K hK => ?_
 obtain ⟨i0, hi, hz0, hz1, hz2⟩ := info_parts kiN.inf
 have hall : ∀ y ∈ zs ++ zs2, (y.1.length = 1 ∧ ∀ u ∈ y.1, u.oneCell' = true) ∧ R y.1 y.2 := fun y hy => by
  rcases List.mem_append.1 hy with hy | hy
  ·exact hown.2 y hy
  ·exact hsrc.2 y hy
 rcases hsrc.1 with ⟨⟨ad, c, rfl⟩, rfl⟩ | ⟨b, off, c, rfl, hc, hcell⟩
 ·have hrun : (Builtin.append_ #[86, 86] o.type #[v, .slice ad 0 c]).run Tryz.prog w = .ok v w := by
   rcases hown.1.2 with ⟨rfl, _⟩ | ⟨g, cap, cur, rfl, _, _, hnc, _⟩
   ·cases ad <;> simp [Builtin.append_, run_underlying Tryz.underlying86, sizeOf, typeInfo, hi, Builtin.lenOf, Builtin.firstCells, loadCells, loadCellsFrom]
   ·cases ad <;> simp [Builtin.append_, run_underlying Tryz.underlying86, sizeOf, typeInfo, hi, Builtin.lenOf, Builtin.firstCells, hnc, storeCells, loadCells, loadCellsFrom]
  unfold Oper.wp execOp
  simp only [ho, resolve, invoke, builtin, Sem.run_bind, Sem.run_pure, Result.andThen_ok, List.map_toArray, List.map_cons, List.map_nil, hs, hx, hrun]
  exact hK _ _ (h v w (by rw [List.append_nil]; exact hown) (World.grownBy.refl _ _))
 ·have hk : ∀ z ∈ zs2, z.1.length = 1 := fun z hz => (hsrc.2 z hz).1.1
  refine wp_append_own _ s x 86 ho B 3 i0 (.int .i64 0) 1 8 Tryz.underlying86 hi hz0 hz1 hz2 rfl (by decide) v zs.length (cellsZ zs) hs hown.1 ⟨b, off, none⟩ zs2.length c (cellsZ zs2) hx (cellsZ_len hk) ?_ ?_ (by unfold maxLen; omega) (by omega) hB ?_
  ·intro j u hj
   rw [Addr.add_lit]
   exact hcell j u hj
  ·intro u hu
   simp only [cellsZ, List.mem_flatMap] at hu
   obtain ⟨z, hz, hu⟩ := hu
   exact (hsrc.2 z hz).1.2 u hu
  ·intro v' w' h1 h2 _
   refine hK _ _ (h v' w' ⟨?_, hall⟩ h2)
   rw [cellsZ_app, List.length_append]
   exact h1
theorem copyN {α : Type} (w : World) (v : Value) (zs : Zs α) (R : List Value → α → Prop) (h : RdZ 1 R w v zs) (hn : zs.length ≤ 100000) :
  Calls Tryz.prog 157 #[v] w fun e w' => ∃ v', e = .returned v' ∧ OwnZ 3 1 R w' w.heap.size v' zs ∧ Bw w w' := by
 obtain ⟨a, c, rfl⟩ := h.len
 have HH : Hid (RdZ 1 R w (.slice a zs.length c) zs) := h
 clear h
 obtain ⟨n, hnn⟩ : ∃ n, zs.length = n := ⟨_, rfl⟩
 rw [hnn] at HH hn ⊢
 have HN : Hid (zs.length = n) := hnn
 clear hnn
 go_enter Tryz.func157, Tryz.ntmps157
 go_wp2_with (at_builtin; refine wpl_appNn rfl (.const (.slice none 0 0)) (.tmp 3) rfl w.heap.size _ _ [] zs R w rfl ⟨World.ownsRow_nil .., by simp⟩ rfl HH.out (by rw [HN.out]; simp; omega) (Nat.le_refl _) ?_)
 intro v' w' h1 h2
 have b1 : Bw w w' := ⟨h2.os, h2.tape, h2.output, h2.size, fun k hk => h2.block k hk (by simp [Value.ownBlock])⟩
 go_wp2_with fail
 go_ret
 exact ⟨_, rfl, by simpa using h1, b1⟩
end Go.Proofs.YtnpikgakpmkipabGreatDoor
