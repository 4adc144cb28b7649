/- How an argument that is a list of calls (a kind, a number, a text) is opened. Conditions: those that each row states. -/
import Derived.Test.YtcicnbbnkeellaaGreatDoorLo
import Derived.Deep.Slices
set_option maxRecDepth 100000
namespace Go.Proofs.YtcicnbbnkeellaaGreatDoor.To
open Go.RowKit Go.Lib Go.Deep

/-- A call: its kind, its number, its text. -/
structure Cl where
  kind : Int
  num : Int
  text : List UInt8
theorem cells3 : Tryz.prog.cellsOf 3 = 1 := by kernel_rfl
theorem cells32 : Tryz.prog.cellsOf 32 = 3 := by kernel_rfl
theorem i64w {z : Int} (h : (Lit.int .i64 z).wf = true) : -9223372036854775808 ≤ z ∧ z ≤ 9223372036854775807 := by
  simpa [Lit.wf, IntKind.min, IntKind.max, IntKind.signed, IntKind.bits] using h
def InC (y : Cl) : Prop := (-9223372036854775808 ≤ y.kind ∧ y.kind ≤ 9223372036854775807) ∧ (-9223372036854775808 ≤ y.num ∧ y.num ≤ 9223372036854775807) ∧ y.text.length ≤ maxLen
/-- A call that lies in memory. -/
def ClAt (W : World) (b o : Nat) (y : Cl) : Prop := W.cell? ⟨b, o, none⟩ = some (.int .i64 y.kind) ∧ W.cell? ⟨b, o + 1, none⟩ = some (.int .i64 y.num) ∧ W.cell? ⟨b, o + 2, none⟩ = some (str y.text)
def RdC (W : World) (v : Value) (l : List Cl) : Prop := ((∃ a c, v = .slice a 0 c) ∧ l = []) ∨ ∃ b o c, v = .slice (some ⟨b, o, none⟩) l.length c ∧ l.length ≤ c ∧ ∀ i (h : i < l.length), ClAt W b (o + i * 3) l[i]

theorem call_cells {H : Type} {enc : TypeId × Value → H} {W : World} {cs : List Value} {fuel : Nat} {x : DataW H × List MemPlace} (h : DataW.trod enc Tryz.prog W 0 (fun _ => true) true fuel 32 cs = some x) :
    ∃ y : Cl, cs = [.int .i64 y.kind, .int .i64 y.num, str y.text] ∧ InC y := by
  obtain ⟨xs, n, _, rfl, hl, hlen, hf⟩ := DataW.trod_struct Tryz.underlying32 h
  rw [cells32] at hl
  match xs, hlen with
  | [y0, y1, y2], _ =>
    have t0 : DataW.trod enc Tryz.prog W 0 (fun _ => true) true n 3 ((cs.drop 0).take (Tryz.prog.cellsOf 3)) = some y0 := by simpa using hf 0 _ rfl
    have t1 : DataW.trod enc Tryz.prog W 0 (fun _ => true) true n 3 ((cs.drop 1).take (Tryz.prog.cellsOf 3)) = some y1 := by simpa using hf 1 _ rfl
    have t2 : DataW.trod enc Tryz.prog W 0 (fun _ => true) true n 9 ((cs.drop 2).take (Tryz.prog.cellsOf 9)) = some y2 := by simpa using hf 2 _ rfl
    match cs, hl with
    | [c0, c1, c2], _ =>
      simp only [cells3, cells9, List.drop, List.take] at t0 t1 t2
      obtain ⟨k, e0, _, wk⟩ := DataW.trod_int Tryz.underlying3 t0
      obtain ⟨m, e1, _, wm⟩ := DataW.trod_int Tryz.underlying3 t1
      obtain ⟨s, e2, _, ws⟩ := DataW.trod_string Tryz.underlying9 t2
      simp only [List.cons.injEq, and_true] at e0 e1 e2
      subst e0 e1 e2
      exact ⟨⟨k, m, bl s⟩, rfl, i64w wk, i64w wm, by rw [bl_len]; exact ws⟩
theorem call_at {H : Type} {enc : TypeId × Value → H} {W : World} {a : Addr} {cs : List Value} {fuel : Nat} {x : DataW H × List MemPlace}
    (hc : W.cells? 0 a (Tryz.prog.cellsOf 32) = some cs) (h : DataW.trod enc Tryz.prog W 0 (fun _ => true) true fuel 32 cs = some x) :
    ∃ (b o : Nat) (y : Cl), a = ⟨b, o, none⟩ ∧ ClAt W b o y ∧ InC y := by
  obtain ⟨y, rfl, hy⟩ := call_cells h
  rw [cells32] at hc
  obtain ⟨b, o, sp⟩ := a
  obtain ⟨_, _, hh⟩ := World.cells?_some hc
  have h0 := hh 0 (by omega)
  have h1 := hh 1 (by omega)
  have h2 := hh 2 (by omega)
  simp only [Addr.add, List.getElem?_cons_zero, List.getElem?_cons_succ] at h0 h1 h2
  have hsp : sp = none := by simpa [Addr.add] using World.cell?_spot h0
  subst hsp
  exact ⟨b, o, y, rfl, ⟨h0, h1, h2⟩, hy⟩
theorem rd_calls {H : Type} {enc : TypeId × Value → H} {W : World} {a : Option Addr} {n c : Nat} {d : DataW H} {p : List MemPlace}
    (h : DataW.Trod enc Tryz.prog W 0 (fun _ => true) true 22 (.slice a n c) d p) : ∃ l : List Cl, RdC W (.slice a n c) l ∧ l.length = n ∧ ∀ q ∈ l, InC q := by
  obtain ⟨fuel, hf⟩ := h
  rcases open_slice Tryz.underlying22 hf with ⟨hcs, _⟩ | ⟨x, l, cp, m, f, D, Pl, hcs, _, hl, hm, hmm, hx, hel⟩
  · simp [Value.cells] at hcs
    obtain ⟨rfl, rfl, rfl⟩ := hcs
    exact ⟨[], .inl ⟨⟨_, _, rfl⟩, rfl⟩, rfl, fun q hq => by simp at hq⟩
  · simp [Value.cells] at hcs
    obtain ⟨rfl, rfl, rfl⟩ := hcs
    have hmc : m = c := by simpa using hmm
    subst hmc
    rcases Nat.eq_zero_or_pos n with h0 | h0
    · subst h0
      exact ⟨[], .inl ⟨⟨_, _, rfl⟩, rfl⟩, rfl, fun q hq => by simp at hq⟩
    · have key : ∀ i, i < n → ∃ (b o : Nat) (y : Cl), x.add (i * 3) = ⟨b, o, none⟩ ∧ ClAt W b o y ∧ InC y := fun i hi => by
        obtain ⟨cs', h1, h2⟩ := hel i (by omega)
        have := call_at h1 h2
        rwa [cells32] at this
      obtain ⟨b, o, _, e0, _⟩ := key 0 (by omega)
      have ex : x = ⟨b, o, none⟩ := by simpa [Addr.add] using e0
      subst ex
      have key2 : ∀ i, i < n → ∃ y : Cl, ClAt W b (o + i * 3) y ∧ InC y := fun i hi => by
        obtain ⟨b', o', y, e, g, hy⟩ := key i hi
        rw [Addr.add_lit] at e
        cases e
        exact ⟨y, g, hy⟩
      have hall : ∀ k, k ≤ n → ∃ l : List Cl, l.length = k ∧ ∀ i (h : i < l.length), ClAt W b (o + i * 3) l[i] ∧ InC l[i] := by
        intro k
        induction k with
        | zero => exact fun _ => ⟨[], rfl, fun i h => by simp at h⟩
        | succ k ih =>
          intro hk
          obtain ⟨l, hl, hh⟩ := ih (by omega)
          obtain ⟨y, hy⟩ := key2 k (by omega)
          refine ⟨l ++ [y], by simp [hl], fun i hi => ?_⟩
          by_cases e : i < l.length
          · rw [List.getElem_append_left e]; exact hh i e
          · have : i = k := by simp at hi; omega
            subst this
            rw [List.getElem_append_right (by omega)]
            simpa using hy
      obtain ⟨l, hl2, hh⟩ := hall n (Nat.le_refl _)
      refine ⟨l, .inr ⟨b, o, m, by rw [hl2], by omega, fun i hi => (hh i hi).1⟩, hl2, fun q hq => ?_⟩
      obtain ⟨i, hi, rfl⟩ := List.mem_iff_getElem.1 hq
      exact (hh i hi).2
end Go.Proofs.YtcicnbbnkeellaaGreatDoor.To
