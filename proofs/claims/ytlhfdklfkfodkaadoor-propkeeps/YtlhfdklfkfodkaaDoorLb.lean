/- How an argument that is a property, or a list of them, is opened. -/
import Derived.Test.YtlhfdklfkfodkaaDoorLa
import Derived.Test.YtlhfdklfkfodkaaDoorQi
import Derived.Deep.Slices
set_option maxRecDepth 100000
namespace Go.Proofs.YtlhfdklfkfodkaaDoor
open Go.RowKit Go.Lib Go.Deep

theorem cells33 : Tryd.prog.cellsOf 33 = 5 := by kernel_rfl
theorem bytes33 : Tryd.prog.bytesOf 33 = 56 := by kernel_rfl

/-- What is told of a value that came in. -/
def InV (y : Val) : Prop := (-9223372036854775808 ≤ y.kind ∧ y.kind ≤ 9223372036854775807) ∧ (-9223372036854775808 ≤ y.num ∧ y.num ≤ 9223372036854775807) ∧ y.text.size ≤ maxLen ∧ y.real < 2 ^ 64
def InP (p : Pr) : Prop := p.name.size ≤ maxLen ∧ InV p.val

theorem prop_cells {H : Type} {enc : TypeId × Value → H} {W : World} {cs : List Value} {fuel : Nat} {x : DataW H × List MemPlace} (h : DataW.trod enc Tryd.prog W 0 (fun _ => true) true fuel 33 cs = some x) :
    ∃ y : Pr, cs = [.string y.name, .int .i64 y.val.kind, .int .i64 y.val.num, .string y.val.text, .float .f64 y.val.real] ∧ InP y := by
  obtain ⟨xs, n, _, rfl, hl, hlen, hf⟩ := DataW.trod_struct Tryd.underlying33 h
  rw [cells33] at hl
  match xs, hlen with
  | [y0, y1], _ =>
    have t0 : DataW.trod enc Tryd.prog W 0 (fun _ => true) true n 9 ((cs.drop 0).take (Tryd.prog.cellsOf 9)) = some y0 := by simpa using hf 0 _ rfl
    have t1 : DataW.trod enc Tryd.prog W 0 (fun _ => true) true n 24 ((cs.drop 1).take (Tryd.prog.cellsOf 24)) = some y1 := by simpa using hf 1 _ rfl
    match cs, hl with
    | [c0, c1, c2, c3, c4], _ =>
      simp only [cells9, cells24, List.drop, List.take] at t0 t1
      obtain ⟨s, e0, _, ws⟩ := DataW.trod_string Tryd.underlying9 t0
      obtain ⟨y, e1, hy⟩ := val_cells t1
      simp only [List.cons.injEq, and_true] at e0 e1
      obtain ⟨rfl, rfl, rfl, rfl⟩ := e1
      subst e0
      exact ⟨⟨s, y⟩, rfl, ws, hy⟩

theorem open_prop {H : Type} {enc : TypeId × Value → H} {W : World} {v : Value} {d : DataW H} {p : List MemPlace} (h : DataW.Trod enc Tryd.prog W 0 (fun _ => true) true 33 v d p) : ∃ y : Pr, v = y.v ∧ InP y := by
  obtain ⟨fuel, hf⟩ := h
  obtain ⟨y, e, hy⟩ := prop_cells hf
  refine ⟨y, ?_, hy⟩
  unfold Pr.v
  cases v with
  | agg a => simp only [Value.cells] at e; rw [show a = #[.string y.name, .int .i64 y.val.kind, .int .i64 y.val.num, .string y.val.text, .float .f64 y.val.real] from Array.ext' (by simpa using e)]
  | _ => simp [Value.cells] at e

theorem prop_at {H : Type} {enc : TypeId × Value → H} {W : World} {a : Addr} {cs : List Value} {fuel : Nat} {x : DataW H × List MemPlace}
    (hc : W.cells? 0 a (Tryd.prog.cellsOf 33) = some cs) (h : DataW.trod enc Tryd.prog W 0 (fun _ => true) true fuel 33 cs = some x) :
    ∃ (b o : Nat) (y : Pr), a = ⟨b, o, none⟩ ∧ PrAt W b o y ∧ InP y := by
  obtain ⟨y, rfl, hy⟩ := prop_cells h
  rw [cells33] at hc
  obtain ⟨b, o, sp⟩ := a
  obtain ⟨_, _, hh⟩ := World.cells?_some hc
  have h0 := hh 0 (by omega)
  have h1 := hh 1 (by omega)
  have h2 := hh 2 (by omega)
  have h3 := hh 3 (by omega)
  have h4 := hh 4 (by omega)
  simp only [Addr.add, List.getElem?_cons_zero, List.getElem?_cons_succ] at h0 h1 h2 h3 h4
  have hsp : sp = none := by simpa [Addr.add] using World.cell?_spot h0
  subst hsp
  exact ⟨b, o, y, rfl, ⟨h0, h1, h2, h3, h4⟩, hy⟩

theorem rd_props {H : Type} {enc : TypeId × Value → H} {W : World} {a : Option Addr} {n c : Nat} {d : DataW H} {p : List MemPlace}
    (h : DataW.Trod enc Tryd.prog W 0 (fun _ => true) true 30 (.slice a n c) d p) :
    ∃ l : List Pr, RdP W (.slice a n c) l ∧ NilOk (.slice a n c) ∧ l.length = n ∧ (∀ q ∈ l, InP q) ∧ (n = 0 ∨ ∃ E S, d = .slice E S ∧ n ≤ E.length + S.length) := by
  obtain ⟨fuel, hf⟩ := h
  rcases open_slice Tryd.underlying30 hf with ⟨hcs, _⟩ | ⟨x, l, cp, m, f, D, Pl, hcs, _, hl, hm, hmm, hx, hel⟩
  · simp [Value.cells] at hcs
    obtain ⟨rfl, rfl, rfl⟩ := hcs
    exact ⟨[], .inl ⟨⟨_, _, rfl⟩, rfl⟩, .inl rfl, rfl, fun q hq => by simp at hq, .inl rfl⟩
  · simp [Value.cells] at hcs
    obtain ⟨rfl, rfl, rfl⟩ := hcs
    have hmc : m = c := by simpa using hmm
    subst hmc
    have hd := (Prod.mk.inj hx).1
    rcases Nat.eq_zero_or_pos n with h0 | h0
    · subst h0
      exact ⟨[], .inl ⟨⟨_, _, rfl⟩, rfl⟩, .inr ⟨_, _, _, rfl⟩, rfl, fun q hq => by simp at hq, .inl rfl⟩
    · have key : ∀ i, i < n → ∃ (b o : Nat) (y : Pr), x.add (i * 5) = ⟨b, o, none⟩ ∧ PrAt W b o y ∧ InP y := fun i hi => by
        obtain ⟨cs', h1, h2⟩ := hel i (by omega)
        have := prop_at h1 h2
        rwa [cells33] at this
      obtain ⟨b, o, _, e0, _⟩ := key 0 (by omega)
      have ex : x = ⟨b, o, none⟩ := by simpa [Addr.add] using e0
      subst ex
      have key2 : ∀ i, i < n → ∃ y : Pr, PrAt W b (o + i * 5) y ∧ InP y := fun i hi => by
        obtain ⟨b', o', y, e, g, hy⟩ := key i hi
        rw [Addr.add_lit] at e
        cases e
        exact ⟨y, g, hy⟩
      have hall : ∀ k, k ≤ n → ∃ l : List Pr, l.length = k ∧ ∀ i (h : i < l.length), PrAt W b (o + i * 5) l[i] ∧ InP l[i] := by
        intro k
        induction k with
        | zero => exact fun _ => ⟨[], rfl, fun i h => by simp at h⟩
        | succ k ih =>
          intro hk
          obtain ⟨l, hl, hh⟩ := ih (by omega)
          obtain ⟨y, hy⟩ := key2 k (by omega)
          refine ⟨l ++ [y], by simp [hl], fun i hi => ?_⟩
          by_cases e : i < l.length
          · rw [List.getElem_append_left e]; exact hh i e
          · have : i = k := by simp at hi; omega
            subst this
            rw [List.getElem_append_right (by omega)]
            simpa using hy
      obtain ⟨l, hl2, hh⟩ := hall n (Nat.le_refl _)
      refine ⟨l, .inr ⟨b, o, m, by rw [hl2], by omega, fun i hi => (hh i hi).1⟩, .inr ⟨_, _, _, rfl⟩, hl2, fun q hq => ?_, .inr ⟨_, _, hd, by simp⟩⟩
      obtain ⟨i, hi, rfl⟩ := List.mem_iff_getElem.1 hq
      exact (hh i hi).2
end Go.Proofs.YtlhfdklfkfodkaaDoor
