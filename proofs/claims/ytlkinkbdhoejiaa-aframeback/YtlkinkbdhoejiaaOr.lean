/- How arguments that are properties are opened. -/
import Derived.Test.YtlkinkbdhoejiaaOp
import Derived.Test.YtlkinkbdhoejiaaLh
namespace Go.Proofs.Ytlkinkbdhoejiaa
open Go.ChangeShapes Go.WideShapes Go.ChangeAt Go.RowKit Go.Lib Go.Deep
set_option maxRecDepth 100000

theorem cells56 : Try.prog.cellsOf 56 = 1 := by kernel_rfl
theorem cells58 : Try.prog.cellsOf 58 = 4 := by kernel_rfl
theorem f64b {z : Nat} (h : (Lit.float .f64 z).wf = true) : z < 2 ^ 64 := by
  simpa [Lit.wf] using h

theorem flt_cell {H : Type} {enc : TypeId × Value → H} {W : World} {c : Value} {fuel : Nat} {x : DataW H × List MemPlace} (h : DataW.trod enc Try.prog W 0 (fun _ => true) true fuel 56 [c] = some x) : ∃ r, [c] = [Value.float .f64 r] ∧ r < 2 ^ 64 := by
  cases fuel with
  | zero => simp [DataW.trod] at h
  | succ n =>
    simp only [DataW.trod, Try.underlying56] at h
    cases c with
    | float k b =>
      simp at h
      obtain ⟨⟨rfl, hw⟩, _⟩ := h
      exact ⟨b, rfl, f64b hw⟩
    | _ => simp at h
theorem val_cells {H : Type} {enc : TypeId × Value → H} {W : World} {cs : List Value} {fuel : Nat} {x : DataW H × List MemPlace} (h : DataW.trod enc Try.prog W 0 (fun _ => true) true fuel 58 cs = some x) :
    ∃ y : Val, cs = [.int .i64 y.kind, .int .i64 y.num, .string y.text, .float .f64 y.real] ∧ (-9223372036854775808 ≤ y.kind ∧ y.kind ≤ 9223372036854775807) ∧ (-9223372036854775808 ≤ y.num ∧ y.num ≤ 9223372036854775807) ∧ y.text.size ≤ maxLen ∧ y.real < 2 ^ 64 := by
  obtain ⟨xs, n, _, rfl, hl, hlen, hf⟩ := DataW.trod_struct Try.underlying58 h
  rw [cells58] at hl
  match xs, hlen with
  | [y0, y1, y2, y3], _ =>
    have t0 : DataW.trod enc Try.prog W 0 (fun _ => true) true n 3 ((cs.drop 0).take (Try.prog.cellsOf 3)) = some y0 := by simpa using hf 0 _ rfl
    have t1 : DataW.trod enc Try.prog W 0 (fun _ => true) true n 3 ((cs.drop 1).take (Try.prog.cellsOf 3)) = some y1 := by simpa using hf 1 _ rfl
    have t2 : DataW.trod enc Try.prog W 0 (fun _ => true) true n 9 ((cs.drop 2).take (Try.prog.cellsOf 9)) = some y2 := by simpa using hf 2 _ rfl
    have t3 : DataW.trod enc Try.prog W 0 (fun _ => true) true n 56 ((cs.drop 3).take (Try.prog.cellsOf 56)) = some y3 := by simpa using hf 3 _ rfl
    match cs, hl with
    | [c0, c1, c2, c3], _ =>
      simp only [cells3, cells9, cells56, List.drop, List.take] at t0 t1 t2 t3
      obtain ⟨k, e0, _, wk⟩ := DataW.trod_int Try.underlying3 t0
      obtain ⟨m, e1, _, wm⟩ := DataW.trod_int Try.underlying3 t1
      obtain ⟨s, e2, _, ws⟩ := DataW.trod_string Try.underlying9 t2
      obtain ⟨r, e3, wr⟩ := flt_cell t3
      simp only [List.cons.injEq, and_true] at e0 e1 e2 e3
      subst e0 e1 e2 e3
      exact ⟨⟨k, m, s, r⟩, rfl, i64b wk, i64b wm, ws, wr⟩
theorem cells60 : Try.prog.cellsOf 60 = 5 := by kernel_rfl
theorem bytes60 : Try.prog.bytesOf 60 = 56 := by kernel_rfl

/-- What is told of a value that came in. -/
def InV (y : Val) : Prop := (-9223372036854775808 ≤ y.kind ∧ y.kind ≤ 9223372036854775807) ∧ (-9223372036854775808 ≤ y.num ∧ y.num ≤ 9223372036854775807) ∧ y.text.size ≤ maxLen ∧ y.real < 2 ^ 64
def InP (p : Pr) : Prop := p.name.size ≤ maxLen ∧ InV p.val

theorem prop_cells {H : Type} {enc : TypeId × Value → H} {W : World} {cs : List Value} {fuel : Nat} {x : DataW H × List MemPlace} (h : DataW.trod enc Try.prog W 0 (fun _ => true) true fuel 60 cs = some x) :
    ∃ y : Pr, cs = [.string y.name, .int .i64 y.val.kind, .int .i64 y.val.num, .string y.val.text, .float .f64 y.val.real] ∧ InP y := by
  obtain ⟨xs, n, _, rfl, hl, hlen, hf⟩ := DataW.trod_struct Try.underlying60 h
  rw [cells60] at hl
  match xs, hlen with
  | [y0, y1], _ =>
    have t0 : DataW.trod enc Try.prog W 0 (fun _ => true) true n 9 ((cs.drop 0).take (Try.prog.cellsOf 9)) = some y0 := by simpa using hf 0 _ rfl
    have t1 : DataW.trod enc Try.prog W 0 (fun _ => true) true n 58 ((cs.drop 1).take (Try.prog.cellsOf 58)) = some y1 := by simpa using hf 1 _ rfl
    match cs, hl with
    | [c0, c1, c2, c3, c4], _ =>
      simp only [cells9, cells58, List.drop, List.take] at t0 t1
      obtain ⟨s, e0, _, ws⟩ := DataW.trod_string Try.underlying9 t0
      obtain ⟨y, e1, hy⟩ := val_cells t1
      simp only [List.cons.injEq, and_true] at e0 e1
      obtain ⟨rfl, rfl, rfl, rfl⟩ := e1
      subst e0
      exact ⟨⟨s, y⟩, rfl, ws, hy⟩

theorem prop_at {H : Type} {enc : TypeId × Value → H} {W : World} {a : Addr} {cs : List Value} {fuel : Nat} {x : DataW H × List MemPlace}
    (hc : W.cells? 0 a (Try.prog.cellsOf 60) = some cs) (h : DataW.trod enc Try.prog W 0 (fun _ => true) true fuel 60 cs = some x) :
    ∃ (b o : Nat) (y : Pr), a = ⟨b, o, none⟩ ∧ PrAt W b o y ∧ InP y := by
  obtain ⟨y, rfl, hy⟩ := prop_cells h
  rw [cells60] at hc
  obtain ⟨b, o, sp⟩ := a
  obtain ⟨_, _, hh⟩ := World.cells?_some hc
  have h0 := hh 0 (by omega)
  have h1 := hh 1 (by omega)
  have h2 := hh 2 (by omega)
  have h3 := hh 3 (by omega)
  have h4 := hh 4 (by omega)
  simp only [Addr.add, List.getElem?_cons_zero, List.getElem?_cons_succ] at h0 h1 h2 h3 h4
  have hsp : sp = none := by simpa [Addr.add] using World.cell?_spot h0
  subst hsp
  exact ⟨b, o, y, rfl, ⟨h0, h1, h2, h3, h4⟩, hy⟩

theorem rd_props {H : Type} {enc : TypeId × Value → H} {W : World} {a : Option Addr} {n c : Nat} {d : DataW H} {p : List MemPlace}
    (h : DataW.Trod enc Try.prog W 0 (fun _ => true) true 32 (.slice a n c) d p) :
    ∃ l : List Pr, RdP W (.slice a n c) l ∧ l.length = n ∧ (∀ q ∈ l, InP q) ∧ (n = 0 ∨ ∃ E S, d = .slice E S ∧ n ≤ E.length + S.length) := by
  obtain ⟨fuel, hf⟩ := h
  rcases open_slice Try.underlying32 hf with ⟨hcs, _⟩ | ⟨x, l, cp, m, f, D, Pl, hcs, _, hl, hm, hmm, hx, hel⟩
  · simp [Value.cells] at hcs
    obtain ⟨rfl, rfl, rfl⟩ := hcs
    exact ⟨[], .inl ⟨⟨_, _, rfl⟩, rfl⟩, rfl, fun q hq => by simp at hq, .inl rfl⟩
  · simp [Value.cells] at hcs
    obtain ⟨rfl, rfl, rfl⟩ := hcs
    have hmc : m = c := by simpa using hmm
    subst hmc
    have hd := (Prod.mk.inj hx).1
    rcases Nat.eq_zero_or_pos n with h0 | h0
    · subst h0
      exact ⟨[], .inl ⟨⟨_, _, rfl⟩, rfl⟩, rfl, fun q hq => by simp at hq, .inl rfl⟩
    · have key : ∀ i, i < n → ∃ (b o : Nat) (y : Pr), x.add (i * 5) = ⟨b, o, none⟩ ∧ PrAt W b o y ∧ InP y := fun i hi => by
        obtain ⟨cs', h1, h2⟩ := hel i (by omega)
        have := prop_at h1 h2
        rwa [cells60] at this
      obtain ⟨b, o, _, e0, _⟩ := key 0 (by omega)
      have ex : x = ⟨b, o, none⟩ := by simpa [Addr.add] using e0
      subst ex
      have key2 : ∀ i, i < n → ∃ y : Pr, PrAt W b (o + i * 5) y ∧ InP y := fun i hi => by
        obtain ⟨b', o', y, e, g, hy⟩ := key i hi
        rw [Addr.add_lit] at e
        cases e
        exact ⟨y, g, hy⟩
      have hall : ∀ k, k ≤ n → ∃ l : List Pr, l.length = k ∧ ∀ i (h : i < l.length), PrAt W b (o + i * 5) l[i] ∧ InP l[i] := by
        intro k
        induction k with
        | zero => exact fun _ => ⟨[], rfl, fun i h => by simp at h⟩
        | succ k ih =>
          intro hk
          obtain ⟨l, hl, hh⟩ := ih (by omega)
          obtain ⟨y, hy⟩ := key2 k (by omega)
          refine ⟨l ++ [y], by simp [hl], fun i hi => ?_⟩
          by_cases e : i < l.length
          · rw [List.getElem_append_left e]; exact hh i e
          · have : i = k := by simp at hi; omega
            subst this
            rw [List.getElem_append_right (by omega)]
            simpa using hy
      obtain ⟨l, hl2, hh⟩ := hall n (Nat.le_refl _)
      refine ⟨l, .inr ⟨b, o, m, by rw [hl2], by omega, fun i hi => (hh i hi).1⟩, hl2, fun q hq => ?_, .inr ⟨_, _, hd, by simp⟩⟩
      obtain ⟨i, hi, rfl⟩ := List.mem_iff_getElem.1 hq
      exact (hh i hi).2

theorem InP.fits {q : Pr} (h : InP q) : Fits q := by
  refine ⟨?_, h.2.2.2.2⟩
  have := h.1
  unfold maxLen at this
  omega
theorem heads_row (W : World) (z : Int) (va : Value) (ps : List Pr) (s : ByteArray) (hr : RdP W va ps) (hf : ∀ q ∈ ps, InP q) (h63 : ps.length ≤ 9223372036854775806) :
    Calls Try.prog 4 #[.int .i64 z, va, .string s] W fun e w' => e = .returned (.bool true) ∧ Below W.heap.size W w' := by
  rw [str_of s]
  exact heads_law W z va ps s.data.toList hr (fun q hq => (hf q hq).fits) h63
end Go.Proofs.Ytlkinkbdhoejiaa
