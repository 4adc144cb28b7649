/- How a list of properties that came in is opened, with what its texts weigh. -/
import Derived.Test.YtlhfdklfkfodkaaDoorLb
import Derived.Test.YtlhfdklfkfodkaaDoorRi
import Derived.SizedLaws
set_option maxRecDepth 100000
namespace Go.Proofs.YtlhfdklfkfodkaaDoor
open Go.RowKit Go.Lib Go.Deep

theorem weigh24 {H : Type} (a b c d : DataW H) : DataW.weights Tryd.prog 24 (.agg [a, b, c, d]) = a.weights Tryd.prog 3 ++ (b.weights Tryd.prog 3 ++ (c.weights Tryd.prog 9 ++ (d.weights Tryd.prog 22 ++ []))) := by
  simp only [DataW.weights, Tryd.underlying24]
  rfl
theorem weigh33 {H : Type} (a b : DataW H) : DataW.weights Tryd.prog 33 (.agg [a, b]) = a.weights Tryd.prog 9 ++ (b.weights Tryd.prog 24 ++ []) := by
  simp only [DataW.weights, Tryd.underlying33]
  rfl
theorem weigh30 {H : Type} (E S : List (DataW H)) : DataW.weights Tryd.prog 30 (.slice E S) = (E.length + S.length) * Tryd.prog.bytesOf 33 :: (DataW.weightsAll Tryd.prog 33 E ++ DataW.weightsAll Tryd.prog 33 S) := by
  simp only [DataW.weights, Tryd.underlying30]
theorem weigh_all {H : Type} {E : List (DataW H)} {d : DataW H} {n : Nat} (hd : d ∈ E) (hn : n ∈ DataW.weights Tryd.prog 33 d) : n ∈ DataW.weightsAll Tryd.prog 33 E := by
  induction E with
  | nil => cases hd
  | cons a E ih =>
    simp only [DataW.weightsAll, List.mem_append]
    rcases List.mem_cons.1 hd with rfl | hd
    · exact .inl hn
    · exact .inr (ih hd)

theorem val_weigh {H : Type} {enc : TypeId × Value → H} {W : World} {cs : List Value} {fuel : Nat} {x : DataW H × List MemPlace} (h : DataW.trod enc Tryd.prog W 0 (fun _ => true) true fuel 24 cs = some x) :
    ∃ y : Val, cs = [.int .i64 y.kind, .int .i64 y.num, .string y.text, .float .f64 y.real] ∧ (-9223372036854775808 ≤ y.kind ∧ y.kind ≤ 9223372036854775807) ∧ (-9223372036854775808 ≤ y.num ∧ y.num ≤ 9223372036854775807) ∧ y.text.size ≤ maxLen ∧ y.real < 2 ^ 64 ∧ y.text.size ∈ DataW.weights Tryd.prog 24 x.1 := by
  obtain ⟨xs, n, _, rfl, hl, hlen, hf⟩ := DataW.trod_struct Tryd.underlying24 h
  rw [cells24] at hl
  match xs, hlen with
  | [y0, y1, y2, y3], _ =>
    have t0 : DataW.trod enc Tryd.prog W 0 (fun _ => true) true n 3 ((cs.drop 0).take (Tryd.prog.cellsOf 3)) = some y0 := by simpa using hf 0 _ rfl
    have t1 : DataW.trod enc Tryd.prog W 0 (fun _ => true) true n 3 ((cs.drop 1).take (Tryd.prog.cellsOf 3)) = some y1 := by simpa using hf 1 _ rfl
    have t2 : DataW.trod enc Tryd.prog W 0 (fun _ => true) true n 9 ((cs.drop 2).take (Tryd.prog.cellsOf 9)) = some y2 := by simpa using hf 2 _ rfl
    have t3 : DataW.trod enc Tryd.prog W 0 (fun _ => true) true n 22 ((cs.drop 3).take (Tryd.prog.cellsOf 22)) = some y3 := by simpa using hf 3 _ rfl
    match cs, hl with
    | [c0, c1, c2, c3], _ =>
      simp only [cells3, cells9, cells22, List.drop, List.take] at t0 t1 t2 t3
      obtain ⟨k, e0, _, wk⟩ := DataW.trod_int Tryd.underlying3 t0
      obtain ⟨m, e1, _, wm⟩ := DataW.trod_int Tryd.underlying3 t1
      obtain ⟨s, e2, e2', ws⟩ := DataW.trod_string Tryd.underlying9 t2
      obtain ⟨r, e3, wr⟩ := flt_cell t3
      simp only [List.cons.injEq, and_true] at e0 e1 e2 e3
      subst e0 e1 e2 e3
      refine ⟨⟨k, m, s, r⟩, rfl, i64b wk, i64b wm, ws, wr, ?_⟩
      subst e2'
      show s.size ∈ DataW.weights Tryd.prog 24 (.agg [y0.1, y1.1, _, y3.1])
      rw [weigh24]
      simp only [DataW.weights, List.mem_append, List.mem_singleton]
      exact .inr (.inr (.inl rfl))
theorem prop_weigh {H : Type} {enc : TypeId × Value → H} {W : World} {cs : List Value} {fuel : Nat} {x : DataW H × List MemPlace} (h : DataW.trod enc Tryd.prog W 0 (fun _ => true) true fuel 33 cs = some x) :
    ∃ y : Pr, cs = [.string y.name, .int .i64 y.val.kind, .int .i64 y.val.num, .string y.val.text, .float .f64 y.val.real] ∧ InP y ∧ y.name.size ∈ DataW.weights Tryd.prog 33 x.1 ∧ y.val.text.size ∈ DataW.weights Tryd.prog 33 x.1 := by
  obtain ⟨xs, n, _, rfl, hl, hlen, hf⟩ := DataW.trod_struct Tryd.underlying33 h
  rw [cells33] at hl
  match xs, hlen with
  | [y0, y1], _ =>
    have t0 : DataW.trod enc Tryd.prog W 0 (fun _ => true) true n 9 ((cs.drop 0).take (Tryd.prog.cellsOf 9)) = some y0 := by simpa using hf 0 _ rfl
    have t1 : DataW.trod enc Tryd.prog W 0 (fun _ => true) true n 24 ((cs.drop 1).take (Tryd.prog.cellsOf 24)) = some y1 := by simpa using hf 1 _ rfl
    match cs, hl with
    | [c0, c1, c2, c3, c4], _ =>
      simp only [cells9, cells24, List.drop, List.take] at t0 t1
      obtain ⟨s, e0, e0', ws⟩ := DataW.trod_string Tryd.underlying9 t0
      obtain ⟨y, e1, hy1, hy2, hy3, hy4, hyw⟩ := val_weigh t1
      simp only [List.cons.injEq, and_true] at e0 e1
      obtain ⟨rfl, rfl, rfl, rfl⟩ := e1
      subst e0
      refine ⟨⟨s, y⟩, rfl, ⟨ws, hy1, hy2, hy3, hy4⟩, ?_, ?_⟩
      · subst e0'
        show s.size ∈ DataW.weights Tryd.prog 33 (.agg [_, y1.1])
        rw [weigh33]
        simp only [DataW.weights, List.mem_append, List.mem_singleton]
        exact .inl rfl
      · show y.text.size ∈ DataW.weights Tryd.prog 33 (.agg [y0.1, y1.1])
        rw [weigh33]
        simp only [List.mem_append]
        exact .inr (.inl hyw)

theorem prop_at2 {H : Type} {enc : TypeId × Value → H} {W : World} {a : Addr} {cs : List Value} {fuel : Nat} {x : DataW H × List MemPlace}
    (hc : W.cells? 0 a (Tryd.prog.cellsOf 33) = some cs) (h : DataW.trod enc Tryd.prog W 0 (fun _ => true) true fuel 33 cs = some x) :
    ∃ (b o : Nat) (y : Pr), a = ⟨b, o, none⟩ ∧ PrAt W b o y ∧ InP y ∧ y.name.size ∈ DataW.weights Tryd.prog 33 x.1 ∧ y.val.text.size ∈ DataW.weights Tryd.prog 33 x.1 := by
  obtain ⟨y, rfl, hy⟩ := prop_weigh h
  rw [cells33] at hc
  obtain ⟨b, o, sp⟩ := a
  obtain ⟨_, _, hh⟩ := World.cells?_some hc
  have h0 := hh 0 (by omega)
  have h1 := hh 1 (by omega)
  have h2 := hh 2 (by omega)
  have h3 := hh 3 (by omega)
  have h4 := hh 4 (by omega)
  simp only [Addr.add, List.getElem?_cons_zero, List.getElem?_cons_succ] at h0 h1 h2 h3 h4
  have hsp : sp = none := by simpa [Addr.add] using World.cell?_spot h0
  subst hsp
  exact ⟨b, o, y, rfl, ⟨h0, h1, h2, h3, h4⟩, hy⟩

theorem rd_props2 {H : Type} {enc : TypeId × Value → H} {W : World} {a : Option Addr} {n c : Nat} {d : DataW H} {p : List MemPlace}
    (h : DataW.Trod enc Tryd.prog W 0 (fun _ => true) true 30 (.slice a n c) d p) :
    ∃ l : List Pr, RdP W (.slice a n c) l ∧ NilOk (.slice a n c) ∧ l.length = n ∧ (∀ q ∈ l, InP q ∧ q.name.size ∈ DataW.weights Tryd.prog 30 d ∧ q.val.text.size ∈ DataW.weights Tryd.prog 30 d) ∧ (n = 0 ∨ ∃ E S, d = .slice E S ∧ n ≤ E.length + S.length) := by
  obtain ⟨fuel, hf⟩ := h
  rcases open_slice Tryd.underlying30 hf with ⟨hcs, _⟩ | ⟨x, l, cp, m, f, D, Pl, hcs, _, hl, hm, hmm, hx, hel⟩
  · simp [Value.cells] at hcs
    obtain ⟨rfl, rfl, rfl⟩ := hcs
    exact ⟨[], .inl ⟨⟨_, _, rfl⟩, rfl⟩, .inl rfl, rfl, fun q hq => by simp at hq, .inl rfl⟩
  · simp [Value.cells] at hcs
    obtain ⟨rfl, rfl, rfl⟩ := hcs
    have hmc : m = c := by simpa using hmm
    subst hmc
    have hd := (Prod.mk.inj hx).1
    rcases Nat.eq_zero_or_pos n with h0 | h0
    · subst h0
      exact ⟨[], .inl ⟨⟨_, _, rfl⟩, rfl⟩, .inr ⟨_, _, _, rfl⟩, rfl, fun q hq => by simp at hq, .inl rfl⟩
    · have key : ∀ i, i < n → ∃ (b o : Nat) (y : Pr), x.add (i * 5) = ⟨b, o, none⟩ ∧ PrAt W b o y ∧ InP y ∧ y.name.size ∈ DataW.weights Tryd.prog 33 (D i) ∧ y.val.text.size ∈ DataW.weights Tryd.prog 33 (D i) := fun i hi => by
        obtain ⟨cs', h1, h2⟩ := hel i (by omega)
        have := prop_at2 h1 h2
        rwa [cells33] at this
      obtain ⟨b, o, _, e0, _⟩ := key 0 (by omega)
      have ex : x = ⟨b, o, none⟩ := by simpa [Addr.add] using e0
      subst ex
      have key2 : ∀ i, i < n → ∃ y : Pr, PrAt W b (o + i * 5) y ∧ InP y ∧ y.name.size ∈ DataW.weights Tryd.prog 33 (D i) ∧ y.val.text.size ∈ DataW.weights Tryd.prog 33 (D i) := fun i hi => by
        obtain ⟨b', o', y, e, g, hy⟩ := key i hi
        rw [Addr.add_lit] at e
        cases e
        exact ⟨y, g, hy⟩
      have hall : ∀ k, k ≤ n → ∃ l : List Pr, l.length = k ∧ ∀ i (h : i < l.length), PrAt W b (o + i * 5) l[i] ∧ InP l[i] ∧ l[i].name.size ∈ DataW.weights Tryd.prog 33 (D i) ∧ l[i].val.text.size ∈ DataW.weights Tryd.prog 33 (D i) := by
        intro k
        induction k with
        | zero => exact fun _ => ⟨[], rfl, fun i h => by simp at h⟩
        | succ k ih =>
          intro hk
          obtain ⟨l, hl, hh⟩ := ih (by omega)
          obtain ⟨y, hy⟩ := key2 k (by omega)
          refine ⟨l ++ [y], by simp [hl], fun i hi => ?_⟩
          by_cases e : i < l.length
          · rw [List.getElem_append_left e]; exact hh i e
          · have : i = k := by simp at hi; omega
            subst this
            rw [List.getElem_append_right (by omega)]
            simpa using hy
      obtain ⟨l, hl2, hh⟩ := hall n (Nat.le_refl _)
      refine ⟨l, .inr ⟨b, o, m, by rw [hl2], by omega, fun i hi => (hh i hi).1⟩, .inr ⟨_, _, _, rfl⟩, hl2, fun q hq => ?_, .inr ⟨_, _, hd, by simp⟩⟩
      obtain ⟨i, hi, rfl⟩ := List.mem_iff_getElem.1 hq
      obtain ⟨_, g1, g2, g3⟩ := hh i hi
      have up : ∀ z, z ∈ DataW.weights Tryd.prog 33 (D i) → z ∈ DataW.weights Tryd.prog 30 d := fun z hz => by
        rw [hd, weigh30]
        refine List.mem_cons_of_mem _ (List.mem_append_left _ (weigh_all (List.mem_map.2 ⟨i, List.mem_range.2 (by omega), rfl⟩) hz))
      exact ⟨g1, up _ g2, up _ g3⟩
end Go.Proofs.YtlhfdklfkfodkaaDoor
