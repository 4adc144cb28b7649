/- trivetlaw15.TableTables. Conditions: those that each row states. How arguments that are properties are opened. How an argument that is a method is opened. What an argument that is a method holds: its properties fit, too. Conditions: those that each row states. The document's rows and Form. Conditions: those that each row states. Lists of numbers and of texts of one's own; table's reader: whole. Conditions: those that each row states. table's reader: part. Conditions: those that each row states. trivetref15.Same. Conditions: those that each row states. table.method. Conditions: those that each row states. The document's Decode, as a function of bytes, answers what the program's does. Conditions: those that each row states. -/
import Derived.Test.YtmaaacaifpgpaaaGreatDoorMethWr
import Derived.Test.YtmaaacaifpgpaaaGreatDoorRows
import Derived.Deep.Slices
import Derived.ProofKit
import Derived.OpenShut
import Derived.ShutString
import Derived.ChangeOld
import Derived.SizedLaws
import Derived.Test.YtmaaacaifpgpaaaGreatDoorFo
import Derived.Test.YtmaaacaifpgpaaaGreatDoorBx
import Derived.Test.YtmaaacaifpgpaaaGreatDoorMethTk
import Derived.Test.YtmaaacaifpgpaaaGreatDoorPrg
import Derived.BigQuiet
namespace Go.Proofs.YtmaaacaifpgpaaaGreatDoor
open Go.RowKit Go.Lib
set_option maxRecDepth 100000
set_option linter.unusedSimpArgs false

theorem ctab_len {s r : List UInt8} {L : List Pr} (h : ctab s = some (L, r)) : L.length ≤ 16 := by
  unfold ctab at h
  split at h
  · cases h
  · split at h
    · cases h
    · rename_i t r' hc
      unfold tabO at h
      split at h
      · rename_i ho
        simp only [Option.map_some] at h
        injection h with h
        injection h with h _
        rw [← h]
        exact (valid_parts (okO_true ho).2).1
      · cases h
/-- What Put gives. -/
def putL (l : List UInt8) (ps : List Pr) : List UInt8 := if validL ps = true then l ++ tabL ps else []
def putE (ps : List Pr) : Int := if validL ps = true then 0 else 36
theorem put_any (w : World) (v va : Value) (l : List UInt8) (ps : List Pr) (h : RdA w v l) (hl : l.length ≤ 100000000) (hr : RdP w va ps) (hf : ∀ q ∈ ps, Fits q) :
    Calls Tryz.prog 13 #[v, va] w fun e w' => ∃ v', e = .returned (.tuple #[v', .int .i64 (putE ps)]) ∧ Own w' w.heap.size v' (putL l ps) ∧ Below w.heap.size w w' := by
  unfold putL putE
  by_cases hv : validL ps = true
  · rw [if_pos hv, if_pos hv]
    exact put_ok w v va l ps h hl hr hv (fun q hq => (hf q hq).2)
  · rw [if_neg hv, if_neg hv]
    refine (put_bad w v va ps hr (by simpa using hv)).mono ?_
    rintro e w' ⟨rfl, hb⟩
    exact ⟨_, rfl, Own.nil _ _, hb⟩
theorem rput_any (w : World) (v va : Value) (l : List UInt8) (ps : List Pr) (h : RdA w v l) (hl : l.length ≤ 100000000) (hr : RdP w va ps) (hf : ∀ q ∈ ps, Fits q) (h63 : ps.length ≤ 9223372036854775806) :
    Calls Tryz.prog 21 #[v, va] w fun e w' => ∃ v', e = .returned (.tuple #[v', .int .i64 (putE ps)]) ∧ Own w' w.heap.size v' (putL l ps) ∧ Below w.heap.size w w' := by
  unfold putL putE
  by_cases hv : validL ps = true
  · rw [if_pos hv, if_pos hv]
    exact rput_ok w v va l ps h hl hr hv hf h63
  · rw [if_neg hv, if_neg hv]
    refine (rput_bad w v va ps hr (by simpa using hv) hf h63).mono ?_
    rintro e w' ⟨rfl, hb⟩
    exact ⟨_, rfl, Own.nil _ _, hb⟩
/-- What Take gives. -/
def tkPs (s : List UInt8) : List Pr := match ctab s with
  | some (L, _) => L
  | none => []
def tkZ (s : List UInt8) : Int := match ctab s with
  | some (_, r) => ((s.length - r.length : Nat) : Int)
  | none => 0
def tkE (s : List UInt8) : Int := match ctab s with
  | some _ => 0
  | none => 11
theorem tkPs_len (s : List UInt8) : (tkPs s).length ≤ 9223372036854775806 := by
  unfold tkPs
  cases h : ctab s with
  | none => simp
  | some LR =>
    obtain ⟨L, r⟩ := LR
    have := ctab_len h
    simp only
    omega
theorem TkP.un {w : World} {B : Nat} {s : List UInt8} {v : Value} {z n : Int} (h : TkP w B s v z n) : RdP w v (tkPs s) ∧ z = tkZ s ∧ n = tkE s := by
  unfold tkPs tkZ tkE
  rcases h with ⟨L, r, h1, rfl, h3, rfl⟩ | ⟨h1, rfl, rfl, rfl⟩
  · rw [h1]
    exact ⟨h3.rd, rfl, rfl⟩
  · rw [h1]
    exact ⟨.inl ⟨⟨_, _, rfl⟩, rfl⟩, rfl, rfl⟩
theorem sameL_self (l : List Pr) : sameL l l = true := (sameL_eq l l).2 rfl
end Go.Proofs.YtmaaacaifpgpaaaGreatDoor

namespace Go.Proofs.YtmaaacaifpgpaaaGreatDoor
open Go.ChangeShapes Go.WideShapes Go.ChangeAt Go.RowKit Go.Lib Go.Deep
set_option maxRecDepth 100000
set_option linter.unusedSimpArgs false

theorem own : ownKnob Tryz.prog.godebug = none := by kernel_rfl
theorem laidOut : laidOutB Tryz.prog = true := by kernel_rfl
theorem cells3 : Tryz.prog.cellsOf 3 = 1 := by kernel_rfl
theorem cells9 : Tryz.prog.cellsOf 9 = 1 := by kernel_rfl
theorem i64b {z : Int} (h : (Lit.int .i64 z).wf = true) : -9223372036854775808 ≤ z ∧ z ≤ 9223372036854775807 := by
  simpa [Lit.wf, IntKind.min, IntKind.max, IntKind.signed, IntKind.bits] using h
theorem str_of (s : ByteArray) : Value.string s = str s.data.toList := by simp [str]

theorem cells44 : Tryz.prog.cellsOf 40 = 1 := by kernel_rfl
theorem cells49 : Tryz.prog.cellsOf 42 = 4 := by kernel_rfl
theorem f64b {z : Nat} (h : (Lit.float .f64 z).wf = true) : z < 2 ^ 64 := by
  simpa [Lit.wf] using h

theorem flt_cell {H : Type} {enc : TypeId × Value → H} {W : World} {c : Value} {fuel : Nat} {x : DataW H × List MemPlace} (h : DataW.trod enc Tryz.prog W 0 (fun _ => true) true fuel 40 [c] = some x) : ∃ r, [c] = [Value.float .f64 r] ∧ r < 2 ^ 64 := by
  cases fuel with
  | zero => simp [DataW.trod] at h
  | succ n =>
    simp only [DataW.trod, Tryz.underlying40] at h
    cases c with
    | float k b =>
      simp at h
      obtain ⟨⟨rfl, hw⟩, _⟩ := h
      exact ⟨b, rfl, f64b hw⟩
    | _ => simp at h
theorem val_cells {H : Type} {enc : TypeId × Value → H} {W : World} {cs : List Value} {fuel : Nat} {x : DataW H × List MemPlace} (h : DataW.trod enc Tryz.prog W 0 (fun _ => true) true fuel 42 cs = some x) :
    ∃ y : Val, cs = [.int .i64 y.kind, .int .i64 y.num, .string y.text, .float .f64 y.real] ∧ (-9223372036854775808 ≤ y.kind ∧ y.kind ≤ 9223372036854775807) ∧ (-9223372036854775808 ≤ y.num ∧ y.num ≤ 9223372036854775807) ∧ y.text.size ≤ maxLen ∧ y.real < 2 ^ 64 := by
  obtain ⟨xs, n, _, rfl, hl, hlen, hf⟩ := DataW.trod_struct Tryz.underlying42 h
  rw [cells49] at hl
  match xs, hlen with
  | [y0, y1, y2, y3], _ =>
    have t0 : DataW.trod enc Tryz.prog W 0 (fun _ => true) true n 3 ((cs.drop 0).take (Tryz.prog.cellsOf 3)) = some y0 := by simpa using hf 0 _ rfl
    have t1 : DataW.trod enc Tryz.prog W 0 (fun _ => true) true n 3 ((cs.drop 1).take (Tryz.prog.cellsOf 3)) = some y1 := by simpa using hf 1 _ rfl
    have t2 : DataW.trod enc Tryz.prog W 0 (fun _ => true) true n 9 ((cs.drop 2).take (Tryz.prog.cellsOf 9)) = some y2 := by simpa using hf 2 _ rfl
    have t3 : DataW.trod enc Tryz.prog W 0 (fun _ => true) true n 40 ((cs.drop 3).take (Tryz.prog.cellsOf 40)) = some y3 := by simpa using hf 3 _ rfl
    match cs, hl with
    | [c0, c1, c2, c3], _ =>
      simp only [cells3, cells9, cells44, List.drop, List.take] at t0 t1 t2 t3
      obtain ⟨k, e0, _, wk⟩ := DataW.trod_int Tryz.underlying3 t0
      obtain ⟨m, e1, _, wm⟩ := DataW.trod_int Tryz.underlying3 t1
      obtain ⟨s, e2, _, ws⟩ := DataW.trod_string Tryz.underlying9 t2
      obtain ⟨r, e3, wr⟩ := flt_cell t3
      simp only [List.cons.injEq, and_true] at e0 e1 e2 e3
      subst e0 e1 e2 e3
      exact ⟨⟨k, m, s, r⟩, rfl, i64b wk, i64b wm, ws, wr⟩
theorem cells51 : Tryz.prog.cellsOf 44 = 5 := by kernel_rfl
theorem bytes51 : Tryz.prog.bytesOf 44 = 56 := by kernel_rfl

/-- What is told of a value that came in. -/
def InV (y : Val) : Prop := (-9223372036854775808 ≤ y.kind ∧ y.kind ≤ 9223372036854775807) ∧ (-9223372036854775808 ≤ y.num ∧ y.num ≤ 9223372036854775807) ∧ y.text.size ≤ maxLen ∧ y.real < 2 ^ 64
def InP (p : Pr) : Prop := p.name.size ≤ maxLen ∧ InV p.val

theorem prop_cells {H : Type} {enc : TypeId × Value → H} {W : World} {cs : List Value} {fuel : Nat} {x : DataW H × List MemPlace} (h : DataW.trod enc Tryz.prog W 0 (fun _ => true) true fuel 44 cs = some x) :
    ∃ y : Pr, cs = [.string y.name, .int .i64 y.val.kind, .int .i64 y.val.num, .string y.val.text, .float .f64 y.val.real] ∧ InP y := by
  obtain ⟨xs, n, _, rfl, hl, hlen, hf⟩ := DataW.trod_struct Tryz.underlying44 h
  rw [cells51] at hl
  match xs, hlen with
  | [y0, y1], _ =>
    have t0 : DataW.trod enc Tryz.prog W 0 (fun _ => true) true n 9 ((cs.drop 0).take (Tryz.prog.cellsOf 9)) = some y0 := by simpa using hf 0 _ rfl
    have t1 : DataW.trod enc Tryz.prog W 0 (fun _ => true) true n 42 ((cs.drop 1).take (Tryz.prog.cellsOf 42)) = some y1 := by simpa using hf 1 _ rfl
    match cs, hl with
    | [c0, c1, c2, c3, c4], _ =>
      simp only [cells9, cells49, List.drop, List.take] at t0 t1
      obtain ⟨s, e0, _, ws⟩ := DataW.trod_string Tryz.underlying9 t0
      obtain ⟨y, e1, hy⟩ := val_cells t1
      simp only [List.cons.injEq, and_true] at e0 e1
      obtain ⟨rfl, rfl, rfl, rfl⟩ := e1
      subst e0
      exact ⟨⟨s, y⟩, rfl, ws, hy⟩

theorem prop_at {H : Type} {enc : TypeId × Value → H} {W : World} {a : Addr} {cs : List Value} {fuel : Nat} {x : DataW H × List MemPlace}
    (hc : W.cells? 0 a (Tryz.prog.cellsOf 44) = some cs) (h : DataW.trod enc Tryz.prog W 0 (fun _ => true) true fuel 44 cs = some x) :
    ∃ (b o : Nat) (y : Pr), a = ⟨b, o, none⟩ ∧ PrAt W b o y ∧ InP y := by
  obtain ⟨y, rfl, hy⟩ := prop_cells h
  rw [cells51] at hc
  obtain ⟨b, o, sp⟩ := a
  obtain ⟨_, _, hh⟩ := World.cells?_some hc
  have h0 := hh 0 (by omega)
  have h1 := hh 1 (by omega)
  have h2 := hh 2 (by omega)
  have h3 := hh 3 (by omega)
  have h4 := hh 4 (by omega)
  simp only [Addr.add, List.getElem?_cons_zero, List.getElem?_cons_succ] at h0 h1 h2 h3 h4
  have hsp : sp = none := by simpa [Addr.add] using World.cell?_spot h0
  subst hsp
  exact ⟨b, o, y, rfl, ⟨h0, h1, h2, h3, h4⟩, hy⟩

theorem rd_props {H : Type} {enc : TypeId × Value → H} {W : World} {a : Option Addr} {n c : Nat} {d : DataW H} {p : List MemPlace}
    (h : DataW.Trod enc Tryz.prog W 0 (fun _ => true) true 24 (.slice a n c) d p) :
    ∃ l : List Pr, RdP W (.slice a n c) l ∧ l.length = n ∧ (∀ q ∈ l, InP q) ∧ (n = 0 ∨ ∃ E S, d = .slice E S ∧ n ≤ E.length + S.length) := by
  obtain ⟨fuel, hf⟩ := h
  rcases open_slice Tryz.underlying24 hf with ⟨hcs, _⟩ | ⟨x, l, cp, m, f, D, Pl, hcs, _, hl, hm, hmm, hx, hel⟩
  · simp [Value.cells] at hcs
    obtain ⟨rfl, rfl, rfl⟩ := hcs
    exact ⟨[], .inl ⟨⟨_, _, rfl⟩, rfl⟩, rfl, fun q hq => by simp at hq, .inl rfl⟩
  · simp [Value.cells] at hcs
    obtain ⟨rfl, rfl, rfl⟩ := hcs
    have hmc : m = c := by simpa using hmm
    subst hmc
    have hd := (Prod.mk.inj hx).1
    rcases Nat.eq_zero_or_pos n with h0 | h0
    · subst h0
      exact ⟨[], .inl ⟨⟨_, _, rfl⟩, rfl⟩, rfl, fun q hq => by simp at hq, .inl rfl⟩
    · have key : ∀ i, i < n → ∃ (b o : Nat) (y : Pr), x.add (i * 5) = ⟨b, o, none⟩ ∧ PrAt W b o y ∧ InP y := fun i hi => by
        obtain ⟨cs', h1, h2⟩ := hel i (by omega)
        have := prop_at h1 h2
        rwa [cells51] at this
      obtain ⟨b, o, _, e0, _⟩ := key 0 (by omega)
      have ex : x = ⟨b, o, none⟩ := by simpa [Addr.add] using e0
      subst ex
      have key2 : ∀ i, i < n → ∃ y : Pr, PrAt W b (o + i * 5) y ∧ InP y := fun i hi => by
        obtain ⟨b', o', y, e, g, hy⟩ := key i hi
        rw [Addr.add_lit] at e
        cases e
        exact ⟨y, g, hy⟩
      have hall : ∀ k, k ≤ n → ∃ l : List Pr, l.length = k ∧ ∀ i (h : i < l.length), PrAt W b (o + i * 5) l[i] ∧ InP l[i] := by
        intro k
        induction k with
        | zero => exact fun _ => ⟨[], rfl, fun i h => by simp at h⟩
        | succ k ih =>
          intro hk
          obtain ⟨l, hl, hh⟩ := ih (by omega)
          obtain ⟨y, hy⟩ := key2 k (by omega)
          refine ⟨l ++ [y], by simp [hl], fun i hi => ?_⟩
          by_cases e : i < l.length
          · rw [List.getElem_append_left e]; exact hh i e
          · have : i = k := by simp at hi; omega
            subst this
            rw [List.getElem_append_right (by omega)]
            simpa using hy
      obtain ⟨l, hl2, hh⟩ := hall n (Nat.le_refl _)
      refine ⟨l, .inr ⟨b, o, m, by rw [hl2], by omega, fun i hi => (hh i hi).1⟩, hl2, fun q hq => ?_, .inr ⟨_, _, hd, by simp⟩⟩
      obtain ⟨i, hi, rfl⟩ := List.mem_iff_getElem.1 hq
      exact (hh i hi).2

theorem InP.fits {q : Pr} (h : InP q) : Fits q := by
  refine ⟨?_, h.2.2.2.2⟩
  have := h.1
  unfold maxLen at this
  omega
end Go.Proofs.YtmaaacaifpgpaaaGreatDoor

namespace Go.Proofs.YtmaaacaifpgpaaaGreatDoor
open Go.ChangeShapes Go.WideShapes Go.ChangeAt Go.RowKit Go.Lib Go.Deep
set_option maxRecDepth 100000
set_option linter.unusedSimpArgs false

theorem cells33 : Tryz.prog.cellsOf 22 = 1 := by kernel_rfl
theorem cells34 : Tryz.prog.cellsOf 23 = 1 := by kernel_rfl
theorem cells22 : Tryz.prog.cellsOf 24 = 1 := by kernel_rfl
theorem bytes3 : Tryz.prog.bytesOf 3 = 8 := by kernel_rfl
theorem bytes9 : Tryz.prog.bytesOf 9 = 16 := by kernel_rfl
theorem weigh33 {H : Type} (E S : List (DataW H)) : DataW.weights Tryz.prog 22 (.slice E S) = (E.length + S.length) * Tryz.prog.bytesOf 3 :: (DataW.weightsAll Tryz.prog 3 E ++ DataW.weightsAll Tryz.prog 3 S) := by
  simp only [DataW.weights, Tryz.underlying22]
theorem weigh34 {H : Type} (E S : List (DataW H)) : DataW.weights Tryz.prog 23 (.slice E S) = (E.length + S.length) * Tryz.prog.bytesOf 9 :: (DataW.weightsAll Tryz.prog 9 E ++ DataW.weightsAll Tryz.prog 9 S) := by
  simp only [DataW.weights, Tryz.underlying23]
theorem weigh22 {H : Type} (E S : List (DataW H)) : DataW.weights Tryz.prog 24 (.slice E S) = (E.length + S.length) * Tryz.prog.bytesOf 44 :: (DataW.weightsAll Tryz.prog 44 E ++ DataW.weightsAll Tryz.prog 44 S) := by
  simp only [DataW.weights, Tryz.underlying24]
theorem weigh36 {H : Type} (a b c d e : DataW H) : DataW.weights Tryz.prog 26 (.agg [a, b, c, d, e]) = a.weights Tryz.prog 3 ++ (b.weights Tryz.prog 3 ++ (c.weights Tryz.prog 22 ++ (d.weights Tryz.prog 23 ++ (e.weights Tryz.prog 24 ++ [])))) := by
  simp only [DataW.weights, Tryz.underlying26]
  rfl
theorem cells36 : Tryz.prog.cellsOf 26 = 5 := by kernel_rfl
theorem rd_ints33 {H : Type} {enc : TypeId × Value → H} {W : World} {v : Value} {fuel : Nat} {x : DataW H × List MemPlace} (h : DataW.trod enc Tryz.prog W 0 (fun _ => true) true fuel 22 [v] = some x) :
    ∃ l : List Int, RdN W W.heap.size v l ∧ (l.length = 0 ∨ ∃ k ∈ DataW.weights Tryz.prog 22 x.1, l.length ≤ k) ∧ ∀ y ∈ l, y < 9223372036854775808 := by
  rcases open_slice1 Tryz.underlying22 cells3 h with ⟨hcs, _⟩ | ⟨a, len, cap, m, n, V, D, Pl, hcs, _, hl, hm, hmm, hx, hel⟩
  · simp only [List.cons.injEq, and_true] at hcs
    subst hcs
    exact ⟨[], .inl ⟨⟨_, _, rfl⟩, rfl⟩, .inl rfl, fun y hy => by cases hy⟩
  · simp only [List.cons.injEq, and_true] at hcs
    subst hcs
    have hmc : m = cap := by simpa using hmm
    subst hmc
    rcases Nat.eq_zero_or_pos len with h0 | h0
    · subst h0
      exact ⟨[], .inl ⟨⟨_, _, rfl⟩, rfl⟩, .inl rfl, fun y hy => by cases hy⟩
    · have key : ∀ i, i < len → ∃ z : Int, W.cell? (a.add i) = some (.int .i64 z) ∧ z < 9223372036854775808 := fun i hi => by
        obtain ⟨h1, h2⟩ := hel i (by omega)
        obtain ⟨z, e, _, wz⟩ := DataW.trod_int Tryz.underlying3 h2
        simp only [List.cons.injEq, and_true] at e
        rw [e] at h1
        exact ⟨z, h1, by have := (i64b wz).2; omega⟩
      obtain ⟨f, hf⟩ := choose_lt (α := Int) (p := fun i z => W.cell? (a.add i) = some (.int .i64 z) ∧ z < 9223372036854775808) key
      obtain ⟨b, o, sp⟩ := a
      have hsp : sp = none := by simpa [Addr.add] using World.cell?_spot (hf 0 h0).1
      subst hsp
      have hb : b < W.heap.size := by
        have := (hf 0 h0).1
        rw [Addr.add_lit] at this
        exact World.block_lt_of_cell? W _ this
      refine ⟨(List.range len).map f, .inr ⟨b, o, m, by simp, by simpa using hl, hb, fun i hi => ?_⟩, by subst hx; exact .inr ⟨_, by rw [weigh33]; exact List.mem_cons_self .., by rw [bytes3]; simp; omega⟩, fun y hy => ?_⟩
      · have hi2 : i < len := by simpa using hi
        have := (hf i hi2).1
        rw [Addr.add_lit] at this
        simpa using this
      · obtain ⟨i, hi, rfl⟩ := List.mem_map.1 hy
        exact (hf i (List.mem_range.1 hi)).2
theorem rd_texts34 {H : Type} {enc : TypeId × Value → H} {W : World} {v : Value} {fuel : Nat} {x : DataW H × List MemPlace} (h : DataW.trod enc Tryz.prog W 0 (fun _ => true) true fuel 23 [v] = some x) :
    ∃ l : List (List UInt8), RdT W W.heap.size v l ∧ (l.length = 0 ∨ ∃ k ∈ DataW.weights Tryz.prog 23 x.1, l.length ≤ k) ∧ ∀ y ∈ l, True := by
  rcases open_slice1 Tryz.underlying23 cells9 h with ⟨hcs, _⟩ | ⟨a, len, cap, m, n, V, D, Pl, hcs, _, hl, hm, hmm, hx, hel⟩
  · simp only [List.cons.injEq, and_true] at hcs
    subst hcs
    exact ⟨[], .inl ⟨⟨_, _, rfl⟩, rfl⟩, .inl rfl, fun y hy => by cases hy⟩
  · simp only [List.cons.injEq, and_true] at hcs
    subst hcs
    have hmc : m = cap := by simpa using hmm
    subst hmc
    rcases Nat.eq_zero_or_pos len with h0 | h0
    · subst h0
      exact ⟨[], .inl ⟨⟨_, _, rfl⟩, rfl⟩, .inl rfl, fun y hy => by cases hy⟩
    · have key : ∀ i, i < len → ∃ z : (List UInt8), W.cell? (a.add i) = some (str z) ∧ True := fun i hi => by
        obtain ⟨h1, h2⟩ := hel i (by omega)
        obtain ⟨s, e, _, wz⟩ := DataW.trod_string Tryz.underlying9 h2
        simp only [List.cons.injEq, and_true] at e
        rw [e] at h1
        exact ⟨s.data.toList, by rw [← str_of]; exact h1, trivial⟩
      obtain ⟨f, hf⟩ := choose_lt (α := (List UInt8)) (p := fun i z => W.cell? (a.add i) = some (str z) ∧ True) key
      obtain ⟨b, o, sp⟩ := a
      have hsp : sp = none := by simpa [Addr.add] using World.cell?_spot (hf 0 h0).1
      subst hsp
      have hb : b < W.heap.size := by
        have := (hf 0 h0).1
        rw [Addr.add_lit] at this
        exact World.block_lt_of_cell? W _ this
      refine ⟨(List.range len).map f, .inr ⟨b, o, m, by simp, by simpa using hl, hb, fun i hi => ?_⟩, by subst hx; exact .inr ⟨_, by rw [weigh34]; exact List.mem_cons_self .., by rw [bytes9]; simp; omega⟩, fun y hy => ?_⟩
      · have hi2 : i < len := by simpa using hi
        have := (hf i hi2).1
        rw [Addr.add_lit] at this
        simpa using this
      · obtain ⟨i, hi, rfl⟩ := List.mem_map.1 hy
        trivial
theorem rd_props22 {H : Type} {enc : TypeId × Value → H} {W : World} {v : Value} {fuel : Nat} {x : DataW H × List MemPlace} (h : DataW.trod enc Tryz.prog W 0 (fun _ => true) true fuel 24 [v] = some x) :
    ∃ l : List Pr, RdV W W.heap.size v l ∧ (l.length = 0 ∨ ∃ k ∈ DataW.weights Tryz.prog 24 x.1, l.length ≤ k) ∧ ∀ q ∈ l, Nums q := by
  have hs : ∃ a n c, v = .slice a n c := by
    rcases open_slice Tryz.underlying24 h with ⟨hcs, _⟩ | ⟨a, len, cap, m, n, D, Pl, hcs, _, hl, hm, _⟩
    · simp only [List.cons.injEq, and_true] at hcs
      exact ⟨_, _, _, hcs⟩
    · simp only [List.cons.injEq, and_true] at hcs
      exact ⟨_, _, _, hcs⟩
  obtain ⟨a, n, c, rfl⟩ := hs
  obtain ⟨l, hr, hl, hin, hw⟩ := rd_props (d := x.1) (p := x.2) ⟨fuel, by simpa [Value.cells] using h⟩
  have hw2 : l.length = 0 ∨ ∃ k ∈ DataW.weights Tryz.prog 24 x.1, l.length ≤ k := by
    rcases hw with h | ⟨E, S, he, h⟩
    · exact .inl (by omega)
    · rw [he]
      exact .inr ⟨_, by rw [weigh22]; exact List.mem_cons_self .., by rw [bytes51]; omega⟩
  refine ⟨l, ?_, hw2, fun q hq => ⟨(hin q hq).2.2.1, (hin q hq).2.2.2.2⟩⟩
  rcases hr with hr | ⟨b, o, c, e, hc, hx⟩
  · exact .inl hr
  · by_cases h0 : l = []
    · subst h0
      exact .inl ⟨⟨_, _, e⟩, rfl⟩
    · have h1 : 0 < l.length := List.length_pos_iff.2 h0
      have := (hx 0 h1).1
      exact .inr ⟨b, o, c, e, hc, World.block_lt_of_cell? W _ this, hx⟩
theorem weights_le {H : Type} {ts : List TypeId} {ds : List (DataW H)} (hsz : (DataW.weightsEach Tryz.prog ts ds).all (· ≤ reachBytes) = true) {j : Nat} {t : TypeId} {d : DataW H} (ht : ts[j]? = some t) (hd : ds[j]? = some d) :
    ∀ n ∈ DataW.weights Tryz.prog t d, n ≤ 140737488355328 := fun n hn => by
  have h1 := DataW.weights_mem_each ht hd n hn
  have h2 := List.all_eq_true.1 hsz n h1
  have h3 := reachBytes_lt
  simp at h2
  omega
theorem open_method {H : Type} {enc : TypeId × Value → H} {W : World} {v : Value} {d : DataW H} {p : List MemPlace} (h : DataW.Trod enc Tryz.prog W 0 (fun _ => true) true 26 v d p) :
    ∃ (a b : Int) (vn vt vp : Value) (ns : List Int) (ts : List (List UInt8)) (ps : List Pr), v = .agg (mtA a b vn vt vp) ∧ ((∀ k ∈ DataW.weights Tryz.prog 26 d, k ≤ 140737488355328) → RdM W W.heap.size vn vt vp ns ts ps) ∧ ∀ q ∈ ps, Nums q := by
  obtain ⟨fuel, hf⟩ := h
  obtain ⟨xs, n, _, hx, hl, hlen, hf⟩ := DataW.trod_struct Tryz.underlying26 hf
  rw [cells36] at hl
  match xs, hlen with
  | [y0, y1, y2, y3, y4], _ =>
    have t0 : DataW.trod enc Tryz.prog W 0 (fun _ => true) true n 3 ((v.cells.toList.drop 0).take (Tryz.prog.cellsOf 3)) = some y0 := by simpa using hf 0 _ rfl
    have t1 : DataW.trod enc Tryz.prog W 0 (fun _ => true) true n 3 ((v.cells.toList.drop 1).take (Tryz.prog.cellsOf 3)) = some y1 := by simpa using hf 1 _ rfl
    have t2 : DataW.trod enc Tryz.prog W 0 (fun _ => true) true n 22 ((v.cells.toList.drop 2).take (Tryz.prog.cellsOf 22)) = some y2 := by simpa using hf 2 _ rfl
    have t3 : DataW.trod enc Tryz.prog W 0 (fun _ => true) true n 23 ((v.cells.toList.drop 3).take (Tryz.prog.cellsOf 23)) = some y3 := by simpa using hf 3 _ rfl
    have t4 : DataW.trod enc Tryz.prog W 0 (fun _ => true) true n 24 ((v.cells.toList.drop 4).take (Tryz.prog.cellsOf 24)) = some y4 := by simpa using hf 4 _ rfl
    generalize hcs : v.cells.toList = cs at *
    match cs, hl with
    | [c0, c1, c2, c3, c4], _ =>
      simp only [cells3, cells33, cells34, cells22, List.drop, List.take] at t0 t1 t2 t3 t4
      obtain ⟨a, e0, _, _⟩ := DataW.trod_int Tryz.underlying3 t0
      obtain ⟨b, e1, _, _⟩ := DataW.trod_int Tryz.underlying3 t1
      obtain ⟨ns, rn, ln, bn⟩ := rd_ints33 t2
      obtain ⟨ts, rt, lt, _⟩ := rd_texts34 t3
      obtain ⟨ps, rp, lp, np⟩ := rd_props22 t4
      simp only [List.cons.injEq, and_true] at e0 e1
      subst e0 e1
      refine ⟨a, b, c2, c3, c4, ns, ts, ps, ?_, fun hk => ⟨rn, rt, rp, bn, fun q hq => (np q hq).2, ?_⟩, np⟩
      rotate_left
      · have hw : DataW.weights Tryz.prog 26 d = y0.1.weights Tryz.prog 3 ++ (y1.1.weights Tryz.prog 3 ++ (y2.1.weights Tryz.prog 22 ++ (y3.1.weights Tryz.prog 23 ++ (y4.1.weights Tryz.prog 24 ++ [])))) := by
          rw [← weigh36, (Prod.mk.inj hx).1]
          rfl
        rw [hw] at hk
        have q1 : ns.length ≤ 140737488355328 := by
          rcases ln with h | ⟨k, h1, h2⟩
          · omega
          · have := hk k (by simp [h1]); omega
        have q2 : ts.length ≤ 140737488355328 := by
          rcases lt with h | ⟨k, h1, h2⟩
          · omega
          · have := hk k (by simp [h1]); omega
        have q3 : ps.length ≤ 140737488355328 := by
          rcases lp with h | ⟨k, h1, h2⟩
          · omega
          · have := hk k (by simp [h1]); omega
        omega
      cases v with
      | agg u =>
        simp only [Value.cells] at hcs
        rw [show u = mtA a b c2 c3 c4 from Array.ext' (by simpa using hcs)]
      | _ => simp [Value.cells] at hcs
end Go.Proofs.YtmaaacaifpgpaaaGreatDoor

namespace Go.Proofs.YtmaaacaifpgpaaaGreatDoor
open Go.ChangeShapes Go.WideShapes Go.ChangeAt Go.RowKit Go.Lib Go.Deep
set_option maxRecDepth 100000
set_option linter.unusedSimpArgs false

theorem rd_props22f {H : Type} {enc : TypeId × Value → H} {W : World} {v : Value} {fuel : Nat} {x : DataW H × List MemPlace} (h : DataW.trod enc Tryz.prog W 0 (fun _ => true) true fuel 24 [v] = some x) :
    ∃ l : List Pr, RdV W W.heap.size v l ∧ (l.length = 0 ∨ ∃ k ∈ DataW.weights Tryz.prog 24 x.1, l.length ≤ k) ∧ ∀ q ∈ l, Nums q ∧ Fits q := by
  have hs : ∃ a n c, v = .slice a n c := by
    rcases open_slice Tryz.underlying24 h with ⟨hcs, _⟩ | ⟨a, len, cap, m, n, D, Pl, hcs, _, hl, hm, _⟩
    · simp only [List.cons.injEq, and_true] at hcs
      exact ⟨_, _, _, hcs⟩
    · simp only [List.cons.injEq, and_true] at hcs
      exact ⟨_, _, _, hcs⟩
  obtain ⟨a, n, c, rfl⟩ := hs
  obtain ⟨l, hr, hl, hin, hw⟩ := rd_props (d := x.1) (p := x.2) ⟨fuel, by simpa [Value.cells] using h⟩
  have hw2 : l.length = 0 ∨ ∃ k ∈ DataW.weights Tryz.prog 24 x.1, l.length ≤ k := by
    rcases hw with h | ⟨E, S, he, h⟩
    · exact .inl (by omega)
    · rw [he]
      exact .inr ⟨_, by rw [weigh22]; exact List.mem_cons_self .., by rw [bytes51]; omega⟩
  refine ⟨l, ?_, hw2, fun q hq => ⟨⟨(hin q hq).2.2.1, (hin q hq).2.2.2.2⟩, (hin q hq).fits⟩⟩
  rcases hr with hr | ⟨b, o, c, e, hc, hx⟩
  · exact .inl hr
  · by_cases h0 : l = []
    · subst h0
      exact .inl ⟨⟨_, _, e⟩, rfl⟩
    · have h1 : 0 < l.length := List.length_pos_iff.2 h0
      have := (hx 0 h1).1
      exact .inr ⟨b, o, c, e, hc, World.block_lt_of_cell? W _ this, hx⟩
theorem open_methodF {H : Type} {enc : TypeId × Value → H} {W : World} {v : Value} {d : DataW H} {p : List MemPlace} (h : DataW.Trod enc Tryz.prog W 0 (fun _ => true) true 26 v d p) :
    ∃ (a b : Int) (vn vt vp : Value) (ns : List Int) (ts : List (List UInt8)) (ps : List Pr), v = .agg (mtA a b vn vt vp) ∧ ((∀ k ∈ DataW.weights Tryz.prog 26 d, k ≤ 140737488355328) → RdM W W.heap.size vn vt vp ns ts ps) ∧ ∀ q ∈ ps, Nums q ∧ Fits q := by
  obtain ⟨fuel, hf⟩ := h
  obtain ⟨xs, n, _, hx, hl, hlen, hf⟩ := DataW.trod_struct Tryz.underlying26 hf
  rw [cells36] at hl
  match xs, hlen with
  | [y0, y1, y2, y3, y4], _ =>
    have t0 : DataW.trod enc Tryz.prog W 0 (fun _ => true) true n 3 ((v.cells.toList.drop 0).take (Tryz.prog.cellsOf 3)) = some y0 := by simpa using hf 0 _ rfl
    have t1 : DataW.trod enc Tryz.prog W 0 (fun _ => true) true n 3 ((v.cells.toList.drop 1).take (Tryz.prog.cellsOf 3)) = some y1 := by simpa using hf 1 _ rfl
    have t2 : DataW.trod enc Tryz.prog W 0 (fun _ => true) true n 22 ((v.cells.toList.drop 2).take (Tryz.prog.cellsOf 22)) = some y2 := by simpa using hf 2 _ rfl
    have t3 : DataW.trod enc Tryz.prog W 0 (fun _ => true) true n 23 ((v.cells.toList.drop 3).take (Tryz.prog.cellsOf 23)) = some y3 := by simpa using hf 3 _ rfl
    have t4 : DataW.trod enc Tryz.prog W 0 (fun _ => true) true n 24 ((v.cells.toList.drop 4).take (Tryz.prog.cellsOf 24)) = some y4 := by simpa using hf 4 _ rfl
    generalize hcs : v.cells.toList = cs at *
    match cs, hl with
    | [c0, c1, c2, c3, c4], _ =>
      simp only [cells3, cells33, cells34, cells22, List.drop, List.take] at t0 t1 t2 t3 t4
      obtain ⟨a, e0, _, _⟩ := DataW.trod_int Tryz.underlying3 t0
      obtain ⟨b, e1, _, _⟩ := DataW.trod_int Tryz.underlying3 t1
      obtain ⟨ns, rn, ln, bn⟩ := rd_ints33 t2
      obtain ⟨ts, rt, lt, _⟩ := rd_texts34 t3
      obtain ⟨ps, rp, lp, np⟩ := rd_props22f t4
      simp only [List.cons.injEq, and_true] at e0 e1
      subst e0 e1
      refine ⟨a, b, c2, c3, c4, ns, ts, ps, ?_, fun hk => ⟨rn, rt, rp, bn, fun q hq => (np q hq).1.2, ?_⟩, np⟩
      rotate_left
      · have hw : DataW.weights Tryz.prog 26 d = y0.1.weights Tryz.prog 3 ++ (y1.1.weights Tryz.prog 3 ++ (y2.1.weights Tryz.prog 22 ++ (y3.1.weights Tryz.prog 23 ++ (y4.1.weights Tryz.prog 24 ++ [])))) := by
          rw [← weigh36, (Prod.mk.inj hx).1]
          rfl
        rw [hw] at hk
        have q1 : ns.length ≤ 140737488355328 := by
          rcases ln with h | ⟨k, h1, h2⟩
          · omega
          · have := hk k (by simp [h1]); omega
        have q2 : ts.length ≤ 140737488355328 := by
          rcases lt with h | ⟨k, h1, h2⟩
          · omega
          · have := hk k (by simp [h1]); omega
        have q3 : ps.length ≤ 140737488355328 := by
          rcases lp with h | ⟨k, h1, h2⟩
          · omega
          · have := hk k (by simp [h1]); omega
        omega
      cases v with
      | agg u =>
        simp only [Value.cells] at hcs
        rw [show u = mtA a b c2 c3 c4 from Array.ext' (by simpa using hcs)]
      | _ => simp [Value.cells] at hcs
end Go.Proofs.YtmaaacaifpgpaaaGreatDoor

namespace Go.Proofs.YtmaaacaifpgpaaaGreatDoor
open Go.RowKit Go.Lib
set_option maxRecDepth 100000
set_option linter.unusedSimpArgs false

theorem mCells_get : ∀ (l : List (Nat × Nat × List UInt8)) (k : Nat) (h : k < l.length), (mCells l)[k * 3]? = some (.int .i64 (l[k].1 : Int)) ∧ (mCells l)[k * 3 + 1]? = some (.int .i64 (l[k].2.1 : Int)) ∧ (mCells l)[k * 3 + 2]? = some (str l[k].2.2)
  | [], k, h => absurd h (by simp)
  | x :: l, 0, h => ⟨rfl, rfl, rfl⟩
  | x :: l, k + 1, h => by
    have := mCells_get l k (by simpa using h)
    rw [show (k + 1) * 3 = k * 3 + 1 + 1 + 1 by omega]
    simpa [mCells] using this
set_option maxHeartbeats 4000000 in
theorem rows_any (w : World) : Calls Tryz.prog 15 #[] w fun e w' => e = .returned (.slice (some ⟨w.heap.size, 0, none⟩) 36 36) ∧ (∃ t, Blk w' w.heap.size (mCells mL).toArray t) ∧ Below w.heap.size w w' := by
  have HB : Hid (∀ t, Blk (w.alloc (.cells (mCells mL).toArray t)) w.heap.size (mCells mL).toArray t) := fun t => Blk.new w _ _
  have HC : Hid (∀ t, Below w.heap.size w (w.alloc (.cells (mCells mL).toArray t))) := fun t => below_new w _
  go_enter Tryz.func15, Tryz.ntmps15
  go_wp2_with fail
  go_ret
  exact ⟨rfl, ⟨_, HB.out _⟩, HC.out _⟩
set_option maxHeartbeats 2000000 in
theorem rform_any (w : World) (a b : Int) : Calls Tryz.prog 7 #[.int .i64 a, .int .i64 b] w fun e w' => e = .returned (.tuple #[str (formL a b mL).1, .bool (formL a b mL).2]) ∧ Below w.heap.size w w' := by
  have R := rows_any w
  have HX : Hid (∀ (k : Nat) (h : k < 36), (mCells mL).toArray[k * 3]? = some (.int .i64 ((mL[k]'(by rw [mL_len]; exact h)).1 : Int)) ∧ (mCells mL).toArray[k * 3 + 1]? = some (.int .i64 ((mL[k]'(by rw [mL_len]; exact h)).2.1 : Int)) ∧ (mCells mL).toArray[k * 3 + 2]? = some (str (mL[k]'(by rw [mL_len]; exact h)).2.2)) := fun k h => by
    have := mCells_get mL k (by rw [mL_len]; exact h)
    simpa only [List.getElem?_toArray] using this
  have HS : Hid (∀ (k : Nat) (h : k < 36), formL a b (mL.drop k) = if ((mL[k]'(by rw [mL_len]; exact h)).1 : Int) = a ∧ ((mL[k]'(by rw [mL_len]; exact h)).2.1 : Int) = b then ((mL[k]'(by rw [mL_len]; exact h)).2.2, true) else formL a b (mL.drop (k + 1))) := fun k h => formL_step a b k (by rw [mL_len]; exact h)
  generalize (mCells mL).toArray = MC at *
  obtain ⟨Rr, hR⟩ : ∃ R, formL a b mL = R := ⟨_, rfl⟩
  have HR : Hid (formL a b (mL.drop 0) = Rr) := by show _ = _; rw [List.drop_zero]; exact hR
  rw [hR]
  have HE : Hid (formL a b (mL.drop 36) = ([], false)) := by show _ = _; rfl
  clear hR
  obtain ⟨g, hg⟩ : ∃ g, w.heap.size = g := ⟨_, rfl⟩
  rw [hg] at R ⊢
  go_enter Tryz.func7, Tryz.ntmps7
  go_wp2_with fail
  refine R.mono ?_
  rintro e w1 ⟨rfl, ⟨t, hk1⟩, hb1⟩
  clear R hg
  go_wp2_with fail
  go_loopw [10] (fun i wr => ∃ k : Nat, k ≤ 36 ∧ i = .int .i64 k ∧ Blk wr g MC t ∧ Below g w wr ∧ Hid (formL a b (mL.drop k) = Rr)) (fun i _ => 36 - (RowKit.intOf i).toNat)
  case atStart => exact ⟨0, by omega, rfl, hk1, hb1, HR⟩
  case round =>
    clear hk1 hb1
    obtain ⟨k, hk, rfl, hkr, hbr, hf⟩ := hrel
    by_cases hlt : k < 36
    · have hx := HX.out k hlt
      have hs := HS.out k hlt
      rw [hf.out] at hs
      generalize mL[k]'(by rw [mL_len]; exact hlt) = x at *
      obtain ⟨c, d, f⟩ := x
      obtain ⟨x0, x1, x2⟩ := hx
      rw [← hkr.cell] at x0 x1 x2
      have hs : Hid (Rr = if (c : Int) = a ∧ (d : Int) = b then (f, true) else formL a b (mL.drop (k + 1))) := hs
      have HA : Hid (∀ o, Blk (wr.alloc o) g MC t ∧ Below g w (wr.alloc o)) := fun o => ⟨hkr.alloc o, hbr.trans ((below_new wr o).mono (Nat.le_of_lt hkr.lt))⟩
      clear hf hkr hbr
      have hkz : (k : Int) < 36 := by omega
      by_cases hc : (c : Int) = a
      · subst hc
        by_cases hd : (d : Int) = b
        · subst hd
          have hR2 : Hid (Rr = (f, true)) := by show _ = _; rw [hs.out, if_pos ⟨rfl, rfl⟩]
          go_wp2_with fail
          refine bodyPost_ret (v := .tuple #[str f, .bool true]) (by simp [results, Tryz.results7, go_sem]) rfl ?_
          first
            | exact ⟨rfl, (HA.out _).2⟩
            | (rw [hR2.out]; exact ⟨rfl, (HA.out _).2⟩)
        · have hf : Hid (formL (c : Int) b (mL.drop (k + 1)) = Rr) := by show _ = _; rw [hs.out, if_neg (fun h => hd h.2)]
          have hdz : ((d : Int) == b) = false := by simpa using hd
          go_wp2_with fail
          go_roundw
          case rel => exact ⟨k + 1, by omega, by go_num, (HA.out _).1, (HA.out _).2, hf⟩
          case measure => simp [RowKit.intOf]; omega
      · have hf : Hid (formL a b (mL.drop (k + 1)) = Rr) := by show _ = _; rw [hs.out, if_neg (fun h => hc h.1)]
        have hcz : ((c : Int) == a) = false := by simpa using hc
        go_wp2_with fail
        go_roundw
        case rel => exact ⟨k + 1, by omega, by go_num, (HA.out _).1, (HA.out _).2, hf⟩
        case measure => simp [RowKit.intOf]; omega
    · obtain rfl : k = 36 := by omega
      have hR2 : Hid (Rr = ([], false)) := by show _ = _; rw [← hf.out]; exact HE.out
      have hbr2 : Hid (Below g w wr) := hbr
      clear hbr hkr
      go_wp2_with fail
      refine bodyPost_ret (v := .tuple #[str [], .bool false]) (by simp [results, Tryz.results7, go_sem]) rfl ?_
      first
        | exact ⟨rfl, hbr2.out⟩
        | (rw [hR2.out]; exact ⟨rfl, hbr2.out⟩)
/-- Of how many bytes a letter's number is; 0: it is none's. -/
def sz (c : Nat) : Nat := if c = 111 then 1 else if c = 98 then 1 else if c = 104 then 2 else if c = 108 then 4 else if c = 76 then 8 else 0
theorem size_any (w : World) (c : Nat) : Calls Tryz.prog 20 #[.int .u8 (c : Int)] w fun e w' => e = .returned (.int .i64 (sz c : Nat)) ∧ w' = w := by
  by_cases h1 : c = 111
  · subst h1
    go_enter Tryz.func20, Tryz.ntmps20
    go_wp2
    go_ret
    exact ⟨rfl, rfl⟩
  by_cases h2 : c = 98
  · subst h2
    go_enter Tryz.func20, Tryz.ntmps20
    go_wp2
    go_ret
    exact ⟨rfl, rfl⟩
  by_cases h3 : c = 104
  · subst h3
    go_enter Tryz.func20, Tryz.ntmps20
    go_wp2
    go_ret
    exact ⟨rfl, rfl⟩
  by_cases h4 : c = 108
  · subst h4
    go_enter Tryz.func20, Tryz.ntmps20
    go_wp2
    go_ret
    exact ⟨rfl, rfl⟩
  by_cases h5 : c = 76
  · subst h5
    go_enter Tryz.func20, Tryz.ntmps20
    go_wp2
    go_ret
    exact ⟨rfl, rfl⟩
  have e : sz c = 0 := by unfold sz; rw [if_neg h1, if_neg h2, if_neg h3, if_neg h4, if_neg h5]
  rw [e]
  have b1 : ((c : Int) == 111) = false := by simp; omega
  have b2 : ((c : Int) == 98) = false := by simp; omega
  have b3 : ((c : Int) == 104) = false := by simp; omega
  have b4 : ((c : Int) == 108) = false := by simp; omega
  have b5 : ((c : Int) == 76) = false := by simp; omega
  clear h1 h2 h3 h4 h5 e
  go_enter Tryz.func20, Tryz.ntmps20
  go_wp2
  go_ret
  exact ⟨rfl, rfl⟩
end Go.Proofs.YtmaaacaifpgpaaaGreatDoor

namespace Go.Proofs.YtmaaacaifpgpaaaGreatDoor
open Go.RowKit Go.Lib
set_option maxRecDepth 100000
set_option linter.unusedSimpArgs false

/-- A list of one's own, from block B on. -/
def OwnI (w : World) (B : Nat) (v : Value) (l : List Int) : Prop := w.ownsRow B 3 1 v l.length (l.map fun z => Value.int .i64 z)
theorem OwnI.nil (w : World) (B : Nat) : OwnI w B (.slice none 0 0) [] := World.ownsRow_nil _ _ _ _
theorem OwnI.low {w : World} {B B' : Nat} {v : Value} {l : List Int} (h : OwnI w B' v l) (hB : B ≤ B') : OwnI w B v l := by
  obtain ⟨hl, h⟩ := h
  refine ⟨hl, ?_⟩
  rcases h with h | ⟨g, cap, cur, hv, hb, h⟩
  · exact .inl h
  · exact .inr ⟨g, cap, cur, hv, by omega, h⟩
theorem OwnI.up {w w' : World} {B : Nat} {v : Value} {l : List Int} (h : OwnI w B v l) (hb : Below w.heap.size w w') : OwnI w' B v l := by
  obtain ⟨hl, h⟩ := h
  refine ⟨hl, ?_⟩
  rcases h with h | ⟨g, cap, cur, hv, hg, hc, h⟩
  · exact .inl h
  · exact .inr ⟨g, cap, cur, hv, hg, by rw [hb.block g (Array.getElem?_eq_some_iff.1 hc).1]; exact hc, h⟩
theorem OwnI.alb {w w' : World} {B b : Nat} {v : Value} {l : List Int} (h : OwnI w B v l) (hb : Alb w.heap.size w w' b) (hB : b < B) : OwnI w' B v l := by
  obtain ⟨hl, h⟩ := h
  refine ⟨hl, ?_⟩
  rcases h with h | ⟨g, cap, cur, hv, hg, hc, h⟩
  · exact .inl h
  · exact .inr ⟨g, cap, cur, hv, hg, by rw [hb.block g (Array.getElem?_eq_some_iff.1 hc).1 (by omega)]; exact hc, h⟩
theorem OwnI.grown {w w' : World} {B : Nat} {v : Value} {l : List Int} {row : Option Nat} (h : OwnI w B v l) (hg : w.grownBy w' row) (hr : ∀ k, row = some k → k < B) : OwnI w' B v l := by
  obtain ⟨hl, ho⟩ := h
  refine ⟨hl, ?_⟩
  rcases ho with h | ⟨g, cap, cur, hv, hgB, hc, h⟩
  · exact .inl h
  · refine .inr ⟨g, cap, cur, hv, hgB, ?_, h⟩
    rw [hg.block g (Array.getElem?_eq_some_iff.1 hc).1 (fun e => by have := hr g e.symm; omega)]
    exact hc
theorem OwnI.shape {w : World} {B : Nat} {v : Value} {l : List Int} (h : OwnI w B v l) : ∃ a c, v = .slice a l.length c := by
  obtain ⟨_, h⟩ := h
  rcases h with ⟨rfl, h0⟩ | ⟨g, cap, cur, rfl, _⟩
  · exact ⟨_, _, by rw [h0]⟩
  · exact ⟨_, _, rfl⟩
theorem OwnI.rd {w : World} {B : Nat} {v : Value} {l : List Int} (h : OwnI w B v l) : RdN w w.heap.size v l := by
  obtain ⟨hl, h⟩ := h
  rcases h with ⟨rfl, h0⟩ | ⟨g, cap, cur, rfl, hb, hg, hc, hm, hs, ht⟩
  · exact .inl ⟨⟨_, _, rfl⟩, List.length_eq_zero_iff.1 h0⟩
  · refine .inr ⟨g, 0, cap, rfl, hc, (Array.getElem?_eq_some_iff.1 hg).1, fun i hi => ?_⟩
    have e : (cur.toList.take (l.length * 1))[i]? = (l.map fun z => Value.int .i64 z)[i]? := by rw [ht]
    rw [List.getElem?_take_of_lt (by omega)] at e
    rw [List.getElem?_map, List.getElem?_eq_getElem hi] at e
    simp only [World.cell?, hg, Nat.zero_add]
    simp only [Array.getElem?_toList] at e
    simp [e]
theorem info3' : (Tryz.prog.info? 3).map (fun i => (i.zero, i.size, i.bytes)) = some (some (.int .i64 0), 1, 8) := by kernel_rfl
theorem appI {o : Oper} {a : Act} {K : Act → World → Prop} {Q : Exit → Act → World → Prop} (s x : Operand)
    (ho : o.op = .call { callee := .builtin .append, args := #[s, x], argTypes := #[22, 22] }) (B : Nat) (v : Value) (l : List Int) (p : Int) (w : World) (g : Nat)
    (hs : a.eval s = v) (hown : OwnI w B v l) (hx : a.eval x = .slice (some ⟨g, 0, none⟩) 1 1) (hg : w.cell? ⟨g, 0, none⟩ = some (Value.int .i64 p)) (hn : l.length + 1 ≤ 1000000000) (hB : B ≤ w.heap.size)
    (h : ∀ v' w', OwnI w' B v' (l ++ [p]) → w.grownBy w' v.ownBlock → K (a.put o.dst v') w') : o.wp Tryz.prog a w K Q := by
  obtain ⟨i0, hi, hz0, hz1, hz2⟩ := info_parts info3'
  refine wp_append_own _ s x 22 ho B 3 i0 (.int .i64 0) 1 8 Tryz.underlying22 hi hz0 hz1 hz2 rfl (by decide) v l.length (l.map fun z => Value.int .i64 z) hs hown ⟨g, 0, none⟩ 1 1 [Value.int .i64 p] hx rfl ?_ (fun u hu => by simp at hu; subst hu; rfl) (by unfold maxLen; omega) (by omega) hB ?_
  · intro j u hj
    match j, hj with
    | 0, hj => simp at hj; subst hj; rw [Addr.add_lit]; exact hg
  · intro v' w' h1 h2 _
    refine h v' w' ?_ h2
    unfold OwnI
    rw [List.length_append]
    simpa using h1
/-- A list of one's own, from block B on. -/
def OwnT (w : World) (B : Nat) (v : Value) (l : List (List UInt8)) : Prop := w.ownsRow B 9 1 v l.length (l.map fun z => str z)
theorem OwnT.nil (w : World) (B : Nat) : OwnT w B (.slice none 0 0) [] := World.ownsRow_nil _ _ _ _
theorem OwnT.low {w : World} {B B' : Nat} {v : Value} {l : List (List UInt8)} (h : OwnT w B' v l) (hB : B ≤ B') : OwnT w B v l := by
  obtain ⟨hl, h⟩ := h
  refine ⟨hl, ?_⟩
  rcases h with h | ⟨g, cap, cur, hv, hb, h⟩
  · exact .inl h
  · exact .inr ⟨g, cap, cur, hv, by omega, h⟩
theorem OwnT.up {w w' : World} {B : Nat} {v : Value} {l : List (List UInt8)} (h : OwnT w B v l) (hb : Below w.heap.size w w') : OwnT w' B v l := by
  obtain ⟨hl, h⟩ := h
  refine ⟨hl, ?_⟩
  rcases h with h | ⟨g, cap, cur, hv, hg, hc, h⟩
  · exact .inl h
  · exact .inr ⟨g, cap, cur, hv, hg, by rw [hb.block g (Array.getElem?_eq_some_iff.1 hc).1]; exact hc, h⟩
theorem OwnT.alb {w w' : World} {B b : Nat} {v : Value} {l : List (List UInt8)} (h : OwnT w B v l) (hb : Alb w.heap.size w w' b) (hB : b < B) : OwnT w' B v l := by
  obtain ⟨hl, h⟩ := h
  refine ⟨hl, ?_⟩
  rcases h with h | ⟨g, cap, cur, hv, hg, hc, h⟩
  · exact .inl h
  · exact .inr ⟨g, cap, cur, hv, hg, by rw [hb.block g (Array.getElem?_eq_some_iff.1 hc).1 (by omega)]; exact hc, h⟩
theorem OwnT.grown {w w' : World} {B : Nat} {v : Value} {l : List (List UInt8)} {row : Option Nat} (h : OwnT w B v l) (hg : w.grownBy w' row) (hr : ∀ k, row = some k → k < B) : OwnT w' B v l := by
  obtain ⟨hl, ho⟩ := h
  refine ⟨hl, ?_⟩
  rcases ho with h | ⟨g, cap, cur, hv, hgB, hc, h⟩
  · exact .inl h
  · refine .inr ⟨g, cap, cur, hv, hgB, ?_, h⟩
    rw [hg.block g (Array.getElem?_eq_some_iff.1 hc).1 (fun e => by have := hr g e.symm; omega)]
    exact hc
theorem OwnT.shape {w : World} {B : Nat} {v : Value} {l : List (List UInt8)} (h : OwnT w B v l) : ∃ a c, v = .slice a l.length c := by
  obtain ⟨_, h⟩ := h
  rcases h with ⟨rfl, h0⟩ | ⟨g, cap, cur, rfl, _⟩
  · exact ⟨_, _, by rw [h0]⟩
  · exact ⟨_, _, rfl⟩
theorem OwnT.rd {w : World} {B : Nat} {v : Value} {l : List (List UInt8)} (h : OwnT w B v l) : RdT w w.heap.size v l := by
  obtain ⟨hl, h⟩ := h
  rcases h with ⟨rfl, h0⟩ | ⟨g, cap, cur, rfl, hb, hg, hc, hm, hs, ht⟩
  · exact .inl ⟨⟨_, _, rfl⟩, List.length_eq_zero_iff.1 h0⟩
  · refine .inr ⟨g, 0, cap, rfl, hc, (Array.getElem?_eq_some_iff.1 hg).1, fun i hi => ?_⟩
    have e : (cur.toList.take (l.length * 1))[i]? = (l.map fun z => str z)[i]? := by rw [ht]
    rw [List.getElem?_take_of_lt (by omega)] at e
    rw [List.getElem?_map, List.getElem?_eq_getElem hi] at e
    simp only [World.cell?, hg, Nat.zero_add]
    simp only [Array.getElem?_toList] at e
    simp [e]
theorem info9' : (Tryz.prog.info? 9).map (fun i => (i.zero, i.size, i.bytes)) = some (some (.string ⟨#[]⟩), 1, 16) := by kernel_rfl
theorem appT {o : Oper} {a : Act} {K : Act → World → Prop} {Q : Exit → Act → World → Prop} (s x : Operand)
    (ho : o.op = .call { callee := .builtin .append, args := #[s, x], argTypes := #[23, 23] }) (B : Nat) (v : Value) (l : List (List UInt8)) (p : (List UInt8)) (w : World) (g : Nat)
    (hs : a.eval s = v) (hown : OwnT w B v l) (hx : a.eval x = .slice (some ⟨g, 0, none⟩) 1 1) (hg : w.cell? ⟨g, 0, none⟩ = some (str p)) (hn : l.length + 1 ≤ 1000000000) (hB : B ≤ w.heap.size)
    (h : ∀ v' w', OwnT w' B v' (l ++ [p]) → w.grownBy w' v.ownBlock → K (a.put o.dst v') w') : o.wp Tryz.prog a w K Q := by
  obtain ⟨i0, hi, hz0, hz1, hz2⟩ := info_parts info9'
  refine wp_append_own _ s x 23 ho B 9 i0 (.string ⟨#[]⟩) 1 16 Tryz.underlying23 hi hz0 hz1 hz2 rfl (by decide) v l.length (l.map fun z => str z) hs hown ⟨g, 0, none⟩ 1 1 [str p] hx rfl ?_ (fun u hu => by simp at hu; subst hu; rfl) (by unfold maxLen; omega) (by omega) hB ?_
  · intro j u hj
    match j, hj with
    | 0, hj => simp at hj; subst hj; rw [Addr.add_lit]; exact hg
  · intro v' w' h1 h2 _
    refine h v' w' ?_ h2
    unfold OwnT
    rw [List.length_append]
    simpa using h1
theorem ne_block {w : World} {B1 B2 e1 e2 s1 s2 n1 n2 : Nat} {v1 v2 : Value} {x1 x2 : List Value} (h1 : w.ownsRow B1 e1 s1 v1 n1 x1) (h2 : w.ownsRow B2 e2 s2 v2 n2 x2) (he : e1 ≠ e2) : v2.ownBlock = none ∨ v2.ownBlock ≠ v1.ownBlock := by
  obtain ⟨_, h1⟩ := h1
  obtain ⟨_, h2⟩ := h2
  rcases h2 with ⟨rfl, _⟩ | ⟨g2, c2, u2, rfl, _, hg2, _⟩
  · exact .inl rfl
  · right
    rcases h1 with ⟨rfl, _⟩ | ⟨g1, c1, u1, rfl, _, hg1, _⟩
    · simp [Value.ownBlock]
    · intro e
      simp [Value.ownBlock] at e
      subst e
      rw [hg1] at hg2
      injection hg2 with hg2
      injection hg2 with _ hg2
      exact he hg2
/-- A number without a sign that an int has room for. -/
def cwhole (k : Nat) (s : List UInt8) : Option (Nat × List UInt8) := if s.length < k then none else if numL (s.take k) ≤ 9223372036854775807 then some (numL (s.take k), s.drop k) else none
set_option maxHeartbeats 1000000 in
theorem cwhole_any (w : World) (b k : Nat) (s : List UInt8) (hr : Cr w b s) (hb : b < w.heap.size) (hs : s.length ≤ 140737488355328) (hk8 : k ≤ 8) :
    Calls Tryz.prog 39 #[.pointer (some ⟨b, 0, none⟩), .int .i64 k] w fun e w' =>
      Alb w.heap.size w w' b ∧ ((∃ n r, cwhole k s = some (n, r) ∧ n ≤ 9223372036854775807 ∧ e = .returned (.int .i64 (n : Int)) ∧ Cr w' b r) ∨ (cwhole k s = none ∧ e = .panicked (gup 11))) := by
  have N := cnum_any w b k s hr hb hs hk8
  obtain ⟨g, hg⟩ : ∃ g, gup 11 = g := ⟨_, rfl⟩
  have I := fun w => insist_no w 11
  rw [hg] at N I ⊢
  clear hr hs
  go_enter Tryz.func39, Tryz.ntmps39
  go_wp2_with fail
  refine N.mono ?_
  rintro e w1 ⟨hA, ⟨h1, rfl, hc⟩ | ⟨h1, rfl, -⟩⟩
  · by_cases hm : numL (s.take k) ≤ 9223372036854775807
    · have HE : Hid (cwhole k s = some (numL (s.take k), s.drop k)) := by show _ = _; unfold cwhole; rw [if_neg (by omega), if_pos hm]
      clear N h1
      generalize numL (s.take k) = n at *
      generalize s.drop k = r at *
      have hd : decide ((n : Int) ≤ 9223372036854775807) = true := decide_eq_true (by omega)
      have hw : IntKind.i64.wrap (n : Int) = (n : Int) := by rw [IntKind.wrap_i64]; omega
      go_wp2_with (first | (go_at_call 33; refine (insist_ok _ _).mono ?_; rintro e w' ⟨rfl, rfl⟩))
      go_ret
      exact ⟨hA, .inl ⟨n, r, HE.out, hm, rfl, hc⟩⟩
    · have HE : Hid (cwhole k s = none) := by show _ = _; unfold cwhole; rw [if_neg (by omega), if_neg hm]
      clear N h1
      generalize numL (s.take k) = n at *
      have hd : decide ((n : Int) ≤ 9223372036854775807) = false := decide_eq_false (by omega)
      go_wp2_with (first | (go_at_call 33; refine (I _).mono ?_; rintro e w' ⟨rfl, rfl⟩))
      exact ⟨rfl, hA, .inr ⟨HE.out, rfl⟩⟩
  · exact ⟨rfl, hA, .inr ⟨by unfold cwhole; rw [if_pos h1], rfl⟩⟩
end Go.Proofs.YtmaaacaifpgpaaaGreatDoor

namespace Go.Proofs.YtmaaacaifpgpaaaGreatDoor
open Go.RowKit Go.Lib
set_option maxRecDepth 100000
set_option linter.unusedSimpArgs false

theorem Cr.blk {w w' : World} {b : Nat} {s : List UInt8} (h : Cr w b s) (he : w'.heap[b]? = w.heap[b]?) : Cr w' b s := by
  obtain ⟨h1, h2⟩ := h
  refine ⟨?_, ?_⟩
  · simp only [World.cell?] at h1 ⊢
    rw [he]; exact h1
  · simp only [World.frozen?] at h2 ⊢
    rw [he]; exact h2
theorem Cr.lt {w : World} {b : Nat} {s : List UInt8} (h : Cr w b s) : b < w.heap.size := World.block_lt_of_cell? w _ h.c0
/-- What has been read. -/
structure Dq where
  a : Int
  b : Int
  ns : List Int
  ts : List (List UInt8)
  ps : List Pr
def partD (c : Nat) (s : List UInt8) (q : Dq) : Option (Dq × List UInt8) :=
  if c = 115 then (cshort s).map fun x => (⟨q.a, q.b, q.ns, q.ts ++ [x.1], q.ps⟩, x.2)
  else if c = 83 then (clong s 1024).map fun x => (⟨q.a, q.b, q.ns, q.ts ++ [x.1], q.ps⟩, x.2)
  else if c = 84 then (ctab s).map fun x => (⟨q.a, q.b, q.ns, q.ts, x.1⟩, x.2)
  else (cwhole (wid c) s).map fun x => (⟨q.a, q.b, q.ns ++ [(x.1 : Int)], q.ts, q.ps⟩, x.2)
/-- The method in memory. -/
def Mst (W : World) (m : Nat) (q : Dq) : Prop := ∃ vn vt vp, Blk W m (mtA q.a q.b vn vt vp) 26 ∧ OwnI W (m + 1) vn q.ns ∧ OwnT W (m + 1) vt q.ts ∧ OwnP W (m + 1) vp q.ps
theorem OwnI.shape3 {w : World} {B : Nat} {v : Value} {l : List Int} (h : OwnI w B v l) : ∃ a n c, v = .slice a n c := by
  obtain ⟨a, c, h⟩ := h.shape
  exact ⟨_, _, _, h⟩
theorem OwnT.shape3 {w : World} {B : Nat} {v : Value} {l : List (List UInt8)} (h : OwnT w B v l) : ∃ a n c, v = .slice a n c := by
  obtain ⟨a, c, h⟩ := h.shape
  exact ⟨_, _, _, h⟩
theorem Mst.up {w w' : World} {m : Nat} {q : Dq} (h : Mst w m q) (hb : Below w.heap.size w w') : Mst w' m q := by
  obtain ⟨vn, vt, vp, k, i, t, p⟩ := h
  exact ⟨vn, vt, vp, k.on hb, i.up hb, t.up hb, p.up hb⟩
theorem Mst.alb {w w' : World} {m b : Nat} {q : Dq} (h : Mst w m q) (hb : Alb w.heap.size w w' b) (hbm : b < m) : Mst w' m q := by
  obtain ⟨vn, vt, vp, k, i, t, p⟩ := h
  exact ⟨vn, vt, vp, ⟨by rw [hb.block m k.lt (by omega)]; exact k.h⟩, i.alb hb (by omega), t.alb hb (by omega), p.alb hb (by omega)⟩
/-- What part answers. -/
def RpA (w w' : World) (r m c : Nat) (s : List UInt8) (q : Dq) (e : Ending) : Prop :=
  Below r w w' ∧ ((∃ q' s', partD c s q = some (q', s') ∧ e = .returned (.tuple #[]) ∧ Cr w' r s' ∧ Mst w' m q') ∨ (partD c s q = none ∧ e = .panicked (gup 11)))
set_option maxHeartbeats 4000000 in
theorem rpart_s (w : World) (r m : Nat) (s : List UInt8) (q : Dq) (hr : Cr w r s) (hrm : r < m) (hM : Mst w m q) (hs : s.length ≤ 140737488355328) (hl : q.ts.length + 1 ≤ 1000000000) :
    Calls Tryz.prog 40 #[.pointer (some ⟨r, 0, none⟩), .int .u8 115, .pointer (some ⟨m, 0, none⟩)] w fun e w' => RpA w w' r m 115 s q e := by
  obtain ⟨gu, hg⟩ : ∃ gu, gup 11 = gu := ⟨_, rfl⟩
  obtain ⟨vn, vt, vp, kM, oi, ot, op⟩ := hM
  have hmw := kM.lt
  have HPD : Hid (partD 115 s q = (cshort s).map fun x => (⟨q.a, q.b, q.ns, q.ts ++ [x.1], q.ps⟩, x.2)) := by
    show _ = _
    unfold partD
    rfl
  have N := fun (w' : World) (hc : Cr w' r s) => cshort_any w' r s hc hc.lt hs
  
  
  
  rw [hg] at N
  have HF : Hid (∀ w' e, (Below r w w' ∧ ((∃ q' s', partD 115 s q = some (q', s') ∧ e = .returned (.tuple #[]) ∧ Cr w' r s' ∧ Mst w' m q') ∨ (partD 115 s q = none ∧ e = .panicked gu))) → RpA w w' r m 115 s q e) := by rw [← hg]; exact fun w' e h => h
  have b1 : ((115 : Int) == 115) = true := rfl
  
  
  clear hg
  generalize partD 115 s q = PD at *
  generalize cshort s = PC at *
  go_enter Tryz.func40, Tryz.ntmps40
  go_wp2_with fail
  refine wp_region_held (S := fun _ => True) hmix ?_
  show wpAnyH _ _ _ _ _ _ _ _ (World.drew _)
  have b0 : Below w.heap.size w w.drew := (Below.refl _ _).drew
  have W0 : Hid (Below r w w.drew ∧ Cr w.drew r s ∧ Blk w.drew m (mtA q.a q.b vn vt vp) 26 ∧ OwnI w.drew (m + 1) vn q.ns ∧ OwnT w.drew (m + 1) vt q.ts ∧ OwnP w.drew (m + 1) vp q.ps) := ⟨b0.mono (by omega), hr.blk rfl, kM.on b0, oi.up b0, ot.up b0, op.up b0⟩
  have hz0 : m < w.drew.heap.size := hmw
  clear hr kM oi ot op b0
  generalize w.drew = w0 at *
  refine tks [0, 1, 2, 3, 5] [.pointer (some ⟨m, 0, none⟩), .pointer (some ⟨m, 0, none⟩), .pointer (some ⟨m, 0, none⟩), .pointer (some ⟨m, 3, none⟩), .pointer (some ⟨r, 0, none⟩)] 7 ?_ trivial ?_
  · simp only [tkY, tkf]
    refine ⟨.yes ?_, .yes ?_, .yes ?_, .yes ?_, .yes ?_, trivial⟩
    all_goals
      intro W' hW'
      go_simp
  simp only [tkA, tkf]
  refine ak2 4 6 (fun K hK => ?_) (fun K hK => ?_)
  · have d3 := W0.out.2.2.1.cell 3
    simp only [List.getElem?_toArray, List.getElem?_cons_zero, List.getElem?_cons_succ] at d3
    go_wp2_with fail
    refine hK _ _ trivial ?_
    clear hK K d3
    refine ak 6 (fun K hK => ?_)
    have hz1 := W0.out.2.2.1.lt
    have N1 := N w0 W0.out.2.1
    go_wp2_with (go_at_call 56; refine N1.mono ?_; rintro e w1 ⟨hA1, ⟨p, s', hp, rfl, hc1⟩ | ⟨hp, rfl⟩⟩)
    rotate_left
    · exact ⟨rfl, HF.out _ _ ⟨W0.out.1.trans ⟨hA1.os, hA1.tape, hA1.output, hA1.size, fun k hk => hA1.block k (by omega) (by omega)⟩, .inr ⟨by rw [HPD.out, hp]; rfl, rfl⟩⟩⟩
    have S1 : Hid (Below r w w1 ∧ Cr w1 r s' ∧ Blk w1 m (mtA q.a q.b vn vt vp) 26 ∧ OwnI w1 (m + 1) vn q.ns ∧ OwnT w1 (m + 1) vt q.ts ∧ OwnP w1 (m + 1) vp q.ps) := ⟨W0.out.1.trans ⟨hA1.os, hA1.tape, hA1.output, hA1.size, fun k hk => hA1.block k (by omega) (by omega)⟩, hc1, ⟨by rw [hA1.block m (by omega) (by omega)]; exact W0.out.2.2.1.h⟩, W0.out.2.2.2.1.alb hA1 (by omega), W0.out.2.2.2.2.1.alb hA1 (by omega), W0.out.2.2.2.2.2.alb hA1 (by omega)⟩
    refine hK _ _ trivial ?_
    clear hK K N1 hc1 hA1
    refine ak 7 (fun K hK => ?_)
    go_wp2_with fail
    have bn2 := below_new w1 (.cells #[str p] 9)
    have S2 : Hid (Below r w (w1.alloc (.cells #[str p] 9)) ∧ Cr (w1.alloc (.cells #[str p] 9)) r s' ∧ Blk (w1.alloc (.cells #[str p] 9)) m (mtA q.a q.b vn vt vp) 26 ∧ OwnI (w1.alloc (.cells #[str p] 9)) (m + 1) vn q.ns ∧ OwnT (w1.alloc (.cells #[str p] 9)) (m + 1) vt q.ts ∧ OwnP (w1.alloc (.cells #[str p] 9)) (m + 1) vp q.ps) := ⟨S1.out.1.trans (bn2.mono (by have := S1.out.2.2.1.lt; omega)), S1.out.2.1.blk (bn2.block r S1.out.2.1.lt), S1.out.2.2.1.on bn2, S1.out.2.2.2.1.up bn2, S1.out.2.2.2.2.1.up bn2, S1.out.2.2.2.2.2.up bn2⟩
    have CE2 : Hid ((w1.alloc (.cells #[str p] 9)).cell? ⟨w1.heap.size, 0, none⟩ = some (str p)) := (Blk.new w1 #[str p] 9).cell 0
    refine hK _ _ trivial ?_
    clear hK K bn2
    generalize w1.heap.size = g2 at *
    generalize w1.alloc (.cells #[str p] 9) = w2 at *
    refine ak 8 (fun K hK => ?_)
    have hz9 := S2.out.2.2.1.lt
    refine appT (.tmp 26) (.tmp 29) rfl (m + 1) vt q.ts p w2 g2 rfl S2.out.2.2.2.2.1 rfl CE2.out hl hz9 ?_
    intro v9 w9 o9 g9
    have hrow : ∀ k, vt.ownBlock = some k → m + 1 ≤ k := fun k hk => (World.ownsRow.lt S2.out.2.2.2.2.1 k hk).1
    have b9 : Below (m + 1) w2 w9 := (Below.refl _ _).grown g9 (by omega) hrow
    have S9 : Hid (Below r w w9 ∧ Cr w9 r s' ∧ Blk w9 m (mtA q.a q.b vn vt vp) 26) := ⟨S2.out.1.trans (b9.mono (by omega)), S2.out.2.1.blk (b9.block r (by omega)), S2.out.2.2.1.below b9 (Nat.lt_succ_self m)⟩
    have H9 : Hid (OwnI w9 (m + 1) vn q.ns ∧ OwnP w9 (m + 1) vp q.ps) := ⟨World.ownsRow.kept S2.out.2.2.2.1 g9 (ne_block S2.out.2.2.2.2.1 S2.out.2.2.2.1 (by decide)), World.ownsRow.kept S2.out.2.2.2.2.2 g9 (ne_block S2.out.2.2.2.2.1 S2.out.2.2.2.2.2 (by decide))⟩
    refine hK _ _ trivial ?_
    clear hK K g9 b9 hz9
    obtain ⟨xa, xn, xc, rfl⟩ := o9.shape3
    refine ak 9 (fun K hK => ?_)
    go_wp2_with fail
    refine hK _ _ trivial ?_
    clear hK K
    refine ak 10 (fun K hK => ?_)
    go_wp2_with fail
    refine hK _ _ trivial ?_
    clear hK K
    refine ak 11 (fun K hK => ?_)
    refine opw_set (.tmp 32) (.tmp 30) rfl m 3 _ rfl rfl S9.out.2.2 (by kernel_rfl) rfl rfl (by simp) ?_
    intro w10 k10 g10 s10
    have hz9 := S9.out.2.2.lt
    have h10 := And.intro (H9.out.1.grown g10 (fun k hk => by cases hk; exact Nat.lt_succ_self _)) (H9.out.2.grown g10 (fun k hk => by cases hk; exact Nat.lt_succ_self _))
    have o10 := o9.grown g10 (fun k hk => by cases hk; exact Nat.lt_succ_self _)
    have c10 : Cr w10 r s' := S9.out.2.1.blk (g10.block r (by omega) (by simp; omega))
    have B10 : Below r w w10 := S9.out.1.grown g10 (by have := S9.out.1.size; omega) (fun k hk => by cases hk; omega)
    refine hK _ _ trivial ?_
    clear hK K
    refine wpAnyH_done (by kernel_rfl) ?_ _
    go_wp2_with fail
    go_end0
    exact HF.out _ _ ⟨B10, .inl ⟨⟨q.a, q.b, q.ns, q.ts ++ [p], q.ps⟩, s', by rw [HPD.out, hp]; rfl, rfl, c10, ⟨vn, _, vp, k10, h10.1, o10, h10.2⟩⟩⟩
  · have hz3 := W0.out.2.2.1.lt
    have N3 := N w0 W0.out.2.1
    go_wp2_with (go_at_call 56; refine N3.mono ?_; rintro e w3 ⟨hA3, ⟨p, s', hp, rfl, hc3⟩ | ⟨hp, rfl⟩⟩)
    rotate_left
    · exact ⟨rfl, HF.out _ _ ⟨W0.out.1.trans ⟨hA3.os, hA3.tape, hA3.output, hA3.size, fun k hk => hA3.block k (by omega) (by omega)⟩, .inr ⟨by rw [HPD.out, hp]; rfl, rfl⟩⟩⟩
    have S3 : Hid (Below r w w3 ∧ Cr w3 r s' ∧ Blk w3 m (mtA q.a q.b vn vt vp) 26 ∧ OwnI w3 (m + 1) vn q.ns ∧ OwnT w3 (m + 1) vt q.ts ∧ OwnP w3 (m + 1) vp q.ps) := ⟨W0.out.1.trans ⟨hA3.os, hA3.tape, hA3.output, hA3.size, fun k hk => hA3.block k (by omega) (by omega)⟩, hc3, ⟨by rw [hA3.block m (by omega) (by omega)]; exact W0.out.2.2.1.h⟩, W0.out.2.2.2.1.alb hA3 (by omega), W0.out.2.2.2.2.1.alb hA3 (by omega), W0.out.2.2.2.2.2.alb hA3 (by omega)⟩
    refine hK _ _ trivial ?_
    clear hK K N3 hc3 hA3
    refine ak2 4 7 (fun K hK => ?_) (fun K hK => ?_)
    · have d3 := S3.out.2.2.1.cell 3
      simp only [List.getElem?_toArray, List.getElem?_cons_zero, List.getElem?_cons_succ] at d3
      go_wp2_with fail
      refine hK _ _ trivial ?_
      clear hK K d3
      refine ak 7 (fun K hK => ?_)
      go_wp2_with fail
      have bn4 := below_new w3 (.cells #[str p] 9)
      have S4 : Hid (Below r w (w3.alloc (.cells #[str p] 9)) ∧ Cr (w3.alloc (.cells #[str p] 9)) r s' ∧ Blk (w3.alloc (.cells #[str p] 9)) m (mtA q.a q.b vn vt vp) 26 ∧ OwnI (w3.alloc (.cells #[str p] 9)) (m + 1) vn q.ns ∧ OwnT (w3.alloc (.cells #[str p] 9)) (m + 1) vt q.ts ∧ OwnP (w3.alloc (.cells #[str p] 9)) (m + 1) vp q.ps) := ⟨S3.out.1.trans (bn4.mono (by have := S3.out.2.2.1.lt; omega)), S3.out.2.1.blk (bn4.block r S3.out.2.1.lt), S3.out.2.2.1.on bn4, S3.out.2.2.2.1.up bn4, S3.out.2.2.2.2.1.up bn4, S3.out.2.2.2.2.2.up bn4⟩
      have CE4 : Hid ((w3.alloc (.cells #[str p] 9)).cell? ⟨w3.heap.size, 0, none⟩ = some (str p)) := (Blk.new w3 #[str p] 9).cell 0
      refine hK _ _ trivial ?_
      clear hK K bn4
      generalize w3.heap.size = g4 at *
      generalize w3.alloc (.cells #[str p] 9) = w4 at *
      refine ak 8 (fun K hK => ?_)
      have hz9 := S4.out.2.2.1.lt
      refine appT (.tmp 26) (.tmp 29) rfl (m + 1) vt q.ts p w4 g4 rfl S4.out.2.2.2.2.1 rfl CE4.out hl hz9 ?_
      intro v9 w9 o9 g9
      have hrow : ∀ k, vt.ownBlock = some k → m + 1 ≤ k := fun k hk => (World.ownsRow.lt S4.out.2.2.2.2.1 k hk).1
      have b9 : Below (m + 1) w4 w9 := (Below.refl _ _).grown g9 (by omega) hrow
      have S9 : Hid (Below r w w9 ∧ Cr w9 r s' ∧ Blk w9 m (mtA q.a q.b vn vt vp) 26) := ⟨S4.out.1.trans (b9.mono (by omega)), S4.out.2.1.blk (b9.block r (by omega)), S4.out.2.2.1.below b9 (Nat.lt_succ_self m)⟩
      have H9 : Hid (OwnI w9 (m + 1) vn q.ns ∧ OwnP w9 (m + 1) vp q.ps) := ⟨World.ownsRow.kept S4.out.2.2.2.1 g9 (ne_block S4.out.2.2.2.2.1 S4.out.2.2.2.1 (by decide)), World.ownsRow.kept S4.out.2.2.2.2.2 g9 (ne_block S4.out.2.2.2.2.1 S4.out.2.2.2.2.2 (by decide))⟩
      refine hK _ _ trivial ?_
      clear hK K g9 b9 hz9
      obtain ⟨xa, xn, xc, rfl⟩ := o9.shape3
      refine ak 9 (fun K hK => ?_)
      go_wp2_with fail
      refine hK _ _ trivial ?_
      clear hK K
      refine ak 10 (fun K hK => ?_)
      go_wp2_with fail
      refine hK _ _ trivial ?_
      clear hK K
      refine ak 11 (fun K hK => ?_)
      refine opw_set (.tmp 32) (.tmp 30) rfl m 3 _ rfl rfl S9.out.2.2 (by kernel_rfl) rfl rfl (by simp) ?_
      intro w10 k10 g10 s10
      have hz9 := S9.out.2.2.lt
      have h10 := And.intro (H9.out.1.grown g10 (fun k hk => by cases hk; exact Nat.lt_succ_self _)) (H9.out.2.grown g10 (fun k hk => by cases hk; exact Nat.lt_succ_self _))
      have o10 := o9.grown g10 (fun k hk => by cases hk; exact Nat.lt_succ_self _)
      have c10 : Cr w10 r s' := S9.out.2.1.blk (g10.block r (by omega) (by simp; omega))
      have B10 : Below r w w10 := S9.out.1.grown g10 (by have := S9.out.1.size; omega) (fun k hk => by cases hk; omega)
      refine hK _ _ trivial ?_
      clear hK K
      refine wpAnyH_done (by kernel_rfl) ?_ _
      go_wp2_with fail
      go_end0
      exact HF.out _ _ ⟨B10, .inl ⟨⟨q.a, q.b, q.ns, q.ts ++ [p], q.ps⟩, s', by rw [HPD.out, hp]; rfl, rfl, c10, ⟨vn, _, vp, k10, h10.1, o10, h10.2⟩⟩⟩
    · go_wp2_with fail
      have bn5 := below_new w3 (.cells #[str p] 9)
      have S5 : Hid (Below r w (w3.alloc (.cells #[str p] 9)) ∧ Cr (w3.alloc (.cells #[str p] 9)) r s' ∧ Blk (w3.alloc (.cells #[str p] 9)) m (mtA q.a q.b vn vt vp) 26 ∧ OwnI (w3.alloc (.cells #[str p] 9)) (m + 1) vn q.ns ∧ OwnT (w3.alloc (.cells #[str p] 9)) (m + 1) vt q.ts ∧ OwnP (w3.alloc (.cells #[str p] 9)) (m + 1) vp q.ps) := ⟨S3.out.1.trans (bn5.mono (by have := S3.out.2.2.1.lt; omega)), S3.out.2.1.blk (bn5.block r S3.out.2.1.lt), S3.out.2.2.1.on bn5, S3.out.2.2.2.1.up bn5, S3.out.2.2.2.2.1.up bn5, S3.out.2.2.2.2.2.up bn5⟩
      have CE5 : Hid ((w3.alloc (.cells #[str p] 9)).cell? ⟨w3.heap.size, 0, none⟩ = some (str p)) := (Blk.new w3 #[str p] 9).cell 0
      refine hK _ _ trivial ?_
      clear hK K bn5
      generalize w3.heap.size = g5 at *
      generalize w3.alloc (.cells #[str p] 9) = w5 at *
      refine ak 4 (fun K hK => ?_)
      have d3 := S5.out.2.2.1.cell 3
      simp only [List.getElem?_toArray, List.getElem?_cons_zero, List.getElem?_cons_succ] at d3
      go_wp2_with fail
      refine hK _ _ trivial ?_
      clear hK K d3
      refine ak 8 (fun K hK => ?_)
      have hz9 := S5.out.2.2.1.lt
      refine appT (.tmp 26) (.tmp 29) rfl (m + 1) vt q.ts p w5 g5 rfl S5.out.2.2.2.2.1 rfl CE5.out hl hz9 ?_
      intro v9 w9 o9 g9
      have hrow : ∀ k, vt.ownBlock = some k → m + 1 ≤ k := fun k hk => (World.ownsRow.lt S5.out.2.2.2.2.1 k hk).1
      have b9 : Below (m + 1) w5 w9 := (Below.refl _ _).grown g9 (by omega) hrow
      have S9 : Hid (Below r w w9 ∧ Cr w9 r s' ∧ Blk w9 m (mtA q.a q.b vn vt vp) 26) := ⟨S5.out.1.trans (b9.mono (by omega)), S5.out.2.1.blk (b9.block r (by omega)), S5.out.2.2.1.below b9 (Nat.lt_succ_self m)⟩
      have H9 : Hid (OwnI w9 (m + 1) vn q.ns ∧ OwnP w9 (m + 1) vp q.ps) := ⟨World.ownsRow.kept S5.out.2.2.2.1 g9 (ne_block S5.out.2.2.2.2.1 S5.out.2.2.2.1 (by decide)), World.ownsRow.kept S5.out.2.2.2.2.2 g9 (ne_block S5.out.2.2.2.2.1 S5.out.2.2.2.2.2 (by decide))⟩
      refine hK _ _ trivial ?_
      clear hK K g9 b9 hz9
      obtain ⟨xa, xn, xc, rfl⟩ := o9.shape3
      refine ak 9 (fun K hK => ?_)
      go_wp2_with fail
      refine hK _ _ trivial ?_
      clear hK K
      refine ak 10 (fun K hK => ?_)
      go_wp2_with fail
      refine hK _ _ trivial ?_
      clear hK K
      refine ak 11 (fun K hK => ?_)
      refine opw_set (.tmp 32) (.tmp 30) rfl m 3 _ rfl rfl S9.out.2.2 (by kernel_rfl) rfl rfl (by simp) ?_
      intro w10 k10 g10 s10
      have hz9 := S9.out.2.2.lt
      have h10 := And.intro (H9.out.1.grown g10 (fun k hk => by cases hk; exact Nat.lt_succ_self _)) (H9.out.2.grown g10 (fun k hk => by cases hk; exact Nat.lt_succ_self _))
      have o10 := o9.grown g10 (fun k hk => by cases hk; exact Nat.lt_succ_self _)
      have c10 : Cr w10 r s' := S9.out.2.1.blk (g10.block r (by omega) (by simp; omega))
      have B10 : Below r w w10 := S9.out.1.grown g10 (by have := S9.out.1.size; omega) (fun k hk => by cases hk; omega)
      refine hK _ _ trivial ?_
      clear hK K
      refine wpAnyH_done (by kernel_rfl) ?_ _
      go_wp2_with fail
      go_end0
      exact HF.out _ _ ⟨B10, .inl ⟨⟨q.a, q.b, q.ns, q.ts ++ [p], q.ps⟩, s', by rw [HPD.out, hp]; rfl, rfl, c10, ⟨vn, _, vp, k10, h10.1, o10, h10.2⟩⟩⟩
set_option maxHeartbeats 4000000 in
theorem rpart_l (w : World) (r m : Nat) (s : List UInt8) (q : Dq) (hr : Cr w r s) (hrm : r < m) (hM : Mst w m q) (hs : s.length ≤ 140737488355328) (hl : q.ts.length + 1 ≤ 1000000000) :
    Calls Tryz.prog 40 #[.pointer (some ⟨r, 0, none⟩), .int .u8 83, .pointer (some ⟨m, 0, none⟩)] w fun e w' => RpA w w' r m 83 s q e := by
  obtain ⟨gu, hg⟩ : ∃ gu, gup 11 = gu := ⟨_, rfl⟩
  obtain ⟨vn, vt, vp, kM, oi, ot, op⟩ := hM
  have hmw := kM.lt
  have HPD : Hid (partD 83 s q = (clong s 1024).map fun x => (⟨q.a, q.b, q.ns, q.ts ++ [x.1], q.ps⟩, x.2)) := by
    show _ = _
    unfold partD
    rw [if_neg (by decide)]; rfl
  have N := fun (w' : World) (hc : Cr w' r s) => clong_any w' r 1024 s hc hc.lt hs
  
  
  
  rw [hg] at N
  have HF : Hid (∀ w' e, (Below r w w' ∧ ((∃ q' s', partD 83 s q = some (q', s') ∧ e = .returned (.tuple #[]) ∧ Cr w' r s' ∧ Mst w' m q') ∨ (partD 83 s q = none ∧ e = .panicked gu))) → RpA w w' r m 83 s q e) := by rw [← hg]; exact fun w' e h => h
  have b1 : ((83 : Int) == 115) = false := rfl
  have b2 : ((83 : Int) == 83) = true := rfl
  
  clear hg
  generalize partD 83 s q = PD at *
  generalize clong s 1024 = PC at *
  go_enter Tryz.func40, Tryz.ntmps40
  go_wp2_with fail
  refine wp_region_held (S := fun _ => True) hmix ?_
  show wpAnyH _ _ _ _ _ _ _ _ (World.drew _)
  have b0 : Below w.heap.size w w.drew := (Below.refl _ _).drew
  have W0 : Hid (Below r w w.drew ∧ Cr w.drew r s ∧ Blk w.drew m (mtA q.a q.b vn vt vp) 26 ∧ OwnI w.drew (m + 1) vn q.ns ∧ OwnT w.drew (m + 1) vt q.ts ∧ OwnP w.drew (m + 1) vp q.ps) := ⟨b0.mono (by omega), hr.blk rfl, kM.on b0, oi.up b0, ot.up b0, op.up b0⟩
  have hz0 : m < w.drew.heap.size := hmw
  clear hr kM oi ot op b0
  generalize w.drew = w0 at *
  refine tks [0, 1, 2, 3, 5] [.pointer (some ⟨m, 0, none⟩), .pointer (some ⟨m, 0, none⟩), .pointer (some ⟨m, 0, none⟩), .pointer (some ⟨m, 3, none⟩), .pointer (some ⟨r, 0, none⟩)] 7 ?_ trivial ?_
  · simp only [tkY, tkf]
    refine ⟨.yes ?_, .yes ?_, .yes ?_, .yes ?_, .yes ?_, trivial⟩
    all_goals
      intro W' hW'
      go_simp
  simp only [tkA, tkf]
  refine ak2 4 6 (fun K hK => ?_) (fun K hK => ?_)
  · have d3 := W0.out.2.2.1.cell 3
    simp only [List.getElem?_toArray, List.getElem?_cons_zero, List.getElem?_cons_succ] at d3
    go_wp2_with fail
    refine hK _ _ trivial ?_
    clear hK K d3
    refine ak 6 (fun K hK => ?_)
    have hz1 := W0.out.2.2.1.lt
    have N1 := N w0 W0.out.2.1
    go_wp2_with (go_at_call 57; refine N1.mono ?_; rintro e w1 ⟨hA1, ⟨p, s', hp, rfl, hc1⟩ | ⟨hp, rfl⟩⟩)
    rotate_left
    · exact ⟨rfl, HF.out _ _ ⟨W0.out.1.trans ⟨hA1.os, hA1.tape, hA1.output, hA1.size, fun k hk => hA1.block k (by omega) (by omega)⟩, .inr ⟨by rw [HPD.out, hp]; rfl, rfl⟩⟩⟩
    have S1 : Hid (Below r w w1 ∧ Cr w1 r s' ∧ Blk w1 m (mtA q.a q.b vn vt vp) 26 ∧ OwnI w1 (m + 1) vn q.ns ∧ OwnT w1 (m + 1) vt q.ts ∧ OwnP w1 (m + 1) vp q.ps) := ⟨W0.out.1.trans ⟨hA1.os, hA1.tape, hA1.output, hA1.size, fun k hk => hA1.block k (by omega) (by omega)⟩, hc1, ⟨by rw [hA1.block m (by omega) (by omega)]; exact W0.out.2.2.1.h⟩, W0.out.2.2.2.1.alb hA1 (by omega), W0.out.2.2.2.2.1.alb hA1 (by omega), W0.out.2.2.2.2.2.alb hA1 (by omega)⟩
    refine hK _ _ trivial ?_
    clear hK K N1 hc1 hA1
    refine ak 7 (fun K hK => ?_)
    go_wp2_with fail
    have bn2 := below_new w1 (.cells #[str p] 9)
    have S2 : Hid (Below r w (w1.alloc (.cells #[str p] 9)) ∧ Cr (w1.alloc (.cells #[str p] 9)) r s' ∧ Blk (w1.alloc (.cells #[str p] 9)) m (mtA q.a q.b vn vt vp) 26 ∧ OwnI (w1.alloc (.cells #[str p] 9)) (m + 1) vn q.ns ∧ OwnT (w1.alloc (.cells #[str p] 9)) (m + 1) vt q.ts ∧ OwnP (w1.alloc (.cells #[str p] 9)) (m + 1) vp q.ps) := ⟨S1.out.1.trans (bn2.mono (by have := S1.out.2.2.1.lt; omega)), S1.out.2.1.blk (bn2.block r S1.out.2.1.lt), S1.out.2.2.1.on bn2, S1.out.2.2.2.1.up bn2, S1.out.2.2.2.2.1.up bn2, S1.out.2.2.2.2.2.up bn2⟩
    have CE2 : Hid ((w1.alloc (.cells #[str p] 9)).cell? ⟨w1.heap.size, 0, none⟩ = some (str p)) := (Blk.new w1 #[str p] 9).cell 0
    refine hK _ _ trivial ?_
    clear hK K bn2
    generalize w1.heap.size = g2 at *
    generalize w1.alloc (.cells #[str p] 9) = w2 at *
    refine ak 8 (fun K hK => ?_)
    have hz9 := S2.out.2.2.1.lt
    refine appT (.tmp 39) (.tmp 42) rfl (m + 1) vt q.ts p w2 g2 rfl S2.out.2.2.2.2.1 rfl CE2.out hl hz9 ?_
    intro v9 w9 o9 g9
    have hrow : ∀ k, vt.ownBlock = some k → m + 1 ≤ k := fun k hk => (World.ownsRow.lt S2.out.2.2.2.2.1 k hk).1
    have b9 : Below (m + 1) w2 w9 := (Below.refl _ _).grown g9 (by omega) hrow
    have S9 : Hid (Below r w w9 ∧ Cr w9 r s' ∧ Blk w9 m (mtA q.a q.b vn vt vp) 26) := ⟨S2.out.1.trans (b9.mono (by omega)), S2.out.2.1.blk (b9.block r (by omega)), S2.out.2.2.1.below b9 (Nat.lt_succ_self m)⟩
    have H9 : Hid (OwnI w9 (m + 1) vn q.ns ∧ OwnP w9 (m + 1) vp q.ps) := ⟨World.ownsRow.kept S2.out.2.2.2.1 g9 (ne_block S2.out.2.2.2.2.1 S2.out.2.2.2.1 (by decide)), World.ownsRow.kept S2.out.2.2.2.2.2 g9 (ne_block S2.out.2.2.2.2.1 S2.out.2.2.2.2.2 (by decide))⟩
    refine hK _ _ trivial ?_
    clear hK K g9 b9 hz9
    obtain ⟨xa, xn, xc, rfl⟩ := o9.shape3
    refine ak 9 (fun K hK => ?_)
    go_wp2_with fail
    refine hK _ _ trivial ?_
    clear hK K
    refine ak 10 (fun K hK => ?_)
    go_wp2_with fail
    refine hK _ _ trivial ?_
    clear hK K
    refine ak 11 (fun K hK => ?_)
    refine opw_set (.tmp 45) (.tmp 43) rfl m 3 _ rfl rfl S9.out.2.2 (by kernel_rfl) rfl rfl (by simp) ?_
    intro w10 k10 g10 s10
    have hz9 := S9.out.2.2.lt
    have h10 := And.intro (H9.out.1.grown g10 (fun k hk => by cases hk; exact Nat.lt_succ_self _)) (H9.out.2.grown g10 (fun k hk => by cases hk; exact Nat.lt_succ_self _))
    have o10 := o9.grown g10 (fun k hk => by cases hk; exact Nat.lt_succ_self _)
    have c10 : Cr w10 r s' := S9.out.2.1.blk (g10.block r (by omega) (by simp; omega))
    have B10 : Below r w w10 := S9.out.1.grown g10 (by have := S9.out.1.size; omega) (fun k hk => by cases hk; omega)
    refine hK _ _ trivial ?_
    clear hK K
    refine wpAnyH_done (by kernel_rfl) ?_ _
    go_wp2_with fail
    go_end0
    exact HF.out _ _ ⟨B10, .inl ⟨⟨q.a, q.b, q.ns, q.ts ++ [p], q.ps⟩, s', by rw [HPD.out, hp]; rfl, rfl, c10, ⟨vn, _, vp, k10, h10.1, o10, h10.2⟩⟩⟩
  · have hz3 := W0.out.2.2.1.lt
    have N3 := N w0 W0.out.2.1
    go_wp2_with (go_at_call 57; refine N3.mono ?_; rintro e w3 ⟨hA3, ⟨p, s', hp, rfl, hc3⟩ | ⟨hp, rfl⟩⟩)
    rotate_left
    · exact ⟨rfl, HF.out _ _ ⟨W0.out.1.trans ⟨hA3.os, hA3.tape, hA3.output, hA3.size, fun k hk => hA3.block k (by omega) (by omega)⟩, .inr ⟨by rw [HPD.out, hp]; rfl, rfl⟩⟩⟩
    have S3 : Hid (Below r w w3 ∧ Cr w3 r s' ∧ Blk w3 m (mtA q.a q.b vn vt vp) 26 ∧ OwnI w3 (m + 1) vn q.ns ∧ OwnT w3 (m + 1) vt q.ts ∧ OwnP w3 (m + 1) vp q.ps) := ⟨W0.out.1.trans ⟨hA3.os, hA3.tape, hA3.output, hA3.size, fun k hk => hA3.block k (by omega) (by omega)⟩, hc3, ⟨by rw [hA3.block m (by omega) (by omega)]; exact W0.out.2.2.1.h⟩, W0.out.2.2.2.1.alb hA3 (by omega), W0.out.2.2.2.2.1.alb hA3 (by omega), W0.out.2.2.2.2.2.alb hA3 (by omega)⟩
    refine hK _ _ trivial ?_
    clear hK K N3 hc3 hA3
    refine ak2 4 7 (fun K hK => ?_) (fun K hK => ?_)
    · have d3 := S3.out.2.2.1.cell 3
      simp only [List.getElem?_toArray, List.getElem?_cons_zero, List.getElem?_cons_succ] at d3
      go_wp2_with fail
      refine hK _ _ trivial ?_
      clear hK K d3
      refine ak 7 (fun K hK => ?_)
      go_wp2_with fail
      have bn4 := below_new w3 (.cells #[str p] 9)
      have S4 : Hid (Below r w (w3.alloc (.cells #[str p] 9)) ∧ Cr (w3.alloc (.cells #[str p] 9)) r s' ∧ Blk (w3.alloc (.cells #[str p] 9)) m (mtA q.a q.b vn vt vp) 26 ∧ OwnI (w3.alloc (.cells #[str p] 9)) (m + 1) vn q.ns ∧ OwnT (w3.alloc (.cells #[str p] 9)) (m + 1) vt q.ts ∧ OwnP (w3.alloc (.cells #[str p] 9)) (m + 1) vp q.ps) := ⟨S3.out.1.trans (bn4.mono (by have := S3.out.2.2.1.lt; omega)), S3.out.2.1.blk (bn4.block r S3.out.2.1.lt), S3.out.2.2.1.on bn4, S3.out.2.2.2.1.up bn4, S3.out.2.2.2.2.1.up bn4, S3.out.2.2.2.2.2.up bn4⟩
      have CE4 : Hid ((w3.alloc (.cells #[str p] 9)).cell? ⟨w3.heap.size, 0, none⟩ = some (str p)) := (Blk.new w3 #[str p] 9).cell 0
      refine hK _ _ trivial ?_
      clear hK K bn4
      generalize w3.heap.size = g4 at *
      generalize w3.alloc (.cells #[str p] 9) = w4 at *
      refine ak 8 (fun K hK => ?_)
      have hz9 := S4.out.2.2.1.lt
      refine appT (.tmp 39) (.tmp 42) rfl (m + 1) vt q.ts p w4 g4 rfl S4.out.2.2.2.2.1 rfl CE4.out hl hz9 ?_
      intro v9 w9 o9 g9
      have hrow : ∀ k, vt.ownBlock = some k → m + 1 ≤ k := fun k hk => (World.ownsRow.lt S4.out.2.2.2.2.1 k hk).1
      have b9 : Below (m + 1) w4 w9 := (Below.refl _ _).grown g9 (by omega) hrow
      have S9 : Hid (Below r w w9 ∧ Cr w9 r s' ∧ Blk w9 m (mtA q.a q.b vn vt vp) 26) := ⟨S4.out.1.trans (b9.mono (by omega)), S4.out.2.1.blk (b9.block r (by omega)), S4.out.2.2.1.below b9 (Nat.lt_succ_self m)⟩
      have H9 : Hid (OwnI w9 (m + 1) vn q.ns ∧ OwnP w9 (m + 1) vp q.ps) := ⟨World.ownsRow.kept S4.out.2.2.2.1 g9 (ne_block S4.out.2.2.2.2.1 S4.out.2.2.2.1 (by decide)), World.ownsRow.kept S4.out.2.2.2.2.2 g9 (ne_block S4.out.2.2.2.2.1 S4.out.2.2.2.2.2 (by decide))⟩
      refine hK _ _ trivial ?_
      clear hK K g9 b9 hz9
      obtain ⟨xa, xn, xc, rfl⟩ := o9.shape3
      refine ak 9 (fun K hK => ?_)
      go_wp2_with fail
      refine hK _ _ trivial ?_
      clear hK K
      refine ak 10 (fun K hK => ?_)
      go_wp2_with fail
      refine hK _ _ trivial ?_
      clear hK K
      refine ak 11 (fun K hK => ?_)
      refine opw_set (.tmp 45) (.tmp 43) rfl m 3 _ rfl rfl S9.out.2.2 (by kernel_rfl) rfl rfl (by simp) ?_
      intro w10 k10 g10 s10
      have hz9 := S9.out.2.2.lt
      have h10 := And.intro (H9.out.1.grown g10 (fun k hk => by cases hk; exact Nat.lt_succ_self _)) (H9.out.2.grown g10 (fun k hk => by cases hk; exact Nat.lt_succ_self _))
      have o10 := o9.grown g10 (fun k hk => by cases hk; exact Nat.lt_succ_self _)
      have c10 : Cr w10 r s' := S9.out.2.1.blk (g10.block r (by omega) (by simp; omega))
      have B10 : Below r w w10 := S9.out.1.grown g10 (by have := S9.out.1.size; omega) (fun k hk => by cases hk; omega)
      refine hK _ _ trivial ?_
      clear hK K
      refine wpAnyH_done (by kernel_rfl) ?_ _
      go_wp2_with fail
      go_end0
      exact HF.out _ _ ⟨B10, .inl ⟨⟨q.a, q.b, q.ns, q.ts ++ [p], q.ps⟩, s', by rw [HPD.out, hp]; rfl, rfl, c10, ⟨vn, _, vp, k10, h10.1, o10, h10.2⟩⟩⟩
    · go_wp2_with fail
      have bn5 := below_new w3 (.cells #[str p] 9)
      have S5 : Hid (Below r w (w3.alloc (.cells #[str p] 9)) ∧ Cr (w3.alloc (.cells #[str p] 9)) r s' ∧ Blk (w3.alloc (.cells #[str p] 9)) m (mtA q.a q.b vn vt vp) 26 ∧ OwnI (w3.alloc (.cells #[str p] 9)) (m + 1) vn q.ns ∧ OwnT (w3.alloc (.cells #[str p] 9)) (m + 1) vt q.ts ∧ OwnP (w3.alloc (.cells #[str p] 9)) (m + 1) vp q.ps) := ⟨S3.out.1.trans (bn5.mono (by have := S3.out.2.2.1.lt; omega)), S3.out.2.1.blk (bn5.block r S3.out.2.1.lt), S3.out.2.2.1.on bn5, S3.out.2.2.2.1.up bn5, S3.out.2.2.2.2.1.up bn5, S3.out.2.2.2.2.2.up bn5⟩
      have CE5 : Hid ((w3.alloc (.cells #[str p] 9)).cell? ⟨w3.heap.size, 0, none⟩ = some (str p)) := (Blk.new w3 #[str p] 9).cell 0
      refine hK _ _ trivial ?_
      clear hK K bn5
      generalize w3.heap.size = g5 at *
      generalize w3.alloc (.cells #[str p] 9) = w5 at *
      refine ak 4 (fun K hK => ?_)
      have d3 := S5.out.2.2.1.cell 3
      simp only [List.getElem?_toArray, List.getElem?_cons_zero, List.getElem?_cons_succ] at d3
      go_wp2_with fail
      refine hK _ _ trivial ?_
      clear hK K d3
      refine ak 8 (fun K hK => ?_)
      have hz9 := S5.out.2.2.1.lt
      refine appT (.tmp 39) (.tmp 42) rfl (m + 1) vt q.ts p w5 g5 rfl S5.out.2.2.2.2.1 rfl CE5.out hl hz9 ?_
      intro v9 w9 o9 g9
      have hrow : ∀ k, vt.ownBlock = some k → m + 1 ≤ k := fun k hk => (World.ownsRow.lt S5.out.2.2.2.2.1 k hk).1
      have b9 : Below (m + 1) w5 w9 := (Below.refl _ _).grown g9 (by omega) hrow
      have S9 : Hid (Below r w w9 ∧ Cr w9 r s' ∧ Blk w9 m (mtA q.a q.b vn vt vp) 26) := ⟨S5.out.1.trans (b9.mono (by omega)), S5.out.2.1.blk (b9.block r (by omega)), S5.out.2.2.1.below b9 (Nat.lt_succ_self m)⟩
      have H9 : Hid (OwnI w9 (m + 1) vn q.ns ∧ OwnP w9 (m + 1) vp q.ps) := ⟨World.ownsRow.kept S5.out.2.2.2.1 g9 (ne_block S5.out.2.2.2.2.1 S5.out.2.2.2.1 (by decide)), World.ownsRow.kept S5.out.2.2.2.2.2 g9 (ne_block S5.out.2.2.2.2.1 S5.out.2.2.2.2.2 (by decide))⟩
      refine hK _ _ trivial ?_
      clear hK K g9 b9 hz9
      obtain ⟨xa, xn, xc, rfl⟩ := o9.shape3
      refine ak 9 (fun K hK => ?_)
      go_wp2_with fail
      refine hK _ _ trivial ?_
      clear hK K
      refine ak 10 (fun K hK => ?_)
      go_wp2_with fail
      refine hK _ _ trivial ?_
      clear hK K
      refine ak 11 (fun K hK => ?_)
      refine opw_set (.tmp 45) (.tmp 43) rfl m 3 _ rfl rfl S9.out.2.2 (by kernel_rfl) rfl rfl (by simp) ?_
      intro w10 k10 g10 s10
      have hz9 := S9.out.2.2.lt
      have h10 := And.intro (H9.out.1.grown g10 (fun k hk => by cases hk; exact Nat.lt_succ_self _)) (H9.out.2.grown g10 (fun k hk => by cases hk; exact Nat.lt_succ_self _))
      have o10 := o9.grown g10 (fun k hk => by cases hk; exact Nat.lt_succ_self _)
      have c10 : Cr w10 r s' := S9.out.2.1.blk (g10.block r (by omega) (by simp; omega))
      have B10 : Below r w w10 := S9.out.1.grown g10 (by have := S9.out.1.size; omega) (fun k hk => by cases hk; omega)
      refine hK _ _ trivial ?_
      clear hK K
      refine wpAnyH_done (by kernel_rfl) ?_ _
      go_wp2_with fail
      go_end0
      exact HF.out _ _ ⟨B10, .inl ⟨⟨q.a, q.b, q.ns, q.ts ++ [p], q.ps⟩, s', by rw [HPD.out, hp]; rfl, rfl, c10, ⟨vn, _, vp, k10, h10.1, o10, h10.2⟩⟩⟩
set_option maxHeartbeats 4000000 in
theorem rpart_n (w : World) (r m c : Nat) (s : List UInt8) (q : Dq) (h1 : c ≠ 115) (h2 : c ≠ 83) (h3 : c ≠ 84) (hr : Cr w r s) (hrm : r < m) (hM : Mst w m q) (hs : s.length ≤ 140737488355328) (hl : q.ns.length + 1 ≤ 1000000000) :
    Calls Tryz.prog 40 #[.pointer (some ⟨r, 0, none⟩), .int .u8 (c : Int), .pointer (some ⟨m, 0, none⟩)] w fun e w' => RpA w w' r m c s q e := by
  obtain ⟨gu, hg⟩ : ∃ gu, gup 11 = gu := ⟨_, rfl⟩
  obtain ⟨vn, vt, vp, kM, oi, ot, op⟩ := hM
  have hmw := kM.lt
  have HPD : Hid (partD c s q = (cwhole (wid c) s).map fun x => (⟨q.a, q.b, q.ns ++ [(x.1 : Int)], q.ts, q.ps⟩, x.2)) := by
    show _ = _
    unfold partD
    rw [if_neg h1, if_neg h2, if_neg h3]
  have N := fun (w' : World) (hc : Cr w' r s) => cwhole_any w' r (wid c) s hc hc.lt hs (by rcases wid_is c with h | h | h | h <;> omega)
  have WD := fun w => width_any w c
  obtain ⟨k, hk⟩ : ∃ k, wid c = k := ⟨_, rfl⟩
  rw [hk] at N HPD WD
  rw [hg] at N
  have HF : Hid (∀ w' e, (Below r w w' ∧ ((∃ q' s', partD c s q = some (q', s') ∧ e = .returned (.tuple #[]) ∧ Cr w' r s' ∧ Mst w' m q') ∨ (partD c s q = none ∧ e = .panicked gu))) → RpA w w' r m c s q e) := by rw [← hg]; exact fun w' e h => h
  have b1 : ((c : Int) == 115) = false := by simp; omega
  have b2 : ((c : Int) == 83) = false := by simp; omega
  have b3 : ((c : Int) == 84) = false := by simp; omega
  clear hg
  generalize partD c s q = PD at *
  generalize cwhole k s = PC at *
  go_enter Tryz.func40, Tryz.ntmps40
  go_wp2_with fail
  refine wp_region_held (S := fun _ => True) hmix ?_
  show wpAnyH _ _ _ _ _ _ _ _ (World.drew _)
  have b0 : Below w.heap.size w w.drew := (Below.refl _ _).drew
  have W0 : Hid (Below r w w.drew ∧ Cr w.drew r s ∧ Blk w.drew m (mtA q.a q.b vn vt vp) 26 ∧ OwnI w.drew (m + 1) vn q.ns ∧ OwnT w.drew (m + 1) vt q.ts ∧ OwnP w.drew (m + 1) vp q.ps) := ⟨b0.mono (by omega), hr.blk rfl, kM.on b0, oi.up b0, ot.up b0, op.up b0⟩
  have hz0 : m < w.drew.heap.size := hmw
  clear hr kM oi ot op b0
  generalize w.drew = w0 at *
  refine tks [0, 1, 2, 3, 5, 6] [.pointer (some ⟨m, 0, none⟩), .pointer (some ⟨m, 0, none⟩), .pointer (some ⟨m, 0, none⟩), .pointer (some ⟨m, 2, none⟩), .pointer (some ⟨r, 0, none⟩), .int .u8 (c : Int)] 8 ?_ trivial ?_
  · simp only [tkY, tkf]
    refine ⟨.yes ?_, .yes ?_, .yes ?_, .yes ?_, .yes ?_, .yes ?_, trivial⟩
    all_goals
      intro W' hW'
      go_simp
  simp only [tkA, tkf]
  refine ak2 4 7 (fun K hK => ?_) (fun K hK => ?_)
  · have d2 := W0.out.2.2.1.cell 2
    simp only [List.getElem?_toArray, List.getElem?_cons_zero, List.getElem?_cons_succ] at d2
    go_wp2_with fail
    refine hK _ _ trivial ?_
    clear hK K d2
    refine ak 7 (fun K hK => ?_)
    go_wp2_with (go_at_call 49; refine (WD _).mono ?_; rintro e w0 ⟨rfl, rfl⟩)
    refine hK _ _ trivial ?_
    clear hK K
    refine ak 8 (fun K hK => ?_)
    have hz1 := W0.out.2.2.1.lt
    have N1 := N w0 W0.out.2.1
    go_wp2_with (go_at_call 39; refine N1.mono ?_; rintro e w1 ⟨hA1, ⟨p, s', hp, hpn, rfl, hc1⟩ | ⟨hp, rfl⟩⟩)
    rotate_left
    · exact ⟨rfl, HF.out _ _ ⟨W0.out.1.trans ⟨hA1.os, hA1.tape, hA1.output, hA1.size, fun k hk => hA1.block k (by omega) (by omega)⟩, .inr ⟨by rw [HPD.out, hp]; rfl, rfl⟩⟩⟩
    have S1 : Hid (Below r w w1 ∧ Cr w1 r s' ∧ Blk w1 m (mtA q.a q.b vn vt vp) 26 ∧ OwnI w1 (m + 1) vn q.ns ∧ OwnT w1 (m + 1) vt q.ts ∧ OwnP w1 (m + 1) vp q.ps) := ⟨W0.out.1.trans ⟨hA1.os, hA1.tape, hA1.output, hA1.size, fun k hk => hA1.block k (by omega) (by omega)⟩, hc1, ⟨by rw [hA1.block m (by omega) (by omega)]; exact W0.out.2.2.1.h⟩, W0.out.2.2.2.1.alb hA1 (by omega), W0.out.2.2.2.2.1.alb hA1 (by omega), W0.out.2.2.2.2.2.alb hA1 (by omega)⟩
    refine hK _ _ trivial ?_
    clear hK K N1 hc1 hA1
    refine ak 9 (fun K hK => ?_)
    go_wp2_with fail
    have bn2 := below_new w1 (.cells #[.int .i64 (p : Int)] 3)
    have S2 : Hid (Below r w (w1.alloc (.cells #[.int .i64 (p : Int)] 3)) ∧ Cr (w1.alloc (.cells #[.int .i64 (p : Int)] 3)) r s' ∧ Blk (w1.alloc (.cells #[.int .i64 (p : Int)] 3)) m (mtA q.a q.b vn vt vp) 26 ∧ OwnI (w1.alloc (.cells #[.int .i64 (p : Int)] 3)) (m + 1) vn q.ns ∧ OwnT (w1.alloc (.cells #[.int .i64 (p : Int)] 3)) (m + 1) vt q.ts ∧ OwnP (w1.alloc (.cells #[.int .i64 (p : Int)] 3)) (m + 1) vp q.ps) := ⟨S1.out.1.trans (bn2.mono (by have := S1.out.2.2.1.lt; omega)), S1.out.2.1.blk (bn2.block r S1.out.2.1.lt), S1.out.2.2.1.on bn2, S1.out.2.2.2.1.up bn2, S1.out.2.2.2.2.1.up bn2, S1.out.2.2.2.2.2.up bn2⟩
    have CE2 : Hid ((w1.alloc (.cells #[.int .i64 (p : Int)] 3)).cell? ⟨w1.heap.size, 0, none⟩ = some (.int .i64 (p : Int))) := (Blk.new w1 #[.int .i64 (p : Int)] 3).cell 0
    refine hK _ _ trivial ?_
    clear hK K bn2
    generalize w1.heap.size = g2 at *
    generalize w1.alloc (.cells #[.int .i64 (p : Int)] 3) = w2 at *
    refine ak 10 (fun K hK => ?_)
    have hz9 := S2.out.2.2.1.lt
    refine appI (.tmp 11) (.tmp 16) rfl (m + 1) vn q.ns (p : Int) w2 g2 rfl S2.out.2.2.2.1 rfl CE2.out hl hz9 ?_
    intro v9 w9 o9 g9
    have hrow : ∀ k, vn.ownBlock = some k → m + 1 ≤ k := fun k hk => (World.ownsRow.lt S2.out.2.2.2.1 k hk).1
    have b9 : Below (m + 1) w2 w9 := (Below.refl _ _).grown g9 (by omega) hrow
    have S9 : Hid (Below r w w9 ∧ Cr w9 r s' ∧ Blk w9 m (mtA q.a q.b vn vt vp) 26) := ⟨S2.out.1.trans (b9.mono (by omega)), S2.out.2.1.blk (b9.block r (by omega)), S2.out.2.2.1.below b9 (Nat.lt_succ_self m)⟩
    have H9 : Hid (OwnT w9 (m + 1) vt q.ts ∧ OwnP w9 (m + 1) vp q.ps) := ⟨World.ownsRow.kept S2.out.2.2.2.2.1 g9 (ne_block S2.out.2.2.2.1 S2.out.2.2.2.2.1 (by decide)), World.ownsRow.kept S2.out.2.2.2.2.2 g9 (ne_block S2.out.2.2.2.1 S2.out.2.2.2.2.2 (by decide))⟩
    refine hK _ _ trivial ?_
    clear hK K g9 b9 hz9
    obtain ⟨xa, xn, xc, rfl⟩ := o9.shape3
    refine ak 11 (fun K hK => ?_)
    go_wp2_with fail
    refine hK _ _ trivial ?_
    clear hK K
    refine ak 12 (fun K hK => ?_)
    go_wp2_with fail
    refine hK _ _ trivial ?_
    clear hK K
    refine ak 13 (fun K hK => ?_)
    refine opw_set (.tmp 19) (.tmp 17) rfl m 2 _ rfl rfl S9.out.2.2 (by kernel_rfl) rfl rfl (by simp) ?_
    intro w10 k10 g10 s10
    have hz9 := S9.out.2.2.lt
    have h10 := And.intro (H9.out.1.grown g10 (fun k hk => by cases hk; exact Nat.lt_succ_self _)) (H9.out.2.grown g10 (fun k hk => by cases hk; exact Nat.lt_succ_self _))
    have o10 := o9.grown g10 (fun k hk => by cases hk; exact Nat.lt_succ_self _)
    have c10 : Cr w10 r s' := S9.out.2.1.blk (g10.block r (by omega) (by simp; omega))
    have B10 : Below r w w10 := S9.out.1.grown g10 (by have := S9.out.1.size; omega) (fun k hk => by cases hk; omega)
    refine hK _ _ trivial ?_
    clear hK K
    refine wpAnyH_done (by kernel_rfl) ?_ _
    go_wp2_with fail
    go_end0
    exact HF.out _ _ ⟨B10, .inl ⟨⟨q.a, q.b, q.ns ++ [(p : Int)], q.ts, q.ps⟩, s', by rw [HPD.out, hp]; rfl, rfl, c10, ⟨_, vt, vp, k10, o10, h10.1, h10.2⟩⟩⟩
  · go_wp2_with (go_at_call 49; refine (WD _).mono ?_; rintro e w0 ⟨rfl, rfl⟩)
    refine hK _ _ trivial ?_
    clear hK K
    refine ak2 4 8 (fun K hK => ?_) (fun K hK => ?_)
    · have d2 := W0.out.2.2.1.cell 2
      simp only [List.getElem?_toArray, List.getElem?_cons_zero, List.getElem?_cons_succ] at d2
      go_wp2_with fail
      refine hK _ _ trivial ?_
      clear hK K d2
      refine ak 8 (fun K hK => ?_)
      have hz3 := W0.out.2.2.1.lt
      have N3 := N w0 W0.out.2.1
      go_wp2_with (go_at_call 39; refine N3.mono ?_; rintro e w3 ⟨hA3, ⟨p, s', hp, hpn, rfl, hc3⟩ | ⟨hp, rfl⟩⟩)
      rotate_left
      · exact ⟨rfl, HF.out _ _ ⟨W0.out.1.trans ⟨hA3.os, hA3.tape, hA3.output, hA3.size, fun k hk => hA3.block k (by omega) (by omega)⟩, .inr ⟨by rw [HPD.out, hp]; rfl, rfl⟩⟩⟩
      have S3 : Hid (Below r w w3 ∧ Cr w3 r s' ∧ Blk w3 m (mtA q.a q.b vn vt vp) 26 ∧ OwnI w3 (m + 1) vn q.ns ∧ OwnT w3 (m + 1) vt q.ts ∧ OwnP w3 (m + 1) vp q.ps) := ⟨W0.out.1.trans ⟨hA3.os, hA3.tape, hA3.output, hA3.size, fun k hk => hA3.block k (by omega) (by omega)⟩, hc3, ⟨by rw [hA3.block m (by omega) (by omega)]; exact W0.out.2.2.1.h⟩, W0.out.2.2.2.1.alb hA3 (by omega), W0.out.2.2.2.2.1.alb hA3 (by omega), W0.out.2.2.2.2.2.alb hA3 (by omega)⟩
      refine hK _ _ trivial ?_
      clear hK K N3 hc3 hA3
      refine ak 9 (fun K hK => ?_)
      go_wp2_with fail
      have bn4 := below_new w3 (.cells #[.int .i64 (p : Int)] 3)
      have S4 : Hid (Below r w (w3.alloc (.cells #[.int .i64 (p : Int)] 3)) ∧ Cr (w3.alloc (.cells #[.int .i64 (p : Int)] 3)) r s' ∧ Blk (w3.alloc (.cells #[.int .i64 (p : Int)] 3)) m (mtA q.a q.b vn vt vp) 26 ∧ OwnI (w3.alloc (.cells #[.int .i64 (p : Int)] 3)) (m + 1) vn q.ns ∧ OwnT (w3.alloc (.cells #[.int .i64 (p : Int)] 3)) (m + 1) vt q.ts ∧ OwnP (w3.alloc (.cells #[.int .i64 (p : Int)] 3)) (m + 1) vp q.ps) := ⟨S3.out.1.trans (bn4.mono (by have := S3.out.2.2.1.lt; omega)), S3.out.2.1.blk (bn4.block r S3.out.2.1.lt), S3.out.2.2.1.on bn4, S3.out.2.2.2.1.up bn4, S3.out.2.2.2.2.1.up bn4, S3.out.2.2.2.2.2.up bn4⟩
      have CE4 : Hid ((w3.alloc (.cells #[.int .i64 (p : Int)] 3)).cell? ⟨w3.heap.size, 0, none⟩ = some (.int .i64 (p : Int))) := (Blk.new w3 #[.int .i64 (p : Int)] 3).cell 0
      refine hK _ _ trivial ?_
      clear hK K bn4
      generalize w3.heap.size = g4 at *
      generalize w3.alloc (.cells #[.int .i64 (p : Int)] 3) = w4 at *
      refine ak 10 (fun K hK => ?_)
      have hz9 := S4.out.2.2.1.lt
      refine appI (.tmp 11) (.tmp 16) rfl (m + 1) vn q.ns (p : Int) w4 g4 rfl S4.out.2.2.2.1 rfl CE4.out hl hz9 ?_
      intro v9 w9 o9 g9
      have hrow : ∀ k, vn.ownBlock = some k → m + 1 ≤ k := fun k hk => (World.ownsRow.lt S4.out.2.2.2.1 k hk).1
      have b9 : Below (m + 1) w4 w9 := (Below.refl _ _).grown g9 (by omega) hrow
      have S9 : Hid (Below r w w9 ∧ Cr w9 r s' ∧ Blk w9 m (mtA q.a q.b vn vt vp) 26) := ⟨S4.out.1.trans (b9.mono (by omega)), S4.out.2.1.blk (b9.block r (by omega)), S4.out.2.2.1.below b9 (Nat.lt_succ_self m)⟩
      have H9 : Hid (OwnT w9 (m + 1) vt q.ts ∧ OwnP w9 (m + 1) vp q.ps) := ⟨World.ownsRow.kept S4.out.2.2.2.2.1 g9 (ne_block S4.out.2.2.2.1 S4.out.2.2.2.2.1 (by decide)), World.ownsRow.kept S4.out.2.2.2.2.2 g9 (ne_block S4.out.2.2.2.1 S4.out.2.2.2.2.2 (by decide))⟩
      refine hK _ _ trivial ?_
      clear hK K g9 b9 hz9
      obtain ⟨xa, xn, xc, rfl⟩ := o9.shape3
      refine ak 11 (fun K hK => ?_)
      go_wp2_with fail
      refine hK _ _ trivial ?_
      clear hK K
      refine ak 12 (fun K hK => ?_)
      go_wp2_with fail
      refine hK _ _ trivial ?_
      clear hK K
      refine ak 13 (fun K hK => ?_)
      refine opw_set (.tmp 19) (.tmp 17) rfl m 2 _ rfl rfl S9.out.2.2 (by kernel_rfl) rfl rfl (by simp) ?_
      intro w10 k10 g10 s10
      have hz9 := S9.out.2.2.lt
      have h10 := And.intro (H9.out.1.grown g10 (fun k hk => by cases hk; exact Nat.lt_succ_self _)) (H9.out.2.grown g10 (fun k hk => by cases hk; exact Nat.lt_succ_self _))
      have o10 := o9.grown g10 (fun k hk => by cases hk; exact Nat.lt_succ_self _)
      have c10 : Cr w10 r s' := S9.out.2.1.blk (g10.block r (by omega) (by simp; omega))
      have B10 : Below r w w10 := S9.out.1.grown g10 (by have := S9.out.1.size; omega) (fun k hk => by cases hk; omega)
      refine hK _ _ trivial ?_
      clear hK K
      refine wpAnyH_done (by kernel_rfl) ?_ _
      go_wp2_with fail
      go_end0
      exact HF.out _ _ ⟨B10, .inl ⟨⟨q.a, q.b, q.ns ++ [(p : Int)], q.ts, q.ps⟩, s', by rw [HPD.out, hp]; rfl, rfl, c10, ⟨_, vt, vp, k10, o10, h10.1, h10.2⟩⟩⟩
    · have hz5 := W0.out.2.2.1.lt
      have N5 := N w0 W0.out.2.1
      go_wp2_with (go_at_call 39; refine N5.mono ?_; rintro e w5 ⟨hA5, ⟨p, s', hp, hpn, rfl, hc5⟩ | ⟨hp, rfl⟩⟩)
      rotate_left
      · exact ⟨rfl, HF.out _ _ ⟨W0.out.1.trans ⟨hA5.os, hA5.tape, hA5.output, hA5.size, fun k hk => hA5.block k (by omega) (by omega)⟩, .inr ⟨by rw [HPD.out, hp]; rfl, rfl⟩⟩⟩
      have S5 : Hid (Below r w w5 ∧ Cr w5 r s' ∧ Blk w5 m (mtA q.a q.b vn vt vp) 26 ∧ OwnI w5 (m + 1) vn q.ns ∧ OwnT w5 (m + 1) vt q.ts ∧ OwnP w5 (m + 1) vp q.ps) := ⟨W0.out.1.trans ⟨hA5.os, hA5.tape, hA5.output, hA5.size, fun k hk => hA5.block k (by omega) (by omega)⟩, hc5, ⟨by rw [hA5.block m (by omega) (by omega)]; exact W0.out.2.2.1.h⟩, W0.out.2.2.2.1.alb hA5 (by omega), W0.out.2.2.2.2.1.alb hA5 (by omega), W0.out.2.2.2.2.2.alb hA5 (by omega)⟩
      refine hK _ _ trivial ?_
      clear hK K N5 hc5 hA5
      refine ak2 4 9 (fun K hK => ?_) (fun K hK => ?_)
      · have d2 := S5.out.2.2.1.cell 2
        simp only [List.getElem?_toArray, List.getElem?_cons_zero, List.getElem?_cons_succ] at d2
        go_wp2_with fail
        refine hK _ _ trivial ?_
        clear hK K d2
        refine ak 9 (fun K hK => ?_)
        go_wp2_with fail
        have bn6 := below_new w5 (.cells #[.int .i64 (p : Int)] 3)
        have S6 : Hid (Below r w (w5.alloc (.cells #[.int .i64 (p : Int)] 3)) ∧ Cr (w5.alloc (.cells #[.int .i64 (p : Int)] 3)) r s' ∧ Blk (w5.alloc (.cells #[.int .i64 (p : Int)] 3)) m (mtA q.a q.b vn vt vp) 26 ∧ OwnI (w5.alloc (.cells #[.int .i64 (p : Int)] 3)) (m + 1) vn q.ns ∧ OwnT (w5.alloc (.cells #[.int .i64 (p : Int)] 3)) (m + 1) vt q.ts ∧ OwnP (w5.alloc (.cells #[.int .i64 (p : Int)] 3)) (m + 1) vp q.ps) := ⟨S5.out.1.trans (bn6.mono (by have := S5.out.2.2.1.lt; omega)), S5.out.2.1.blk (bn6.block r S5.out.2.1.lt), S5.out.2.2.1.on bn6, S5.out.2.2.2.1.up bn6, S5.out.2.2.2.2.1.up bn6, S5.out.2.2.2.2.2.up bn6⟩
        have CE6 : Hid ((w5.alloc (.cells #[.int .i64 (p : Int)] 3)).cell? ⟨w5.heap.size, 0, none⟩ = some (.int .i64 (p : Int))) := (Blk.new w5 #[.int .i64 (p : Int)] 3).cell 0
        refine hK _ _ trivial ?_
        clear hK K bn6
        generalize w5.heap.size = g6 at *
        generalize w5.alloc (.cells #[.int .i64 (p : Int)] 3) = w6 at *
        refine ak 10 (fun K hK => ?_)
        have hz9 := S6.out.2.2.1.lt
        refine appI (.tmp 11) (.tmp 16) rfl (m + 1) vn q.ns (p : Int) w6 g6 rfl S6.out.2.2.2.1 rfl CE6.out hl hz9 ?_
        intro v9 w9 o9 g9
        have hrow : ∀ k, vn.ownBlock = some k → m + 1 ≤ k := fun k hk => (World.ownsRow.lt S6.out.2.2.2.1 k hk).1
        have b9 : Below (m + 1) w6 w9 := (Below.refl _ _).grown g9 (by omega) hrow
        have S9 : Hid (Below r w w9 ∧ Cr w9 r s' ∧ Blk w9 m (mtA q.a q.b vn vt vp) 26) := ⟨S6.out.1.trans (b9.mono (by omega)), S6.out.2.1.blk (b9.block r (by omega)), S6.out.2.2.1.below b9 (Nat.lt_succ_self m)⟩
        have H9 : Hid (OwnT w9 (m + 1) vt q.ts ∧ OwnP w9 (m + 1) vp q.ps) := ⟨World.ownsRow.kept S6.out.2.2.2.2.1 g9 (ne_block S6.out.2.2.2.1 S6.out.2.2.2.2.1 (by decide)), World.ownsRow.kept S6.out.2.2.2.2.2 g9 (ne_block S6.out.2.2.2.1 S6.out.2.2.2.2.2 (by decide))⟩
        refine hK _ _ trivial ?_
        clear hK K g9 b9 hz9
        obtain ⟨xa, xn, xc, rfl⟩ := o9.shape3
        refine ak 11 (fun K hK => ?_)
        go_wp2_with fail
        refine hK _ _ trivial ?_
        clear hK K
        refine ak 12 (fun K hK => ?_)
        go_wp2_with fail
        refine hK _ _ trivial ?_
        clear hK K
        refine ak 13 (fun K hK => ?_)
        refine opw_set (.tmp 19) (.tmp 17) rfl m 2 _ rfl rfl S9.out.2.2 (by kernel_rfl) rfl rfl (by simp) ?_
        intro w10 k10 g10 s10
        have hz9 := S9.out.2.2.lt
        have h10 := And.intro (H9.out.1.grown g10 (fun k hk => by cases hk; exact Nat.lt_succ_self _)) (H9.out.2.grown g10 (fun k hk => by cases hk; exact Nat.lt_succ_self _))
        have o10 := o9.grown g10 (fun k hk => by cases hk; exact Nat.lt_succ_self _)
        have c10 : Cr w10 r s' := S9.out.2.1.blk (g10.block r (by omega) (by simp; omega))
        have B10 : Below r w w10 := S9.out.1.grown g10 (by have := S9.out.1.size; omega) (fun k hk => by cases hk; omega)
        refine hK _ _ trivial ?_
        clear hK K
        refine wpAnyH_done (by kernel_rfl) ?_ _
        go_wp2_with fail
        go_end0
        exact HF.out _ _ ⟨B10, .inl ⟨⟨q.a, q.b, q.ns ++ [(p : Int)], q.ts, q.ps⟩, s', by rw [HPD.out, hp]; rfl, rfl, c10, ⟨_, vt, vp, k10, o10, h10.1, h10.2⟩⟩⟩
      · go_wp2_with fail
        have bn7 := below_new w5 (.cells #[.int .i64 (p : Int)] 3)
        have S7 : Hid (Below r w (w5.alloc (.cells #[.int .i64 (p : Int)] 3)) ∧ Cr (w5.alloc (.cells #[.int .i64 (p : Int)] 3)) r s' ∧ Blk (w5.alloc (.cells #[.int .i64 (p : Int)] 3)) m (mtA q.a q.b vn vt vp) 26 ∧ OwnI (w5.alloc (.cells #[.int .i64 (p : Int)] 3)) (m + 1) vn q.ns ∧ OwnT (w5.alloc (.cells #[.int .i64 (p : Int)] 3)) (m + 1) vt q.ts ∧ OwnP (w5.alloc (.cells #[.int .i64 (p : Int)] 3)) (m + 1) vp q.ps) := ⟨S5.out.1.trans (bn7.mono (by have := S5.out.2.2.1.lt; omega)), S5.out.2.1.blk (bn7.block r S5.out.2.1.lt), S5.out.2.2.1.on bn7, S5.out.2.2.2.1.up bn7, S5.out.2.2.2.2.1.up bn7, S5.out.2.2.2.2.2.up bn7⟩
        have CE7 : Hid ((w5.alloc (.cells #[.int .i64 (p : Int)] 3)).cell? ⟨w5.heap.size, 0, none⟩ = some (.int .i64 (p : Int))) := (Blk.new w5 #[.int .i64 (p : Int)] 3).cell 0
        refine hK _ _ trivial ?_
        clear hK K bn7
        generalize w5.heap.size = g7 at *
        generalize w5.alloc (.cells #[.int .i64 (p : Int)] 3) = w7 at *
        refine ak 4 (fun K hK => ?_)
        have d2 := S7.out.2.2.1.cell 2
        simp only [List.getElem?_toArray, List.getElem?_cons_zero, List.getElem?_cons_succ] at d2
        go_wp2_with fail
        refine hK _ _ trivial ?_
        clear hK K d2
        refine ak 10 (fun K hK => ?_)
        have hz9 := S7.out.2.2.1.lt
        refine appI (.tmp 11) (.tmp 16) rfl (m + 1) vn q.ns (p : Int) w7 g7 rfl S7.out.2.2.2.1 rfl CE7.out hl hz9 ?_
        intro v9 w9 o9 g9
        have hrow : ∀ k, vn.ownBlock = some k → m + 1 ≤ k := fun k hk => (World.ownsRow.lt S7.out.2.2.2.1 k hk).1
        have b9 : Below (m + 1) w7 w9 := (Below.refl _ _).grown g9 (by omega) hrow
        have S9 : Hid (Below r w w9 ∧ Cr w9 r s' ∧ Blk w9 m (mtA q.a q.b vn vt vp) 26) := ⟨S7.out.1.trans (b9.mono (by omega)), S7.out.2.1.blk (b9.block r (by omega)), S7.out.2.2.1.below b9 (Nat.lt_succ_self m)⟩
        have H9 : Hid (OwnT w9 (m + 1) vt q.ts ∧ OwnP w9 (m + 1) vp q.ps) := ⟨World.ownsRow.kept S7.out.2.2.2.2.1 g9 (ne_block S7.out.2.2.2.1 S7.out.2.2.2.2.1 (by decide)), World.ownsRow.kept S7.out.2.2.2.2.2 g9 (ne_block S7.out.2.2.2.1 S7.out.2.2.2.2.2 (by decide))⟩
        refine hK _ _ trivial ?_
        clear hK K g9 b9 hz9
        obtain ⟨xa, xn, xc, rfl⟩ := o9.shape3
        refine ak 11 (fun K hK => ?_)
        go_wp2_with fail
        refine hK _ _ trivial ?_
        clear hK K
        refine ak 12 (fun K hK => ?_)
        go_wp2_with fail
        refine hK _ _ trivial ?_
        clear hK K
        refine ak 13 (fun K hK => ?_)
        refine opw_set (.tmp 19) (.tmp 17) rfl m 2 _ rfl rfl S9.out.2.2 (by kernel_rfl) rfl rfl (by simp) ?_
        intro w10 k10 g10 s10
        have hz9 := S9.out.2.2.lt
        have h10 := And.intro (H9.out.1.grown g10 (fun k hk => by cases hk; exact Nat.lt_succ_self _)) (H9.out.2.grown g10 (fun k hk => by cases hk; exact Nat.lt_succ_self _))
        have o10 := o9.grown g10 (fun k hk => by cases hk; exact Nat.lt_succ_self _)
        have c10 : Cr w10 r s' := S9.out.2.1.blk (g10.block r (by omega) (by simp; omega))
        have B10 : Below r w w10 := S9.out.1.grown g10 (by have := S9.out.1.size; omega) (fun k hk => by cases hk; omega)
        refine hK _ _ trivial ?_
        clear hK K
        refine wpAnyH_done (by kernel_rfl) ?_ _
        go_wp2_with fail
        go_end0
        exact HF.out _ _ ⟨B10, .inl ⟨⟨q.a, q.b, q.ns ++ [(p : Int)], q.ts, q.ps⟩, s', by rw [HPD.out, hp]; rfl, rfl, c10, ⟨_, vt, vp, k10, o10, h10.1, h10.2⟩⟩⟩
set_option maxHeartbeats 1000000 in
theorem rpart_t (w : World) (r m : Nat) (s : List UInt8) (q : Dq) (hr : Cr w r s) (hrm : r < m) (hM : Mst w m q) (hs : s.length ≤ 140737488355328) :
    Calls Tryz.prog 40 #[.pointer (some ⟨r, 0, none⟩), .int .u8 84, .pointer (some ⟨m, 0, none⟩)] w fun e w' => RpA w w' r m 84 s q e := by
  obtain ⟨gu, hg⟩ : ∃ gu, gup 11 = gu := ⟨_, rfl⟩
  obtain ⟨vn, vt, vp, kM, oi, ot, op⟩ := hM
  have hmw := kM.lt
  have HPD : Hid (partD 84 s q = (ctab s).map fun x => (⟨q.a, q.b, q.ns, q.ts, x.1⟩, x.2)) := by
    show _ = _
    unfold partD
    rw [if_neg (by decide), if_neg (by decide)]; rfl
  have N := ctable_any w r s hr hr.lt hs
  rw [hg] at N
  have HF : Hid (∀ w' e, (Below r w w' ∧ ((∃ q' s', partD 84 s q = some (q', s') ∧ e = .returned (.tuple #[]) ∧ Cr w' r s' ∧ Mst w' m q') ∨ (partD 84 s q = none ∧ e = .panicked gu))) → RpA w w' r m 84 s q e) := by rw [← hg]; exact fun w' e h => h
  have b1 : ((84 : Int) == 115) = false := rfl
  have b2 : ((84 : Int) == 83) = false := rfl
  have b3 : ((84 : Int) == 84) = true := rfl
  clear hg
  generalize partD 84 s q = PD at *
  generalize ctab s = PC at *
  go_enter Tryz.func40, Tryz.ntmps40
  go_wp2_with (first | (go_at_call 58; refine N.mono ?_; rintro e w1 ⟨hA, ⟨v, L, s', hp, rfl, o1, hc⟩ | ⟨hp, rfl⟩⟩) | (obtain ⟨x1, x2, rfl⟩ := o1.rd.shape; refine wpl_set rfl (.tmp 52) (.tmp 50) rfl m 4 _ rfl rfl ⟨by rw [hA.block m hmw (by omega)]; exact kM.h⟩ (by kernel_rfl) rfl rfl (by simp) ?_))
  · have k1 : Blk w1 m (mtA q.a q.b vn vt vp) 26 := ⟨by rw [hA.block m hmw (by omega)]; exact kM.h⟩
    intro w2 k2 g2 s2
    have hz := k1.lt
    have B1 : Below r w w1 := ⟨hA.os, hA.tape, hA.output, hA.size, fun k hk => hA.block k (by omega) (by omega)⟩
    have B2 : Below r w w2 := B1.grown g2 (by have := B1.size; omega) (fun k hk => by cases hk; omega)
    have c2 : Cr w2 r s' := hc.blk (g2.block r (by omega) (by simp; omega))
    have i2 := (oi.alb hA (by omega)).grown g2 (fun k hk => by cases hk; exact Nat.lt_succ_self _)
    have t2 := (ot.alb hA (by omega)).grown g2 (fun k hk => by cases hk; exact Nat.lt_succ_self _)
    have p2 := (o1.low (show m + 1 ≤ w.heap.size by omega)).grown g2 (fun k hk => by cases hk; exact Nat.lt_succ_self _)
    go_wp2_with fail
    go_end0
    exact HF.out _ _ ⟨B2, .inl ⟨⟨q.a, q.b, q.ns, q.ts, L⟩, s', by rw [HPD.out, hp]; rfl, rfl, c2, ⟨vn, vt, _, k2, i2, t2, p2⟩⟩⟩
  · exact ⟨rfl, HF.out _ _ ⟨⟨hA.os, hA.tape, hA.output, hA.size, fun k hk => hA.block k (by omega) (by omega)⟩, .inr ⟨by rw [HPD.out, hp]; rfl, rfl⟩⟩⟩
theorem rpart_any (w : World) (r m c : Nat) (s : List UInt8) (q : Dq) (hr : Cr w r s) (hrm : r < m) (hM : Mst w m q) (hs : s.length ≤ 140737488355328) (hl : q.ts.length + 1 ≤ 1000000000) (hl2 : q.ns.length + 1 ≤ 1000000000) :
    Calls Tryz.prog 40 #[.pointer (some ⟨r, 0, none⟩), .int .u8 (c : Int), .pointer (some ⟨m, 0, none⟩)] w fun e w' => RpA w w' r m c s q e := by
  by_cases c1 : c = 115
  · subst c1; exact rpart_s w r m s q hr hrm hM hs hl
  by_cases c2 : c = 83
  · subst c2; exact rpart_l w r m s q hr hrm hM hs hl
  by_cases c3 : c = 84
  · subst c3; exact rpart_t w r m s q hr hrm hM hs
  exact rpart_n w r m c s q c1 c2 c3 hr hrm hM hs hl2
end Go.Proofs.YtmaaacaifpgpaaaGreatDoor

namespace Go.Proofs.YtmaaacaifpgpaaaGreatDoor
open Go.RowKit Go.Lib
set_option maxRecDepth 100000
set_option linter.unusedSimpArgs false

theorem beq_l (l m : List UInt8) : (l == m) = decide (l = m) := by
  rw [Bool.eq_iff_iff, beq_iff_eq, decide_eq_true_iff]
/-- What Same answers. -/
def sameM (ca cb : Int) (ns : List Int) (ts : List (List UInt8)) (ps : List Pr) (ca' cb' : Int) (ns' : List Int) (ts' : List (List UInt8)) (ps' : List Pr) : Bool :=
  decide (ca = ca') && (decide (cb = cb') && (decide (ns = ns') && (decide (ts = ts') && sameL ps ps')))
theorem neZ_t {a b : Int} (h : a = b) : (a != b) = false := by subst h; simp
theorem neZ_f {a b : Int} (h : ¬ a = b) : (a != b) = true := by simp [h]
set_option maxHeartbeats 4000000 in
theorem same_no15 (w : World) (ca cb ca' cb' : Int) (na nt np na' nt' np' : Option Addr) (n t p n' t' p' nc tc pc nc' tc' pc' : Nat) (h : ca ≠ ca' ∨ (ca = ca' ∧ cb ≠ cb') ∨ (ca = ca' ∧ cb = cb' ∧ n ≠ n') ∨ (ca = ca' ∧ cb = cb' ∧ n = n' ∧ t ≠ t')) :
    Calls Tryz.prog 12 #[.agg (mtA ca cb (.slice na n nc) (.slice nt t tc) (.slice np p pc)), .agg (mtA ca' cb' (.slice na' n' nc') (.slice nt' t' tc') (.slice np' p' pc'))] w fun e w' => e = .returned (.bool false) ∧ Below w.heap.size w w' := by
  have b1 := below_new w (.cells (mtA ca cb (.slice na n nc) (.slice nt t tc) (.slice np p pc)) 26)
  have b2 := b1.trans ((below_new (w.alloc (.cells (mtA ca cb (.slice na n nc) (.slice nt t tc) (.slice np p pc)) 26)) (.cells (mtA ca' cb' (.slice na' n' nc') (.slice nt' t' tc') (.slice np' p' pc')) 26)).mono b1.size)
  rcases h with h | ⟨h1, h⟩ | ⟨h1, h2, h⟩ | ⟨h1, h2, h3, h⟩
  · have z1 := neZ_f h
    clear h
    go_enter Tryz.func12, Tryz.ntmps12
    go_wp2
    go_ret
    exact ⟨rfl, b2⟩
  · have z1 := neZ_t h1
    have z2 := neZ_f h
    clear h h1
    go_enter Tryz.func12, Tryz.ntmps12
    go_wp2
    go_ret
    exact ⟨rfl, b2⟩
  · have z1 := neZ_t h1
    have z2 := neZ_t h2
    have z3 : ((n : Int) != (n' : Int)) = true := neZ_f (by omega)
    clear h h1 h2
    go_enter Tryz.func12, Tryz.ntmps12
    go_wp2
    go_ret
    exact ⟨rfl, b2⟩
  · have z1 := neZ_t h1
    have z2 := neZ_t h2
    have z3 : ((n : Int) != (n' : Int)) = false := neZ_t (by omega)
    have z4 : ((t : Int) != (t' : Int)) = true := neZ_f (by omega)
    clear h h1 h2 h3
    go_enter Tryz.func12, Tryz.ntmps12
    go_wp2
    go_ret
    exact ⟨rfl, b2⟩
set_option maxHeartbeats 8000000 in
theorem same_len15 (w : World) (ca cb : Int) (na ta na' ta' : Option Addr) (n m nc tc nc' tc' : Nat) (vp vp' : Value) (ns ns' : List Int) (ts ts' : List (List UInt8)) (ps ps' : List Pr)
    (hn : ns.length = n) (hn' : ns'.length = n) (hm : ts.length = m) (hm' : ts'.length = m) (hnm : n + m ≤ 4000000000000000000) (hp : ps.length ≤ 4000000000000000000)
    (h1 : ∀ k (h : k < ns.length), ∃ g o, na = some ⟨g, o, none⟩ ∧ g < w.heap.size ∧ w.cell? ⟨g, o + k, none⟩ = some (.int .i64 ns[k])) (h1' : ∀ k (h : k < ns'.length), ∃ g o, na' = some ⟨g, o, none⟩ ∧ g < w.heap.size ∧ w.cell? ⟨g, o + k, none⟩ = some (.int .i64 ns'[k]))
    (h2 : ∀ k (h : k < ts.length), ∃ g o, ta = some ⟨g, o, none⟩ ∧ g < w.heap.size ∧ w.cell? ⟨g, o + k, none⟩ = some (str ts[k])) (h2' : ∀ k (h : k < ts'.length), ∃ g o, ta' = some ⟨g, o, none⟩ ∧ g < w.heap.size ∧ w.cell? ⟨g, o + k, none⟩ = some (str ts'[k]))
    (hv : RdV w w.heap.size vp ps) (hv' : RdV w w.heap.size vp' ps') :
    Calls Tryz.prog 12 #[.agg (mtA ca cb (.slice na n nc) (.slice ta m tc) vp), .agg (mtA ca cb (.slice na' n nc') (.slice ta' m tc') vp')] w fun e w' => e = .returned (.bool (decide (ns = ns') && (decide (ts = ts') && sameL ps ps'))) ∧ Below w.heap.size w w' := by
  have gn : ∀ (l : List Int) (i : Nat) (h : i < l.length), l.getD i 0 = l[i] := fun m i h => by simp [List.getD_eq_getElem?_getD, h]
  have gt : ∀ (l : List (List UInt8)) (i : Nat) (h : i < l.length), l.getD i [] = l[i] := fun m i h => by simp [List.getD_eq_getElem?_getD, h]
  have H1 : Hid (∀ k, k < n → ∃ g o, na = some ⟨g, o, none⟩ ∧ g < w.heap.size ∧ w.cell? ⟨g, o + k, none⟩ = some (.int .i64 (ns.getD k 0))) := fun k hk => by rw [gn ns k (by omega)]; exact h1 k (by omega)
  have H1' : Hid (∀ k, k < n → ∃ g o, na' = some ⟨g, o, none⟩ ∧ g < w.heap.size ∧ w.cell? ⟨g, o + k, none⟩ = some (.int .i64 (ns'.getD k 0))) := fun k hk => by rw [gn ns' k (by omega)]; exact h1' k (by omega)
  have H2 : Hid (∀ k, k < m → ∃ g o, ta = some ⟨g, o, none⟩ ∧ g < w.heap.size ∧ w.cell? ⟨g, o + k, none⟩ = some (str (ts.getD k []))) := fun k hk => by rw [gt ts k (by omega)]; exact h2 k (by omega)
  have H2' : Hid (∀ k, k < m → ∃ g o, ta' = some ⟨g, o, none⟩ ∧ g < w.heap.size ∧ w.cell? ⟨g, o + k, none⟩ = some (str (ts'.getD k []))) := fun k hk => by rw [gt ts' k (by omega)]; exact h2' k (by omega)
  have F1 : Hid (∀ i, i < n → ns.getD i 0 ≠ ns'.getD i 0 → decide (ns = ns') = false) := fun i hi hne => decide_eq_false (fun e => by subst e; exact hne rfl)
  have T1 : Hid ((∀ i, i < n → ns.getD i 0 = ns'.getD i 0) → decide (ns = ns') = true) := fun h => decide_eq_true (List.ext_getElem (by omega) (fun i h1 h2 => by rw [← gn ns i h1, ← gn ns' i h2]; exact h i (by omega)))
  have F2 : Hid (∀ i, i < m → ts.getD i [] ≠ ts'.getD i [] → decide (ts = ts') = false) := fun i hi hne => decide_eq_false (fun e => by subst e; exact hne rfl)
  have T2 : Hid ((∀ i, i < m → ts.getD i [] = ts'.getD i []) → decide (ts = ts') = true) := fun h => decide_eq_true (List.ext_getElem (by omega) (fun i h1 h2 => by rw [← gt ts i h1, ← gt ts' i h2]; exact h i (by omega)))
  have SL := fun w' (hb : Below w.heap.size w w') => all7 w' vp vp' ps ps' (hv.on hb).rd (hv'.on hb).rd (by omega)
  obtain ⟨pa, pc, e1⟩ := hv.shape
  obtain ⟨pa', pc', e2⟩ := hv'.shape
  subst e1 e2
  clear h1 h1' h2 h2' hn hn' hm hm' gn gt hv hv'
  generalize decide (ns = ns') = D1 at *
  generalize decide (ts = ts') = D2 at *
  have b1 := below_new w (.cells (mtA ca cb (.slice na n nc) (.slice ta m tc) (.slice pa ps.length pc)) 26)
  have k1 := Blk.new w (mtA ca cb (.slice na n nc) (.slice ta m tc) (.slice pa ps.length pc)) 26
  have s1 : (w.alloc (.cells (mtA ca cb (.slice na n nc) (.slice ta m tc) (.slice pa ps.length pc)) 26)).heap.size = w.heap.size + 1 := by simp
  generalize hw1 : w.alloc (.cells (mtA ca cb (.slice na n nc) (.slice ta m tc) (.slice pa ps.length pc)) 26) = w1 at *
  have b2 := b1.trans ((below_new w1 (.cells (mtA ca cb (.slice na' n nc') (.slice ta' m tc') (.slice pa' ps'.length pc')) 26)).mono b1.size)
  have k2 := Blk.new w1 (mtA ca cb (.slice na' n nc') (.slice ta' m tc') (.slice pa' ps'.length pc')) 26
  have k12 := k1.alloc (.cells (mtA ca cb (.slice na' n nc') (.slice ta' m tc') (.slice pa' ps'.length pc')) 26)
  rw [s1] at k2
  generalize hw2 : w1.alloc (.cells (mtA ca cb (.slice na' n nc') (.slice ta' m tc') (.slice pa' ps'.length pc')) 26) = w2 at *
  have e0 := k12.cell 0
  have e1 := k12.cell 1
  have e2 := k12.cell 2
  have e3 := k12.cell 3
  have f0 := k2.cell 0
  have f1 := k2.cell 1
  have f2 := k2.cell 2
  have f3 := k2.cell 3
  simp only [List.getElem?_toArray, List.getElem?_cons_zero, List.getElem?_cons_succ] at e0 e1 e2 e3 f0 f1 f2 f3
  clear k1
  go_enter Tryz.func12, Tryz.ntmps12
  go_upto_region 4 with fail
  clear e0 e1 e2 e3 f0 f1 f2 f3
  go_wp2_with fail
  go_loopw [40] (fun i wr => ∃ k : Nat, k ≤ n ∧ i = .int .i64 k ∧ (∃ q, wr = w2.drewN q) ∧ Hid (∀ j, j < n → j < k → ns.getD j 0 = ns'.getD j 0)) (fun i _ => n - (RowKit.intOf i).toNat)
  case atStart => exact ⟨0, by omega, rfl, ⟨0, rfl⟩, fun j _ h => absurd h (Nat.not_lt_zero _)⟩
  case round =>
    obtain ⟨k, hk, rfl, ⟨q, rfl⟩, HB⟩ := hrel
    by_cases hlt : k < n
    · have bq := below_drewN b2 q
      obtain ⟨g, o, rfl, hg, hc⟩ := H1.out k hlt
      obtain ⟨g', o', rfl, hg', hc'⟩ := H1'.out k hlt
      have a0 : (w2.drewN q).cell? ⟨g, o + k, none⟩ = some (.int .i64 (ns.getD k 0)) := by rw [bq.cell (p := ⟨g, o + k, none⟩) hg]; exact hc
      have a0' : (w2.drewN q).cell? ⟨g', o' + k, none⟩ = some (.int .i64 (ns'.getD k 0)) := by rw [bq.cell (p := ⟨g', o' + k, none⟩) hg']; exact hc'
      have hF := F1.out k hlt
      have HY : Hid (ns.getD k 0 = ns'.getD k 0 → (∀ j, j < n → j < k + 1 → ns.getD j 0 = ns'.getD j 0)) := fun h j hj hj2 => by
        rcases Nat.lt_or_ge j k with h3 | h3
        · exact HB.out j hj h3
        · have : j = k := by omega
          subst this; exact h
      clear hc hc' HB
      generalize ns.getD k 0 = x at *
      generalize ns'.getD k 0 = y at *
      have hkz : (k : Int) < (n : Int) := by omega
      have e1 := (k12.on (below_drewN (Below.refl _ w2) q)).cell 2
      have f1 := (k2.on (below_drewN (Below.refl _ w2) q)).cell 2
      simp only [List.getElem?_toArray, List.getElem?_cons_zero, List.getElem?_cons_succ] at e1 f1
      generalize hwq : w2.drewN q = wq at *
      by_cases hs : x = y
      · have z1 : (x != y) = false := neZ_t hs
        have HY2 := HY.out hs
        clear HY hF hs
        go_upto_region 6 with fail
        go_quiet (fail)
        go_wp2_with fail
        go_roundw
        case rel => exact ⟨k + 1, by omega, by go_num, ⟨q + nq, by rw [← hwq]; simp [World.drewN, Nat.add_assoc]⟩, HY2⟩
        case measure => simp [RowKit.intOf]; omega
      · have hD := hF hs
        have z1 : (x != y) = true := neZ_f hs
        clear HY hF hs
        go_upto_region 6 with fail
        go_quiet (fail)
        go_wp2
        go_ret
        exact ⟨by rw [hD]; first | rfl | simp, below_drewN bq nq⟩
    · obtain rfl : k = n := by omega
      have hD1 := T1.out (fun j hj => HB.out j hj hj)
      subst hD1
      clear HB T1 F1 H1 H1'
      obtain ⟨q0, hq0⟩ : ∃ q0, q0 = q := ⟨_, rfl⟩
      have hkz : ¬ (k : Int) < (k : Int) := by omega
      have e3 := (k12.on (below_drewN (Below.refl _ w2) q)).cell 3
      simp only [List.getElem?_toArray, List.getElem?_cons_zero, List.getElem?_cons_succ] at e3
      go_wp2_with fail
      clear e3 hq0 q0
      go_loopw [58] (fun i wr => ∃ j : Nat, j ≤ m ∧ i = .int .i64 j ∧ (∃ q, wr = w2.drewN q) ∧ Hid (∀ i, i < m → i < j → ts.getD i [] = ts'.getD i [])) (fun i _ => m - (RowKit.intOf i).toNat)
      case atStart => exact ⟨0, by omega, rfl, ⟨q, rfl⟩, fun j _ h => absurd h (Nat.not_lt_zero _)⟩
      case round =>
        clear hlt hk hkz
        obtain ⟨k, hk, rfl, ⟨q, rfl⟩, HB⟩ := hrel
        by_cases hlt : k < m
        · have bq := below_drewN b2 q
          obtain ⟨g, o, rfl, hg, hc⟩ := H2.out k hlt
          obtain ⟨g', o', rfl, hg', hc'⟩ := H2'.out k hlt
          have a0 : (w2.drewN q).cell? ⟨g, o + k, none⟩ = some (str (ts.getD k [])) := by rw [bq.cell (p := ⟨g, o + k, none⟩) hg]; exact hc
          have a0' : (w2.drewN q).cell? ⟨g', o' + k, none⟩ = some (str (ts'.getD k [])) := by rw [bq.cell (p := ⟨g', o' + k, none⟩) hg']; exact hc'
          have hF := F2.out k hlt
          have HY : Hid (ts.getD k [] = ts'.getD k [] → (∀ j, j < m → j < k + 1 → ts.getD j [] = ts'.getD j [])) := fun h j hj hj2 => by
            rcases Nat.lt_or_ge j k with h3 | h3
            · exact HB.out j hj h3
            · have : j = k := by omega
              subst this; exact h
          clear hc hc' HB
          generalize ts.getD k [] = x at *
          generalize ts'.getD k [] = y at *
          have hkz : (k : Int) < (m : Int) := by omega
          have e1 := (k12.on (below_drewN (Below.refl _ w2) q)).cell 3
          have f1 := (k2.on (below_drewN (Below.refl _ w2) q)).cell 3
          simp only [List.getElem?_toArray, List.getElem?_cons_zero, List.getElem?_cons_succ] at e1 f1
          generalize hwq : w2.drewN q = wq at *
          by_cases hs : x = y
          · have z1 : (x == y) = true := by rw [beq_l]; exact decide_eq_true hs
            have HY2 := HY.out hs
            clear HY hF hs
            go_upto_region 12 with fail
            go_quiet (fail)
            go_wp2_with fail
            go_roundw
            case rel => exact ⟨k + 1, by omega, by go_num, ⟨q + nq, by rw [← hwq]; simp [World.drewN, Nat.add_assoc]⟩, HY2⟩
            case measure => simp [RowKit.intOf]; omega
          · have hD := hF hs
            have z1 : (x == y) = false := by rw [beq_l]; exact decide_eq_false hs
            clear HY hF hs
            go_upto_region 12 with fail
            go_quiet (fail)
            go_wp2
            go_ret
            exact ⟨by rw [hD]; first | rfl | simp, below_drewN bq nq⟩
        · obtain rfl : k = m := by omega
          have hD2 := T2.out (fun j hj => HB.out j hj hj)
          subst hD2
          have bq := below_drewN b2 q
          have e4 := (k12.on (below_drewN (Below.refl _ w2) q)).cell 4
          have f4 := (k2.on (below_drewN (Below.refl _ w2) q)).cell 4
          simp only [List.getElem?_toArray, List.getElem?_cons_zero, List.getElem?_cons_succ] at e4 f4
          have SL1 := SL (w2.drewN q) bq
          generalize w2.drewN q = w5 at *
          have hkz : ¬ (k : Int) < (k : Int) := by omega
          go_wp2_with (go_at_call 28; refine SL1.mono ?_; rintro e w6 ⟨rfl, b6⟩)
          go_ret
          exact ⟨by first | rfl | simp, bq.trans (b6.mono bq.size)⟩
theorem same15_any (w : World) (ca cb : Int) (vn vt vp : Value) (ns : List Int) (ts : List (List UInt8)) (ps : List Pr) (ca' cb' : Int) (vn' vt' vp' : Value) (ns' : List Int) (ts' : List (List UInt8)) (ps' : List Pr) (h : RdM w w.heap.size vn vt vp ns ts ps) (h' : RdM w w.heap.size vn' vt' vp' ns' ts' ps') :
    Calls Tryz.prog 12 #[.agg (mtA ca cb vn vt vp), .agg (mtA ca' cb' vn' vt' vp')] w fun e w' => e = .returned (.bool (sameM ca cb ns ts ps ca' cb' ns' ts' ps')) ∧ Below w.heap.size w w' := by
  unfold sameM
  by_cases c1 : ca = ca' ∧ cb = cb' ∧ ns.length = ns'.length ∧ ts.length = ts'.length
  · obtain ⟨rfl, rfl, c3, c4⟩ := c1
    rw [decide_eq_true (rfl : ca = ca), decide_eq_true (rfl : cb = cb), Bool.true_and, Bool.true_and]
    have key : ∀ {v : Value} {l : List Int}, RdN w w.heap.size v l → ∃ a c, v = .slice a l.length c ∧ ∀ k (h : k < l.length), ∃ g o, a = some ⟨g, o, none⟩ ∧ g < w.heap.size ∧ w.cell? ⟨g, o + k, none⟩ = some (.int .i64 l[k]) := fun h => by
      rcases h with ⟨⟨a, c, rfl⟩, rfl⟩ | ⟨g, o, c, rfl, hc, hg, hx⟩
      · exact ⟨_, _, rfl, fun k h => absurd h (Nat.not_lt_zero k)⟩
      · exact ⟨_, _, rfl, fun k h => ⟨g, o, rfl, hg, hx k h⟩⟩
    have keyT : ∀ {v : Value} {l : List (List UInt8)}, RdT w w.heap.size v l → ∃ a c, v = .slice a l.length c ∧ ∀ k (h : k < l.length), ∃ g o, a = some ⟨g, o, none⟩ ∧ g < w.heap.size ∧ w.cell? ⟨g, o + k, none⟩ = some (str l[k]) := fun h => by
      rcases h with ⟨⟨a, c, rfl⟩, rfl⟩ | ⟨g, o, c, rfl, hc, hg, hx⟩
      · exact ⟨_, _, rfl, fun k h => absurd h (Nat.not_lt_zero k)⟩
      · exact ⟨_, _, rfl, fun k h => ⟨g, o, rfl, hg, hx k h⟩⟩
    obtain ⟨na, nc, rfl, hn⟩ := key h.n
    obtain ⟨na', nc', rfl, hn'⟩ := key h'.n
    obtain ⟨ta, tc, rfl, ht⟩ := keyT h.t
    obtain ⟨ta', tc', rfl, ht'⟩ := keyT h'.t
    have hs := h.sz
    rw [← c3, ← c4]
    exact same_len15 w ca cb na ta na' ta' ns.length ts.length nc tc nc' tc' vp vp' ns ns' ts ts' ps ps' rfl c3.symm rfl c4.symm (by omega) (by omega) hn hn' ht ht' h.p h'.p
  · have hf : (decide (ca = ca') && (decide (cb = cb') && (decide (ns = ns') && (decide (ts = ts') && sameL ps ps')))) = false := by
      by_cases d1 : ca = ca'
      · by_cases d2 : cb = cb'
        · by_cases d3 : ns = ns'
          · by_cases d4 : ts = ts'
            · exact absurd ⟨d1, d2, by rw [d3], by rw [d4]⟩ c1
            · rw [decide_eq_false d4]; simp
          · rw [decide_eq_false d3]; simp
        · rw [decide_eq_false d2]; simp
      · rw [decide_eq_false d1]; simp
    rw [hf]
    obtain ⟨na, nc, rfl⟩ := h.n.shape
    obtain ⟨na', nc', rfl⟩ := h'.n.shape
    obtain ⟨ta, tc, rfl⟩ := h.t.shape
    obtain ⟨ta', tc', rfl⟩ := h'.t.shape
    obtain ⟨pa, pc, rfl⟩ := h.p.shape
    obtain ⟨pa', pc', rfl⟩ := h'.p.shape
    refine same_no15 w ca cb ca' cb' na ta pa na' ta' pa' ns.length ts.length ps.length ns'.length ts'.length ps'.length nc tc pc nc' tc' pc' ?_
    by_cases d1 : ca = ca'
    · by_cases d2 : cb = cb'
      · by_cases d3 : ns.length = ns'.length
        · exact .inr (.inr (.inr ⟨d1, d2, d3, fun d4 => c1 ⟨d1, d2, d3, d4⟩⟩))
        · exact .inr (.inr (.inl ⟨d1, d2, d3⟩))
      · exact .inr (.inl ⟨d1, d2⟩)
    · exact .inl d1
end Go.Proofs.YtmaaacaifpgpaaaGreatDoor

namespace Go.Proofs.YtmaaacaifpgpaaaGreatDoor
open Go.RowKit Go.Lib
set_option maxRecDepth 100000
set_option linter.unusedSimpArgs false

def partsD : List UInt8 → List UInt8 → Dq → Option (Dq × List UInt8)
  | [], s, q => some (q, s)
  | c :: f, s, q => (partD c.toNat s q).bind fun x => partsD f x.2 x.1
/-- The method of a payload; none: it is none's. -/
def metD (s : List UInt8) : Option Dq :=
  (cwhole 2 s).bind fun x => (cwhole 2 x.2).bind fun y => if (formL x.1 y.1 mL).2 = true then (partsD (formL x.1 y.1 mL).1 y.2 ⟨x.1, y.1, [], [], []⟩).bind fun z => if z.2 = [] then some z.1 else none else none
theorem cutP_lenD {s t r : List UInt8} {n : Nat} (h : cutP s n = some (t, r)) : r.length ≤ s.length := by
  unfold cutP at h
  split at h
  · injection h with h
    injection h with _ h
    subst h
    rw [List.length_drop]
    omega
  · cases h
theorem cshort_lenD {s t r : List UInt8} (h : cshort s = some (t, r)) : r.length ≤ s.length := by
  unfold cshort at h
  split at h
  · cases h
  · have := cutP_lenD h
    rw [List.length_drop] at this
    omega
theorem clong_lenD {s t r : List UInt8} {m : Nat} (h : clong s m = some (t, r)) : r.length ≤ s.length := by
  unfold clong at h
  split at h
  · cases h
  · split at h
    · cases h
    · have := cutP_lenD h
      rw [List.length_drop] at this
      omega
theorem cwhole_lenD {s r : List UInt8} {k n : Nat} (h : cwhole k s = some (n, r)) : r.length ≤ s.length := by
  unfold cwhole at h
  split at h
  · cases h
  · split at h
    · injection h with h
      injection h with _ h
      subst h
      rw [List.length_drop]
      omega
    · cases h
theorem ctab_lenD {s r : List UInt8} {L : List Pr} (h : ctab s = some (L, r)) : r.length ≤ s.length := by
  unfold ctab at h
  split at h
  · cases h
  · split at h
    · cases h
    · rename_i t r' hc
      have := cutP_lenD hc
      rw [List.length_drop] at this
      cases ht : tabO t with
      | none => rw [ht] at h; cases h
      | some L' =>
        rw [ht] at h
        injection h with h
        injection h with _ h
        subst h
        omega
theorem partD_lenD {c : Nat} {s s' : List UInt8} {q q' : Dq} (h : partD c s q = some (q', s')) : s'.length ≤ s.length ∧ q'.ts.length ≤ q.ts.length + 1 ∧ q'.ns.length ≤ q.ns.length + 1 := by
  unfold partD at h
  split at h
  · cases hc : cshort s with
    | none => rw [hc] at h; cases h
    | some x =>
      rw [hc] at h
      injection h with h
      injection h with h1 h2
      subst h1 h2
      exact ⟨cshort_lenD (t := x.1) (r := x.2) (by rw [hc]), by simp, by simp⟩
  · split at h
    · cases hc : clong s 1024 with
      | none => rw [hc] at h; cases h
      | some x =>
        rw [hc] at h
        injection h with h
        injection h with h1 h2
        subst h1 h2
        exact ⟨clong_lenD (t := x.1) (r := x.2) (by rw [hc]), by simp, by simp⟩
    · split at h
      · cases hc : ctab s with
        | none => rw [hc] at h; cases h
        | some x =>
          rw [hc] at h
          injection h with h
          injection h with h1 h2
          subst h1 h2
          exact ⟨ctab_lenD (L := x.1) (r := x.2) (by rw [hc]), by simp, by simp⟩
      · cases hc : cwhole (wid c) s with
        | none => rw [hc] at h; cases h
        | some x =>
          rw [hc] at h
          injection h with h
          injection h with h1 h2
          subst h1 h2
          exact ⟨cwhole_lenD (n := x.1) (r := x.2) (by rw [hc]), by simp, by simp⟩
theorem partsD_get {f : List UInt8} {s s0 : List UInt8} {q q0 : Dq} {k : Nat} (h : k < f.length) (hq : partsD f s0 q0 = partsD (f.drop k) s q) : partsD f s0 q0 = (partD f[k].toNat s q).bind fun x => partsD (f.drop (k + 1)) x.2 x.1 := by
  rw [hq, List.drop_eq_getElem_cons h, partsD]
abbrev M0 : Array Value := mtA 0 0 (.slice none 0 0) (.slice none 0 0) (.slice none 0 0)
/-- A method of one's own. -/
def MV (w : World) (B : Nat) (v : Value) (q : Dq) : Prop := ∃ vn vt vp, v = .agg (mtA q.a q.b vn vt vp) ∧ OwnI w B vn q.ns ∧ OwnT w B vt q.ts ∧ OwnP w B vp q.ps
theorem ret36 {fn : Func} {p : Tmp} {tmps : Array Value} {W : World} {g : Nat} {cs : Array Value} {R : Ending → World → Prop} (hf : fn.results = #[.cell p 26]) (h : Blk W g cs 26) (hs : cs.size = 5) (hp : tmps.getD p undef = .pointer (some ⟨g, 0, none⟩)) (hR : R (.returned (.agg cs)) W) :
    bodyPost Tryz.prog fn R .ret { tmps := tmps, defers := [] } W :=
  bodyPost_ret (results_cell_row hf tmps W g 26 cs (0, 0) _ hp h.h Tryz.underlying26 rfl (by rw [hs]; kernel_rfl)) rfl hR
theorem alb_below {w w' w0 : World} {r a : Nat} (h : Alb w.heap.size w w' r) (hb : Below a w0 w) (har : a ≤ r) (haw : a ≤ w.heap.size) : Below a w0 w' :=
  hb.trans ⟨h.os, h.tape, h.output, h.size, fun k hk => h.block k (by omega) (by omega)⟩
set_option maxHeartbeats 8000000 in
theorem method_any (w : World) (s : List UInt8) (hv : Mv w) (hs : s.length ≤ 140737488355328) :
    Calls Tryz.prog 23 #[str s] w fun e w' => Below w.heap.size w w' ∧ ((∃ q v, metD s = some q ∧ e = .returned v ∧ MV w' w.heap.size v q) ∨ (metD s = none ∧ e = .panicked (gup 11))) := by
  obtain ⟨gu, hg⟩ : ∃ gu, gup 11 = gu := ⟨_, rfl⟩
  have I := fun w => insist_no w 11
  have F := fun w (hv : Mv w) a b => form_any w a b hv
  have WH := fun (w : World) (r : Nat) (s : List UInt8) (hc : Cr w r s) (hs : s.length ≤ 140737488355328) => cwhole_any w r 2 s hc hc.lt hs (by omega)
  have RP := fun (w : World) (r m c : Nat) (s : List UInt8) (q : Dq) h1 h2 h3 h4 h5 h6 => rpart_any w r m c s q h1 h2 h3 h4 h5 h6
  unfold RpA at RP
  rw [hg] at I WH RP ⊢
  have HG : Hid (gup 11 = gu) := hg
  clear hg
  have HM : Hid (metD s = (cwhole 2 s).bind fun x => (cwhole 2 x.2).bind fun y => if (formL x.1 y.1 mL).2 = true then (partsD (formL x.1 y.1 mL).1 y.2 ⟨x.1, y.1, [], [], []⟩).bind fun z => if z.2 = [] then some z.1 else none else none) := rfl
  have HV : Hid (Mv w) := hv
  have HS : Hid (s.length ≤ 140737488355328) := hs
  clear hv hs
  generalize metD s = MD at *
  have b0 := below_new w (.cells M0 26)
  have k0 := Blk.new w M0 26
  obtain ⟨a, ha⟩ : ∃ a, w.heap.size = a := ⟨_, rfl⟩
  have s0 : (w.alloc (.cells M0 26)).heap.size = a + 1 := by simp [ha]
  rw [ha] at b0 k0 ⊢
  go_enter Tryz.func23, Tryz.ntmps23
  go_upto_region 1 with fail
  generalize w.alloc (.cells M0 26) = w0 at *
  obtain ⟨r, hr⟩ : ∃ r, w0.heap.size = r := ⟨_, rfl⟩
  have har : a < r := by omega
  clear s0
  have kr := Blk.new w0 #[str s] 78
  have b1 := below_new w0 (.cells #[str s] 78)
  rw [hr] at kr b1
  go_upto_region 2 with fail
  generalize w0.alloc (.cells #[str s] 78) = w1 at *
  have cr1 : Cr w1 r s := ⟨kr.cell 0, kr.frozen 0⟩
  have ka1 : Blk w1 a M0 26 := k0.below b1 har
  have B1 : Below a w w1 := b0.trans (b1.mono (by omega))
  have hz1 : r < w1.heap.size := kr.lt
  have W1 := WH w1 r s cr1 HS.out
  clear kr b1 k0 b0 hr cr1
  go_wp2_with fail
  refine W1.mono ?_
  rintro e w2 ⟨hA2, ⟨ca, s2, hp2, hca, rfl, cr2⟩ | ⟨hp2, rfl⟩⟩
  rotate_left
  · exact ⟨rfl, alb_below hA2 B1 (by omega) (by omega), .inr ⟨by rw [HM.out, hp2]; rfl, rfl⟩⟩
  have B2 : Below a w w2 := alb_below hA2 B1 (by omega) (by omega)
  have ka2 : Blk w2 a M0 26 := ⟨by rw [hA2.block a (by omega) (by omega)]; exact ka1.h⟩
  have hz2 : r < w2.heap.size := cr2.lt
  have hs2 : Hid (s2.length ≤ 140737488355328) := Nat.le_trans (cwhole_lenD hp2) HS.out
  have W2 := WH w2 r s2 cr2 hs2.out
  have HM : Hid (MD = (cwhole 2 s2).bind fun y => if (formL ca y.1 mL).2 = true then (partsD (formL ca y.1 mL).1 y.2 ⟨ca, y.1, [], [], []⟩).bind fun z => if z.2 = [] then some z.1 else none else none) := by
    show _ = _
    rw [HM.out, hp2]
    rfl
  clear W1 hA2 ka1 B1 cr2 hp2 HS
  go_wp2_with fail
  refine W2.mono ?_
  rintro e w3 ⟨hA3, ⟨cb, s3, hp3, hcb, rfl, cr3⟩ | ⟨hp3, rfl⟩⟩
  rotate_left
  · exact ⟨rfl, alb_below hA3 B2 (by omega) (by omega), .inr ⟨by rw [HM.out, hp3]; rfl, rfl⟩⟩
  have B3 : Below a w w3 := alb_below hA3 B2 (by omega) (by omega)
  have ka3 : Blk w3 a M0 26 := ⟨by rw [hA3.block a (by omega) (by omega)]; exact ka2.h⟩
  have hz3 : r < w3.heap.size := cr3.lt
  have hs3 : Hid (s3.length ≤ 140737488355328) := Nat.le_trans (cwhole_lenD hp3) hs2.out
  have HM : Hid (MD = if (formL ca cb mL).2 = true then (partsD (formL ca cb mL).1 s3 ⟨ca, cb, [], [], []⟩).bind fun z => if z.2 = [] then some z.1 else none else none) := by
    show _ = _
    rw [HM.out, hp3]
    rfl
  clear W2 hA3 ka2 B2 hp3 hs2 WH
  obtain ⟨m, hm⟩ : ∃ m, w3.heap.size = m := ⟨_, rfl⟩
  have km := Blk.new w3 (mtA ca cb (.slice none 0 0) (.slice none 0 0) (.slice none 0 0)) 26
  have b4 := below_new w3 (.cells (mtA ca cb (.slice none 0 0) (.slice none 0 0) (.slice none 0 0)) 26)
  rw [hm] at km b4
  go_upto_region 3 with fail
  generalize w3.alloc (.cells (mtA ca cb (.slice none 0 0) (.slice none 0 0) (.slice none 0 0)) 26) = w4 at *
  have hrm : r < m := by omega
  have cr4 : Cr w4 r s3 := cr3.blk (b4.block r (by omega))
  have ka4 : Blk w4 a M0 26 := ka3.below b4 (by omega)
  have B4 : Below a w w4 := B3.trans (b4.mono (by omega))
  have M4 : Mv w4 := HV.out.on (by rw [ha]; exact B4)
  have F4 := F w4 M4 ca cb
  have FS := @form_some ca cb
  have d0 := km.cell 0
  have d1 := km.cell 1
  simp only [List.getElem?_toArray, List.getElem?_cons_zero, List.getElem?_cons_succ] at d0 d1
  clear ha hm b4 ka3 B3 cr3 hz3 hz2 M4 F HV
  generalize (formL ca cb mL).1 = f at *
  generalize (formL ca cb mL).2 = ok at *
  go_wp2_with (go_at_call 6; refine F4.mono ?_; rintro e w5 ⟨rfl, b5⟩)
  have km5 := km.on b5
  have cr5 : Cr w5 r s3 := cr4.blk (b5.block r cr4.lt)
  have ka5 := ka4.on b5
  have B5 : Below a w w5 := B4.trans (b5.mono (by have := km.lt; omega))
  clear F4 d0 d1 km cr4 ka4 B4 b5
  cases ok with
  | false =>
    refine (I _).mono ?_
    rintro e w' ⟨rfl, rfl⟩
    exact ⟨rfl, B5, .inr ⟨by rw [HM.out]; rfl, rfl⟩⟩
  | true =>
  obtain ⟨_, _, _, _, f5⟩ := FS (by trivial)
  have HM : Hid (MD = (partsD f s3 ⟨ca, cb, [], [], []⟩).bind fun z => if z.2 = [] then some z.1 else none) := HM.out
  refine (insist_ok _ _).mono ?_
  rintro e w' ⟨rfl, hw'⟩
  rw [hw']
  clear hw' w' FS
  have HQ0 : Hid (Cr w5 r s3 ∧ Mst w5 m ⟨ca, cb, [], [], []⟩ ∧ s3.length ≤ 140737488355328 ∧ (0 : Nat) ≤ 0 ∧ (0 : Nat) ≤ 0 ∧ Blk w5 a M0 26 ∧ Below a w w5) := ⟨cr5, ⟨_, _, _, km5, OwnI.nil _ _, OwnT.nil _ _, World.ownsRow_nil _ _ _ _⟩, hs3.out, Nat.le_refl _, Nat.le_refl _, ka5, B5⟩
  clear cr5 km5 ka5 B5 hs3
  go_wp2_with fail
  go_loopw [25] (fun i wr => ∃ (k : Nat) (q : Dq) (s' : List UInt8), k ≤ f.length ∧ i = .int .i64 (k : Int) ∧ Hid (Cr wr r s' ∧ Mst wr m q ∧ s'.length ≤ 140737488355328 ∧ q.ts.length ≤ k ∧ q.ns.length ≤ k ∧ Blk wr a M0 26 ∧ Below a w wr) ∧ Hid (partsD f s3 ⟨ca, cb, [], [], []⟩ = partsD (f.drop k) s' q)) (fun i _ => f.length - (RowKit.intOf i).toNat)
  case atStart => exact ⟨0, _, s3, Nat.zero_le _, rfl, HQ0, rfl⟩
  case round =>
    clear HQ0
    obtain ⟨k, q, s', hk, rfl, HQ, HB⟩ := hrel
    by_cases hlt : k < f.length
    · have gk := get_str f k
      have hgk : f.getD k 0 = f[k] := by simp [List.getD_eq_getElem?_getD, hlt]
      rw [hgk] at gk
      have hkz : (k : Int) < (f.length : Int) := by omega
      have HE : Hid (partsD f s3 ⟨ca, cb, [], [], []⟩ = (partD f[k].toNat s' q).bind fun x => partsD (f.drop (k + 1)) x.2 x.1) := partsD_get hlt HB.out
      have P := RP wr r m f[k].toNat s' q HQ.out.1 hrm HQ.out.2.1 HQ.out.2.2.1 (by have := HQ.out.2.2.2.1; omega) (by have := HQ.out.2.2.2.2.1; omega)
      clear HB hgk
      generalize f[k] = y at *
      go_wp2_with (go_at_call 40; refine P.mono ?_; rintro e w7 ⟨hb7, ⟨q', s7, hq, rfl, cr7, st7⟩ | ⟨hq, rfl⟩⟩)
      · obtain ⟨l1, l2, l3⟩ := partD_lenD hq
        have HQ7 : Hid (Cr w7 r s7 ∧ Mst w7 m q' ∧ s7.length ≤ 140737488355328 ∧ q'.ts.length ≤ k + 1 ∧ q'.ns.length ≤ k + 1 ∧ Blk w7 a M0 26 ∧ Below a w w7) := ⟨cr7, st7, by have := HQ.out.2.2.1; omega, by have := HQ.out.2.2.2.1; omega, by have := HQ.out.2.2.2.2.1; omega, HQ.out.2.2.2.2.2.1.below hb7 har, HQ.out.2.2.2.2.2.2.trans (hb7.mono (by omega))⟩
        have HB7 : Hid (partsD f s3 ⟨ca, cb, [], [], []⟩ = partsD (f.drop (k + 1)) s7 q') := by show _ = _; rw [HE.out, hq]; rfl
        clear P HE hq st7 cr7 HQ l1 l2 l3
        go_wp2_with fail
        go_roundw
        case rel => exact ⟨k + 1, q', s7, by omega, by go_num, HQ7, HB7⟩
        case measure => simp [RowKit.intOf]; omega
      · exact ⟨rfl, HQ.out.2.2.2.2.2.2.trans (hb7.mono (by omega)), .inr ⟨by rw [HM.out, HE.out, hq]; rfl, rfl⟩⟩
    · obtain rfl : k = f.length := by omega
      have HM : Hid (MD = if s' = [] then some q else none) := by
        show _ = _
        rw [HM.out, HB.out, List.drop_length]
        rfl
      obtain ⟨cr, ⟨vn, vt, vp, km, oi, ot, op⟩, _, _, _, ka, BB⟩ := HQ.out
      obtain ⟨na, nn, nc, rfl⟩ := oi.shape3
      obtain ⟨ta, tn, tc, rfl⟩ := ot.shape3
      obtain ⟨pa, pc, rfl⟩ := op.rd.shape
      have hkz : ¬ (f.length : Int) < (f.length : Int) := by omega
      have c0 := cr.c0
      clear HB HQ RP
      by_cases hz : s' = []
      · have hmd : MD = some q := by rw [HM.out, if_pos hz]
        subst hz
        clear HM
        have c1 := km.cell 0
        have c2 := km.cell 1
        have c3 := km.cell 2
        have c4 := km.cell 3
        have c5 := km.cell 4
        simp only [List.getElem?_toArray, List.getElem?_cons_zero, List.getElem?_cons_succ] at c1 c2 c3 c4 c5
        go_wp2_with (first | (go_at_call 33; refine (insist_ok _ _).mono ?_; rintro e wr ⟨rfl, rfl⟩) | (refine wpl_put rfl (.tmp 2) (.tmp 37) rfl a _ rfl rfl ka (by kernel_rfl) rfl (by kernel_rfl) ?_))
        intro w9 k9 g9 s9
        have hz9 := km.lt
        have B9 : Below a w w9 := BB.grown g9 (by have := BB.size; omega) (fun k hk => by cases hk; omega)
        go_wp2_with fail
        refine ret36 Tryz.results23 k9 rfl rfl ⟨B9, .inl ⟨q, _, hmd, rfl, ⟨_, _, _, rfl, (oi.grown g9 (fun k hk => by cases hk; omega)).low (by omega), (ot.grown g9 (fun k hk => by cases hk; omega)).low (by omega), (op.grown g9 (fun k hk => by cases hk; omega)).low (by omega)⟩⟩⟩
      · have hmd : MD = none := by rw [HM.out, if_neg hz]
        have hzb : (s' == []) = false := by rw [beq_l]; exact decide_eq_false hz
        clear HM hz
        go_wp2_with (go_at_call 33; refine (I _).mono ?_; rintro e w' ⟨rfl, rfl⟩)
        exact ⟨rfl, BB, .inr ⟨hmd, rfl⟩⟩
end Go.Proofs.YtmaaacaifpgpaaaGreatDoor

namespace Go.Proofs.YtmaaacaifpgpaaaGreatDoor
open Go.RowKit Go.Lib
set_option maxRecDepth 100000
set_option linter.unusedSimpArgs false

/-- The document's step at a letter. -/
def stepR (c : Nat) (x : Rs × Dq) : Rs × Dq :=
  if c = 115 then ((shortR x.1).2, ⟨x.2.a, x.2.b, x.2.ns, x.2.ts ++ [(shortR x.1).1], x.2.ps⟩)
  else if c = 83 then (((longR x.1).2.1, (longR x.1).2.2 || decide (1024 < (longR x.1).1.length)), ⟨x.2.a, x.2.b, x.2.ns, x.2.ts ++ [(longR x.1).1], x.2.ps⟩)
  else if c = 84 then ((rtab x.1).2, ⟨x.2.a, x.2.b, x.2.ns, x.2.ts, (rtab x.1).1⟩)
  else (((numR x.1 (wid c)).2.1, (numR x.1 (wid c)).2.2 || decide (9223372036854775808 ≤ (numR x.1 (wid c)).1)), ⟨x.2.a, x.2.b, x.2.ns ++ [IntKind.i64.wrap ((numR x.1 (wid c)).1 : Int)], x.2.ts, x.2.ps⟩)
theorem shortR_some {s t r : List UInt8} (h : cshort s = some (t, r)) : shortR (s, false) = (t, (r, false)) := by
  unfold cshort at h
  split at h
  · cases h
  · unfold cutP at h
    split at h
    · rename_i h1 h2
      injection h with h
      obtain ⟨rfl, rfl⟩ := Prod.mk.inj h
      unfold shortR
      rw [numR_yes (by omega)]
      exact takeR_yes h2
    · cases h
theorem shortR_none {s : List UInt8} (h : cshort s = none) : (shortR (s, false)).2.2 = true := by
  unfold cshort at h
  unfold shortR
  split at h
  · rename_i h1
    rw [numR_no h1]
    exact congrArg (fun x => x.2.2) (takeR_bad s 0)
  · rename_i h1
    unfold cutP at h
    split at h
    · cases h
    · rename_i h2
      rw [numR_yes (by omega)]
      exact congrArg (fun x => x.2.2) (takeR_no (s := s.drop 1) (n := numL (s.take 1)) (by omega))
theorem longR_some {s t r : List UInt8} (h : clong s 1024 = some (t, r)) : longR (s, false) = (t, (r, false)) ∧ t.length ≤ 1024 := by
  unfold clong at h
  split at h
  · cases h
  · split at h
    · cases h
    · unfold cutP at h
      split at h
      · rename_i h1 h0 h2
        injection h with h
        obtain ⟨rfl, rfl⟩ := Prod.mk.inj h
        refine ⟨?_, by rw [List.length_take]; omega⟩
        rw [longR_yes (by omega)]
        exact takeR_yes h2
      · cases h
theorem longR_none {s : List UInt8} (h : clong s 1024 = none) : (longR (s, false)).2.2 = true ∨ 1024 < (longR (s, false)).1.length := by
  unfold clong at h
  split at h
  · rename_i h1
    rw [longR_no h1]
    exact .inl rfl
  · rename_i h1
    rw [longR_yes (by omega)]
    by_cases hc : numL (s.take 4) ≤ (s.drop 4).length
    · rw [takeR_yes hc]
      split at h
      · rename_i h2
        right
        show 1024 < List.length _
        rw [List.length_take]; omega
      · unfold cutP at h
        rw [if_pos hc] at h
        cases h
    · rw [takeR_no (by omega)]
      exact .inl rfl
theorem numR_some {s r : List UInt8} {k n : Nat} (h : cwhole k s = some (n, r)) : numR (s, false) k = (n, (r, false)) ∧ n ≤ 9223372036854775807 := by
  unfold cwhole at h
  split at h
  · cases h
  · split at h
    · rename_i h1 h2
      injection h with h
      obtain ⟨rfl, rfl⟩ := Prod.mk.inj h
      exact ⟨numR_yes (by omega), h2⟩
    · cases h
theorem numR_none {s : List UInt8} {k : Nat} (h : cwhole k s = none) : (numR (s, false) k).2.2 = true ∨ 9223372036854775808 ≤ (numR (s, false) k).1 := by
  unfold cwhole at h
  split at h
  · rename_i h1
    rw [numR_no h1]
    exact .inl rfl
  · rename_i h1
    rw [numR_yes (by omega)]
    split at h
    · cases h
    · right
      show _ ≤ numL _
      omega
theorem wrap_nat {n : Nat} (h : n ≤ 9223372036854775807) : IntKind.i64.wrap (n : Int) = (n : Int) := by rw [IntKind.wrap_i64]; omega
theorem step_ok {c : Nat} {s s' : List UInt8} {q q' : Dq} (h : partD c s q = some (q', s')) : stepR c ((s, false), q) = ((s', false), q') := by
  unfold partD at h
  unfold stepR
  split at h
  · rename_i hc
    rw [if_pos hc]
    cases hx : cshort s with
    | none => rw [hx] at h; cases h
    | some x =>
      obtain ⟨t, r⟩ := x
      rw [hx] at h
      simp only [Option.map_some, Option.some.injEq, Prod.mk.injEq] at h
      obtain ⟨rfl, rfl⟩ := h
      simp only [shortR_some hx]
  · rename_i hc
    rw [if_neg hc]
    split at h
    · rename_i hc
      rw [if_pos hc]
      cases hx : clong s 1024 with
      | none => rw [hx] at h; cases h
      | some x =>
        obtain ⟨t, r⟩ := x
        rw [hx] at h
        simp only [Option.map_some, Option.some.injEq, Prod.mk.injEq] at h
        obtain ⟨rfl, rfl⟩ := h
        obtain ⟨e, hl⟩ := longR_some hx
        simp only [e, Bool.false_or]
        rw [decide_eq_false (by omega)]
    · rename_i hc
      rw [if_neg hc]
      split at h
      · rename_i hc
        rw [if_pos hc]
        cases hx : ctab s with
        | none => rw [hx] at h; cases h
        | some x =>
          obtain ⟨t, r⟩ := x
          rw [hx] at h
          simp only [Option.map_some, Option.some.injEq, Prod.mk.injEq] at h
          obtain ⟨rfl, rfl⟩ := h
          simp only [rtab_some hx]
      · rename_i hc
        rw [if_neg hc]
        cases hx : cwhole (wid c) s with
        | none => rw [hx] at h; cases h
        | some x =>
          obtain ⟨t, r⟩ := x
          rw [hx] at h
          simp only [Option.map_some, Option.some.injEq, Prod.mk.injEq] at h
          obtain ⟨rfl, rfl⟩ := h
          obtain ⟨e, hl⟩ := numR_some hx
          simp only [e, Bool.false_or]
          rw [decide_eq_false (by omega), wrap_nat hl]
theorem step_no {c : Nat} {s : List UInt8} {q : Dq} (h : partD c s q = none) : (stepR c ((s, false), q)).1.2 = true := by
  unfold partD at h
  unfold stepR
  split at h
  · rename_i hc
    rw [if_pos hc]
    exact shortR_none (by simpa using h)
  · rename_i hc
    rw [if_neg hc]
    split at h
    · rename_i hc
      rw [if_pos hc]
      simpa using longR_none (by simpa using h)
    · rename_i hc
      rw [if_neg hc]
      split at h
      · rename_i hc
        rw [if_pos hc]
        exact rtab_none (by simpa using h)
      · rename_i hc
        rw [if_neg hc]
        simpa using numR_none (by simpa using h)
theorem step_bad {c : Nat} {x : Rs × Dq} (h : x.1.2 = true) : (stepR c x).1.2 = true := by
  obtain ⟨⟨s, b⟩, q⟩ := x
  have : b = true := h
  subst this
  unfold stepR
  split
  · show (shortR (s, true)).2.2 = true
    unfold shortR
    rw [numR_bad]
    exact congrArg (fun x => x.2.2) (takeR_bad s 0)
  · split
    · show ((longR (s, true)).2.2 || decide (1024 < (longR (s, true)).1.length)) = true
      rw [longR_bad]
      rfl
    · split
      · show (rtab (s, true)).2.2 = true
        unfold rtab
        rw [longR_bad]
        cases tabO ([] : List UInt8) <;> rfl
      · show ((numR (s, true) (wid c)).2.2 || decide (9223372036854775808 ≤ (numR (s, true) (wid c)).1)) = true
        rw [numR_bad]
        rfl
def runR (f : List UInt8) (x : Rs × Dq) : Rs × Dq := f.foldl (fun x c => stepR c.toNat x) x
theorem runR_bad (f : List UInt8) : ∀ x : Rs × Dq, x.1.2 = true → (runR f x).1.2 = true := by
  induction f with
  | nil => exact fun x h => h
  | cons c f ih => exact fun x h => ih _ (step_bad h)
def endR (x : Rs × Dq) : Option Dq := if x.1.2 = true ∨ x.1.1 ≠ [] then none else some x.2
theorem run_parts (f : List UInt8) : ∀ (s : List UInt8) (q : Dq), endR (runR f ((s, false), q)) = (partsD f s q).bind fun z => if z.2 = [] then some z.1 else none := by
  induction f with
  | nil =>
    intro s q
    show endR ((s, false), q) = if s = [] then some q else none
    unfold endR
    by_cases h : s = []
    · rw [if_neg (by simp [h]), if_pos h]
    · rw [if_pos (by simp [h]), if_neg h]
  | cons c f ih =>
    intro s q
    show endR (runR f (stepR c.toNat ((s, false), q))) = ((partD c.toNat s q).bind fun x => partsD f x.2 x.1).bind _
    cases hx : partD c.toNat s q with
    | none =>
      have := runR_bad f _ (step_no hx)
      unfold endR
      rw [if_pos (.inl this)]
      rfl
    | some x =>
      obtain ⟨q', s'⟩ := x
      rw [step_ok hx]
      exact ih s' q'
/-- The document's Decode. -/
def rmet (s : List UInt8) : Option Dq :=
  if (numR (numR (s, false) 2).2 2).2.2 = true ∨ (formL (numR (s, false) 2).1 (numR (numR (s, false) 2).2 2).1 mL).2 = false then none
  else endR (runR (formL (numR (s, false) 2).1 (numR (numR (s, false) 2).2 2).1 mL).1 ((numR (numR (s, false) 2).2 2).2, ⟨(numR (s, false) 2).1, (numR (numR (s, false) 2).2 2).1, [], [], []⟩))
theorem cwhole_two (s : List UInt8) : cwhole 2 s = if s.length < 2 then none else some (numL (s.take 2), s.drop 2) := by
  unfold cwhole
  split
  · rfl
  · have := numR_lt (s, false) 2
    rw [numR_yes (by omega)] at this
    have : numL (s.take 2) < 65536 := this
    rw [if_pos (by omega)]
theorem rmet_eq (s : List UInt8) : rmet s = metD s := by
  unfold rmet metD
  rw [cwhole_two]
  by_cases h1 : s.length < 2
  · rw [if_pos h1, numR_no h1]
    simp only [numR_bad]
    rfl
  · rw [if_neg h1, numR_yes (by omega)]
    simp only [Option.bind_some]
    rw [cwhole_two]
    by_cases h2 : (s.drop 2).length < 2
    · rw [if_pos h2, numR_no h2]
      rfl
    · rw [if_neg h2, numR_yes (by omega)]
      simp only [Option.bind_some, Bool.false_eq_true, false_or]
      cases hf : (formL (numL (s.take 2)) (numL ((s.drop 2).take 2)) mL).2
      · rfl
      · simp only [Bool.true_eq_false, if_false, if_true]
        exact run_parts _ _ _
theorem letters_aux (a b : Int) : ∀ l : List (Nat × Nat × List UInt8), (l.all fun x => x.2.2.all fun c => [111, 98, 104, 108, 76, 115, 83, 84].contains c) = true → ∀ c ∈ (formL a b l).1, c ∈ ([111, 98, 104, 108, 76, 115, 83, 84] : List UInt8)
  | [], _, c, h => by cases h
  | x :: l, hl, c, h => by
    rw [List.all_cons, Bool.and_eq_true] at hl
    unfold formL at h
    split at h
    · have := List.all_eq_true.1 hl.1 c h
      simpa using this
    · exact letters_aux a b l hl.2 c h
theorem letters (a b : Int) : ∀ c ∈ (formL a b mL).1, c ∈ ([111, 98, 104, 108, 76, 115, 83, 84] : List UInt8) := letters_aux a b mL (by decide)
end Go.Proofs.YtmaaacaifpgpaaaGreatDoor
