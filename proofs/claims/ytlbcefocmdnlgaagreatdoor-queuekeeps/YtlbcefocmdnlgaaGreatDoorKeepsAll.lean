/- How arguments that are queues and lists of calls are opened. Conditions: those that each row states. What came in, with what is told of its sizes. QueueKeeps, of what came in. Whatever a queue and a call, trivetlaw10.QueueKeeps answers true and leaves its arguments as they were, where the listed tables of the library read as the program's text lays them (tied by the card). -/
import Derived.Test.YtlbcefocmdnlgaaGreatDoorLa
import Derived.Test.YtlbcefocmdnlgaaGreatDoorDq
import Derived.Test.YtlbcefocmdnlgaaGreatDoorZh
import Derived.Deep.Slices
import Derived.SizedLaws
import Derived.Test.YtlbcefocmdnlgaaGreatDoorVq
import Derived.Test.YtlbcefocmdnlgaaGreatDoorCards
import Derived.Test.YtlbcefocmdnlgaaGreatDoorTie
set_option maxRecDepth 100000
namespace Go.Proofs.YtlbcefocmdnlgaaGreatDoor
open Go.RowKit Go.Lib Go.Deep

theorem cells3 : Tryz.prog.cellsOf 3 = 1 := by kernel_rfl
theorem cells9 : Tryz.prog.cellsOf 9 = 1 := by kernel_rfl
theorem cells84 : Tryz.prog.cellsOf 50 = 1 := by kernel_rfl
theorem cells86 : Tryz.prog.cellsOf 52 = 4 := by kernel_rfl
theorem i64b {z : Int} (h : (Lit.int .i64 z).wf = true) : -9223372036854775808 ≤ z ∧ z ≤ 9223372036854775807 := by
  simpa [Lit.wf, IntKind.min, IntKind.max, IntKind.signed, IntKind.bits] using h
theorem f64b {z : Nat} (h : (Lit.float .f64 z).wf = true) : z < 2 ^ 64 := by
  simpa [Lit.wf] using h

theorem flt_cell {H : Type} {enc : TypeId × Value → H} {W : World} {c : Value} {fuel : Nat} {x : DataW H × List MemPlace} (h : DataW.trod enc Tryz.prog W 0 (fun _ => true) true fuel 50 [c] = some x) : ∃ r, [c] = [Value.float .f64 r] ∧ r < 2 ^ 64 := by
  cases fuel with
  | zero => simp [DataW.trod] at h
  | succ n =>
    simp only [DataW.trod, Tryz.underlying50] at h
    cases c with
    | float k b =>
      simp at h
      obtain ⟨⟨rfl, hw⟩, _⟩ := h
      exact ⟨b, rfl, f64b hw⟩
    | _ => simp at h
theorem val_cells {H : Type} {enc : TypeId × Value → H} {W : World} {cs : List Value} {fuel : Nat} {x : DataW H × List MemPlace} (h : DataW.trod enc Tryz.prog W 0 (fun _ => true) true fuel 52 cs = some x) :
    ∃ y : Val, cs = [.int .i64 y.kind, .int .i64 y.num, .string y.text, .float .f64 y.real] ∧ (-9223372036854775808 ≤ y.kind ∧ y.kind ≤ 9223372036854775807) ∧ (-9223372036854775808 ≤ y.num ∧ y.num ≤ 9223372036854775807) ∧ y.text.size ≤ maxLen ∧ y.real < 2 ^ 64 := by
  obtain ⟨xs, n, _, rfl, hl, hlen, hf⟩ := DataW.trod_struct Tryz.underlying52 h
  rw [cells86] at hl
  match xs, hlen with
  | [y0, y1, y2, y3], _ =>
    have t0 : DataW.trod enc Tryz.prog W 0 (fun _ => true) true n 3 ((cs.drop 0).take (Tryz.prog.cellsOf 3)) = some y0 := by simpa using hf 0 _ rfl
    have t1 : DataW.trod enc Tryz.prog W 0 (fun _ => true) true n 3 ((cs.drop 1).take (Tryz.prog.cellsOf 3)) = some y1 := by simpa using hf 1 _ rfl
    have t2 : DataW.trod enc Tryz.prog W 0 (fun _ => true) true n 9 ((cs.drop 2).take (Tryz.prog.cellsOf 9)) = some y2 := by simpa using hf 2 _ rfl
    have t3 : DataW.trod enc Tryz.prog W 0 (fun _ => true) true n 50 ((cs.drop 3).take (Tryz.prog.cellsOf 50)) = some y3 := by simpa using hf 3 _ rfl
    match cs, hl with
    | [c0, c1, c2, c3], _ =>
      simp only [cells3, cells9, cells84, List.drop, List.take] at t0 t1 t2 t3
      obtain ⟨k, e0, _, wk⟩ := DataW.trod_int Tryz.underlying3 t0
      obtain ⟨m, e1, _, wm⟩ := DataW.trod_int Tryz.underlying3 t1
      obtain ⟨s, e2, _, ws⟩ := DataW.trod_string Tryz.underlying9 t2
      obtain ⟨r, e3, wr⟩ := flt_cell t3
      simp only [List.cons.injEq, and_true] at e0 e1 e2 e3
      subst e0 e1 e2 e3
      exact ⟨⟨k, m, s, r⟩, rfl, i64b wk, i64b wm, ws, wr⟩
theorem cells88 : Tryz.prog.cellsOf 54 = 5 := by kernel_rfl
theorem bytes88 : Tryz.prog.bytesOf 54 = 56 := by kernel_rfl

/-- What is told of a value that came in. -/
def InV (y : Val) : Prop := (-9223372036854775808 ≤ y.kind ∧ y.kind ≤ 9223372036854775807) ∧ (-9223372036854775808 ≤ y.num ∧ y.num ≤ 9223372036854775807) ∧ y.text.size ≤ maxLen ∧ y.real < 2 ^ 64
def InP (p : Pr) : Prop := p.name.size ≤ maxLen ∧ InV p.val

theorem prop_cells {H : Type} {enc : TypeId × Value → H} {W : World} {cs : List Value} {fuel : Nat} {x : DataW H × List MemPlace} (h : DataW.trod enc Tryz.prog W 0 (fun _ => true) true fuel 54 cs = some x) :
    ∃ y : Pr, cs = [.string y.name, .int .i64 y.val.kind, .int .i64 y.val.num, .string y.val.text, .float .f64 y.val.real] ∧ InP y := by
  obtain ⟨xs, n, _, rfl, hl, hlen, hf⟩ := DataW.trod_struct Tryz.underlying54 h
  rw [cells88] at hl
  match xs, hlen with
  | [y0, y1], _ =>
    have t0 : DataW.trod enc Tryz.prog W 0 (fun _ => true) true n 9 ((cs.drop 0).take (Tryz.prog.cellsOf 9)) = some y0 := by simpa using hf 0 _ rfl
    have t1 : DataW.trod enc Tryz.prog W 0 (fun _ => true) true n 52 ((cs.drop 1).take (Tryz.prog.cellsOf 52)) = some y1 := by simpa using hf 1 _ rfl
    match cs, hl with
    | [c0, c1, c2, c3, c4], _ =>
      simp only [cells9, cells86, List.drop, List.take] at t0 t1
      obtain ⟨s, e0, _, ws⟩ := DataW.trod_string Tryz.underlying9 t0
      obtain ⟨y, e1, hy⟩ := val_cells t1
      simp only [List.cons.injEq, and_true] at e0 e1
      obtain ⟨rfl, rfl, rfl, rfl⟩ := e1
      subst e0
      exact ⟨⟨s, y⟩, rfl, ws, hy⟩

theorem prop_at {H : Type} {enc : TypeId × Value → H} {W : World} {a : Addr} {cs : List Value} {fuel : Nat} {x : DataW H × List MemPlace}
    (hc : W.cells? 0 a (Tryz.prog.cellsOf 54) = some cs) (h : DataW.trod enc Tryz.prog W 0 (fun _ => true) true fuel 54 cs = some x) :
    ∃ (b o : Nat) (y : Pr), a = ⟨b, o, none⟩ ∧ PrAt W b o y ∧ InP y := by
  obtain ⟨y, rfl, hy⟩ := prop_cells h
  rw [cells88] at hc
  obtain ⟨b, o, sp⟩ := a
  obtain ⟨_, _, hh⟩ := World.cells?_some hc
  have h0 := hh 0 (by omega)
  have h1 := hh 1 (by omega)
  have h2 := hh 2 (by omega)
  have h3 := hh 3 (by omega)
  have h4 := hh 4 (by omega)
  simp only [Addr.add, List.getElem?_cons_zero, List.getElem?_cons_succ] at h0 h1 h2 h3 h4
  have hsp : sp = none := by simpa [Addr.add] using World.cell?_spot h0
  subst hsp
  exact ⟨b, o, y, rfl, ⟨h0, h1, h2, h3, h4⟩, hy⟩

theorem rd_props {H : Type} {enc : TypeId × Value → H} {W : World} {a : Option Addr} {n c : Nat} {d : DataW H} {p : List MemPlace}
    (h : DataW.Trod enc Tryz.prog W 0 (fun _ => true) true 26 (.slice a n c) d p) :
    ∃ l : List Pr, RdP W (.slice a n c) l ∧ l.length = n ∧ (∀ q ∈ l, InP q) ∧ (n = 0 ∨ ∃ E S, d = .slice E S ∧ n ≤ E.length + S.length) := by
  obtain ⟨fuel, hf⟩ := h
  rcases open_slice Tryz.underlying26 hf with ⟨hcs, _⟩ | ⟨x, l, cp, m, f, D, Pl, hcs, _, hl, hm, hmm, hx, hel⟩
  · simp [Value.cells] at hcs
    obtain ⟨rfl, rfl, rfl⟩ := hcs
    exact ⟨[], .inl ⟨⟨_, _, rfl⟩, rfl⟩, rfl, fun q hq => by simp at hq, .inl rfl⟩
  · simp [Value.cells] at hcs
    obtain ⟨rfl, rfl, rfl⟩ := hcs
    have hmc : m = c := by simpa using hmm
    subst hmc
    have hd := (Prod.mk.inj hx).1
    rcases Nat.eq_zero_or_pos n with h0 | h0
    · subst h0
      exact ⟨[], .inl ⟨⟨_, _, rfl⟩, rfl⟩, rfl, fun q hq => by simp at hq, .inl rfl⟩
    · have key : ∀ i, i < n → ∃ (b o : Nat) (y : Pr), x.add (i * 5) = ⟨b, o, none⟩ ∧ PrAt W b o y ∧ InP y := fun i hi => by
        obtain ⟨cs', h1, h2⟩ := hel i (by omega)
        have := prop_at h1 h2
        rwa [cells88] at this
      obtain ⟨b, o, _, e0, _⟩ := key 0 (by omega)
      have ex : x = ⟨b, o, none⟩ := by simpa [Addr.add] using e0
      subst ex
      have key2 : ∀ i, i < n → ∃ y : Pr, PrAt W b (o + i * 5) y ∧ InP y := fun i hi => by
        obtain ⟨b', o', y, e, g, hy⟩ := key i hi
        rw [Addr.add_lit] at e
        cases e
        exact ⟨y, g, hy⟩
      have hall : ∀ k, k ≤ n → ∃ l : List Pr, l.length = k ∧ ∀ i (h : i < l.length), PrAt W b (o + i * 5) l[i] ∧ InP l[i] := by
        intro k
        induction k with
        | zero => exact fun _ => ⟨[], rfl, fun i h => by simp at h⟩
        | succ k ih =>
          intro hk
          obtain ⟨l, hl, hh⟩ := ih (by omega)
          obtain ⟨y, hy⟩ := key2 k (by omega)
          refine ⟨l ++ [y], by simp [hl], fun i hi => ?_⟩
          by_cases e : i < l.length
          · rw [List.getElem_append_left e]; exact hh i e
          · have : i = k := by simp at hi; omega
            subst this
            rw [List.getElem_append_right (by omega)]
            simpa using hy
      obtain ⟨l, hl2, hh⟩ := hall n (Nat.le_refl _)
      refine ⟨l, .inr ⟨b, o, m, by rw [hl2], by omega, fun i hi => (hh i hi).1⟩, hl2, fun q hq => ?_, .inr ⟨_, _, hd, by simp⟩⟩
      obtain ⟨i, hi, rfl⟩ := List.mem_iff_getElem.1 hq
      exact (hh i hi).2

theorem cells4 : Tryz.prog.cellsOf 4 = 1 := by kernel_rfl
theorem cells29 : Tryz.prog.cellsOf 26 = 1 := by kernel_rfl
theorem cells31 : Tryz.prog.cellsOf 28 = 5 := by kernel_rfl
theorem cells35 : Tryz.prog.cellsOf 43 = 7 := by kernel_rfl
theorem cells45 : Tryz.prog.cellsOf 61 = 10 := by kernel_rfl
theorem cells33 : Tryz.prog.cellsOf 30 = 9 := by kernel_rfl
theorem cells25 : Tryz.prog.cellsOf 25 = 7 := by kernel_rfl
theorem cells22 : Tryz.prog.cellsOf 22 = 1 := by kernel_rfl
theorem cells23 : Tryz.prog.cellsOf 23 = 1 := by kernel_rfl
theorem bytes35 : Tryz.prog.bytesOf 43 = 88 := by kernel_rfl
theorem bytes45 : Tryz.prog.bytesOf 61 = 112 := by kernel_rfl
theorem tx_of (s : ByteArray) : Value.string s = tx s.data.toList := by cases s; simp [tx]

/-- A cell that holds a list of properties. -/
theorem props_cell {H : Type} {enc : TypeId × Value → H} {W : World} {c : Value} {fuel : Nat} {x : DataW H × List MemPlace} (h : DataW.trod enc Tryz.prog W 0 (fun _ => true) true fuel 26 [c] = some x) : ∃ l : List Pr, RdP W c l := by
  rcases open_slice Tryz.underlying26 h with ⟨hcs, _⟩ | ⟨a, l, cp, m, f, D, Pl, hcs, _⟩
  · simp only [List.cons.injEq, and_true] at hcs
    subst hcs
    exact ⟨[], .inl ⟨⟨_, _, rfl⟩, rfl⟩⟩
  · simp only [List.cons.injEq, and_true] at hcs
    subst hcs
    obtain ⟨l, hl, _⟩ := rd_props (d := x.1) (p := x.2) ⟨fuel, h⟩
    exact ⟨l, hl⟩

theorem msg_cells {H : Type} {enc : TypeId × Value → H} {W : World} {cs : List Value} {fuel : Nat} {x : DataW H × List MemPlace} (h : DataW.trod enc Tryz.prog W 0 (fun _ => true) true fuel 28 cs = some x) :
    ∃ (y : Msg) (pv : Value), cs = msgV y pv ∧ RdP W pv y.props := by
  obtain ⟨xs, n, _, rfl, hl, hlen, hf⟩ := DataW.trod_struct Tryz.underlying28 h
  rw [cells31] at hl
  match xs, hlen with
  | [y0, y1, y2, y3, y4], _ =>
    have t0 : DataW.trod enc Tryz.prog W 0 (fun _ => true) true n 9 ((cs.drop 0).take (Tryz.prog.cellsOf 9)) = some y0 := by simpa using hf 0 _ rfl
    have t1 : DataW.trod enc Tryz.prog W 0 (fun _ => true) true n 9 ((cs.drop 1).take (Tryz.prog.cellsOf 9)) = some y1 := by simpa using hf 1 _ rfl
    have t2 : DataW.trod enc Tryz.prog W 0 (fun _ => true) true n 26 ((cs.drop 2).take (Tryz.prog.cellsOf 26)) = some y2 := by simpa using hf 2 _ rfl
    have t3 : DataW.trod enc Tryz.prog W 0 (fun _ => true) true n 4 ((cs.drop 3).take (Tryz.prog.cellsOf 4)) = some y3 := by simpa using hf 3 _ rfl
    have t4 : DataW.trod enc Tryz.prog W 0 (fun _ => true) true n 3 ((cs.drop 4).take (Tryz.prog.cellsOf 3)) = some y4 := by simpa using hf 4 _ rfl
    match cs, hl with
    | [c0, c1, c2, c3, c4], _ =>
      simp only [cells3, cells4, cells9, cells29, List.drop, List.take] at t0 t1 t2 t3 t4
      obtain ⟨s, e0, _, _⟩ := DataW.trod_string Tryz.underlying9 t0
      obtain ⟨b, e1, _, _⟩ := DataW.trod_string Tryz.underlying9 t1
      obtain ⟨l, hp⟩ := props_cell t2
      obtain ⟨d, e3, _⟩ := DataW.trod_bool Tryz.underlying4 t3
      obtain ⟨u, e4, _, _⟩ := DataW.trod_int Tryz.underlying3 t4
      simp only [List.cons.injEq, and_true] at e0 e1 e3 e4
      subst e0 e1 e3 e4
      exact ⟨⟨s.data.toList, b.data.toList, l, d, u⟩, c2, by simp only [msgV, tx_of], hp⟩
theorem itm_cells {H : Type} {enc : TypeId × Value → H} {W : World} {cs : List Value} {fuel : Nat} {x : DataW H × List MemPlace} (h : DataW.trod enc Tryz.prog W 0 (fun _ => true) true fuel 43 cs = some x) :
    ∃ (y : Itm) (pv : Value), cs = itmV y pv ∧ RdP W pv y.msg.props := by
  obtain ⟨xs, n, _, rfl, hl, hlen, hf⟩ := DataW.trod_struct Tryz.underlying43 h
  rw [cells35] at hl
  match xs, hlen with
  | [y0, y1, y2], _ =>
    have t0 : DataW.trod enc Tryz.prog W 0 (fun _ => true) true n 3 ((cs.drop 0).take (Tryz.prog.cellsOf 3)) = some y0 := by simpa using hf 0 _ rfl
    have t1 : DataW.trod enc Tryz.prog W 0 (fun _ => true) true n 4 ((cs.drop 1).take (Tryz.prog.cellsOf 4)) = some y1 := by simpa using hf 1 _ rfl
    have t2 : DataW.trod enc Tryz.prog W 0 (fun _ => true) true n 28 ((cs.drop 2).take (Tryz.prog.cellsOf 28)) = some y2 := by simpa using hf 2 _ rfl
    match cs, hl with
    | [c0, c1, c2, c3, c4, c5, c6], _ =>
      simp only [cells3, cells4, cells31, List.drop, List.take] at t0 t1 t2
      obtain ⟨s, e0, _, _⟩ := DataW.trod_int Tryz.underlying3 t0
      obtain ⟨b, e1, _⟩ := DataW.trod_bool Tryz.underlying4 t1
      obtain ⟨m, pv, e2, hp⟩ := msg_cells t2
      simp only [msgV, List.cons.injEq, and_true] at e0 e1 e2
      obtain ⟨rfl, rfl, rfl, rfl, rfl⟩ := e2
      subst e0 e1
      exact ⟨⟨s, b, m⟩, _, rfl, hp⟩
theorem hld_cells {H : Type} {enc : TypeId × Value → H} {W : World} {cs : List Value} {fuel : Nat} {x : DataW H × List MemPlace} (h : DataW.trod enc Tryz.prog W 0 (fun _ => true) true fuel 61 cs = some x) :
    ∃ (y : Hld) (pv : Value), cs = hldV y pv ∧ RdP W pv y.itm.msg.props := by
  obtain ⟨xs, n, _, rfl, hl, hlen, hf⟩ := DataW.trod_struct Tryz.underlying61 h
  rw [cells45] at hl
  match xs, hlen with
  | [y0, y1, y2, y3], _ =>
    have t0 : DataW.trod enc Tryz.prog W 0 (fun _ => true) true n 3 ((cs.drop 0).take (Tryz.prog.cellsOf 3)) = some y0 := by simpa using hf 0 _ rfl
    have t1 : DataW.trod enc Tryz.prog W 0 (fun _ => true) true n 3 ((cs.drop 1).take (Tryz.prog.cellsOf 3)) = some y1 := by simpa using hf 1 _ rfl
    have t2 : DataW.trod enc Tryz.prog W 0 (fun _ => true) true n 3 ((cs.drop 2).take (Tryz.prog.cellsOf 3)) = some y2 := by simpa using hf 2 _ rfl
    have t3 : DataW.trod enc Tryz.prog W 0 (fun _ => true) true n 43 ((cs.drop 3).take (Tryz.prog.cellsOf 43)) = some y3 := by simpa using hf 3 _ rfl
    match cs, hl with
    | [c0, c1, c2, c3, c4, c5, c6, c7, c8, c9], _ =>
      simp only [cells3, cells35, List.drop, List.take] at t0 t1 t2 t3
      obtain ⟨s, e0, _, _⟩ := DataW.trod_int Tryz.underlying3 t0
      obtain ⟨b, e1, _, _⟩ := DataW.trod_int Tryz.underlying3 t1
      obtain ⟨u, e2, _, _⟩ := DataW.trod_int Tryz.underlying3 t2
      obtain ⟨m, pv, e3, hp⟩ := itm_cells t3
      simp only [itmV, List.cons.injEq, and_true] at e0 e1 e2 e3
      obtain ⟨rfl, rfl, rfl, rfl, rfl, rfl, rfl⟩ := e3
      subst e0 e1 e2
      exact ⟨⟨s, b, u, m⟩, _, rfl, hp⟩
theorem op_cells {H : Type} {enc : TypeId × Value → H} {W : World} {cs : List Value} {fuel : Nat} {x : DataW H × List MemPlace} (h : DataW.trod enc Tryz.prog W 0 (fun _ => true) true fuel 30 cs = some x) :
    ∃ (y : Opn) (pv : Value), cs = opV y pv ∧ RdP W pv y.m.props := by
  obtain ⟨xs, n, _, rfl, hl, hlen, hf⟩ := DataW.trod_struct Tryz.underlying30 h
  rw [cells33] at hl
  match xs, hlen with
  | [y0, y1, y2, y3, y4], _ =>
    have t0 : DataW.trod enc Tryz.prog W 0 (fun _ => true) true n 3 ((cs.drop 0).take (Tryz.prog.cellsOf 3)) = some y0 := by simpa using hf 0 _ rfl
    have t1 : DataW.trod enc Tryz.prog W 0 (fun _ => true) true n 3 ((cs.drop 1).take (Tryz.prog.cellsOf 3)) = some y1 := by simpa using hf 1 _ rfl
    have t2 : DataW.trod enc Tryz.prog W 0 (fun _ => true) true n 3 ((cs.drop 2).take (Tryz.prog.cellsOf 3)) = some y2 := by simpa using hf 2 _ rfl
    have t3 : DataW.trod enc Tryz.prog W 0 (fun _ => true) true n 4 ((cs.drop 3).take (Tryz.prog.cellsOf 4)) = some y3 := by simpa using hf 3 _ rfl
    have t4 : DataW.trod enc Tryz.prog W 0 (fun _ => true) true n 28 ((cs.drop 4).take (Tryz.prog.cellsOf 28)) = some y4 := by simpa using hf 4 _ rfl
    match cs, hl with
    | [c0, c1, c2, c3, c4, c5, c6, c7, c8], _ =>
      simp only [cells3, cells4, cells31, List.drop, List.take] at t0 t1 t2 t3 t4
      obtain ⟨s, e0, _, _⟩ := DataW.trod_int Tryz.underlying3 t0
      obtain ⟨b, e1, _, _⟩ := DataW.trod_int Tryz.underlying3 t1
      obtain ⟨u, e2, _, _⟩ := DataW.trod_int Tryz.underlying3 t2
      obtain ⟨g, e3, _⟩ := DataW.trod_bool Tryz.underlying4 t3
      obtain ⟨m, pv, e4, hp⟩ := msg_cells t4
      simp only [msgV, List.cons.injEq, and_true] at e0 e1 e2 e3 e4
      obtain ⟨rfl, rfl, rfl, rfl, rfl⟩ := e4
      subst e0 e1 e2 e3
      exact ⟨⟨s, b, u, g, m⟩, _, rfl, hp⟩

/-- A slice whose elements are told by their cells. -/
theorem rd_list {H : Type} {enc : TypeId × Value → H} {W : World} {α : Type} {t e k : Nat} {R : List Value → α → Prop} (ht : Tryz.prog.underlying t = some (.slice e)) (hk : Tryz.prog.cellsOf e = k) (k0 : 0 < k)
    (hE : ∀ cs fuel x, DataW.trod enc Tryz.prog W 0 (fun _ => true) true fuel e cs = some x → ∃ y, (∀ u ∈ cs, u.oneCell' = true) ∧ R cs y)
    {v : Value} {fuel : Nat} {x : DataW H × List MemPlace} (h : DataW.trod enc Tryz.prog W 0 (fun _ => true) true fuel t [v] = some x) :
    ∃ l : List α, RdL k R W v l ∧ (l.length = 0 ∨ ∃ E S Pl, x = (.slice E S, Pl) ∧ l.length ≤ E.length + S.length) := by
  rcases open_slice ht h with ⟨hcs, _⟩ | ⟨a, n, c, m, f, D, Pl, hcs, _, hl, hm, hmm, hx, hel⟩
  · simp only [List.cons.injEq, and_true] at hcs
    subst hcs
    exact ⟨[], ⟨[], rfl, .inl ⟨⟨_, _, rfl⟩, rfl⟩, by simp⟩, .inl rfl⟩
  · simp only [List.cons.injEq, and_true] at hcs
    subst hcs
    have hmc : m = c := by simpa using hmm
    subst hmc
    rcases Nat.eq_zero_or_pos n with h0 | h0
    · subst h0
      exact ⟨[], ⟨[], rfl, .inl ⟨⟨_, _, rfl⟩, rfl⟩, by simp⟩, .inl rfl⟩
    · have key : ∀ i, i < n → ∃ (b o : Nat) (cs : List Value) (y : α), a.add (i * k) = ⟨b, o, none⟩ ∧ cs.length = k ∧ (∀ j, j < k → W.cell? ⟨b, o + j, none⟩ = cs[j]?) ∧ (∀ u ∈ cs, u.oneCell' = true) ∧ R cs y := fun i hi => by
        obtain ⟨cs', h1, h2⟩ := hel i (by omega)
        obtain ⟨y, h3, h4⟩ := hE _ _ _ h2
        rw [hk] at h1
        obtain ⟨_, hlen, hh⟩ := World.cells?_some h1
        generalize a.add (i * k) = ad at *
        obtain ⟨b, o, sp⟩ := ad
        have hc0 := hh 0 k0
        have hsp : sp = none := by
          rw [List.getElem?_eq_getElem (by omega)] at hc0
          simpa [Addr.add] using World.cell?_spot hc0
        subst hsp
        exact ⟨b, o, cs', y, rfl, hlen, fun j hj => by rw [← hh j hj, Addr.add_lit], h3, h4⟩
      obtain ⟨b, o, _, _, e0, _⟩ := key 0 (by omega)
      have ex : a = ⟨b, o, none⟩ := by simpa [Addr.add] using e0
      subst ex
      have hall : ∀ m, m ≤ n → ∃ zs : Zs α, zs.length = m ∧ (∀ j u, (cellsZ zs)[j]? = some u → W.cell? ⟨b, o + j, none⟩ = some u) ∧ ∀ z ∈ zs, (z.1.length = k ∧ ∀ u ∈ z.1, u.oneCell' = true) ∧ R z.1 z.2 := by
        intro m
        induction m with
        | zero => exact fun _ => ⟨[], rfl, fun j u h => by simp [cellsZ] at h, by simp⟩
        | succ m ih =>
          intro hm
          obtain ⟨zs, hl, h1, h2⟩ := ih (by omega)
          obtain ⟨b', o', cs, y, e, h3, h4, h5, h6⟩ := key m (by omega)
          rw [Addr.add_lit] at e
          cases e
          have hcl : (cellsZ zs).length = m * k := by rw [cellsZ_len (fun z hz => (h2 z hz).1.1), hl]
          refine ⟨zs ++ [(cs, y)], by simp [hl], fun j u hj => ?_, fun z hz => ?_⟩
          · rw [cellsZ_app] at hj
            by_cases hlt : j < m * k
            · rw [List.getElem?_append_left (by omega)] at hj
              exact h1 j u hj
            · rw [List.getElem?_append_right (by omega), hcl] at hj
              have hj2 : j - m * k < k := by
                have := (List.getElem?_eq_some_iff.1 hj).1
                simp [cellsZ] at this
                omega
              have h7 := h4 (j - m * k) hj2
              have e9 : o + m * k + (j - m * k) = o + j := by omega
              rw [e9] at h7
              rw [h7]
              simpa [cellsZ] using hj
          · rcases List.mem_append.1 hz with hz | hz
            · exact h2 z hz
            · simp at hz
              subst hz
              exact ⟨⟨h3, h5⟩, h6⟩
      obtain ⟨zs, hl2, h1, h2⟩ := hall n (Nat.le_refl _)
      refine ⟨zs.map (·.2), ⟨zs, rfl, .inr ⟨b, o, m, by rw [hl2], by omega, h1⟩, h2⟩, .inr ⟨_, _, _, hx, by simp [hl2]⟩⟩
def OpR (p : Value → List Pr → Prop) (vs : List Value) (o : Opn) : Prop := ∃ pv, vs = opV o pv ∧ p pv o.m.props
def RdO (w : World) (v : Value) (l : List Opn) : Prop := RdL 9 (OpR (RdP w)) w v l
theorem items_cell {H : Type} {enc : TypeId × Value → H} {W : World} {v : Value} {fuel : Nat} {x : DataW H × List MemPlace} (h : DataW.trod enc Tryz.prog W 0 (fun _ => true) true fuel 22 [v] = some x) :
    ∃ l, RdI W v l ∧ (l.length = 0 ∨ ∃ E S Pl, x = (.slice E S, Pl) ∧ l.length ≤ E.length + S.length) :=
  rd_list Tryz.underlying22 cells35 (by decide) (fun cs fuel x h => by
    obtain ⟨y, pv, rfl, hp⟩ := itm_cells h
    refine ⟨y, fun u hu => ?_, pv, rfl, hp⟩
    have := hp.one
    simp only [itmV, List.mem_cons, List.not_mem_nil, or_false] at hu
    rcases hu with rfl | rfl | rfl | rfl | rfl | rfl | rfl <;> first | rfl | exact this) h
theorem held_cell {H : Type} {enc : TypeId × Value → H} {W : World} {v : Value} {fuel : Nat} {x : DataW H × List MemPlace} (h : DataW.trod enc Tryz.prog W 0 (fun _ => true) true fuel 23 [v] = some x) :
    ∃ l, RdH W v l ∧ (l.length = 0 ∨ ∃ E S Pl, x = (.slice E S, Pl) ∧ l.length ≤ E.length + S.length) :=
  rd_list Tryz.underlying23 cells45 (by decide) (fun cs fuel x h => by
    obtain ⟨y, pv, rfl, hp⟩ := hld_cells h
    refine ⟨y, fun u hu => ?_, pv, rfl, hp⟩
    have := hp.one
    simp only [hldV, List.mem_cons, List.not_mem_nil, or_false] at hu
    rcases hu with rfl | rfl | rfl | rfl | rfl | rfl | rfl | rfl | rfl | rfl <;> first | rfl | exact this) h
/-- A queue that came in: its lists are no longer than memory is. -/
theorem open_que {H : Type} {enc : TypeId × Value → H} {W : World} {v : Value} {d : DataW H} {p : List MemPlace} (h : DataW.Trod enc Tryz.prog W 0 (fun _ => true) true 25 v d p)
    (hsz : ∀ n ∈ d.weights Tryz.prog 25, n ≤ reachBytes) : ∃ q : Que, RdQ W v q ∧ lenQ q ≤ 9223372036854775806 := by
  obtain ⟨fuel, h⟩ := h
  obtain ⟨xs, n, _, hx, hl, hlen, hf⟩ := DataW.trod_struct Tryz.underlying25 h
  rw [cells25] at hl
  obtain ⟨hd, _⟩ := Prod.mk.inj hx
  subst hd
  match xs, hlen with
  | [y0, y1, y2, y3, y4, y5, y6], _ =>
    have t0 : DataW.trod enc Tryz.prog W 0 (fun _ => true) true n 9 ((v.cells.toList.drop 0).take (Tryz.prog.cellsOf 9)) = some y0 := by simpa using hf 0 _ rfl
    have t1 : DataW.trod enc Tryz.prog W 0 (fun _ => true) true n 4 ((v.cells.toList.drop 1).take (Tryz.prog.cellsOf 4)) = some y1 := by simpa using hf 1 _ rfl
    have t2 : DataW.trod enc Tryz.prog W 0 (fun _ => true) true n 3 ((v.cells.toList.drop 2).take (Tryz.prog.cellsOf 3)) = some y2 := by simpa using hf 2 _ rfl
    have t3 : DataW.trod enc Tryz.prog W 0 (fun _ => true) true n 3 ((v.cells.toList.drop 3).take (Tryz.prog.cellsOf 3)) = some y3 := by simpa using hf 3 _ rfl
    have t4 : DataW.trod enc Tryz.prog W 0 (fun _ => true) true n 3 ((v.cells.toList.drop 4).take (Tryz.prog.cellsOf 3)) = some y4 := by simpa using hf 4 _ rfl
    have t5 : DataW.trod enc Tryz.prog W 0 (fun _ => true) true n 22 ((v.cells.toList.drop 5).take (Tryz.prog.cellsOf 22)) = some y5 := by simpa using hf 5 _ rfl
    have t6 : DataW.trod enc Tryz.prog W 0 (fun _ => true) true n 23 ((v.cells.toList.drop 6).take (Tryz.prog.cellsOf 23)) = some y6 := by simpa using hf 6 _ rfl
    clear hf h
    obtain ⟨a, rfl⟩ : ∃ a, v = .agg a := by
      cases v with
      | agg a => exact ⟨a, rfl⟩
      | _ => simp [Value.cells] at hl
    obtain ⟨cs, rfl⟩ : ∃ cs : List Value, a = cs.toArray := ⟨a.toList, by simp⟩
    simp only [Value.cells] at hl t0 t1 t2 t3 t4 t5 t6
    match cs, hl with
    | [c0, c1, c2, c3, c4, c5, c6], _ =>
      simp only [cells3, cells4, cells9, cells22, cells23, List.drop, List.take] at t0 t1 t2 t3 t4 t5 t6
      obtain ⟨s, e0, _, _⟩ := DataW.trod_string Tryz.underlying9 t0
      obtain ⟨b, e1, _⟩ := DataW.trod_bool Tryz.underlying4 t1
      obtain ⟨z2, e2, _, _⟩ := DataW.trod_int Tryz.underlying3 t2
      obtain ⟨z3, e3, _, _⟩ := DataW.trod_int Tryz.underlying3 t3
      obtain ⟨z4, e4, _, _⟩ := DataW.trod_int Tryz.underlying3 t4
      obtain ⟨li, hi, bi⟩ := items_cell t5
      obtain ⟨lh, hh, bh⟩ := held_cell t6
      simp only [List.cons.injEq, and_true] at e0 e1 e2 e3 e4
      subst e0 e1 e2 e3 e4
      have w5 : li.length ≤ reachBytes := by
        rcases bi with h | ⟨E, S, Pl, rfl, h⟩
        · omega
        · have := hsz ((E.length + S.length) * 88) (by
            simp [DataW.weights, Tryz.underlying25, DataW.weightsEach, Tryz.underlying22, bytes35])
          omega
      have w6 : lh.length ≤ reachBytes := by
        rcases bh with h | ⟨E, S, Pl, rfl, h⟩
        · omega
        · have := hsz ((E.length + S.length) * 112) (by
            simp [DataW.weights, Tryz.underlying25, DataW.weightsEach, Tryz.underlying23, bytes45])
          omega
      refine ⟨⟨s.data.toList, b, z2, z3, z4, li, lh⟩, ⟨c5, c6, by simp only [queV, tx_of], hi, hh⟩, ?_⟩
      simp only [lenQ, reachBytes] at *
      omega
end Go.Proofs.YtlbcefocmdnlgaaGreatDoor

namespace Go.Proofs.YtlbcefocmdnlgaaGreatDoor
open Go.RowKit Go.Lib Go.Deep
set_option maxRecDepth 100000

theorem wAll_mem {H : Type} {e : TypeId} : ∀ {ds : List (DataW H)} {d : DataW H}, d ∈ ds → ∀ n ∈ d.weights Tryz.prog e, n ∈ DataW.weightsAll Tryz.prog e ds
  | [], _, h, _, _ => by simp at h
  | x :: ds, d, h, n, hn => by
    rw [DataW.weightsAll]
    rcases List.mem_cons.1 h with rfl | h
    · exact List.mem_append_left _ hn
    · exact List.mem_append_right _ (wAll_mem h n hn)
/-- What is told of a message that came in. -/
def InM (m : Msg) : Prop := (∀ p ∈ m.props, InP p) ∧ m.props.length ≤ 2513169434916
theorem props_cellW {H : Type} {enc : TypeId × Value → H} {W : World} {c : Value} {fuel : Nat} {x : DataW H × List MemPlace} (h : DataW.trod enc Tryz.prog W 0 (fun _ => true) true fuel 26 [c] = some x) (hw : ∀ n ∈ x.1.weights Tryz.prog 26, n ≤ reachBytes) :
    ∃ l : List Pr, RdP W c l ∧ (∀ p ∈ l, InP p) ∧ l.length ≤ 2513169434916 := by
  rcases open_slice Tryz.underlying26 h with ⟨hcs, _⟩ | ⟨a, l, cp, m, f, D, Pl, hcs, _⟩
  · simp only [List.cons.injEq, and_true] at hcs
    subst hcs
    exact ⟨[], .inl ⟨⟨_, _, rfl⟩, rfl⟩, by simp, by simp⟩
  · simp only [List.cons.injEq, and_true] at hcs
    subst hcs
    obtain ⟨l', hl, hn, hp, hb⟩ := rd_props (d := x.1) (p := x.2) ⟨fuel, h⟩
    refine ⟨l', hl, hp, ?_⟩
    rcases hb with hb | ⟨E, S, hd, hb⟩
    · omega
    · have := hw ((E.length + S.length) * 56) (by rw [hd]; simp [DataW.weights, Tryz.underlying26, bytes88])
      simp only [reachBytes] at this
      omega
theorem msg_cellsW {H : Type} {enc : TypeId × Value → H} {W : World} {cs : List Value} {fuel : Nat} {x : DataW H × List MemPlace} (h : DataW.trod enc Tryz.prog W 0 (fun _ => true) true fuel 28 cs = some x) (hw : ∀ n ∈ x.1.weights Tryz.prog 28, n ≤ reachBytes) :
    ∃ (y : Msg) (pv : Value), cs = msgV y pv ∧ RdP W pv y.props ∧ InM y := by
  obtain ⟨xs, n, _, rfl, hl, hlen, hf⟩ := DataW.trod_struct Tryz.underlying28 h
  rw [cells31] at hl
  match xs, hlen with
  | [y0, y1, y2, y3, y4], _ =>
    have t0 : DataW.trod enc Tryz.prog W 0 (fun _ => true) true n 9 ((cs.drop 0).take (Tryz.prog.cellsOf 9)) = some y0 := by simpa using hf 0 _ rfl
    have t1 : DataW.trod enc Tryz.prog W 0 (fun _ => true) true n 9 ((cs.drop 1).take (Tryz.prog.cellsOf 9)) = some y1 := by simpa using hf 1 _ rfl
    have t2 : DataW.trod enc Tryz.prog W 0 (fun _ => true) true n 26 ((cs.drop 2).take (Tryz.prog.cellsOf 26)) = some y2 := by simpa using hf 2 _ rfl
    have t3 : DataW.trod enc Tryz.prog W 0 (fun _ => true) true n 4 ((cs.drop 3).take (Tryz.prog.cellsOf 4)) = some y3 := by simpa using hf 3 _ rfl
    have t4 : DataW.trod enc Tryz.prog W 0 (fun _ => true) true n 3 ((cs.drop 4).take (Tryz.prog.cellsOf 3)) = some y4 := by simpa using hf 4 _ rfl
    match cs, hl with
    | [c0, c1, c2, c3, c4], _ =>
      simp only [cells3, cells4, cells9, cells29, List.drop, List.take] at t0 t1 t2 t3 t4
      obtain ⟨s, e0, _, _⟩ := DataW.trod_string Tryz.underlying9 t0
      obtain ⟨b, e1, _, _⟩ := DataW.trod_string Tryz.underlying9 t1
      obtain ⟨l, hp, hq⟩ := props_cellW t2 (fun n hn => hw n (by simp [DataW.weights, Tryz.underlying28, DataW.weightsEach]; simp [hn]))
      obtain ⟨d, e3, _⟩ := DataW.trod_bool Tryz.underlying4 t3
      obtain ⟨u, e4, _, _⟩ := DataW.trod_int Tryz.underlying3 t4
      simp only [List.cons.injEq, and_true] at e0 e1 e3 e4
      subst e0 e1 e3 e4
      exact ⟨⟨s.data.toList, b.data.toList, l, d, u⟩, c2, by simp only [msgV, tx_of], hp, hq⟩
theorem itm_cellsW {H : Type} {enc : TypeId × Value → H} {W : World} {cs : List Value} {fuel : Nat} {x : DataW H × List MemPlace} (h : DataW.trod enc Tryz.prog W 0 (fun _ => true) true fuel 43 cs = some x) (hw : ∀ n ∈ x.1.weights Tryz.prog 43, n ≤ reachBytes) :
    ∃ (y : Itm) (pv : Value), cs = itmV y pv ∧ RdP W pv y.msg.props ∧ InM y.msg := by
  obtain ⟨xs, n, _, rfl, hl, hlen, hf⟩ := DataW.trod_struct Tryz.underlying43 h
  rw [cells35] at hl
  match xs, hlen with
  | [y0, y1, y2], _ =>
    have t0 : DataW.trod enc Tryz.prog W 0 (fun _ => true) true n 3 ((cs.drop 0).take (Tryz.prog.cellsOf 3)) = some y0 := by simpa using hf 0 _ rfl
    have t1 : DataW.trod enc Tryz.prog W 0 (fun _ => true) true n 4 ((cs.drop 1).take (Tryz.prog.cellsOf 4)) = some y1 := by simpa using hf 1 _ rfl
    have t2 : DataW.trod enc Tryz.prog W 0 (fun _ => true) true n 28 ((cs.drop 2).take (Tryz.prog.cellsOf 28)) = some y2 := by simpa using hf 2 _ rfl
    match cs, hl with
    | [c0, c1, c2, c3, c4, c5, c6], _ =>
      simp only [cells3, cells4, cells31, List.drop, List.take] at t0 t1 t2
      obtain ⟨s, e0, _, _⟩ := DataW.trod_int Tryz.underlying3 t0
      obtain ⟨b, e1, _⟩ := DataW.trod_bool Tryz.underlying4 t1
      obtain ⟨m, pv, e2, hp, hq⟩ := msg_cellsW t2 (fun n hn => hw n (by simp [DataW.weights, Tryz.underlying43, DataW.weightsEach]; simp [hn]))
      simp only [msgV, List.cons.injEq, and_true] at e0 e1 e2
      obtain ⟨rfl, rfl, rfl, rfl, rfl⟩ := e2
      subst e0 e1
      exact ⟨⟨s, b, m⟩, _, rfl, hp, hq⟩
theorem hld_cellsW {H : Type} {enc : TypeId × Value → H} {W : World} {cs : List Value} {fuel : Nat} {x : DataW H × List MemPlace} (h : DataW.trod enc Tryz.prog W 0 (fun _ => true) true fuel 61 cs = some x) (hw : ∀ n ∈ x.1.weights Tryz.prog 61, n ≤ reachBytes) :
    ∃ (y : Hld) (pv : Value), cs = hldV y pv ∧ RdP W pv y.itm.msg.props ∧ InM y.itm.msg := by
  obtain ⟨xs, n, _, rfl, hl, hlen, hf⟩ := DataW.trod_struct Tryz.underlying61 h
  rw [cells45] at hl
  match xs, hlen with
  | [y0, y1, y2, y3], _ =>
    have t0 : DataW.trod enc Tryz.prog W 0 (fun _ => true) true n 3 ((cs.drop 0).take (Tryz.prog.cellsOf 3)) = some y0 := by simpa using hf 0 _ rfl
    have t1 : DataW.trod enc Tryz.prog W 0 (fun _ => true) true n 3 ((cs.drop 1).take (Tryz.prog.cellsOf 3)) = some y1 := by simpa using hf 1 _ rfl
    have t2 : DataW.trod enc Tryz.prog W 0 (fun _ => true) true n 3 ((cs.drop 2).take (Tryz.prog.cellsOf 3)) = some y2 := by simpa using hf 2 _ rfl
    have t3 : DataW.trod enc Tryz.prog W 0 (fun _ => true) true n 43 ((cs.drop 3).take (Tryz.prog.cellsOf 43)) = some y3 := by simpa using hf 3 _ rfl
    match cs, hl with
    | [c0, c1, c2, c3, c4, c5, c6, c7, c8, c9], _ =>
      simp only [cells3, cells35, List.drop, List.take] at t0 t1 t2 t3
      obtain ⟨s, e0, _, _⟩ := DataW.trod_int Tryz.underlying3 t0
      obtain ⟨b, e1, _, _⟩ := DataW.trod_int Tryz.underlying3 t1
      obtain ⟨u, e2, _, _⟩ := DataW.trod_int Tryz.underlying3 t2
      obtain ⟨m, pv, e3, hp, hq⟩ := itm_cellsW t3 (fun n hn => hw n (by simp [DataW.weights, Tryz.underlying61, DataW.weightsEach]; simp [hn]))
      simp only [itmV, List.cons.injEq, and_true] at e0 e1 e2 e3
      obtain ⟨rfl, rfl, rfl, rfl, rfl, rfl, rfl⟩ := e3
      subst e0 e1 e2
      exact ⟨⟨s, b, u, m⟩, _, rfl, hp, hq⟩
theorem op_cellsW {H : Type} {enc : TypeId × Value → H} {W : World} {cs : List Value} {fuel : Nat} {x : DataW H × List MemPlace} (h : DataW.trod enc Tryz.prog W 0 (fun _ => true) true fuel 30 cs = some x) (hw : ∀ n ∈ x.1.weights Tryz.prog 30, n ≤ reachBytes) :
    ∃ (y : Opn) (pv : Value), cs = opV y pv ∧ RdP W pv y.m.props ∧ InM y.m := by
  obtain ⟨xs, n, _, rfl, hl, hlen, hf⟩ := DataW.trod_struct Tryz.underlying30 h
  rw [cells33] at hl
  match xs, hlen with
  | [y0, y1, y2, y3, y4], _ =>
    have t0 : DataW.trod enc Tryz.prog W 0 (fun _ => true) true n 3 ((cs.drop 0).take (Tryz.prog.cellsOf 3)) = some y0 := by simpa using hf 0 _ rfl
    have t1 : DataW.trod enc Tryz.prog W 0 (fun _ => true) true n 3 ((cs.drop 1).take (Tryz.prog.cellsOf 3)) = some y1 := by simpa using hf 1 _ rfl
    have t2 : DataW.trod enc Tryz.prog W 0 (fun _ => true) true n 3 ((cs.drop 2).take (Tryz.prog.cellsOf 3)) = some y2 := by simpa using hf 2 _ rfl
    have t3 : DataW.trod enc Tryz.prog W 0 (fun _ => true) true n 4 ((cs.drop 3).take (Tryz.prog.cellsOf 4)) = some y3 := by simpa using hf 3 _ rfl
    have t4 : DataW.trod enc Tryz.prog W 0 (fun _ => true) true n 28 ((cs.drop 4).take (Tryz.prog.cellsOf 28)) = some y4 := by simpa using hf 4 _ rfl
    match cs, hl with
    | [c0, c1, c2, c3, c4, c5, c6, c7, c8], _ =>
      simp only [cells3, cells4, cells31, List.drop, List.take] at t0 t1 t2 t3 t4
      obtain ⟨s, e0, _, _⟩ := DataW.trod_int Tryz.underlying3 t0
      obtain ⟨b, e1, _, _⟩ := DataW.trod_int Tryz.underlying3 t1
      obtain ⟨u, e2, _, _⟩ := DataW.trod_int Tryz.underlying3 t2
      obtain ⟨g, e3, _⟩ := DataW.trod_bool Tryz.underlying4 t3
      obtain ⟨m, pv, e4, hp, hq⟩ := msg_cellsW t4 (fun n hn => hw n (by simp [DataW.weights, Tryz.underlying30, DataW.weightsEach]; simp [hn]))
      simp only [msgV, List.cons.injEq, and_true] at e0 e1 e2 e3 e4
      obtain ⟨rfl, rfl, rfl, rfl, rfl⟩ := e4
      subst e0 e1 e2 e3
      exact ⟨⟨s, b, u, g, m⟩, _, rfl, hp, hq⟩
theorem rd_listW {H : Type} {enc : TypeId × Value → H} {W : World} {α : Type} {t e k : Nat} {R : List Value → α → Prop} (ht : Tryz.prog.underlying t = some (.slice e)) (hk : Tryz.prog.cellsOf e = k) (k0 : 0 < k)
    (hE : ∀ cs fuel x, DataW.trod enc Tryz.prog W 0 (fun _ => true) true fuel e cs = some x → (∀ n ∈ x.1.weights Tryz.prog e, n ≤ reachBytes) → ∃ y, (∀ u ∈ cs, u.oneCell' = true) ∧ R cs y)
    {v : Value} {fuel : Nat} {x : DataW H × List MemPlace} (h : DataW.trod enc Tryz.prog W 0 (fun _ => true) true fuel t [v] = some x) (hw : ∀ n ∈ x.1.weights Tryz.prog t, n ≤ reachBytes) :
    ∃ l : List α, RdL k R W v l ∧ (l.length = 0 ∨ ∃ E S Pl, x = (.slice E S, Pl) ∧ l.length ≤ E.length + S.length) := by
  rcases open_slice ht h with ⟨hcs, _⟩ | ⟨a, n, c, m, f, D, Pl, hcs, _, hl, hm, hmm, hx, hel⟩
  · simp only [List.cons.injEq, and_true] at hcs
    subst hcs
    exact ⟨[], ⟨[], rfl, .inl ⟨⟨_, _, rfl⟩, rfl⟩, by simp⟩, .inl rfl⟩
  · simp only [List.cons.injEq, and_true] at hcs
    subst hcs
    have hmc : m = c := by simpa using hmm
    subst hmc
    rcases Nat.eq_zero_or_pos n with h0 | h0
    · subst h0
      exact ⟨[], ⟨[], rfl, .inl ⟨⟨_, _, rfl⟩, rfl⟩, by simp⟩, .inl rfl⟩
    · have key : ∀ i, i < n → ∃ (b o : Nat) (cs : List Value) (y : α), a.add (i * k) = ⟨b, o, none⟩ ∧ cs.length = k ∧ (∀ j, j < k → W.cell? ⟨b, o + j, none⟩ = cs[j]?) ∧ (∀ u ∈ cs, u.oneCell' = true) ∧ R cs y := fun i hi => by
        obtain ⟨cs', h1, h2⟩ := hel i (by omega)
        obtain ⟨y, h3, h4⟩ := hE _ _ _ h2 (fun n' hn' => hw n' (by
          rw [hx]
          simp only [DataW.weights, ht]
          exact List.mem_cons_of_mem _ (List.mem_append_left _ (wAll_mem (List.mem_map.2 ⟨i, by simp; omega, rfl⟩) n' hn'))))
        rw [hk] at h1
        obtain ⟨_, hlen, hh⟩ := World.cells?_some h1
        generalize a.add (i * k) = ad at *
        obtain ⟨b, o, sp⟩ := ad
        have hc0 := hh 0 k0
        have hsp : sp = none := by
          rw [List.getElem?_eq_getElem (by omega)] at hc0
          simpa [Addr.add] using World.cell?_spot hc0
        subst hsp
        exact ⟨b, o, cs', y, rfl, hlen, fun j hj => by rw [← hh j hj, Addr.add_lit], h3, h4⟩
      obtain ⟨b, o, _, _, e0, _⟩ := key 0 (by omega)
      have ex : a = ⟨b, o, none⟩ := by simpa [Addr.add] using e0
      subst ex
      have hall : ∀ m, m ≤ n → ∃ zs : Zs α, zs.length = m ∧ (∀ j u, (cellsZ zs)[j]? = some u → W.cell? ⟨b, o + j, none⟩ = some u) ∧ ∀ z ∈ zs, (z.1.length = k ∧ ∀ u ∈ z.1, u.oneCell' = true) ∧ R z.1 z.2 := by
        intro m
        induction m with
        | zero => exact fun _ => ⟨[], rfl, fun j u h => by simp [cellsZ] at h, by simp⟩
        | succ m ih =>
          intro hm
          obtain ⟨zs, hl, h1, h2⟩ := ih (by omega)
          obtain ⟨b', o', cs, y, e, h3, h4, h5, h6⟩ := key m (by omega)
          rw [Addr.add_lit] at e
          cases e
          have hcl : (cellsZ zs).length = m * k := by rw [cellsZ_len (fun z hz => (h2 z hz).1.1), hl]
          refine ⟨zs ++ [(cs, y)], by simp [hl], fun j u hj => ?_, fun z hz => ?_⟩
          · rw [cellsZ_app] at hj
            by_cases hlt : j < m * k
            · rw [List.getElem?_append_left (by omega)] at hj
              exact h1 j u hj
            · rw [List.getElem?_append_right (by omega), hcl] at hj
              have hj2 : j - m * k < k := by
                have := (List.getElem?_eq_some_iff.1 hj).1
                simp [cellsZ] at this
                omega
              have h7 := h4 (j - m * k) hj2
              have e9 : o + m * k + (j - m * k) = o + j := by omega
              rw [e9] at h7
              rw [h7]
              simpa [cellsZ] using hj
          · rcases List.mem_append.1 hz with hz | hz
            · exact h2 z hz
            · simp at hz
              subst hz
              exact ⟨⟨h3, h5⟩, h6⟩
      obtain ⟨zs, hl2, h1, h2⟩ := hall n (Nat.le_refl _)
      refine ⟨zs.map (·.2), ⟨zs, rfl, .inr ⟨b, o, m, by rw [hl2], by omega, h1⟩, h2⟩, .inr ⟨_, _, _, hx, by simp [hl2]⟩⟩
theorem rdl_part {α : Type} {k : Nat} {R : List Value → α → Prop} {P : α → Prop} {w : World} {v : Value} {l : List α} (h : RdL k (fun vs y => R vs y ∧ P y) w v l) : RdL k R w v l ∧ ∀ y ∈ l, P y := by
  obtain ⟨zs, rfl, hz⟩ := h
  refine ⟨⟨zs, rfl, hz.imp fun _ _ h => h.1⟩, fun y hy => ?_⟩
  obtain ⟨z, hz', rfl⟩ := List.mem_map.1 hy
  exact (hz.2 z hz').2.2
theorem items_cellW {H : Type} {enc : TypeId × Value → H} {W : World} {v : Value} {fuel : Nat} {x : DataW H × List MemPlace} (h : DataW.trod enc Tryz.prog W 0 (fun _ => true) true fuel 22 [v] = some x) (hw : ∀ n ∈ x.1.weights Tryz.prog 22, n ≤ reachBytes) :
    ∃ l, (RdI W v l ∧ ∀ y ∈ l, InM y.msg) ∧ (l.length = 0 ∨ ∃ E S Pl, x = (.slice E S, Pl) ∧ l.length ≤ E.length + S.length) := by
  obtain ⟨l, h1, h2⟩ := rd_listW (R := fun vs y => ItR (RdP W) vs y ∧ InM y.msg) Tryz.underlying22 cells35 (by decide) (fun cs fuel x h hw => by
    obtain ⟨y, pv, rfl, hp, hq⟩ := itm_cellsW h hw
    refine ⟨y, fun u hu => ?_, ⟨pv, rfl, hp⟩, hq⟩
    have := hp.one
    simp only [itmV, List.mem_cons, List.not_mem_nil, or_false] at hu
    rcases hu with rfl | rfl | rfl | rfl | rfl | rfl | rfl <;> first | rfl | exact this) h hw
  exact ⟨l, rdl_part h1, h2⟩
theorem held_cellW {H : Type} {enc : TypeId × Value → H} {W : World} {v : Value} {fuel : Nat} {x : DataW H × List MemPlace} (h : DataW.trod enc Tryz.prog W 0 (fun _ => true) true fuel 23 [v] = some x) (hw : ∀ n ∈ x.1.weights Tryz.prog 23, n ≤ reachBytes) :
    ∃ l, (RdH W v l ∧ ∀ y ∈ l, InM y.itm.msg) ∧ (l.length = 0 ∨ ∃ E S Pl, x = (.slice E S, Pl) ∧ l.length ≤ E.length + S.length) := by
  obtain ⟨l, h1, h2⟩ := rd_listW (R := fun vs y => HeR (RdP W) vs y ∧ InM y.itm.msg) Tryz.underlying23 cells45 (by decide) (fun cs fuel x h hw => by
    obtain ⟨y, pv, rfl, hp, hq⟩ := hld_cellsW h hw
    refine ⟨y, fun u hu => ?_, ⟨pv, rfl, hp⟩, hq⟩
    have := hp.one
    simp only [hldV, List.mem_cons, List.not_mem_nil, or_false] at hu
    rcases hu with rfl | rfl | rfl | rfl | rfl | rfl | rfl | rfl | rfl | rfl <;> first | rfl | exact this) h hw
  exact ⟨l, rdl_part h1, h2⟩
theorem open_queW {H : Type} {enc : TypeId × Value → H} {W : World} {v : Value} {d : DataW H} {p : List MemPlace} (h : DataW.Trod enc Tryz.prog W 0 (fun _ => true) true 25 v d p)
    (hsz : ∀ n ∈ d.weights Tryz.prog 25, n ≤ reachBytes) : ∃ q : Que, RdQ W v q ∧ lenQ q ≤ 9223372036854775806 ∧ q.name.length ≤ maxLen ∧ (∀ y ∈ q.items, InM y.msg) ∧ ∀ y ∈ q.held, InM y.itm.msg := by
  obtain ⟨fuel, h⟩ := h
  obtain ⟨xs, n, _, hx, hl, hlen, hf⟩ := DataW.trod_struct Tryz.underlying25 h
  rw [cells25] at hl
  obtain ⟨hd, _⟩ := Prod.mk.inj hx
  subst hd
  match xs, hlen with
  | [y0, y1, y2, y3, y4, y5, y6], _ =>
    have t0 : DataW.trod enc Tryz.prog W 0 (fun _ => true) true n 9 ((v.cells.toList.drop 0).take (Tryz.prog.cellsOf 9)) = some y0 := by simpa using hf 0 _ rfl
    have t1 : DataW.trod enc Tryz.prog W 0 (fun _ => true) true n 4 ((v.cells.toList.drop 1).take (Tryz.prog.cellsOf 4)) = some y1 := by simpa using hf 1 _ rfl
    have t2 : DataW.trod enc Tryz.prog W 0 (fun _ => true) true n 3 ((v.cells.toList.drop 2).take (Tryz.prog.cellsOf 3)) = some y2 := by simpa using hf 2 _ rfl
    have t3 : DataW.trod enc Tryz.prog W 0 (fun _ => true) true n 3 ((v.cells.toList.drop 3).take (Tryz.prog.cellsOf 3)) = some y3 := by simpa using hf 3 _ rfl
    have t4 : DataW.trod enc Tryz.prog W 0 (fun _ => true) true n 3 ((v.cells.toList.drop 4).take (Tryz.prog.cellsOf 3)) = some y4 := by simpa using hf 4 _ rfl
    have t5 : DataW.trod enc Tryz.prog W 0 (fun _ => true) true n 22 ((v.cells.toList.drop 5).take (Tryz.prog.cellsOf 22)) = some y5 := by simpa using hf 5 _ rfl
    have t6 : DataW.trod enc Tryz.prog W 0 (fun _ => true) true n 23 ((v.cells.toList.drop 6).take (Tryz.prog.cellsOf 23)) = some y6 := by simpa using hf 6 _ rfl
    clear hf h
    obtain ⟨a, rfl⟩ : ∃ a, v = .agg a := by
      cases v with
      | agg a => exact ⟨a, rfl⟩
      | _ => simp [Value.cells] at hl
    obtain ⟨cs, rfl⟩ : ∃ cs : List Value, a = cs.toArray := ⟨a.toList, by simp⟩
    simp only [Value.cells] at hl t0 t1 t2 t3 t4 t5 t6
    match cs, hl with
    | [c0, c1, c2, c3, c4, c5, c6], _ =>
      simp only [cells3, cells4, cells9, cells22, cells23, List.drop, List.take] at t0 t1 t2 t3 t4 t5 t6
      obtain ⟨s, e0, _, wsn⟩ := DataW.trod_string Tryz.underlying9 t0
      obtain ⟨b, e1, _⟩ := DataW.trod_bool Tryz.underlying4 t1
      obtain ⟨z2, e2, _, _⟩ := DataW.trod_int Tryz.underlying3 t2
      obtain ⟨z3, e3, _, _⟩ := DataW.trod_int Tryz.underlying3 t3
      obtain ⟨z4, e4, _, _⟩ := DataW.trod_int Tryz.underlying3 t4
      obtain ⟨li, ⟨hi, hqi⟩, bi⟩ := items_cellW t5 (fun n hn => hsz n (by simp [DataW.weights, Tryz.underlying25, DataW.weightsEach]; simp [hn]))
      obtain ⟨lh, ⟨hh, hqh⟩, bh⟩ := held_cellW t6 (fun n hn => hsz n (by simp [DataW.weights, Tryz.underlying25, DataW.weightsEach]; simp [hn]))
      simp only [List.cons.injEq, and_true] at e0 e1 e2 e3 e4
      subst e0 e1 e2 e3 e4
      have w5 : li.length ≤ reachBytes := by
        rcases bi with h | ⟨E, S, Pl, rfl, h⟩
        · omega
        · have := hsz ((E.length + S.length) * 88) (by
            simp [DataW.weights, Tryz.underlying25, DataW.weightsEach, Tryz.underlying22, bytes35])
          omega
      have w6 : lh.length ≤ reachBytes := by
        rcases bh with h | ⟨E, S, Pl, rfl, h⟩
        · omega
        · have := hsz ((E.length + S.length) * 112) (by
            simp [DataW.weights, Tryz.underlying25, DataW.weightsEach, Tryz.underlying23, bytes45])
          omega
      refine ⟨⟨s.data.toList, b, z2, z3, z4, li, lh⟩, ⟨c5, c6, by simp only [queV, tx_of], hi, hh⟩, ?_, by simpa using wsn, hqi, hqh⟩
      simp only [lenQ, reachBytes] at *
      omega
theorem open_msgW {H : Type} {enc : TypeId × Value → H} {W : World} {v : Value} {d : DataW H} {p : List MemPlace} (h : DataW.Trod enc Tryz.prog W 0 (fun _ => true) true 28 v d p)
    (hsz : ∀ n ∈ d.weights Tryz.prog 28, n ≤ reachBytes) : ∃ (y : Msg) (pv : Value), v = .agg (msgV y pv).toArray ∧ RdP W pv y.props ∧ InM y := by
  obtain ⟨fuel, h⟩ := h
  obtain ⟨y, pv, e, hp, hq⟩ := msg_cellsW h hsz
  refine ⟨y, pv, ?_, hp, hq⟩
  cases v with
  | agg a =>
    simp only [Value.cells] at e
    rw [← e]
  | _ => simp [Value.cells, msgV] at e
theorem open_opW {H : Type} {enc : TypeId × Value → H} {W : World} {v : Value} {d : DataW H} {p : List MemPlace} (h : DataW.Trod enc Tryz.prog W 0 (fun _ => true) true 30 v d p)
    (hsz : ∀ n ∈ d.weights Tryz.prog 30, n ≤ reachBytes) : ∃ (y : Opn) (pv : Value), v = .agg (opV y pv).toArray ∧ RdP W pv y.m.props ∧ InM y.m := by
  obtain ⟨fuel, h⟩ := h
  obtain ⟨y, pv, e, hp, hq⟩ := op_cellsW h hsz
  refine ⟨y, pv, ?_, hp, hq⟩
  cases v with
  | agg a =>
    simp only [Value.cells] at e
    rw [← e]
  | _ => simp [Value.cells, opV] at e
end Go.Proofs.YtlbcefocmdnlgaaGreatDoor

namespace Go.Proofs.YtlbcefocmdnlgaaGreatDoor
open Go.RowKit Go.Lib

theorem InM.fitk {m : Msg} (h : InM m) : FitM m := ⟨fun p hp => ⟨(h.1 p hp).1, (h.1 p hp).2.2.2.2⟩, by have := h.2; omega⟩
theorem keeps_in (W : World) (hva : To.Vars W) (v : Value) (q : Que) (hx : RdQ W v q) (bx : lenQ q ≤ 9223372036854775806) (nx : q.name.length ≤ maxLen) (ix : ∀ y ∈ q.items, InM y.msg) (jx : ∀ y ∈ q.held, InM y.itm.msg)
    (o : Opn) (ov : Value) (hp : RdP W ov o.m.props) (im : InM o.m) :
    Calls Tryz.prog 5 #[v, .agg (opV o ov).toArray] W fun e w' => e = .returned (.bool true) ∧ Below W.heap.size W w' :=
  keeps_law W hva v q hx ⟨nx, fun y hy => (ix y hy).fitk, fun y hy => (jx y hy).fitk⟩ (fun y hy => (ix y hy).2) (fun y hy => (jx y hy).2) bx o ov hp im.fitk im.2
end Go.Proofs.YtlbcefocmdnlgaaGreatDoor

set_option maxRecDepth 100000
namespace Go.Proofs.YtlbcefocmdnlgaaGreatDoor
open Go.ChangeShapes Go.WideShapes Go.ChangeAt Go.RowKit Go.Lib
open Go.ChangeMaps (open_string shut_string)

theorem keeps_contract (H : Type) (enc : TypeId × Value → H) (W : World) (base : Nat) (args : Array Value) (ds gs : List (DataW H)) (before : List MemPlace)
    (hval : ∀ (j : Nat) t v, Tryz.f5.params[j]? = some t → args[j]? = some v → Value.okWide Tryz.prog W .any base t v)
    (hW : DataW.Whole enc Tryz.prog Tryz.f5.params.toList Rows.queueKeepsSpec.vars false W args.toList ds gs before)
    (hsz0 : (DataW.weightsEach Tryz.prog (Tryz.f5.params.toList ++ Rows.queueKeepsSpec.plain.varTypes Tryz.prog) (ds ++ gs)).all (· ≤ reachBytes) = true)
    (_hL : laidMetH Tryz.prog Rows.queueKeepsRow.laid W) (hsh : W.ShapedOpen Tryz.prog) :
    Calls Tryz.prog 5 args W fun e W' => ∃ v, e = .returned v ∧ Rows.queueKeepsSpec.post enc Tryz.prog Tryz.f5 false true false false W args v W' := by
  have hv : To.Vars W := by
    exact vars_of_shape hsh
  have hW' := hW
  obtain ⟨p, q, hA0, hV, rfl, hfz, hnd⟩ := hW
  have hA : DataW.TrodAll enc Tryz.prog W 0 (fun _ => true) true Tryz.f5.params.toList args.toList ds p := hA0
  have hsz := hsz0
  rw [Tryz.params5] at hA hval hsz
  obtain ⟨v0, vs0, d0, ds0, p0, q0, hargs, rfl, rfl, h0, r0⟩ := trodAll_cons hA
  obtain ⟨v1, vs1, d1, ds1, p1, q1, rfl, rfl, rfl, h1, r1⟩ := trodAll_cons r0
  obtain ⟨rfl, rfl, rfl⟩ := trodAll_nil r1
  obtain rfl : args = #[v0, v1] := by cases args; simp_all
  obtain ⟨rfl, rfl⟩ := trodVars_none hV
  have lt0 : ∀ x ∈ p0, x.block < W.heap.size := by obtain ⟨m, hm⟩ := h0; exact DataW.trod_lt m _ _ _ hm
  obtain ⟨x0, hx0, bx0, nx0, ix0, jx0⟩ := open_queW h0 (fun n hn => by have := List.all_eq_true.1 hsz n (DataW.weights_mem_each (j := 0) rfl rfl n hn); simpa using this)
  have lt1 : ∀ x ∈ p1, x.block < W.heap.size := by obtain ⟨m, hm⟩ := h1; exact DataW.trod_lt m _ _ _ hm
  obtain ⟨x1, pv1, rfl, hp1, im1⟩ := open_opW h1 (fun n hn => by have := List.all_eq_true.1 hsz n (DataW.weights_mem_each (j := 1) rfl rfl n hn); simpa using this)
  refine (keeps_in W hv _ x0 hx0 bx0 nx0 ix0 jx0 x1 pv1 hp1 im1).mono fun e W' ⟨he, bel⟩ => ?_
  subst he
  exact ⟨_, rfl, _, _, _, [], _, [], hW', trodAll_mk1 (shut_bool Tryz.underlying4 _), (trodAll_cons_mk (Below.trod laidOut (by kernel_rfl) (of_decide_eq_true (by kernel_rfl)) h0 bel lt0) (trodAll_cons_mk (Below.trod laidOut (by kernel_rfl) (of_decide_eq_true (by kernel_rfl)) h1 bel lt1) trodAll_mk0)), rfl, bel.frame _, fun h => by cases h⟩

theorem keeps_lifted (os : Os) (started : os.Started) (H : Type) (enc : TypeId × Value → H) :
    ReturnsInHanded {} Tryz.checked os 5 .any (fun w args => (Rows.queueKeepsSpec.pre enc Tryz.prog Tryz.f5 [] false w args ∧ laidMetH Tryz.prog Rows.queueKeepsRow.laid w) ∧ sizedMet enc Tryz.prog Tryz.f5 (OpenSpec.ofChange Rows.queueKeepsSpec) false w args)
      (Rows.queueKeepsSpec.post enc Tryz.prog Tryz.f5 false true false false) := by
  refine returns_and_shaped (C := Tryz.checked) (X := fun w _ => laidMetH Tryz.prog Rows.queueKeepsRow.laid w) (fun _ _ _ hh h => h.of_heap hh) own started (by kernel_rfl) Tryz.func5
    (ChangeSpec.witness_shaped (enc := enc) (C := Tryz.checked) (os := os) (X := fun w _ => laidMetH Tryz.prog Rows.queueKeepsRow.laid w) false (World.laidAll Tryz.prog os Rows.queueKeepsRow.laid) #[.agg #[.string ByteArray.empty, .bool false, .int .i64 0, .int .i64 0, .int .i64 0, .slice none 0 0, .slice none 0 0], .agg #[.int .i64 0, .int .i64 0, .int .i64 0, .bool false, .string ByteArray.empty, .string ByteArray.empty, .slice none 0 0, .bool false, .int .i64 0]] 8 (World.laidAll_os _ _ _)
      (World.shaped_of_ZipB (by kernel_rfl) (by kernel_rfl)) (by kernel_rfl) (by kernel_rfl) (by kernel_rfl)
      (by rw [MakeChecks.laidMetH_plain _ _ _ (by kernel_rfl)]; exact laidMet_laidAll _ (by kernel_rfl) (by kernel_rfl))) ?_
  intro W base args ds gs before hval hW hsz hL hsh
  exact keeps_contract H enc W base args ds gs before hval hW hsz hL hsh

theorem keeps_said : Rows.QueueKeepsSaid :=
  OpenClaim.holds_of_wide 5 Tryz.f5 rfl rfl rfl rfl rfl rfl rfl ⟨rfl, rfl, rfl, rfl, rfl⟩ rfl rfl rfl rfl rfl (by kernel_rfl) Tryz.func5 (by kernel_rfl)
    (of_decide_eq_true (by kernel_rfl)) (by unfold Func.isWrapper; first | (rw [if_pos (by decide +kernel)]; kernel_rfl) | (rw [if_neg (by decide +kernel)]; exact ⟨rfl, rfl⟩))
    (fun os started H enc _ => keeps_lifted os started H enc)

theorem keeps_plain (f : FuncId) (fn : Func) (hf : Tryz.pinned.checked.prog.funcNamed "trivet/trivetlaw10.QueueKeeps" = some f) (hfn : Tryz.pinned.checked.prog.funcs[f]? = some fn) :
    false = Tryz.pinned.checked.prog.looks [] ∧ ∀ (j : Nat) t, fn.params[j]? = some t → Tryz.pinned.checked.prog.wantsStandIn t = false := by
  obtain rfl : f = 5 := Option.some.inj ((show Tryz.prog.funcNamed "trivet/trivetlaw10.QueueKeeps" = some 5 by kernel_rfl).symm.trans hf) |>.symm
  obtain rfl : fn = Tryz.f5 := (Option.some.inj (Tryz.func5.symm.trans hfn)).symm
  refine ⟨by kernel_rfl, fun j t ht => ?_⟩
  rw [Tryz.params5] at ht
  have hm : t ∈ [25, 30] := by simpa using Array.mem_of_getElem? ht
  have hall : ([25, 30].all fun u => !Tryz.prog.wantsStandIn u) = true := by kernel_rfl
  exact (show Tryz.prog.wantsStandIn t = false by simpa using List.all_eq_true.1 hall t hm)

theorem queueKeeps_card : Rows.QueueKeepsCardSaid :=
  Claim7.holds_tied_plain_at .later [] _ _ _ _ keeps_said (fun _ h => by cases h) (by kernel_rfl) (fun _ h => by cases h) queueKeeps_row_tie rfl ⟨rfl, rfl⟩ (by kernel_rfl) rfl keeps_plain (by kernel_rfl)
#print axioms queueKeeps_card
end Go.Proofs.YtlbcefocmdnlgaaGreatDoor
