/- How arguments that are queues and lists of calls are opened. Conditions: those that each row states. -/
import Derived.Test.YtnpikgakpmkipabGreatDoorY02
import Derived.Test.YtnpikgakpmkipabGreatDoorY27
import Derived.Test.YtnpikgakpmkipabGreatDoorY03
import Derived.Test.YtnpikgakpmkipabGreatDoorY04
import Derived.Deep.Slices
import Derived.SizedLaws
import Derived.Test.YtnpikgakpmkipabGreatDoorY19
import Derived.Test.YtnpikgakpmkipabGreatDoorY15
namespace Go.Proofs.YtnpikgakpmkipabGreatDoor
open Go.RowKit Go.Lib Go.Deep
set_option maxRecDepth 100000
theorem cells3 : Tryz.prog.cellsOf 3 = 1 := by kernel_rfl
theorem cells9 : Tryz.prog.cellsOf 9 = 1 := by kernel_rfl
theorem cells84 : Tryz.prog.cellsOf 62 = 1 := by kernel_rfl
theorem cells86 : Tryz.prog.cellsOf 64 = 4 := by kernel_rfl
theorem i64b {z : Int} (h : (Lit.int .i64 z).wf = true) : -9223372036854775808 ≤ z ∧ z ≤ 9223372036854775807 := by
 simpa [Lit.wf, IntKind.min, IntKind.max, IntKind.signed, IntKind.bits] using h
theorem f64b {z : Nat} (h : (Lit.float .f64 z).wf = true) : z < 2 ^ 64 := by
 simpa [Lit.wf] using h
theorem flt_cell {H : Type} {enc : TypeId × Value → H} {W : World} {c : Value} {fuel : Nat} {x : DataW H × List MemPlace} (h : DataW.trod enc Tryz.prog W 0 (fun _ => true) true fuel 62 [c] = some x) : ∃ r, [c] = [Value.float .f64 r] ∧ r < 2 ^ 64 := by
 cases fuel with
 | zero => simp [DataW.trod] at h
 | succ n =>
  simp only [DataW.trod, Tryz.underlying62] at h
  cases c with
  | float k b =>
   simp at h
   obtain ⟨⟨rfl, hw⟩, _⟩ := h
   exact ⟨b, rfl, f64b hw⟩
  | _ => simp at h
theorem val_cells {H : Type} {enc : TypeId × Value → H} {W : World} {cs : List Value} {fuel : Nat} {x : DataW H × List MemPlace} (h : DataW.trod enc Tryz.prog W 0 (fun _ => true) true fuel 64 cs = some x) :
  ∃ y : Val, cs = [.int .i64 y.kind, .int .i64 y.num, .string y.text, .float .f64 y.real] ∧ (-9223372036854775808 ≤ y.kind ∧ y.kind ≤ 9223372036854775807) ∧ (-9223372036854775808 ≤ y.num ∧ y.num ≤ 9223372036854775807) ∧ y.text.size ≤ maxLen ∧ y.real < 2 ^ 64 := by
 obtain ⟨xs, n, _, rfl, hl, hlen, hf⟩ := DataW.trod_struct Tryz.underlying64 h
 rw [cells86] at hl
 match xs, hlen with
 | [y0, y1, y2, y3], _ =>
  have t0 : DataW.trod enc Tryz.prog W 0 (fun _ => true) true n 3 ((cs.drop 0).take (Tryz.prog.cellsOf 3)) = some y0 := by simpa using hf 0 _ rfl
  have t1 : DataW.trod enc Tryz.prog W 0 (fun _ => true) true n 3 ((cs.drop 1).take (Tryz.prog.cellsOf 3)) = some y1 := by simpa using hf 1 _ rfl
  have t2 : DataW.trod enc Tryz.prog W 0 (fun _ => true) true n 9 ((cs.drop 2).take (Tryz.prog.cellsOf 9)) = some y2 := by simpa using hf 2 _ rfl
  have t3 : DataW.trod enc Tryz.prog W 0 (fun _ => true) true n 62 ((cs.drop 3).take (Tryz.prog.cellsOf 62)) = some y3 := by simpa using hf 3 _ rfl
  match cs, hl with
  | [c0, c1, c2, c3], _ =>
   simp only [cells3, cells9, cells84, List.drop, List.take] at t0 t1 t2 t3
   obtain ⟨k, e0, _, wk⟩ := DataW.trod_int Tryz.underlying3 t0
   obtain ⟨m, e1, _, wm⟩ := DataW.trod_int Tryz.underlying3 t1
   obtain ⟨s, e2, _, ws⟩ := DataW.trod_string Tryz.underlying9 t2
   obtain ⟨r, e3, wr⟩ := flt_cell t3
   simp only [List.cons.injEq, and_true] at e0 e1 e2 e3
   subst e0 e1 e2 e3
   exact ⟨⟨k, m, s, r⟩, rfl, i64b wk, i64b wm, ws, wr⟩
theorem cells88 : Tryz.prog.cellsOf 66 = 5 := by kernel_rfl
theorem bytes88 : Tryz.prog.bytesOf 66 = 56 := by kernel_rfl
def InV (y : Val) : Prop := (-9223372036854775808 ≤ y.kind ∧ y.kind ≤ 9223372036854775807) ∧ (-9223372036854775808 ≤ y.num ∧ y.num ≤ 9223372036854775807) ∧ y.text.size ≤ maxLen ∧ y.real < 2 ^ 64
def InP (p : Pr) : Prop := p.name.size ≤ maxLen ∧ InV p.val
theorem prop_cells {H : Type} {enc : TypeId × Value → H} {W : World} {cs : List Value} {fuel : Nat} {x : DataW H × List MemPlace} (h : DataW.trod enc Tryz.prog W 0 (fun _ => true) true fuel 66 cs = some x) :
  ∃ y : Pr, cs = [.string y.name, .int .i64 y.val.kind, .int .i64 y.val.num, .string y.val.text, .float .f64 y.val.real] ∧ InP y := by
 obtain ⟨xs, n, _, rfl, hl, hlen, hf⟩ := DataW.trod_struct Tryz.underlying66 h
 rw [cells88] at hl
 match xs, hlen with
 | [y0, y1], _ =>
  have t0 : DataW.trod enc Tryz.prog W 0 (fun _ => true) true n 9 ((cs.drop 0).take (Tryz.prog.cellsOf 9)) = some y0 := by simpa using hf 0 _ rfl
  have t1 : DataW.trod enc Tryz.prog W 0 (fun _ => true) true n 64 ((cs.drop 1).take (Tryz.prog.cellsOf 64)) = some y1 := by simpa using hf 1 _ rfl
  match cs, hl with
  | [c0, c1, c2, c3, c4], _ =>
   simp only [cells9, cells86, List.drop, List.take] at t0 t1
   obtain ⟨s, e0, _, ws⟩ := DataW.trod_string Tryz.underlying9 t0
   obtain ⟨y, e1, hy⟩ := val_cells t1
   simp only [List.cons.injEq, and_true] at e0 e1
   obtain ⟨rfl, rfl, rfl, rfl⟩ := e1
   subst e0
   exact ⟨⟨s, y⟩, rfl, ws, hy⟩
theorem prop_at {H : Type} {enc : TypeId × Value → H} {W : World} {a : Addr} {cs : List Value} {fuel : Nat} {x : DataW H × List MemPlace}
  (hc : W.cells? 0 a (Tryz.prog.cellsOf 66) = some cs) (h : DataW.trod enc Tryz.prog W 0 (fun _ => true) true fuel 66 cs = some x) :
  ∃ (b o : Nat) (y : Pr), a = ⟨b, o, none⟩ ∧ PrAt W b o y ∧ InP y := by
 obtain ⟨y, rfl, hy⟩ := prop_cells h
 rw [cells88] at hc
 obtain ⟨b, o, sp⟩ := a
 obtain ⟨_, _, hh⟩ := World.cells?_some hc
 have h0 := hh 0 (by omega)
 have h1 := hh 1 (by omega)
 have h2 := hh 2 (by omega)
 have h3 := hh 3 (by omega)
 have h4 := hh 4 (by omega)
 simp only [Addr.add, List.getElem?_cons_zero, List.getElem?_cons_succ] at h0 h1 h2 h3 h4
 have hsp : sp = none := by simpa [Addr.add] using World.cell?_spot h0
 subst hsp
 exact ⟨b, o, y, rfl, ⟨h0, h1, h2, h3, h4⟩, hy⟩
theorem rd_props {H : Type} {enc : TypeId × Value → H} {W : World} {a : Option Addr} {n c : Nat} {d : DataW H} {p : List MemPlace}
  (h : DataW.Trod enc Tryz.prog W 0 (fun _ => true) true 31 (.slice a n c) d p) :
  ∃ l : List Pr, RdP W (.slice a n c) l ∧ l.length = n ∧ (∀ q ∈ l, InP q) ∧ (n = 0 ∨ ∃ E S, d = .slice E S ∧ n ≤ E.length + S.length) := by
 obtain ⟨fuel, hf⟩ := h
 rcases open_slice Tryz.underlying31 hf with ⟨hcs, _⟩ | ⟨x, l, cp, m, f, D, Pl, hcs, _, hl, hm, hmm, hx, hel⟩
 ·simp [Value.cells] at hcs
  obtain ⟨rfl, rfl, rfl⟩ := hcs
  exact ⟨[], .inl ⟨⟨_, _, rfl⟩, rfl⟩, rfl, fun q hq => by simp at hq, .inl rfl⟩
 ·simp [Value.cells] at hcs
  obtain ⟨rfl, rfl, rfl⟩ := hcs
  have hmc : m = c := by simpa using hmm
  subst hmc
  have hd := (Prod.mk.inj hx).1
  rcases Nat.eq_zero_or_pos n with h0 | h0
  ·subst h0
   exact ⟨[], .inl ⟨⟨_, _, rfl⟩, rfl⟩, rfl, fun q hq => by simp at hq, .inl rfl⟩
  ·have key : ∀ i, i < n → ∃ (b o : Nat) (y : Pr), x.add (i * 5) = ⟨b, o, none⟩ ∧ PrAt W b o y ∧ InP y := fun i hi => by
    obtain ⟨cs', h1, h2⟩ := hel i (by omega)
    have := prop_at h1 h2
    rwa [cells88] at this
   obtain ⟨b, o, _, e0, _⟩ := key 0 (by omega)
   have ex : x = ⟨b, o, none⟩ := by simpa [Addr.add] using e0
   subst ex
   have key2 : ∀ i, i < n → ∃ y : Pr, PrAt W b (o + i * 5) y ∧ InP y := fun i hi => by
    obtain ⟨b', o', y, e, g, hy⟩ := key i hi
    rw [Addr.add_lit] at e
    cases e
    exact ⟨y, g, hy⟩
   have hall : ∀ k, k ≤ n → ∃ l : List Pr, l.length = k ∧ ∀ i (h : i < l.length), PrAt W b (o + i * 5) l[i] ∧ InP l[i] := by
    intro k
    induction k with
    | zero => exact fun _ => ⟨[], rfl, fun i h => by simp at h⟩
    | succ k ih =>
     intro hk
     obtain ⟨l, hl, hh⟩ := ih (by omega)
     obtain ⟨y, hy⟩ := key2 k (by omega)
     refine ⟨l ++ [y], by simp [hl], fun i hi => ?_⟩
     by_cases e : i < l.length
     ·rw [List.getElem_append_left e]; exact hh i e
     ·have : i = k := by simp at hi; omega
      subst this
      rw [List.getElem_append_right (by omega)]
      simpa using hy
   obtain ⟨l, hl2, hh⟩ := hall n (Nat.le_refl _)
   refine ⟨l, .inr ⟨b, o, m, by rw [hl2], by omega, fun i hi => (hh i hi).1⟩, hl2, fun q hq => ?_, .inr ⟨_, _, hd, by simp⟩⟩
   obtain ⟨i, hi, rfl⟩ := List.mem_iff_getElem.1 hq
   exact (hh i hi).2
theorem cells4 : Tryz.prog.cellsOf 4 = 1 := by kernel_rfl
theorem cells29 : Tryz.prog.cellsOf 31 = 1 := by kernel_rfl
theorem cells31 : Tryz.prog.cellsOf 33 = 5 := by kernel_rfl
theorem tx_of (s : ByteArray) : Value.string s = tx s.data.toList := by cases s; simp [tx]
theorem wAll_mem {H : Type} {e : TypeId} : ∀ {ds : List (DataW H)} {d : DataW H}, d ∈ ds → ∀ n ∈ d.weights Tryz.prog e, n ∈ DataW.weightsAll Tryz.prog e ds
 | [], _, h, _, _ => by simp at h
 | x :: ds, d, h, n, hn => by
  rw [DataW.weightsAll]
  rcases List.mem_cons.1 h with rfl | h
  ·exact List.mem_append_left _ hn
  ·exact List.mem_append_right _ (wAll_mem h n hn)
def InM (m : Msg) : Prop := (∀ p ∈ m.props, InP p) ∧ m.props.length ≤ 2513169434916
theorem props_cellW {H : Type} {enc : TypeId × Value → H} {W : World} {c : Value} {fuel : Nat} {x : DataW H × List MemPlace} (h : DataW.trod enc Tryz.prog W 0 (fun _ => true) true fuel 31 [c] = some x) (hw : ∀ n ∈ x.1.weights Tryz.prog 31, n ≤ reachBytes) :
  ∃ l : List Pr, RdP W c l ∧ (∀ p ∈ l, InP p) ∧ l.length ≤ 2513169434916 := by
 rcases open_slice Tryz.underlying31 h with ⟨hcs, _⟩ | ⟨a, l, cp, m, f, D, Pl, hcs, _⟩
 ·simp only [List.cons.injEq, and_true] at hcs
  subst hcs
  exact ⟨[], .inl ⟨⟨_, _, rfl⟩, rfl⟩, by simp, by simp⟩
 ·simp only [List.cons.injEq, and_true] at hcs
  subst hcs
  obtain ⟨l', hl, hn, hp, hb⟩ := rd_props (d := x.1) (p := x.2) ⟨fuel, h⟩
  refine ⟨l', hl, hp, ?_⟩
  rcases hb with hb | ⟨E, S, hd, hb⟩
  ·omega
  ·have := hw ((E.length + S.length) * 56) (by rw [hd]; simp [DataW.weights, Tryz.underlying31, bytes88])
   simp only [reachBytes] at this
   omega
theorem msg_cellsW {H : Type} {enc : TypeId × Value → H} {W : World} {cs : List Value} {fuel : Nat} {x : DataW H × List MemPlace} (h : DataW.trod enc Tryz.prog W 0 (fun _ => true) true fuel 33 cs = some x) (hw : ∀ n ∈ x.1.weights Tryz.prog 33, n ≤ reachBytes) :
  ∃ (y : Msg) (pv : Value), cs = msgV y pv ∧ RdP W pv y.props ∧ InM y := by
 obtain ⟨xs, n, _, rfl, hl, hlen, hf⟩ := DataW.trod_struct Tryz.underlying33 h
 rw [cells31] at hl
 match xs, hlen with
 | [y0, y1, y2, y3, y4], _ =>
  have t0 : DataW.trod enc Tryz.prog W 0 (fun _ => true) true n 9 ((cs.drop 0).take (Tryz.prog.cellsOf 9)) = some y0 := by simpa using hf 0 _ rfl
  have t1 : DataW.trod enc Tryz.prog W 0 (fun _ => true) true n 9 ((cs.drop 1).take (Tryz.prog.cellsOf 9)) = some y1 := by simpa using hf 1 _ rfl
  have t2 : DataW.trod enc Tryz.prog W 0 (fun _ => true) true n 31 ((cs.drop 2).take (Tryz.prog.cellsOf 31)) = some y2 := by simpa using hf 2 _ rfl
  have t3 : DataW.trod enc Tryz.prog W 0 (fun _ => true) true n 4 ((cs.drop 3).take (Tryz.prog.cellsOf 4)) = some y3 := by simpa using hf 3 _ rfl
  have t4 : DataW.trod enc Tryz.prog W 0 (fun _ => true) true n 3 ((cs.drop 4).take (Tryz.prog.cellsOf 3)) = some y4 := by simpa using hf 4 _ rfl
  match cs, hl with
  | [c0, c1, c2, c3, c4], _ =>
   simp only [cells3, cells4, cells9, cells29, List.drop, List.take] at t0 t1 t2 t3 t4
   obtain ⟨s, e0, _, _⟩ := DataW.trod_string Tryz.underlying9 t0
   obtain ⟨b, e1, _, _⟩ := DataW.trod_string Tryz.underlying9 t1
   obtain ⟨l, hp, hq⟩ := props_cellW t2 (fun n hn => hw n (by simp [DataW.weights, Tryz.underlying33, DataW.weightsEach]; simp [hn]))
   obtain ⟨d, e3, _⟩ := DataW.trod_bool Tryz.underlying4 t3
   obtain ⟨u, e4, _, _⟩ := DataW.trod_int Tryz.underlying3 t4
   simp only [List.cons.injEq, and_true] at e0 e1 e3 e4
   subst e0 e1 e3 e4
   exact ⟨⟨s.data.toList, b.data.toList, l, d, u⟩, c2, by simp only [msgV, tx_of], hp, hq⟩
theorem rd_listW {H : Type} {enc : TypeId × Value → H} {W : World} {α : Type} {t e k : Nat} {R : List Value → α → Prop} (ht : Tryz.prog.underlying t = some (.slice e)) (hk : Tryz.prog.cellsOf e = k) (k0 : 0 < k)
  (hE : ∀ cs fuel x, DataW.trod enc Tryz.prog W 0 (fun _ => true) true fuel e cs = some x → (∀ n ∈ x.1.weights Tryz.prog e, n ≤ reachBytes) → ∃ y, (∀ u ∈ cs, u.oneCell' = true) ∧ R cs y)
  {v : Value} {fuel : Nat} {x : DataW H × List MemPlace} (h : DataW.trod enc Tryz.prog W 0 (fun _ => true) true fuel t [v] = some x) (hw : ∀ n ∈ x.1.weights Tryz.prog t, n ≤ reachBytes) :
  ∃ l : List α, RdL k R W v l ∧ (l.length = 0 ∨ ∃ E S Pl, x = (.slice E S, Pl) ∧ l.length ≤ E.length + S.length) := by
 rcases open_slice ht h with ⟨hcs, _⟩ | ⟨a, n, c, m, f, D, Pl, hcs, _, hl, hm, hmm, hx, hel⟩
 ·simp only [List.cons.injEq, and_true] at hcs
  subst hcs
  exact ⟨[], ⟨[], rfl, .inl ⟨⟨_, _, rfl⟩, rfl⟩, by simp⟩, .inl rfl⟩
 ·simp only [List.cons.injEq, and_true] at hcs
  subst hcs
  have hmc : m = c := by simpa using hmm
  subst hmc
  rcases Nat.eq_zero_or_pos n with h0 | h0
  ·subst h0
   exact ⟨[], ⟨[], rfl, .inl ⟨⟨_, _, rfl⟩, rfl⟩, by simp⟩, .inl rfl⟩
  ·have key : ∀ i, i < n → ∃ (b o : Nat) (cs : List Value) (y : α), a.add (i * k) = ⟨b, o, none⟩ ∧ cs.length = k ∧ (∀ j, j < k → W.cell? ⟨b, o + j, none⟩ = cs[j]?) ∧ (∀ u ∈ cs, u.oneCell' = true) ∧ R cs y := fun i hi => by
    obtain ⟨cs', h1, h2⟩ := hel i (by omega)
    obtain ⟨y, h3, h4⟩ := hE _ _ _ h2 (fun n' hn' => hw n' (by
     rw [hx]
     simp only [DataW.weights, ht]
     exact List.mem_cons_of_mem _ (List.mem_append_left _ (wAll_mem (List.mem_map.2 ⟨i, by simp; omega, rfl⟩) n' hn'))))
    rw [hk] at h1
    obtain ⟨_, hlen, hh⟩ := World.cells?_some h1
    generalize a.add (i * k) = ad at *
    obtain ⟨b, o, sp⟩ := ad
    have hc0 := hh 0 k0
    have hsp : sp = none := by
     rw [List.getElem?_eq_getElem (by omega)] at hc0
     simpa [Addr.add] using World.cell?_spot hc0
    subst hsp
    exact ⟨b, o, cs', y, rfl, hlen, fun j hj => by rw [← hh j hj, Addr.add_lit], h3, h4⟩
   obtain ⟨b, o, _, _, e0, _⟩ := key 0 (by omega)
   have ex : a = ⟨b, o, none⟩ := by simpa [Addr.add] using e0
   subst ex
   have hall : ∀ m, m ≤ n → ∃ zs : Zs α, zs.length = m ∧ (∀ j u, (cellsZ zs)[j]? = some u → W.cell? ⟨b, o + j, none⟩ = some u) ∧ ∀ z ∈ zs, (z.1.length = k ∧ ∀ u ∈ z.1, u.oneCell' = true) ∧ R z.1 z.2 := by
    intro m
    induction m with
    | zero => exact fun _ => ⟨[], rfl, fun j u h => by simp [cellsZ] at h, by simp⟩
    | succ m ih =>
     intro hm
     obtain ⟨zs, hl, h1, h2⟩ := ih (by omega)
     obtain ⟨b', o', cs, y, e, h3, h4, h5, h6⟩ := key m (by omega)
     rw [Addr.add_lit] at e
     cases e
     have hcl : (cellsZ zs).length = m * k := by rw [cellsZ_len (fun z hz => (h2 z hz).1.1), hl]
     refine ⟨zs ++ [(cs, y)], by simp [hl], fun j u hj => ?_, fun z hz => ?_⟩
     ·rw [cellsZ_app] at hj
      by_cases hlt : j < m * k
      ·rw [List.getElem?_append_left (by omega)] at hj
       exact h1 j u hj
      ·rw [List.getElem?_append_right (by omega), hcl] at hj
       have hj2 : j - m * k < k := by
        have := (List.getElem?_eq_some_iff.1 hj).1
        simp [cellsZ] at this
        omega
       have h7 := h4 (j - m * k) hj2
       have e9 : o + m * k + (j - m * k) = o + j := by omega
       rw [e9] at h7
       rw [h7]
       simpa [cellsZ] using hj
     ·rcases List.mem_append.1 hz with hz | hz
      ·exact h2 z hz
      ·simp at hz
       subst hz
       exact ⟨⟨h3, h5⟩, h6⟩
   obtain ⟨zs, hl2, h1, h2⟩ := hall n (Nat.le_refl _)
   refine ⟨zs.map (·.2), ⟨zs, rfl, .inr ⟨b, o, m, by rw [hl2], by omega, h1⟩, h2⟩, .inr ⟨_, _, _, hx, by simp [hl2]⟩⟩
theorem cells35o : Tryz.prog.cellsOf 35 = 14 := by kernel_rfl
theorem opr_cellsW {H : Type} {enc : TypeId × Value → H} {W : World} {cs : List Value} {fuel : Nat} {x : DataW H × List MemPlace} (h : DataW.trod enc Tryz.prog W 0 (fun _ => true) true fuel 35 cs = some x) (hw : ∀ n ∈ x.1.weights Tryz.prog 35, n ≤ reachBytes) :
  ∃ (y : Opr) (pv : Value), cs = opL y pv ∧ RdP W pv y.msg.props ∧ InO y := by
 obtain ⟨xs, n, _, rfl, hl, hlen, hf⟩ := DataW.trod_struct Tryz.underlying35 h
 rw [cells35o] at hl
 match xs, hlen with
 | [y0, y1, y2, y3, y4, y5, y6, y7, y8, y9], _ =>
  have t0 : DataW.trod enc Tryz.prog W 0 (fun _ => true) true n 3 ((cs.drop 0).take (Tryz.prog.cellsOf 3)) = some y0 := by simpa using hf 0 _ rfl
  have t1 : DataW.trod enc Tryz.prog W 0 (fun _ => true) true n 3 ((cs.drop 1).take (Tryz.prog.cellsOf 3)) = some y1 := by simpa using hf 1 _ rfl
  have t2 : DataW.trod enc Tryz.prog W 0 (fun _ => true) true n 3 ((cs.drop 2).take (Tryz.prog.cellsOf 3)) = some y2 := by simpa using hf 2 _ rfl
  have t3 : DataW.trod enc Tryz.prog W 0 (fun _ => true) true n 3 ((cs.drop 3).take (Tryz.prog.cellsOf 3)) = some y3 := by simpa using hf 3 _ rfl
  have t4 : DataW.trod enc Tryz.prog W 0 (fun _ => true) true n 9 ((cs.drop 4).take (Tryz.prog.cellsOf 9)) = some y4 := by simpa using hf 4 _ rfl
  have t5 : DataW.trod enc Tryz.prog W 0 (fun _ => true) true n 9 ((cs.drop 5).take (Tryz.prog.cellsOf 9)) = some y5 := by simpa using hf 5 _ rfl
  have t6 : DataW.trod enc Tryz.prog W 0 (fun _ => true) true n 4 ((cs.drop 6).take (Tryz.prog.cellsOf 4)) = some y6 := by simpa using hf 6 _ rfl
  have t7 : DataW.trod enc Tryz.prog W 0 (fun _ => true) true n 4 ((cs.drop 7).take (Tryz.prog.cellsOf 4)) = some y7 := by simpa using hf 7 _ rfl
  have t8 : DataW.trod enc Tryz.prog W 0 (fun _ => true) true n 4 ((cs.drop 8).take (Tryz.prog.cellsOf 4)) = some y8 := by simpa using hf 8 _ rfl
  have t9 : DataW.trod enc Tryz.prog W 0 (fun _ => true) true n 33 ((cs.drop 9).take (Tryz.prog.cellsOf 33)) = some y9 := by simpa using hf 9 _ rfl
  match cs, hl with
  | [c0, c1, c2, c3, c4, c5, c6, c7, c8, c9, c10, c11, c12, c13], _ =>
   simp only [cells3, cells4, cells9, cells31, List.drop, List.take] at t0 t1 t2 t3 t4 t5 t6 t7 t8 t9
   obtain ⟨a0, e0, _, w0⟩ := DataW.trod_int Tryz.underlying3 t0
   obtain ⟨a1, e1, _, w1⟩ := DataW.trod_int Tryz.underlying3 t1
   obtain ⟨a2, e2, _, w2⟩ := DataW.trod_int Tryz.underlying3 t2
   obtain ⟨a3, e3, _, w3⟩ := DataW.trod_int Tryz.underlying3 t3
   obtain ⟨a4, e4, _, _⟩ := DataW.trod_string Tryz.underlying9 t4
   obtain ⟨a5, e5, _, _⟩ := DataW.trod_string Tryz.underlying9 t5
   obtain ⟨a6, e6, _⟩ := DataW.trod_bool Tryz.underlying4 t6
   obtain ⟨a7, e7, _⟩ := DataW.trod_bool Tryz.underlying4 t7
   obtain ⟨a8, e8, _⟩ := DataW.trod_bool Tryz.underlying4 t8
   obtain ⟨m, pv, e9, hp, hq⟩ := msg_cellsW t9 (fun n hn => hw n (by simp [DataW.weights, Tryz.underlying35, DataW.weightsEach]; simp [hn]))
   simp only [msgV, List.cons.injEq, and_true] at e0 e1 e2 e3 e4 e5 e6 e7 e8 e9
   obtain ⟨rfl, rfl, rfl, rfl, rfl⟩ := e9
   subst e0 e1 e2 e3 e4 e5 e6 e7 e8
   refine ⟨⟨a0, a1, a2, a3, a4.data.toList, a5.data.toList, a6, a7, a8, m⟩, _, ?_, hp, i64b w3, hq.2⟩
   rw [tx_of a4, tx_of a5]
   rfl
theorem rd_ops {H : Type} {enc : TypeId × Value → H} {W : World} {a : Option Addr} {k c : Nat} {d : DataW H} {p : List MemPlace} (h : DataW.Trod enc Tryz.prog W 0 (fun _ => true) true 22 (.slice a k c) d p) (hw : ∀ n ∈ d.weights Tryz.prog 22, n ≤ reachBytes) : ∃ zs : Zs Opr, RdOs W (.slice a k c) zs := by
 obtain ⟨fuel, h⟩ := h
 have h' : DataW.trod enc Tryz.prog W 0 (fun _ => true) true fuel 22 [.slice a k c] = some (d, p) := h
 obtain ⟨l, ⟨zs, _, h1⟩, h2⟩ := rd_listW (R := fun vs y => OpR W vs y ∧ InO y) Tryz.underlying22 cells35o (by decide) (fun cs fuel x h hw => by
  obtain ⟨y, pv, rfl, hp, hq⟩ := opr_cellsW h hw
  refine ⟨y, fun u hu => ?_, ⟨pv, rfl, hp⟩, hq⟩
  have := hp.one
  simp only [opL, List.mem_cons, List.not_mem_nil, or_false] at hu
  rcases hu with rfl | rfl | rfl | rfl | rfl | rfl | rfl | rfl | rfl | rfl | rfl | rfl | rfl | rfl <;> first | rfl | exact this) h' hw
 exact ⟨zs, ⟨h1.1, fun z hz => ⟨(h1.2 z hz).1, (h1.2 z hz).2.1⟩⟩, fun z hz => (h1.2 z hz).2.2⟩
end Go.Proofs.YtnpikgakpmkipabGreatDoor
namespace Go.Proofs.YtnpikgakpmkipabGreatDoor
open Go.RowKit Go.Lib Go.Deep Go.WideShapes
set_option maxRecDepth 100000
theorem okWide_len {w : World} {base : Nat} {a : Option Addr} {k c : Nat} (h : Value.okWide Tryz.prog w .any base 22 (.slice a k c)) : k ≤ 9223372036854775807 := by
 simp only [Value.okWide, Tryz.underlying22, Cell.okWide] at h
 cases a with
 | none =>
  cases k with
  | zero => omega
  | succ k => simp [Cell.ok, Tryz.underlying22] at h
 | some a =>
  simp only [Cell.ok, Tryz.underlying22] at h
  have h1 := h.1
  have h2 := h.2.1
  have h3 : IntKind.i64.max = 9223372036854775807 := by decide
  rw [h3] at h2
  omega
theorem ops_len {W w : World} {base : Nat} {a : Option Addr} {k c : Nat} {zs : Zs Opr} (hx : RdOs W (.slice a k c) zs) (h : Value.okWide Tryz.prog w .any base 22 (.slice a k c)) : zs.length ≤ 9223372036854775807 := by
 obtain ⟨va, vc, e⟩ := hx.1.len
 injection e with _ e _
 rw [← e]
 exact okWide_len h
theorem open_oprW {H : Type} {enc : TypeId × Value → H} {W : World} {v : Value} {d : DataW H} {p : List MemPlace} (h : DataW.Trod enc Tryz.prog W 0 (fun _ => true) true 35 v d p) (hw : ∀ n ∈ d.weights Tryz.prog 35, n ≤ reachBytes) :
  ∃ (y : Opr) (pv : Value), v = .agg (opL y pv).toArray ∧ RdP W pv y.msg.props ∧ InO y := by
 obtain ⟨fuel, h⟩ := h
 obtain ⟨y, pv, e, hp, hq⟩ := opr_cellsW h hw
 refine ⟨y, pv, ?_, hp, hq⟩
 cases v with
 | agg a =>
  simp only [Value.cells] at e
  rw [← e]
 | _ => simp [Value.cells, opL] at e
end Go.Proofs.YtnpikgakpmkipabGreatDoor
namespace Go.Proofs.YtnpikgakpmkipabGreatDoor
open Go.RowKit Go.Lib
set_option maxRecDepth 100000
set_option linter.unusedVariables false
set_option linter.unusedSimpArgs false
theorem pumpQ_outs {subs : List Sbs} : ∀ {n : Nat} {q : Que} {r : Que × List Ot}, pumpQ subs n q = .ok r → r.2.length ≤ n
 | 0, q, r, h => by
  injection h with h
  rw [← h]
  simp
 | n + 1, q, r, h => by
  unfold pumpQ at h
  split at h
  ·injection h with h
   rw [← h]
   simp
  ·split at h
   ·injection h with h
    rw [← h]
    simp
   ·obtain ⟨r1, h1, h2⟩ := bnd_ok.1 h
    obtain ⟨r2, h3, h4⟩ := bnd_ok.1 h2
    injection h4 with h4
    rw [← h4]
    have := pumpQ_outs (r := r2) h3
    simp
    omega
theorem pumpL_outs {subs : List Sbs} {now : Int} : ∀ {l : List Que} {r : List Que × List Ot}, pumpL subs now l = .ok r → (∀ q ∈ l, goodQ q = true) → r.2.length ≤ 64 * l.length
 | [], r, h, _ => by
  injection h with h
  rw [← h]
  simp
 | q :: l, r, h, hg => by
  unfold pumpL at h
  obtain ⟨r1, h1, h2⟩ := bnd_ok.1 h
  obtain ⟨r2, h3, h4⟩ := bnd_ok.1 h2
  injection h4 with h4
  rw [← h4]
  have i2 := pumpL_outs (r := r2) h3 fun x hx => hg x (by simp [hx])
  unfold pumpE at h1
  obtain ⟨q1, h5, h6⟩ := bnd_ok.1 h1
  obtain ⟨_, rfl⟩ := sureE_ok.1 h5
  have i1 := pumpQ_outs h6
  have i3 : (expireQ q now).items.length ≤ 64 := by
   have hp := (goodQ_iff _).1 (hg q (by simp))
   have e2 := hp.len
   have e3 := hp.dep
   have e4 : (expireQ q now).items.length ≤ q.items.length := List.length_filter_le _ _
   simp only [depB, Bool.and_eq_true, decide_eq_true_eq] at e3
   unfold lenQ at e2
   omega
  simp only [List.length_append, List.length_cons]
  omega
theorem act_hands {c : Cor} {o : Opr} {r : Cor × List Ot} (hg : GoodC c) (h : actC c o = .ok r) : r.2.length ≤ 16 := by
 obtain ⟨c', os⟩ := r
 have nop : ∀ x, noO x = .ok (c', os) → os.length ≤ 16 := fun x hx => by
  rw [(noO_ok.1 hx).2]
  simp
 unfold actC at h
 by_cases h1 : o.kind = 1
 ·rw [if_pos h1] at h
  exact nop _ h
 rw [if_neg h1] at h
 by_cases h2 : o.kind = 2
 ·rw [if_pos h2] at h
  exact nop _ h
 rw [if_neg h2] at h
 by_cases h3 : o.kind = 3
 ·rw [if_pos h3] at h
  unfold bindC at h
  rw [ins_ok, ins_ok] at h
  obtain ⟨l, h4, h5⟩ := bnd_ok.1 h.2.2
  split at h5
  ·have := (ins_ok.1 h5).2
   injection this with this
   injection this with _ this
   show os.length ≤ 16
   rw [← this]
   unfold keptO
   rw [List.length_map]
   have h6 := List.length_filter_le (fun m => mat o.text m.topic) c.kept
   have h7 := hg.kl
   omega
  ·injection h5 with this
   injection this with _ this
   show os.length ≤ 16
   rw [← this]
   simp
 rw [if_neg h3] at h
 by_cases h4 : o.kind = 4
 ·rw [if_pos h4] at h
  exact nop _ h
 rw [if_neg h4] at h
 by_cases h5 : o.kind = 5
 ·rw [if_pos h5] at h
  exact nop _ h
 rw [if_neg h5] at h
 by_cases h6 : o.kind = 6
 ·rw [if_pos h6] at h
  exact nop _ h
 rw [if_neg h6] at h
 by_cases h7 : o.kind = 7
 ·rw [if_pos h7] at h
  exact nop _ h
 rw [if_neg h7] at h
 by_cases h8 : o.kind = 8
 ·rw [if_pos h8] at h
  exact nop _ h
 rw [if_neg h8] at h
 by_cases h9 : o.kind = 9
 ·rw [if_pos h9] at h
  exact nop _ h
 rw [if_neg h9] at h
 by_cases h10 : o.kind = 10
 ·rw [if_pos h10] at h
  unfold getC at h
  rw [ins_ok] at h
  obtain ⟨q, i1, i2⟩ := bnd_ok.1 h.2
  obtain ⟨q1, i3, i4⟩ := bnd_ok.1 i2
  obtain ⟨r, i5, i6⟩ := bnd_ok.1 i4
  injection i6 with i6
  injection i6 with _ i6
  show os.length ≤ 16
  rw [← i6]
  simp
 rw [if_neg h10] at h
 by_cases h11 : o.kind = 11
 ·rw [if_pos h11] at h
  exact nop _ h
 rw [if_neg h11] at h
 by_cases h12 : o.kind = 12
 ·rw [if_pos h12] at h
  exact nop _ h
 rw [if_neg h12] at h
 by_cases h13 : o.kind = 13
 ·rw [if_pos h13] at h
  exact nop _ h
 rw [if_neg h13] at h
 exact nop _ h
theorem do_outs {c : Cor} {o : Opr} {r : Cor × List Ot} (h : doC c o = .ok r) : r.2.length ≤ 1040 := by
 obtain ⟨hg, _, _, r1, h1, g1, r2, h2, _, e2⟩ := doC_ok h
 have a1 := act_hands hg h1
 unfold pumpC at h2
 obtain ⟨r3, h3, h4⟩ := bnd_ok.1 h2
 injection h4 with h4
 have a2 := pumpL_outs h3 g1.qg
 have a3 := g1.ql
 rw [e2, ← h4, List.length_append]
 show r1.2.length + r3.2.length ≤ 1040
 omega
theorem run_outs : ∀ {l : List Opr} {c : Cor} {r : Cor × List Ot}, runC c l = .ok r → r.2.length ≤ 1040 * l.length
 | [], c, r, h => by
  injection h with h
  rw [← h]
  simp
 | o :: l, c, r, h => by
  unfold runC at h
  obtain ⟨r1, h1, h2⟩ := bnd_ok.1 h
  obtain ⟨r2, h3, h4⟩ := bnd_ok.1 h2
  injection h4 with h4
  have a1 := do_outs h1
  have a2 := run_outs (r := r2) h3
  rw [← h4]
  show (r1.2 ++ r2.2).length ≤ _
  rw [List.length_append, List.length_cons]
  omega
structure FailAt (c : Cor) (l : List Opr) (i : Nat) (m : Int) : Prop where
 lt : i < l.length
 f : ∃ r, runC c (l.take i) = .ok r ∧ doC r.1 (l[i]'lt) = .error m
theorem fail_take {c : Cor} {l : List Opr} {i : Nat} {m : Int} (h : FailAt c l i m) {k : Nat} (hk : i < k) : runC c (l.take k) = .error m := by
 obtain ⟨hl, r, h1, h2⟩ := h
 have e : l.take k = l.take i ++ l[i] :: (l.take k).drop (i + 1) := by
  have h3 : (l.take k).take i = l.take i := by rw [List.take_take, Nat.min_eq_left (by omega)]
  have h4 : i < (l.take k).length := by rw [List.length_take]; omega
  have h5 : (l.take k)[i] = l[i] := List.getElem_take
  rw [← h3, ← h5, List.getElem_cons_drop, List.take_append_drop]
 rw [e, runC_app, h1]
 show bnd (runC r.1 (l[i] :: (l.take k).drop (i + 1))) _ = _
 unfold runC
 rw [h2]
 rfl
theorem fail_run {c : Cor} {l : List Opr} {i : Nat} {m : Int} (h : FailAt c l i m) : runC c l = .error m := by
 have := fail_take h (k := l.length) h.lt
 rwa [List.take_length] at this
theorem fail_one {c : Cor} {l : List Opr} {i j : Nat} {m m' : Int} (h : FailAt c l i m) (h' : FailAt c l j m') : i = j ∧ m = m' := by
 have e : i = j := by
  rcases Nat.lt_trichotomy i j with h1 | h1 | h1
  ·obtain ⟨_, r, h2, _⟩ := h'
   rw [fail_take h h1] at h2
   cases h2
  ·exact h1
  ·obtain ⟨_, r, h2, _⟩ := h
   rw [fail_take h' h1] at h2
   cases h2
 subst e
 obtain ⟨_, r, h1, h2⟩ := h
 obtain ⟨_, r', h3, h4⟩ := h'
 rw [h1] at h3
 injection h3 with h3
 rw [← h3, h2] at h4
 injection h4 with h4
 exact ⟨rfl, h4⟩
theorem run_one {c : Cor} {o : Opr} {r : Cor × List Ot} (h : runC c [o] = .ok r) : doC c o = .ok r := by
 unfold runC at h
 obtain ⟨r1, h1, h2⟩ := bnd_ok.1 h
 obtain ⟨r2, h3, h4⟩ := bnd_ok.1 h2
 injection h3 with h3
 injection h4 with h4
 rw [h1, ← h4, ← h3]
 simp
theorem fail_one1 {c : Cor} {o : Opr} {i : Nat} {m : Int} (h : FailAt c [o] i m) : i = 0 ∧ doC c o = .error m := by
 obtain ⟨h1, r, h2, h3⟩ := h
 have e : i = 0 := by simp at h1; omega
 subst e
 injection h2 with h2
 rw [← h2] at h3
 exact ⟨rfl, h3⟩
theorem head_good {q : Que} (hg : goodQ q = true) (hne : q.items.length ≠ 0) : msgB (q.items.headD zeroI).msg = true := by
 cases e : q.items with
 | nil => simp [e] at hne
 | cons x l =>
  have := ((goodQ_iff q).1 hg).it x (by simp [e])
  simp only [itmB, Bool.and_eq_true] at this
  exact this.2
theorem hand_msg {q : Que} {conn sub : Int} {hold : Bool} {r : Que × Ot} (h : handQ q conn sub hold = .ok r) : msgB r.2.msg = true ∧ goodQ r.1 = true := by
 obtain ⟨h1, h2⟩ := handQ_ok h
 obtain ⟨h3, _, _, _, h4⟩ := takeC_zero h1
 unfold handQ at h
 rw [sureE_ok] at h
 refine ⟨?_, ?_⟩
 ·rw [← h.2]
  exact head_good h3 h4
 ·rw [h2]
  exact (goodQ_iff _).2 (good_take ((goodQ_iff _).1 h3) h1 _)
theorem pumpQ_msgs {subs : List Sbs} : ∀ {n : Nat} {q : Que} {r : Que × List Ot}, pumpQ subs n q = .ok r → ∀ x ∈ r.2, msgB x.msg = true
 | 0, q, r, h => by
  injection h with h
  rw [← h]
  intro x hx
  cases hx
 | n + 1, q, r, h => by
  unfold pumpQ at h
  split at h
  ·injection h with h
   rw [← h]
   intro x hx
   cases hx
  ·split at h
   ·injection h with h
    rw [← h]
    intro x hx
    cases hx
   ·obtain ⟨r1, h1, h2⟩ := bnd_ok.1 h
    obtain ⟨r2, h3, h4⟩ := bnd_ok.1 h2
    injection h4 with h4
    rw [← h4]
    intro x hx
    rcases List.mem_cons.1 hx with rfl | hx
    ·exact (hand_msg h1).1
    ·exact pumpQ_msgs (r := r2) h3 x hx
theorem pumpL_msgs {subs : List Sbs} {now : Int} : ∀ {l : List Que} {r : List Que × List Ot}, pumpL subs now l = .ok r → ∀ x ∈ r.2, msgB x.msg = true
 | [], r, h => by
  injection h with h
  rw [← h]
  intro x hx
  cases hx
 | q :: l, r, h => by
  unfold pumpL at h
  obtain ⟨r1, h1, h2⟩ := bnd_ok.1 h
  obtain ⟨r2, h3, h4⟩ := bnd_ok.1 h2
  injection h4 with h4
  rw [← h4]
  unfold pumpE at h1
  obtain ⟨q1, _, h6⟩ := bnd_ok.1 h1
  intro x hx
  rcases List.mem_append.1 hx with hx | hx
  ·exact pumpQ_msgs h6 x hx
  ·exact pumpL_msgs (r := r2) h3 x hx
theorem act_msgs {c : Cor} {o : Opr} {r : Cor × List Ot} (hg : GoodC c) (h : actC c o = .ok r) : ∀ x ∈ r.2, msgB x.msg = true := by
 obtain ⟨c', os⟩ := r
 have nop : ∀ y, noO y = .ok (c', os) → ∀ x ∈ os, msgB x.msg = true := fun y hy => by
  rw [(noO_ok.1 hy).2]
  intro x hx
  cases hx
 unfold actC at h
 by_cases h1 : o.kind = 1
 ·rw [if_pos h1] at h
  exact nop _ h
 rw [if_neg h1] at h
 by_cases h2 : o.kind = 2
 ·rw [if_pos h2] at h
  exact nop _ h
 rw [if_neg h2] at h
 by_cases h3 : o.kind = 3
 ·rw [if_pos h3] at h
  unfold bindC at h
  rw [ins_ok, ins_ok] at h
  obtain ⟨l, h4, h5⟩ := bnd_ok.1 h.2.2
  split at h5
  ·have := (ins_ok.1 h5).2
   injection this with this
   injection this with _ this
   show ∀ x ∈ os, msgB x.msg = true
   rw [← this]
   unfold keptO
   intro x hx
   obtain ⟨m, hm, rfl⟩ := List.mem_map.1 hx
   have h6 := hg.kg m (List.mem_filter.1 hm).1
   simp only [kepB, Bool.and_eq_true] at h6
   exact h6.1
  ·injection h5 with this
   injection this with _ this
   show ∀ x ∈ os, msgB x.msg = true
   rw [← this]
   intro x hx
   cases hx
 rw [if_neg h3] at h
 by_cases h4 : o.kind = 4
 ·rw [if_pos h4] at h
  exact nop _ h
 rw [if_neg h4] at h
 by_cases h5 : o.kind = 5
 ·rw [if_pos h5] at h
  exact nop _ h
 rw [if_neg h5] at h
 by_cases h6 : o.kind = 6
 ·rw [if_pos h6] at h
  exact nop _ h
 rw [if_neg h6] at h
 by_cases h7 : o.kind = 7
 ·rw [if_pos h7] at h
  exact nop _ h
 rw [if_neg h7] at h
 by_cases h8 : o.kind = 8
 ·rw [if_pos h8] at h
  exact nop _ h
 rw [if_neg h8] at h
 by_cases h9 : o.kind = 9
 ·rw [if_pos h9] at h
  exact nop _ h
 rw [if_neg h9] at h
 by_cases h10 : o.kind = 10
 ·rw [if_pos h10] at h
  unfold getC at h
  rw [ins_ok] at h
  obtain ⟨q, i1, i2⟩ := bnd_ok.1 h.2
  obtain ⟨q1, i3, i4⟩ := bnd_ok.1 i2
  obtain ⟨r, i5, i6⟩ := bnd_ok.1 i4
  injection i6 with i6
  injection i6 with _ i6
  show ∀ x ∈ os, msgB x.msg = true
  rw [← i6]
  intro x hx
  rcases List.mem_cons.1 hx with rfl | hx
  ·exact (hand_msg i5).1
  ·cases hx
 rw [if_neg h10] at h
 by_cases h11 : o.kind = 11
 ·rw [if_pos h11] at h
  exact nop _ h
 rw [if_neg h11] at h
 by_cases h12 : o.kind = 12
 ·rw [if_pos h12] at h
  exact nop _ h
 rw [if_neg h12] at h
 by_cases h13 : o.kind = 13
 ·rw [if_pos h13] at h
  exact nop _ h
 rw [if_neg h13] at h
 exact nop _ h
theorem do_msgs {c : Cor} {o : Opr} {r : Cor × List Ot} (h : doC c o = .ok r) : ∀ x ∈ r.2, msgB x.msg = true := by
 obtain ⟨hg, _, _, r1, h1, g1, r2, h2, _, e2⟩ := doC_ok h
 have a1 := act_msgs hg h1
 unfold pumpC at h2
 obtain ⟨r3, h3, h4⟩ := bnd_ok.1 h2
 injection h4 with h4
 have a2 := pumpL_msgs h3
 rw [e2, ← h4]
 intro x hx
 rcases List.mem_append.1 hx with hx | hx
 ·exact a1 x hx
 ·exact a2 x hx
theorem opw_appOn {o : Oper} {a : Act} {K : Act → World → Prop} {Q : Exit → Act → World → Prop} (s x : Operand)
  (ho : o.op = .call { callee := .builtin .append, args := #[s, x], argTypes := #[36, 36] }) (B : Nat) (v vx : Value) (zs zs2 : Zs Ot) (R : List Value → Ot → Prop) (w : World)
  (hs : a.eval s = v) (hown : OwnZ 61 11 R w B v zs) (hx : a.eval x = vx) (hsrc : RdZ 11 R w vx zs2) (hn : zs.length + zs2.length ≤ 100000) (hB : B ≤ w.heap.size)
  (h : ∀ v' w', OwnZ 61 11 R w' B v' (zs ++ zs2) → w.grownBy w' v.ownBlock → K (a.put o.dst v') w') : o.wp Tryz.prog a w K Q := by
 obtain ⟨i0, hi, hz0, hz1, hz2⟩ := info_parts info61o
 have hall : ∀ y ∈ zs ++ zs2, (y.1.length = 11 ∧ ∀ u ∈ y.1, u.oneCell' = true) ∧ R y.1 y.2 := fun y hy => by
  rcases List.mem_append.1 hy with hy | hy
  ·exact hown.2 y hy
  ·exact hsrc.2 y hy
 rcases hsrc.1 with ⟨⟨ad, c, rfl⟩, rfl⟩ | ⟨b, off, c, rfl, hc, hcell⟩
 ·have hrun : (Builtin.append_ #[36, 36] o.type #[v, .slice ad 0 c]).run Tryz.prog w = .ok v w := by
   rcases hown.1.2 with ⟨rfl, _⟩ | ⟨g, cap, cur, rfl, _, _, hnc, _⟩
   ·cases ad <;> simp [Builtin.append_, run_underlying Tryz.underlying36, sizeOf, typeInfo, hi, Builtin.lenOf, Builtin.firstCells, loadCells, loadCellsFrom]
   ·cases ad <;> simp [Builtin.append_, run_underlying Tryz.underlying36, sizeOf, typeInfo, hi, Builtin.lenOf, Builtin.firstCells, hnc, storeCells, loadCells, loadCellsFrom]
  unfold Oper.wp execOp
  simp only [ho, resolve, invoke, builtin, Sem.run_bind, Sem.run_pure, Result.andThen_ok, List.map_toArray, List.map_cons, List.map_nil, hs, hx, hrun]
  exact h v w (by rw [List.append_nil]; exact hown) (World.grownBy.refl _ _)
 ·have hk : ∀ z ∈ zs2, z.1.length = 11 := fun z hz => (hsrc.2 z hz).1.1
  refine wp_append_own _ s x 36 ho B 61 i0 (.agg #[.int .i64 0, .int .i64 0, .int .i64 0, .string ⟨#[]⟩, .bool false, .bool false, .string ⟨#[]⟩, .string ⟨#[]⟩, .slice none 0 0, .bool false, .int .i64 0]) 11 120 Tryz.underlying36 hi hz0 hz1 hz2 rfl (by decide) v zs.length (cellsZ zs) hs hown.1 ⟨b, off, none⟩ zs2.length c (cellsZ zs2) hx (cellsZ_len hk) ?_ ?_ (by unfold maxLen; omega) (by omega) hB ?_
  ·intro j u hj
   rw [Addr.add_lit]
   exact hcell j u hj
  ·intro u hu
   simp only [cellsZ, List.mem_flatMap] at hu
   obtain ⟨z, hz, hu⟩ := hu
   exact (hsrc.2 z hz).1.2 u hu
  ·intro v' w' h1 h2 _
   refine h v' w' ⟨?_, hall⟩ h2
   rw [cellsZ_app, List.length_append]
   exact h1
def nil4 (i m : Int) : Value := .tuple #[.agg #[.int .i64 0, .slice none 0 0, .slice none 0 0, .slice none 0 0, .slice none 0 0, .slice none 0 0], .slice none 0 0, .int .i64 i, .int .i64 m]
def TxA (w : World) (c : Cor) (l : List Opr) (e : Ending) (w' : World) : Prop :=
 ((∃ r qv bv sv kv cv ov, runC c l = .ok r ∧ e = .returned (.tuple #[corV r.1 qv bv sv kv cv, ov, .int .i64 0, .int .i64 0]) ∧ OwC w' w.heap.size r.1 qv bv sv kv cv ∧ OOc w' w.heap.size ov r.2) ∨ (∃ (i : Nat) (m : Int), FailAt c l i m ∧ m ≠ 0 ∧ e = .returned (nil4 i m))) ∧ Bw w w'
theorem ret30q {fn : Func} {p u u2 u3 : Tmp} {tmps : Array Value} {W : World} {g : Nat} {cs : Array Value} {v v2 v3 : Value} {R : Ending → World → Prop} (hf : fn.results = #[.cell p 30, .tmp u, .tmp u2, .tmp u3]) (h : Blk W g cs 30) (hs : cs.size = 6)
  (hp : tmps.getD p undef = .pointer (some ⟨g, 0, none⟩)) (hu : tmps.getD u undef = v) (hu2 : tmps.getD u2 undef = v2) (hu3 : tmps.getD u3 undef = v3) (hR : R (.returned (.tuple #[.agg cs, v, v2, v3])) W) : bodyPost Tryz.prog fn R .ret { tmps := tmps, defers := [] } W := by
 refine bodyPost_ret (v := .tuple #[.agg cs, v, v2, v3]) ?_ rfl hR
 have e1 := run_loadVar_row (P := Tryz.prog) W g 30 30 cs (0, 0) _ h.h Tryz.underlying30 rfl (by rw [hs]; kernel_rfl)
 have hp' : tmps[p]?.getD undef = .pointer (some ⟨g, 0, none⟩) := by simpa using hp
 have hu' : tmps[u]?.getD undef = v := by simpa using hu
 have hu2' : tmps[u2]?.getD undef = v2 := by simpa using hu2
 have hu3' : tmps[u3]?.getD undef = v3 := by simpa using hu3
 simp [results, hf, hp', hu', hu2', hu3', asAddr, e1]
theorem owc_of {w : World} {B : Nat} {c : Cor} {qv bv sv kv cv : Value} (h : OwnC5 w B c qv bv sv kv cv) : OwC w B c qv bv sv kv cv := by
 obtain ⟨h1, h2, h3, h4, zs, e, hz, _⟩ := h
 exact ⟨h1, h2, h3, h4, zs, e, hz⟩
structure RxS (w W : World) (kc kr : Nat) (av : Value) (r : Cor × List Ot) : Prop where
 a : Blk W kr coZ 30
 k : ∃ q1 b1 s1 k1 c1, Blk W kc #[.int .i64 r.1.now, q1, b1, s1, k1, c1] 30 ∧ OwC W w.heap.size r.1 q1 b1 s1 k1 c1
 o : OOc W w.heap.size av r.2
 l : Bw w W
theorem RxS.on {w W W' : World} {kc kr : Nat} {av : Value} {r : Cor × List Ot} (h : RxS w W kc kr av r) (hb : Bw W W') : RxS w W' kc kr av r := by
 obtain ⟨h0, ⟨q1, b1, s1, k1, c1, h1, h2⟩, h3, h4⟩ := h
 exact ⟨h0.on hb, ⟨q1, b1, s1, k1, c1, h1.on hb, h2.on hb⟩, h3.kx (e := 0) (.of_below hb) (by decide), nxt h4 hb⟩
theorem OOc.on {w w' : World} {B : Nat} {v : Value} {l : List Ot} (h : OOc w B v l) (hb : Bw w w') : OOc w' B v l := h.kx (e := 0) (.of_below hb) (by decide)
theorem runC_end {c : Cor} {l : List Opr} {i : Nat} (hi : l.length ≤ i) {r : Cor × List Ot} (h : runC c (l.take i) = .ok r) : runC c l = .ok r := by
 rwa [List.take_of_length_le hi] at h
theorem runC_next {c : Cor} {l : List Opr} {i : Nat} (hi : i < l.length) {r r2 : Cor × List Ot} (h : runC c (l.take i) = .ok r) (h2 : doC r.1 l[i] = .ok r2) : runC c (l.take (i + 1)) = .ok (r2.1, r.2 ++ r2.2) := by
 rw [List.take_succ_eq_append_getElem hi, runC_app, h]
 show bnd (runC r.1 [l[i]]) _ = _
 unfold runC
 rw [h2]
 simp [bnd, runC]
set_option maxHeartbeats 8000000 in
theorem run12_any (w : World) (hV : To.Vars w) (B : Nat) (c : Cor) (qv bv sv kv cv : Value) (hc : OwC w B c qv bv sv kv cv) (hg : GoodC c) (v : Value) (zs : Zs Opr) (h : RdOs w v zs) (hn : zs.length ≤ 16) :
  Calls Tryz.prog 22 #[corV c qv bv sv kv cv, v] w fun e w' => TxA w c (zs.map (·.2)) e w' := by
 obtain ⟨va, vc, rfl⟩ := h.1.len
 obtain ⟨n, en⟩ : ∃ n, zs.length = n := ⟨_, rfl⟩
 rw [en] at h hn ⊢
 have HI : Hid (RdOs w (.slice va n vc) zs ∧ zs.length = n ∧ To.Vars w ∧ GoodC c ∧ OwC w B c qv bv sv kv cv) := ⟨h, en, hV, hg, hc⟩
 have k0 := Blk.new w #[.int .i64 c.now, qv, bv, sv, kv, cv] 30
 have b0 := (Below.refl w.heap.size w).alloc (Nat.le_refl _) (.cells #[.int .i64 c.now, qv, bv, sv, kv, cv] 30)
 have hng : ¬ (16 : Int) < (n : Int) := by omega
 have R0 : Hid (Blk ((w.alloc (.cells #[.int .i64 c.now, qv, bv, sv, kv, cv] 30)).alloc (.cells coZ 30)) w.heap.size #[.int .i64 c.now, qv, bv, sv, kv, cv] 30 ∧ Blk ((w.alloc (.cells #[.int .i64 c.now, qv, bv, sv, kv, cv] 30)).alloc (.cells coZ 30)) (w.heap.size + 1) coZ 30 ∧ Bw w ((w.alloc (.cells #[.int .i64 c.now, qv, bv, sv, kv, cv] 30)).alloc (.cells coZ 30))) := by
  have k2 := Blk.new (w.alloc (.cells #[.int .i64 c.now, qv, bv, sv, kv, cv] 30)) coZ 30
  rw [World.size_alloc] at k2
  exact ⟨k0.alloc _, k2, b0.alloc (by simp) _⟩
 clear h en hV hg hc k0 b0
 unfold corV
 go_enter Tryz.func22, Tryz.ntmps22
 go_upto_region 1 with fail
 generalize (w.alloc (.cells #[.int .i64 c.now, qv, bv, sv, kv, cv] 30)).alloc (.cells coZ 30) = w1 at *
 obtain ⟨kr, ekr⟩ : ∃ x, w.heap.size + 1 = x := ⟨_, rfl⟩
 have HKR : Hid (w.heap.size + 1 = kr) := ekr
 rw [ekr] at R0 ⊢
 clear ekr
 obtain ⟨c0, c1, c2, c3, c4, c5⟩ := R0.out.1.c6
 have H1 := goodCore_any w1 (HI.out.2.2.1.below R0.out.2.2) _ c ⟨qv, bv, sv, kv, cv, rfl, HI.out.2.2.2.2.rd.on R0.out.2.2⟩ (sm_good HI.out.2.2.2.1).1
 unfold corV at H1
 go_wp2_with fail
 refine H1.mono ?_
 rintro e w2 ⟨rfl, b2⟩
 have R2 : Hid (Blk w2 w.heap.size #[.int .i64 c.now, qv, bv, sv, kv, cv] 30 ∧ Blk w2 kr coZ 30 ∧ Bw w w2) := ⟨R0.out.1.on b2, R0.out.2.1.on b2, nxt R0.out.2.2 b2⟩
 rw [(goodC_iff c).2 HI.out.2.2.2.1]
 clear H1 R0 b2 c0 c1 c2 c3 c4 c5
 go_upto_region 3 with fail
 obtain ⟨c0, c1, c2, c3, c4, c5⟩ := R2.out.1.c6
 have H1 := copyC_any w2 _ c ⟨qv, bv, sv, kv, cv, rfl, HI.out.2.2.2.2.rd.on R2.out.2.2⟩ (sm_good HI.out.2.2.2.1).2
 unfold corV at H1
 go_wp2_with fail
 refine H1.mono ?_
 rintro e w3 ⟨q5, b5, s5, k5, c5', rfl, o5, b3⟩
 clear H1 c0 c1 c2 c3 c4 c5
 have oC3 := owc_of o5
 go_wp2_with (refine wpl_fresh rfl (.tmp 8) (.tmp 25) rfl #[.int .i64 c.now, q5, b5, s5, k5, c5'] _ rfl rfl (by kernel_rfl) rfl (cor_one oC3) ?_)
 intro w4 k4 b4 s4
 obtain ⟨kc, ekc⟩ : ∃ x, w3.heap.size = x := ⟨_, rfl⟩
 have HKC : Hid (kr < kc) := by
  have h1 := R2.out.2.1.lt
  have h2 := b3.size
  show kr < kc
  omega
 rw [ekc] at k4 ⊢
 have S0 : Hid (RxS w w4 kc kr (.slice none 0 0) (c, [])) := ⟨((R2.out.2.1.on b3).on b4), ⟨_, _, _, _, _, k4, (oC3.on b4).low R2.out.2.2.size⟩, ⟨[], rfl, World.ownsRow_nil .., by simp⟩, nxt (nxt R2.out.2.2 b3) b4⟩
 clear R2 oC3 o5 b3 b4 s4 k4 ekc
 go_upto_region 6 with fail
 go_loopg [9, 10, 11, 28] n (fun gg s9 _ _ s28 wr => ∃ i : Nat, i ≤ n ∧ n - i ≤ gg ∧ s28 = .int .i64 i ∧ Hid (∃ r', runC c ((zs.map (·.2)).take i) = .ok r' ∧ RxS w wr kc kr s9 r'))
 case atStart => exact ⟨0, Nat.zero_le _, by omega, rfl, ⟨_, rfl, S0.out⟩⟩
 case round =>
  obtain ⟨i, hi, hgg, rfl, HR⟩ := hrel
  clear S0
  obtain ⟨wt, hwt⟩ : ∃ W, W = wr := ⟨_, rfl⟩
  subst hwt
  obtain ⟨av, eav⟩ : ∃ x, u9 = x := ⟨_, rfl⟩
  rw [eav] at HR ⊢
  clear eav
  obtain ⟨r0, hr0, hS⟩ := HR.out
  have HS : Hid (RxS w wt kc kr av r0) := hS
  have HR0 : Hid (runC c ((zs.map (·.2)).take i) = .ok r0) := hr0
  clear HR hr0 hS
  by_cases hlt : i < n
  ·have hltz : (i : Int) < (n : Int) := by omega
   have hiz : i < zs.length := by rw [HI.out.2.1]; exact hlt
   have hgr : GoodC r0.1 := run_good HI.out.2.2.2.1 HR0.out
   obtain ⟨b', o, pv, rfl, hp, hin, C⟩ := HI.out.1.at hiz
   obtain ⟨x, exx⟩ : ∃ x, (zs[i]).2 = x := ⟨_, rfl⟩
   rw [exx] at hp hin C
   have HXX : Hid ((zs[i]).2 = x) := exx
   clear exx
   obtain ⟨pa, pc, rfl⟩ := hp.shape
   have HF : Hid (RdP w (.slice pa x.msg.props.length pc) x.msg.props ∧ InO x ∧ GoodC r0.1) := ⟨hp, hin, hgr⟩
   have hone := hp.one
   clear hp hin hgr
   have e0 : wt.cell? ⟨b', o + i * 14, none⟩ = some (.int .i64 x.kind) := C wt HS.out.l 0 _ rfl
   have e1 : wt.cell? ⟨b', o + i * 14 + 1, none⟩ = some (.int .i64 x.conn) := C wt HS.out.l 1 _ rfl
   have e2 : wt.cell? ⟨b', o + i * 14 + 2, none⟩ = some (.int .i64 x.sub) := C wt HS.out.l 2 _ rfl
   have e3 : wt.cell? ⟨b', o + i * 14 + 3, none⟩ = some (.int .i64 x.n) := C wt HS.out.l 3 _ rfl
   have e4 : wt.cell? ⟨b', o + i * 14 + 4, none⟩ = some (tx x.queue) := C wt HS.out.l 4 _ rfl
   have e5 : wt.cell? ⟨b', o + i * 14 + 5, none⟩ = some (tx x.text) := C wt HS.out.l 5 _ rfl
   have e6 : wt.cell? ⟨b', o + i * 14 + 6, none⟩ = some (.bool x.dur) := C wt HS.out.l 6 _ rfl
   have e7 : wt.cell? ⟨b', o + i * 14 + 7, none⟩ = some (.bool x.auto) := C wt HS.out.l 7 _ rfl
   have e8 : wt.cell? ⟨b', o + i * 14 + 8, none⟩ = some (.bool x.keep) := C wt HS.out.l 8 _ rfl
   have e9 : wt.cell? ⟨b', o + i * 14 + 9, none⟩ = some (tx x.msg.topic) := C wt HS.out.l 9 _ rfl
   have e10 : wt.cell? ⟨b', o + i * 14 + 10, none⟩ = some (tx x.msg.body) := C wt HS.out.l 10 _ rfl
   have e11 : wt.cell? ⟨b', o + i * 14 + 11, none⟩ = some (.slice pa x.msg.props.length pc) := C wt HS.out.l 11 _ rfl
   have e12 : wt.cell? ⟨b', o + i * 14 + 12, none⟩ = some (.bool x.msg.dur) := C wt HS.out.l 12 _ rfl
   have e13 : wt.cell? ⟨b', o + i * 14 + 13, none⟩ = some (.int .i64 x.msg.til) := C wt HS.out.l 13 _ rfl
   go_wp2_with (refine wpl_fresh rfl (.tmp 11) (.tmp 32) rfl (opA x (.slice pa x.msg.props.length pc)) _ rfl rfl (by kernel_rfl) rfl (op_one (o := x) hone) ?_)
   intro w2 k2 b2 s2
   clear e0 e1 e2 e3 e4 e5 e6 e7 e8 e9 e10 e11 e12 e13 s2 C hone
   have HS2 : Hid (RxS w w2 kc kr av r0) := HS.out.on b2
   obtain ⟨d0, d1, d2, d3, d4, d5, d6, d7, d8, d9, d10, d11, d12, d13⟩ := k2.c14
   obtain ⟨gx, egx⟩ : ∃ g, wt.heap.size = g := ⟨_, rfl⟩
   rw [egx] at d0 d1 d2 d3 d4 d5 d6 d7 d8 d9 d10 d11 d12 d13 ⊢
   clear egx k2 b2 HS
   obtain ⟨q1, v1, s1, k1, c1, kC, oC⟩ := HS2.out.k
   have HC := do_good w2 (HI.out.2.2.1.below HS2.out.l) _ r0.1 q1 v1 s1 k1 c1 oC HF.out.2.2 x (.slice pa x.msg.props.length pc) (opok_of HF.out.1 HF.out.2.1 HS2.out.l)
   unfold corV opV at HC
   obtain ⟨c0, c1', c2, c3, c4, c5⟩ := kC.c6
   have HK2 : Hid (Blk w2 kc #[.int .i64 r0.1.now, q1, v1, s1, k1, c1] 30 ∧ OwC w2 w.heap.size r0.1 q1 v1 s1 k1 c1) := ⟨kC, oC⟩
   clear kC oC
   go_wp2_with fail
   refine HC.mono ?_
   rintro e w3 ⟨hD, b3⟩
   clear HC c0 c1' c2 c3 c4 c5 d0 d1 d2 d3 d4 d5 d6 d7 d8 d9 d10 d11 d12 d13
   rcases hD with ⟨r3, q3, v3, s3, k3, c3, o3, hd, he, oC3, oO3⟩ | ⟨m, hd, hm, he⟩
   rotate_left
   ·subst he
    unfold nilV
    have b4 : Bw w3 (w3.alloc (.cells coZ 30)) := (Below.refl w3.heap.size w3).alloc (Nat.le_refl _) _
    have hA := (HS2.out.a.on b3).on b4
    have HL : Hid (Bw w (w3.alloc (.cells coZ 30))) := nxt (nxt HS2.out.l b3) b4
    have HFA : Hid (FailAt c (zs.map (·.2)) i m ∧ m ≠ 0) := ⟨⟨by rw [List.length_map]; exact hiz, r0, HR0.out, by rw [List.getElem_map, HXX.out]; exact hd⟩, hm⟩
    have hm' : ¬ m = 0 := hm
    clear b4 hd hm HS2 HK2 b3
    go_wp2_with (refine wpl_put rfl (.tmp 4) (.tmp 42) rfl kr coZ rfl rfl hA (by kernel_rfl) rfl (by simp [Value.oneCell']) ?_)
    intro w5 k5 g5 s5
    go_wp2_with fail
    exact ret30q rfl k5 rfl rfl rfl rfl rfl ⟨.inr ⟨i, m, HFA.out.1, HFA.out.2, rfl⟩, HL.out.grown g5 HL.out.size (fun k hk => by injection hk with hk; have := HKR.out; omega)⟩
   subst he
   unfold corV
   have HT3 : Hid (runC c ((zs.map (·.2)).take (i + 1)) = .ok (r3.1, r0.2 ++ r3.2)) := runC_next (by rw [List.length_map]; exact hiz) HR0.out (by rw [List.getElem_map, HXX.out]; exact hd)
   have hol := run_outs HT3.out
   have hol2 : (r0.2 ++ r3.2).length ≤ 20000 := by
    have h1 : ((zs.map (·.2)).take (i + 1)).length ≤ 16 := by rw [List.length_take, List.length_map, HI.out.2.1]; omega
    have h2 : (r0.2 ++ r3.2).length ≤ 1040 * ((zs.map (·.2)).take (i + 1)).length := hol
    omega
   clear hd hol
   go_wp2_with (refine wpl_fresh rfl (.tmp 12) (.tmp 37) rfl #[.int .i64 r3.1.now, q3, v3, s3, k3, c3] _ rfl rfl (by kernel_rfl) rfl (cor_one oC3) ?_)
   intro w4 k4 b4 s4
   have K4 := (HK2.out.1.on b3).on b4
   have A4 := (HS2.out.a.on b3).on b4
   have oC4 := (oC3.on b4).low (HS2.out.l.size)
   have oO4 := (oO3.on b4).low (HS2.out.l.size)
   have oA4 := (HS2.out.o.on b3).on b4
   have l4 := nxt (nxt HS2.out.l b3) b4
   have hgy : kc < w3.heap.size := by
    have h1 := HK2.out.1.lt
    have h2 := b3.size
    omega
   obtain ⟨gy, egy⟩ : ∃ g, w3.heap.size = g := ⟨_, rfl⟩
   rw [egy] at k4 hgy ⊢
   clear egy oC3 oO3 b3 b4 s4 HS2 HK2
   obtain ⟨ao3, no3, co3, rfl⟩ := OwnL.shape oO4
   go_upto_region 11 with fail
   refine rh (fun W => Blk W gy #[.int .i64 r3.1.now, q3, v3, s3, k3, c3] 30) ?_
   have hS : Blk (World.drew w4) gy #[.int .i64 r3.1.now, q3, v3, s3, k3, c3] 30 := ⟨k4.h⟩
   have K5 : Blk (World.drew w4) kc #[.int .i64 r0.1.now, q1, v1, s1, k1, c1] 30 := ⟨K4.h⟩
   have A5 : Blk (World.drew w4) kr coZ 30 := ⟨A4.h⟩
   have bd : Bw w4 (World.drew w4) := (Below.refl _ _).drew
   have oC5 := oC4.on bd
   have oO5 := oO4.on bd
   have oA5 := oA4.on bd
   have l5 := l4.drew
   have hone := cor_one oC5
   clear K4 A4 oC4 oO4 oA4 l4 k4 bd
   generalize World.drew w4 = wD at *
   refine tks [0, 1, 2] [.agg #[.int .i64 r3.1.now, q3, v3, s3, k3, c3], av, .slice ao3 no3 co3] 3 ?_ hS ?_
   ·simp only [tkY, tkf]
    refine ⟨.yes ?_, .yes ?_, .yes ?_, trivial⟩
    all_goals
     intro W' hW'
     have := hW'.ce 0
     have := hW'.ce 1
     have := hW'.ce 2
     have := hW'.ce 3
     have := hW'.ce 4
     have := hW'.ce 5
     go_simp
   simp only [tkA, tkf]
   obtain ⟨zA, eA, hA⟩ := oA5
   obtain ⟨zB, eB, hB⟩ := oO5.rd
   have hlen : zA.length + zB.length ≤ 100000 := by
    have h1 := congrArg List.length eA
    have h2 := congrArg List.length eB
    rw [List.length_map] at h1 h2
    rw [List.length_append] at hol2
    omega
   refine ak 3 fun K hK => ?_
   refine opw_appOn (.tmp 46) (.tmp 47) rfl w.heap.size av (.slice ao3 no3 co3) zA zB _ wD ?_ hA ?_ hB hlen l5.size ?_
   ·skip
    simp only [Act.eval, Act.put]
    rfl
   ·skip
    simp only [Act.eval, Act.put]
    rfl
   intro v6 w6 o6 g6
   have kx6 : KX 61 wD w6 := .of_grown hA.1 g6
   have hS6 := hS.kt (kx6.kt _ (by decide))
   have K6 := K5.kt (kx6.kt _ (by decide))
   have A6 := A5.kt (kx6.kt _ (by decide))
   have oC6 := oC5.kx kx6 (by decide)
   have l6 := l5.grown g6 l5.size (fun k hk => (World.ownsRow.lt hA.1 k hk).1)
   have O6 : OOc w6 w.heap.size v6 (r0.2 ++ r3.2) := ⟨zA ++ zB, by rw [List.map_append, eA, eB], o6.imp (by
    rintro vs y ⟨pv', h1, h2⟩
    exact ⟨pv', h1, h2.keep (kx6.kt _ (by decide))⟩)⟩
   refine hK _ _ hS6 ?_
   clear hK K
   try simp only [tkf]
   refine ak 4 fun K hK => ?_
   refine opw_putAt (.tmp 8) (.tmp 45) rfl kc 0 #[.int .i64 r3.1.now, q3, v3, s3, k3, c3] rfl ?_ K6 (by kernel_rfl) (by simp) (by simpa using hone) ?_
   ·skip
    simp only [Act.eval, Act.put]
    rfl
   intro w7 k7 g7 s7
   have kx7 : KX 30 w6 w7 := .put K6 g7
   have hS7 : Blk w7 gy #[.int .i64 r3.1.now, q3, v3, s3, k3, c3] 30 := hS6.grown g7 (by simp; omega)
   have k7' : Blk w7 kc #[.int .i64 r3.1.now, q3, v3, s3, k3, c3] 30 := by simpa using k7
   have HX : Hid (∃ r', runC c ((zs.map (·.2)).take (i + 1)) = .ok r' ∧ RxS w w7 kc kr v6 r') := ⟨_, HT3.out, A6.grown g7 (by have := HKC.out; simp; omega), ⟨_, _, _, _, _, k7', oC6.kx kx7 (by decide)⟩, O6.kx kx7 (by decide), l6.grown g7 l6.size (fun k hk => by injection hk with hk; have h1 := HKC.out; have h2 := HKR.out; omega)⟩
   refine hK _ _ hS7 ?_
   clear hK K
   try simp only [tkf]
   refine tks [5] [v6] 0 ?_ hS7 ?_
   ·simp only [tkY, tkf]
    refine ⟨.yes ?_, trivial⟩
    all_goals
     intro W' hW'
     go_simp
   simp only [tkA, tkf]
   refine ad ?_
   clear hS7 hS6 K6 A6 oC6 l6 O6 o6 g6 kx6 g7 s7 kx7 k7 k7' hA hB hS K5 A5 oC5 oO5 l5 HR0 HT3 HF hone
   go_wp2_with fail
   go_roundg (n - (i + 1))
   case measure => omega
   case rel => exact ⟨i + 1, by omega, by omega, by go_num, HX.out⟩
  ·have hltz : ¬ (i : Int) < (n : Int) := by omega
   obtain ⟨q1, v1, s1, k1, c1, kC, oC⟩ := HS.out.k
   have HRE : Hid (runC c (zs.map (·.2)) = .ok r0) := runC_end (by rw [List.length_map, HI.out.2.1]; omega) HR0.out
   have hA := HS.out.a
   obtain ⟨c0, c1', c2, c3, c4, c5⟩ := kC.c6
   have HL : Hid (Bw w wt) := HS.out.l
   have HO : Hid (OOc wt w.heap.size av r0.2) := HS.out.o
   have hone := cor_one oC
   clear HS HR0
   go_wp2_with (refine wpl_put rfl (.tmp 4) (.tmp 50) rfl kr #[.int .i64 r0.1.now, q1, v1, s1, k1, c1] rfl rfl hA (by kernel_rfl) rfl hone ?_)
   intro w5 k5 g5 s5
   clear c0 c1' c2 c3 c4 c5
   go_wp2_with fail
   exact ret30q rfl k5 rfl rfl rfl rfl rfl ⟨.inl ⟨r0, _, _, _, _, _, _, HRE.out, rfl, oC.kx (KX.put hA g5) (by decide), HO.out.kx (KX.put hA g5) (by decide)⟩, HL.out.grown g5 HL.out.size (fun k hk => by injection hk with hk; have := HKR.out; omega)⟩
end Go.Proofs.YtnpikgakpmkipabGreatDoor
