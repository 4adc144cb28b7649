
/- How an argument that is a frame, or a header, is opened, and what its texts weigh. -/
import Derived.Test.YtfdbekfbbihdgaaDoorLv
import Derived.Test.YtfdbekfbbihdgaaDoorHh
import Derived.Deep.Slices
import Derived.OpenShut
import Derived.ShutString
import Derived.ChangeOld
import Derived.SizedLaws
set_option maxRecDepth 100000
set_option linter.unusedSimpArgs false
namespace Go.Proofs.YtfdbekfbbihdgaaDoor
open Go.RowKit Go.Lib Go.Deep

theorem cells9 : Tryd.prog.cellsOf 9 = 1 := by kernel_rfl
theorem cells22 : Tryd.prog.cellsOf 22 = 1 := by kernel_rfl
theorem cells42 : Tryd.prog.cellsOf 42 = 2 := by kernel_rfl
theorem cells24 : Tryd.prog.cellsOf 24 = 3 := by kernel_rfl
theorem bytes42 : Tryd.prog.bytesOf 42 = 32 := by kernel_rfl
theorem weigh42 {H : Type} (a b : DataW H) : DataW.weights Tryd.prog 42 (.agg [a, b]) = a.weights Tryd.prog 9 ++ (b.weights Tryd.prog 9 ++ []) := by
  simp only [DataW.weights, Tryd.underlying42]
  rfl
theorem weigh24 {H : Type} (a b c : DataW H) : DataW.weights Tryd.prog 24 (.agg [a, b, c]) = a.weights Tryd.prog 9 ++ (b.weights Tryd.prog 22 ++ (c.weights Tryd.prog 9 ++ [])) := by
  simp only [DataW.weights, Tryd.underlying24]
  rfl
theorem weigh22 {H : Type} (E S : List (DataW H)) : DataW.weights Tryd.prog 22 (.slice E S) = (E.length + S.length) * Tryd.prog.bytesOf 42 :: (DataW.weightsAll Tryd.prog 42 E ++ DataW.weightsAll Tryd.prog 42 S) := by
  simp only [DataW.weights, Tryd.underlying22]
theorem weigh_all {H : Type} {E : List (DataW H)} {d : DataW H} {n : Nat} (hd : d ∈ E) (hn : n ∈ DataW.weights Tryd.prog 42 d) : n ∈ DataW.weightsAll Tryd.prog 42 E := by
  induction E with
  | nil => cases hd
  | cons a E ih =>
    simp only [DataW.weightsAll, List.mem_append]
    rcases List.mem_cons.1 hd with rfl | hd
    · exact .inl hn
    · exact .inr (ih hd)
theorem str_of (s : ByteArray) : Value.string s = str s.data.toList := by simp [str]
theorem header_weigh {H : Type} {enc : TypeId × Value → H} {W : World} {cs : List Value} {fuel : Nat} {x : DataW H × List MemPlace} (h : DataW.trod enc Tryd.prog W 0 (fun _ => true) true fuel 42 cs = some x) :
    ∃ y : Hd, cs = [str y.1, str y.2] ∧ y.1.length ∈ DataW.weights Tryd.prog 42 x.1 ∧ y.2.length ∈ DataW.weights Tryd.prog 42 x.1 := by
  obtain ⟨xs, n, _, rfl, hl, hlen, hf⟩ := DataW.trod_struct Tryd.underlying42 h
  rw [cells42] at hl
  match xs, hlen with
  | [y0, y1], _ =>
    have t0 : DataW.trod enc Tryd.prog W 0 (fun _ => true) true n 9 ((cs.drop 0).take (Tryd.prog.cellsOf 9)) = some y0 := by simpa using hf 0 _ rfl
    have t1 : DataW.trod enc Tryd.prog W 0 (fun _ => true) true n 9 ((cs.drop 1).take (Tryd.prog.cellsOf 9)) = some y1 := by simpa using hf 1 _ rfl
    match cs, hl with
    | [c0, c1], _ =>
      simp only [cells9, List.drop, List.take] at t0 t1
      obtain ⟨s, e0, e0', ws⟩ := DataW.trod_string Tryd.underlying9 t0
      obtain ⟨u, e1, e1', wu⟩ := DataW.trod_string Tryd.underlying9 t1
      simp only [List.cons.injEq, and_true] at e0 e1
      subst e0 e1
      refine ⟨(s.data.toList, u.data.toList), by rw [str_of s, str_of u], ?_, ?_⟩
      · subst e0'
        show s.data.toList.length ∈ DataW.weights Tryd.prog 42 (.agg [_, y1.1])
        rw [weigh42]
        simp [DataW.weights]
      · subst e1'
        show u.data.toList.length ∈ DataW.weights Tryd.prog 42 (.agg [y0.1, _])
        rw [weigh42]
        simp [DataW.weights]
theorem header_at {H : Type} {enc : TypeId × Value → H} {W : World} {a : Addr} {cs : List Value} {fuel : Nat} {x : DataW H × List MemPlace}
    (hc : W.cells? 0 a (Tryd.prog.cellsOf 42) = some cs) (h : DataW.trod enc Tryd.prog W 0 (fun _ => true) true fuel 42 cs = some x) :
    ∃ (b o : Nat) (y : Hd), a = ⟨b, o, none⟩ ∧ HdAt W b o y ∧ y.1.length ∈ DataW.weights Tryd.prog 42 x.1 ∧ y.2.length ∈ DataW.weights Tryd.prog 42 x.1 := by
  obtain ⟨y, rfl, hy⟩ := header_weigh h
  rw [cells42] at hc
  obtain ⟨b, o, sp⟩ := a
  obtain ⟨_, _, hh⟩ := World.cells?_some hc
  have h0 := hh 0 (by omega)
  have h1 := hh 1 (by omega)
  simp only [Addr.add, List.getElem?_cons_zero, List.getElem?_cons_succ] at h0 h1
  have hsp : sp = none := by simpa [Addr.add] using World.cell?_spot h0
  subst hsp
  exact ⟨b, o, y, rfl, ⟨h0, h1⟩, hy⟩
/-- What is told of headers that came in. -/
structure InH (D : List Nat) (l : List Hd) : Prop where
  n : l.length = 0 ∨ ∃ k ∈ D, l.length * 32 ≤ k
  w : ∀ h ∈ l, h.1.length ∈ D ∧ h.2.length ∈ D
theorem rd_headers {H : Type} {enc : TypeId × Value → H} {W : World} {v : Value} {x : DataW H × List MemPlace} {fuel : Nat}
    (hf : DataW.trod enc Tryd.prog W 0 (fun _ => true) true fuel 22 [v] = some x) :
    ∃ l : List Hd, RdH W v l ∧ InH (DataW.weights Tryd.prog 22 x.1) l := by
  rcases open_slice Tryd.underlying22 hf with ⟨hcs, _⟩ | ⟨a, n, c, m, f, D, Pl, hcs, _, hl, hm, hmm, hx, hel⟩
  · simp only [List.cons.injEq, and_true] at hcs
    subst hcs
    exact ⟨[], .inl ⟨⟨_, _, rfl⟩, rfl⟩, .inl rfl, fun q hq => by cases hq⟩
  · simp only [List.cons.injEq, and_true] at hcs
    subst hcs
    have hmc : m = c := by simpa using hmm
    subst hmc
    subst hx
    rcases Nat.eq_zero_or_pos n with h0 | h0
    · subst h0
      exact ⟨[], .inl ⟨⟨_, _, rfl⟩, rfl⟩, .inl rfl, fun q hq => by cases hq⟩
    · have key : ∀ i, i < n → ∃ (b o : Nat) (y : Hd), a.add (i * 2) = ⟨b, o, none⟩ ∧ HdAt W b o y ∧ y.1.length ∈ DataW.weights Tryd.prog 42 (D i) ∧ y.2.length ∈ DataW.weights Tryd.prog 42 (D i) := fun i hi => by
        obtain ⟨cs', h1, h2⟩ := hel i (by omega)
        have := header_at h1 h2
        rwa [cells42] at this
      obtain ⟨b, o, _, e0, _⟩ := key 0 (by omega)
      have ex : a = ⟨b, o, none⟩ := by simpa [Addr.add] using e0
      subst ex
      have key2 : ∀ i, i < n → ∃ y : Hd, HdAt W b (o + i * 2) y ∧ y.1.length ∈ DataW.weights Tryd.prog 42 (D i) ∧ y.2.length ∈ DataW.weights Tryd.prog 42 (D i) := fun i hi => by
        obtain ⟨b', o', y, e, g, hy⟩ := key i hi
        rw [Addr.add_lit] at e
        cases e
        exact ⟨y, g, hy⟩
      have hall : ∀ k, k ≤ n → ∃ l : List Hd, l.length = k ∧ ∀ i (h : i < l.length), HdAt W b (o + i * 2) l[i] ∧ l[i].1.length ∈ DataW.weights Tryd.prog 42 (D i) ∧ l[i].2.length ∈ DataW.weights Tryd.prog 42 (D i) := by
        intro k
        induction k with
        | zero => exact fun _ => ⟨[], rfl, fun i h => by simp at h⟩
        | succ k ih =>
          intro hk
          obtain ⟨l, hl, hh⟩ := ih (by omega)
          obtain ⟨y, hy⟩ := key2 k (by omega)
          refine ⟨l ++ [y], by simp [hl], fun i hi => ?_⟩
          by_cases e : i < l.length
          · rw [List.getElem_append_left e]; exact hh i e
          · have : i = k := by simp at hi; omega
            subst this
            rw [List.getElem_append_right (by omega)]
            simpa using hy
      obtain ⟨l, hl2, hh⟩ := hall n (Nat.le_refl _)
      have mem : ∀ i, i < n → ∀ z, z ∈ DataW.weights Tryd.prog 42 (D i) → z ∈ DataW.weights Tryd.prog 22 (.slice ((List.range n).map D) ((List.range (m - n)).map fun j => D (n + j))) := fun i hi z hz => by
        rw [weigh22]
        exact List.mem_cons_of_mem _ (List.mem_append_left _ (weigh_all (List.mem_map.2 ⟨i, List.mem_range.2 hi, rfl⟩) hz))
      refine ⟨l, .inr ⟨b, o, m, by rw [hl2], by omega, fun i hi => (hh i hi).1⟩, .inr ⟨_, by rw [weigh22]; exact List.mem_cons_self .., ?_⟩, fun q hq => ?_⟩
      · rw [bytes42]
        simp
        omega
      · obtain ⟨i, hi, rfl⟩ := List.mem_iff_getElem.1 hq
        exact ⟨mem i (by omega) _ (hh i hi).2.1, mem i (by omega) _ (hh i hi).2.2⟩
theorem open_header {H : Type} {enc : TypeId × Value → H} {W : World} {v : Value} {d : DataW H} {p : List MemPlace} (h : DataW.Trod enc Tryd.prog W 0 (fun _ => true) true 42 v d p) : ∃ y : Hd, v = .agg (hdA y) ∧ y.1.length ∈ DataW.weights Tryd.prog 42 d ∧ y.2.length ∈ DataW.weights Tryd.prog 42 d := by
  obtain ⟨fuel, hf⟩ := h
  obtain ⟨y, e, hy⟩ := header_weigh hf
  refine ⟨y, ?_, hy⟩
  cases v with
  | agg a => simp only [Value.cells] at e; rw [show a = hdA y from Array.ext' (by simpa using e)]
  | _ => simp [Value.cells] at e
theorem open_frame {H : Type} {enc : TypeId × Value → H} {W : World} {v : Value} {d : DataW H} {p : List MemPlace} (h : DataW.Trod enc Tryd.prog W 0 (fun _ => true) true 24 v d p) :
    ∃ (c : Bs) (hv : Value) (b : Bs) (l : List Hd), v = frV c hv b ∧ RdH W hv l ∧ c.length ∈ DataW.weights Tryd.prog 24 d ∧ b.length ∈ DataW.weights Tryd.prog 24 d ∧ InH (DataW.weights Tryd.prog 24 d) l := by
  obtain ⟨fuel, hf⟩ := h
  obtain ⟨xs, n, _, hx, hl, hlen, hf⟩ := DataW.trod_struct Tryd.underlying24 hf
  rw [cells24] at hl
  match xs, hlen with
  | [y0, y1, y2], _ =>
    have t0 : DataW.trod enc Tryd.prog W 0 (fun _ => true) true n 9 ((v.cells.toList.drop 0).take (Tryd.prog.cellsOf 9)) = some y0 := by simpa using hf 0 _ rfl
    have t1 : DataW.trod enc Tryd.prog W 0 (fun _ => true) true n 22 ((v.cells.toList.drop 1).take (Tryd.prog.cellsOf 22)) = some y1 := by simpa using hf 1 _ rfl
    have t2 : DataW.trod enc Tryd.prog W 0 (fun _ => true) true n 9 ((v.cells.toList.drop 2).take (Tryd.prog.cellsOf 9)) = some y2 := by simpa using hf 2 _ rfl
    have hd := (Prod.mk.inj hx).1
    generalize hcs : v.cells.toList = cs at *
    match cs, hl with
    | [c0, c1, c2], _ =>
      simp only [cells9, cells22, List.drop, List.take] at t0 t1 t2
      obtain ⟨s, e0, e0', ws⟩ := DataW.trod_string Tryd.underlying9 t0
      obtain ⟨l, hr, hin⟩ := rd_headers t1
      obtain ⟨u, e2, e2', wu⟩ := DataW.trod_string Tryd.underlying9 t2
      simp only [List.cons.injEq, and_true] at e0 e2
      subst e0 e2
      have hw : DataW.weights Tryd.prog 24 d = y0.1.weights Tryd.prog 9 ++ (y1.1.weights Tryd.prog 22 ++ (y2.1.weights Tryd.prog 9 ++ [])) := by
        rw [← weigh24, hd]
        rfl
      refine ⟨s.data.toList, c1, u.data.toList, l, ?_, hr, ?_, ?_, ?_⟩
      · cases v with
        | agg a =>
          simp only [Value.cells] at hcs
          show Value.agg a = _
          rw [show a = #[.string s, c1, .string u] from Array.ext' (by simpa using hcs), str_of s, str_of u]
        | _ => simp [Value.cells] at hcs
      · rw [hw]
        subst e0'
        simp [DataW.weights]
      · rw [hw]
        subst e2'
        simp [DataW.weights]
      · have sub : ∀ z ∈ y1.1.weights Tryd.prog 22, z ∈ DataW.weights Tryd.prog 24 d := fun z hz => by
          rw [hw]; exact List.mem_append_right _ (List.mem_append_left _ hz)
        refine ⟨?_, fun h hh => ⟨sub _ (hin.w h hh).1, sub _ (hin.w h hh).2⟩⟩
        rcases hin.n with h | ⟨k, hk, hk2⟩
        · exact .inl h
        · exact .inr ⟨k, sub k hk, hk2⟩
theorem weights_le {H : Type} {ts : List TypeId} {ds : List (DataW H)} (hsz : (DataW.weightsEach Tryd.prog ts ds).all (· ≤ reachBytes) = true) {j : Nat} {t : TypeId} {d : DataW H} (ht : ts[j]? = some t) (hd : ds[j]? = some d) :
    ∀ n ∈ DataW.weights Tryd.prog t d, n ≤ 140737488355328 := fun n hn => by
  have h1 := DataW.weights_mem_each ht hd n hn
  have h2 := List.all_eq_true.1 hsz n h1
  have h3 := reachBytes_lt
  simp at h2
  omega
/-- What is enough for the walks. -/
theorem InH.fits {D : List Nat} {l : List Hd} (h : InH D l) (hD : ∀ n ∈ D, n ≤ 140737488355328) : l.length ≤ 9000000000000000000 ∧ ∀ x ∈ l, x.1.length + x.2.length ≤ 1000000000000000000 := by
  refine ⟨?_, fun x hx => ?_⟩
  · rcases h.n with h | ⟨k, h1, h2⟩
    · omega
    · have := hD k h1
      omega
  · have h1 := hD _ (h.w x hx).1
    have h2 := hD _ (h.w x hx).2
    omega
end Go.Proofs.YtfdbekfbbihdgaaDoor
