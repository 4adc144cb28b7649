/- What came in, with what is told of its sizes. -/
import Derived.Test.YtlbcefocmdnlgaaGreatDoorLb
import Derived.Test.YtlbcefocmdnlgaaGreatDoorZh
namespace Go.Proofs.YtlbcefocmdnlgaaGreatDoor
open Go.RowKit Go.Lib Go.Deep
set_option maxRecDepth 100000

theorem wAll_mem {H : Type} {e : TypeId} : ∀ {ds : List (DataW H)} {d : DataW H}, d ∈ ds → ∀ n ∈ d.weights Tryz.prog e, n ∈ DataW.weightsAll Tryz.prog e ds
  | [], _, h, _, _ => by simp at h
  | x :: ds, d, h, n, hn => by
    rw [DataW.weightsAll]
    rcases List.mem_cons.1 h with rfl | h
    · exact List.mem_append_left _ hn
    · exact List.mem_append_right _ (wAll_mem h n hn)
/-- What is told of a message that came in. -/
def InM (m : Msg) : Prop := (∀ p ∈ m.props, InP p) ∧ m.props.length ≤ 2513169434916
theorem props_cellW {H : Type} {enc : TypeId × Value → H} {W : World} {c : Value} {fuel : Nat} {x : DataW H × List MemPlace} (h : DataW.trod enc Tryz.prog W 0 (fun _ => true) true fuel 26 [c] = some x) (hw : ∀ n ∈ x.1.weights Tryz.prog 26, n ≤ reachBytes) :
    ∃ l : List Pr, RdP W c l ∧ (∀ p ∈ l, InP p) ∧ l.length ≤ 2513169434916 := by
  rcases open_slice Tryz.underlying26 h with ⟨hcs, _⟩ | ⟨a, l, cp, m, f, D, Pl, hcs, _⟩
  · simp only [List.cons.injEq, and_true] at hcs
    subst hcs
    exact ⟨[], .inl ⟨⟨_, _, rfl⟩, rfl⟩, by simp, by simp⟩
  · simp only [List.cons.injEq, and_true] at hcs
    subst hcs
    obtain ⟨l', hl, hn, hp, hb⟩ := rd_props (d := x.1) (p := x.2) ⟨fuel, h⟩
    refine ⟨l', hl, hp, ?_⟩
    rcases hb with hb | ⟨E, S, hd, hb⟩
    · omega
    · have := hw ((E.length + S.length) * 56) (by rw [hd]; simp [DataW.weights, Tryz.underlying26, bytes88])
      simp only [reachBytes] at this
      omega
theorem msg_cellsW {H : Type} {enc : TypeId × Value → H} {W : World} {cs : List Value} {fuel : Nat} {x : DataW H × List MemPlace} (h : DataW.trod enc Tryz.prog W 0 (fun _ => true) true fuel 28 cs = some x) (hw : ∀ n ∈ x.1.weights Tryz.prog 28, n ≤ reachBytes) :
    ∃ (y : Msg) (pv : Value), cs = msgV y pv ∧ RdP W pv y.props ∧ InM y := by
  obtain ⟨xs, n, _, rfl, hl, hlen, hf⟩ := DataW.trod_struct Tryz.underlying28 h
  rw [cells31] at hl
  match xs, hlen with
  | [y0, y1, y2, y3, y4], _ =>
    have t0 : DataW.trod enc Tryz.prog W 0 (fun _ => true) true n 9 ((cs.drop 0).take (Tryz.prog.cellsOf 9)) = some y0 := by simpa using hf 0 _ rfl
    have t1 : DataW.trod enc Tryz.prog W 0 (fun _ => true) true n 9 ((cs.drop 1).take (Tryz.prog.cellsOf 9)) = some y1 := by simpa using hf 1 _ rfl
    have t2 : DataW.trod enc Tryz.prog W 0 (fun _ => true) true n 26 ((cs.drop 2).take (Tryz.prog.cellsOf 26)) = some y2 := by simpa using hf 2 _ rfl
    have t3 : DataW.trod enc Tryz.prog W 0 (fun _ => true) true n 4 ((cs.drop 3).take (Tryz.prog.cellsOf 4)) = some y3 := by simpa using hf 3 _ rfl
    have t4 : DataW.trod enc Tryz.prog W 0 (fun _ => true) true n 3 ((cs.drop 4).take (Tryz.prog.cellsOf 3)) = some y4 := by simpa using hf 4 _ rfl
    match cs, hl with
    | [c0, c1, c2, c3, c4], _ =>
      simp only [cells3, cells4, cells9, cells29, List.drop, List.take] at t0 t1 t2 t3 t4
      obtain ⟨s, e0, _, _⟩ := DataW.trod_string Tryz.underlying9 t0
      obtain ⟨b, e1, _, _⟩ := DataW.trod_string Tryz.underlying9 t1
      obtain ⟨l, hp, hq⟩ := props_cellW t2 (fun n hn => hw n (by simp [DataW.weights, Tryz.underlying28, DataW.weightsEach]; simp [hn]))
      obtain ⟨d, e3, _⟩ := DataW.trod_bool Tryz.underlying4 t3
      obtain ⟨u, e4, _, _⟩ := DataW.trod_int Tryz.underlying3 t4
      simp only [List.cons.injEq, and_true] at e0 e1 e3 e4
      subst e0 e1 e3 e4
      exact ⟨⟨s.data.toList, b.data.toList, l, d, u⟩, c2, by simp only [msgV, tx_of], hp, hq⟩
theorem itm_cellsW {H : Type} {enc : TypeId × Value → H} {W : World} {cs : List Value} {fuel : Nat} {x : DataW H × List MemPlace} (h : DataW.trod enc Tryz.prog W 0 (fun _ => true) true fuel 43 cs = some x) (hw : ∀ n ∈ x.1.weights Tryz.prog 43, n ≤ reachBytes) :
    ∃ (y : Itm) (pv : Value), cs = itmV y pv ∧ RdP W pv y.msg.props ∧ InM y.msg := by
  obtain ⟨xs, n, _, rfl, hl, hlen, hf⟩ := DataW.trod_struct Tryz.underlying43 h
  rw [cells35] at hl
  match xs, hlen with
  | [y0, y1, y2], _ =>
    have t0 : DataW.trod enc Tryz.prog W 0 (fun _ => true) true n 3 ((cs.drop 0).take (Tryz.prog.cellsOf 3)) = some y0 := by simpa using hf 0 _ rfl
    have t1 : DataW.trod enc Tryz.prog W 0 (fun _ => true) true n 4 ((cs.drop 1).take (Tryz.prog.cellsOf 4)) = some y1 := by simpa using hf 1 _ rfl
    have t2 : DataW.trod enc Tryz.prog W 0 (fun _ => true) true n 28 ((cs.drop 2).take (Tryz.prog.cellsOf 28)) = some y2 := by simpa using hf 2 _ rfl
    match cs, hl with
    | [c0, c1, c2, c3, c4, c5, c6], _ =>
      simp only [cells3, cells4, cells31, List.drop, List.take] at t0 t1 t2
      obtain ⟨s, e0, _, _⟩ := DataW.trod_int Tryz.underlying3 t0
      obtain ⟨b, e1, _⟩ := DataW.trod_bool Tryz.underlying4 t1
      obtain ⟨m, pv, e2, hp, hq⟩ := msg_cellsW t2 (fun n hn => hw n (by simp [DataW.weights, Tryz.underlying43, DataW.weightsEach]; simp [hn]))
      simp only [msgV, List.cons.injEq, and_true] at e0 e1 e2
      obtain ⟨rfl, rfl, rfl, rfl, rfl⟩ := e2
      subst e0 e1
      exact ⟨⟨s, b, m⟩, _, rfl, hp, hq⟩
theorem hld_cellsW {H : Type} {enc : TypeId × Value → H} {W : World} {cs : List Value} {fuel : Nat} {x : DataW H × List MemPlace} (h : DataW.trod enc Tryz.prog W 0 (fun _ => true) true fuel 61 cs = some x) (hw : ∀ n ∈ x.1.weights Tryz.prog 61, n ≤ reachBytes) :
    ∃ (y : Hld) (pv : Value), cs = hldV y pv ∧ RdP W pv y.itm.msg.props ∧ InM y.itm.msg := by
  obtain ⟨xs, n, _, rfl, hl, hlen, hf⟩ := DataW.trod_struct Tryz.underlying61 h
  rw [cells45] at hl
  match xs, hlen with
  | [y0, y1, y2, y3], _ =>
    have t0 : DataW.trod enc Tryz.prog W 0 (fun _ => true) true n 3 ((cs.drop 0).take (Tryz.prog.cellsOf 3)) = some y0 := by simpa using hf 0 _ rfl
    have t1 : DataW.trod enc Tryz.prog W 0 (fun _ => true) true n 3 ((cs.drop 1).take (Tryz.prog.cellsOf 3)) = some y1 := by simpa using hf 1 _ rfl
    have t2 : DataW.trod enc Tryz.prog W 0 (fun _ => true) true n 3 ((cs.drop 2).take (Tryz.prog.cellsOf 3)) = some y2 := by simpa using hf 2 _ rfl
    have t3 : DataW.trod enc Tryz.prog W 0 (fun _ => true) true n 43 ((cs.drop 3).take (Tryz.prog.cellsOf 43)) = some y3 := by simpa using hf 3 _ rfl
    match cs, hl with
    | [c0, c1, c2, c3, c4, c5, c6, c7, c8, c9], _ =>
      simp only [cells3, cells35, List.drop, List.take] at t0 t1 t2 t3
      obtain ⟨s, e0, _, _⟩ := DataW.trod_int Tryz.underlying3 t0
      obtain ⟨b, e1, _, _⟩ := DataW.trod_int Tryz.underlying3 t1
      obtain ⟨u, e2, _, _⟩ := DataW.trod_int Tryz.underlying3 t2
      obtain ⟨m, pv, e3, hp, hq⟩ := itm_cellsW t3 (fun n hn => hw n (by simp [DataW.weights, Tryz.underlying61, DataW.weightsEach]; simp [hn]))
      simp only [itmV, List.cons.injEq, and_true] at e0 e1 e2 e3
      obtain ⟨rfl, rfl, rfl, rfl, rfl, rfl, rfl⟩ := e3
      subst e0 e1 e2
      exact ⟨⟨s, b, u, m⟩, _, rfl, hp, hq⟩
theorem op_cellsW {H : Type} {enc : TypeId × Value → H} {W : World} {cs : List Value} {fuel : Nat} {x : DataW H × List MemPlace} (h : DataW.trod enc Tryz.prog W 0 (fun _ => true) true fuel 30 cs = some x) (hw : ∀ n ∈ x.1.weights Tryz.prog 30, n ≤ reachBytes) :
    ∃ (y : Opn) (pv : Value), cs = opV y pv ∧ RdP W pv y.m.props ∧ InM y.m := by
  obtain ⟨xs, n, _, rfl, hl, hlen, hf⟩ := DataW.trod_struct Tryz.underlying30 h
  rw [cells33] at hl
  match xs, hlen with
  | [y0, y1, y2, y3, y4], _ =>
    have t0 : DataW.trod enc Tryz.prog W 0 (fun _ => true) true n 3 ((cs.drop 0).take (Tryz.prog.cellsOf 3)) = some y0 := by simpa using hf 0 _ rfl
    have t1 : DataW.trod enc Tryz.prog W 0 (fun _ => true) true n 3 ((cs.drop 1).take (Tryz.prog.cellsOf 3)) = some y1 := by simpa using hf 1 _ rfl
    have t2 : DataW.trod enc Tryz.prog W 0 (fun _ => true) true n 3 ((cs.drop 2).take (Tryz.prog.cellsOf 3)) = some y2 := by simpa using hf 2 _ rfl
    have t3 : DataW.trod enc Tryz.prog W 0 (fun _ => true) true n 4 ((cs.drop 3).take (Tryz.prog.cellsOf 4)) = some y3 := by simpa using hf 3 _ rfl
    have t4 : DataW.trod enc Tryz.prog W 0 (fun _ => true) true n 28 ((cs.drop 4).take (Tryz.prog.cellsOf 28)) = some y4 := by simpa using hf 4 _ rfl
    match cs, hl with
    | [c0, c1, c2, c3, c4, c5, c6, c7, c8], _ =>
      simp only [cells3, cells4, cells31, List.drop, List.take] at t0 t1 t2 t3 t4
      obtain ⟨s, e0, _, _⟩ := DataW.trod_int Tryz.underlying3 t0
      obtain ⟨b, e1, _, _⟩ := DataW.trod_int Tryz.underlying3 t1
      obtain ⟨u, e2, _, _⟩ := DataW.trod_int Tryz.underlying3 t2
      obtain ⟨g, e3, _⟩ := DataW.trod_bool Tryz.underlying4 t3
      obtain ⟨m, pv, e4, hp, hq⟩ := msg_cellsW t4 (fun n hn => hw n (by simp [DataW.weights, Tryz.underlying30, DataW.weightsEach]; simp [hn]))
      simp only [msgV, List.cons.injEq, and_true] at e0 e1 e2 e3 e4
      obtain ⟨rfl, rfl, rfl, rfl, rfl⟩ := e4
      subst e0 e1 e2 e3
      exact ⟨⟨s, b, u, g, m⟩, _, rfl, hp, hq⟩
theorem rd_listW {H : Type} {enc : TypeId × Value → H} {W : World} {α : Type} {t e k : Nat} {R : List Value → α → Prop} (ht : Tryz.prog.underlying t = some (.slice e)) (hk : Tryz.prog.cellsOf e = k) (k0 : 0 < k)
    (hE : ∀ cs fuel x, DataW.trod enc Tryz.prog W 0 (fun _ => true) true fuel e cs = some x → (∀ n ∈ x.1.weights Tryz.prog e, n ≤ reachBytes) → ∃ y, (∀ u ∈ cs, u.oneCell' = true) ∧ R cs y)
    {v : Value} {fuel : Nat} {x : DataW H × List MemPlace} (h : DataW.trod enc Tryz.prog W 0 (fun _ => true) true fuel t [v] = some x) (hw : ∀ n ∈ x.1.weights Tryz.prog t, n ≤ reachBytes) :
    ∃ l : List α, RdL k R W v l ∧ (l.length = 0 ∨ ∃ E S Pl, x = (.slice E S, Pl) ∧ l.length ≤ E.length + S.length) := by
  rcases open_slice ht h with ⟨hcs, _⟩ | ⟨a, n, c, m, f, D, Pl, hcs, _, hl, hm, hmm, hx, hel⟩
  · simp only [List.cons.injEq, and_true] at hcs
    subst hcs
    exact ⟨[], ⟨[], rfl, .inl ⟨⟨_, _, rfl⟩, rfl⟩, by simp⟩, .inl rfl⟩
  · simp only [List.cons.injEq, and_true] at hcs
    subst hcs
    have hmc : m = c := by simpa using hmm
    subst hmc
    rcases Nat.eq_zero_or_pos n with h0 | h0
    · subst h0
      exact ⟨[], ⟨[], rfl, .inl ⟨⟨_, _, rfl⟩, rfl⟩, by simp⟩, .inl rfl⟩
    · have key : ∀ i, i < n → ∃ (b o : Nat) (cs : List Value) (y : α), a.add (i * k) = ⟨b, o, none⟩ ∧ cs.length = k ∧ (∀ j, j < k → W.cell? ⟨b, o + j, none⟩ = cs[j]?) ∧ (∀ u ∈ cs, u.oneCell' = true) ∧ R cs y := fun i hi => by
        obtain ⟨cs', h1, h2⟩ := hel i (by omega)
        obtain ⟨y, h3, h4⟩ := hE _ _ _ h2 (fun n' hn' => hw n' (by
          rw [hx]
          simp only [DataW.weights, ht]
          exact List.mem_cons_of_mem _ (List.mem_append_left _ (wAll_mem (List.mem_map.2 ⟨i, by simp; omega, rfl⟩) n' hn'))))
        rw [hk] at h1
        obtain ⟨_, hlen, hh⟩ := World.cells?_some h1
        generalize a.add (i * k) = ad at *
        obtain ⟨b, o, sp⟩ := ad
        have hc0 := hh 0 k0
        have hsp : sp = none := by
          rw [List.getElem?_eq_getElem (by omega)] at hc0
          simpa [Addr.add] using World.cell?_spot hc0
        subst hsp
        exact ⟨b, o, cs', y, rfl, hlen, fun j hj => by rw [← hh j hj, Addr.add_lit], h3, h4⟩
      obtain ⟨b, o, _, _, e0, _⟩ := key 0 (by omega)
      have ex : a = ⟨b, o, none⟩ := by simpa [Addr.add] using e0
      subst ex
      have hall : ∀ m, m ≤ n → ∃ zs : Zs α, zs.length = m ∧ (∀ j u, (cellsZ zs)[j]? = some u → W.cell? ⟨b, o + j, none⟩ = some u) ∧ ∀ z ∈ zs, (z.1.length = k ∧ ∀ u ∈ z.1, u.oneCell' = true) ∧ R z.1 z.2 := by
        intro m
        induction m with
        | zero => exact fun _ => ⟨[], rfl, fun j u h => by simp [cellsZ] at h, by simp⟩
        | succ m ih =>
          intro hm
          obtain ⟨zs, hl, h1, h2⟩ := ih (by omega)
          obtain ⟨b', o', cs, y, e, h3, h4, h5, h6⟩ := key m (by omega)
          rw [Addr.add_lit] at e
          cases e
          have hcl : (cellsZ zs).length = m * k := by rw [cellsZ_len (fun z hz => (h2 z hz).1.1), hl]
          refine ⟨zs ++ [(cs, y)], by simp [hl], fun j u hj => ?_, fun z hz => ?_⟩
          · rw [cellsZ_app] at hj
            by_cases hlt : j < m * k
            · rw [List.getElem?_append_left (by omega)] at hj
              exact h1 j u hj
            · rw [List.getElem?_append_right (by omega), hcl] at hj
              have hj2 : j - m * k < k := by
                have := (List.getElem?_eq_some_iff.1 hj).1
                simp [cellsZ] at this
                omega
              have h7 := h4 (j - m * k) hj2
              have e9 : o + m * k + (j - m * k) = o + j := by omega
              rw [e9] at h7
              rw [h7]
              simpa [cellsZ] using hj
          · rcases List.mem_append.1 hz with hz | hz
            · exact h2 z hz
            · simp at hz
              subst hz
              exact ⟨⟨h3, h5⟩, h6⟩
      obtain ⟨zs, hl2, h1, h2⟩ := hall n (Nat.le_refl _)
      refine ⟨zs.map (·.2), ⟨zs, rfl, .inr ⟨b, o, m, by rw [hl2], by omega, h1⟩, h2⟩, .inr ⟨_, _, _, hx, by simp [hl2]⟩⟩
theorem rdl_part {α : Type} {k : Nat} {R : List Value → α → Prop} {P : α → Prop} {w : World} {v : Value} {l : List α} (h : RdL k (fun vs y => R vs y ∧ P y) w v l) : RdL k R w v l ∧ ∀ y ∈ l, P y := by
  obtain ⟨zs, rfl, hz⟩ := h
  refine ⟨⟨zs, rfl, hz.imp fun _ _ h => h.1⟩, fun y hy => ?_⟩
  obtain ⟨z, hz', rfl⟩ := List.mem_map.1 hy
  exact (hz.2 z hz').2.2
theorem items_cellW {H : Type} {enc : TypeId × Value → H} {W : World} {v : Value} {fuel : Nat} {x : DataW H × List MemPlace} (h : DataW.trod enc Tryz.prog W 0 (fun _ => true) true fuel 22 [v] = some x) (hw : ∀ n ∈ x.1.weights Tryz.prog 22, n ≤ reachBytes) :
    ∃ l, (RdI W v l ∧ ∀ y ∈ l, InM y.msg) ∧ (l.length = 0 ∨ ∃ E S Pl, x = (.slice E S, Pl) ∧ l.length ≤ E.length + S.length) := by
  obtain ⟨l, h1, h2⟩ := rd_listW (R := fun vs y => ItR (RdP W) vs y ∧ InM y.msg) Tryz.underlying22 cells35 (by decide) (fun cs fuel x h hw => by
    obtain ⟨y, pv, rfl, hp, hq⟩ := itm_cellsW h hw
    refine ⟨y, fun u hu => ?_, ⟨pv, rfl, hp⟩, hq⟩
    have := hp.one
    simp only [itmV, List.mem_cons, List.not_mem_nil, or_false] at hu
    rcases hu with rfl | rfl | rfl | rfl | rfl | rfl | rfl <;> first | rfl | exact this) h hw
  exact ⟨l, rdl_part h1, h2⟩
theorem held_cellW {H : Type} {enc : TypeId × Value → H} {W : World} {v : Value} {fuel : Nat} {x : DataW H × List MemPlace} (h : DataW.trod enc Tryz.prog W 0 (fun _ => true) true fuel 23 [v] = some x) (hw : ∀ n ∈ x.1.weights Tryz.prog 23, n ≤ reachBytes) :
    ∃ l, (RdH W v l ∧ ∀ y ∈ l, InM y.itm.msg) ∧ (l.length = 0 ∨ ∃ E S Pl, x = (.slice E S, Pl) ∧ l.length ≤ E.length + S.length) := by
  obtain ⟨l, h1, h2⟩ := rd_listW (R := fun vs y => HeR (RdP W) vs y ∧ InM y.itm.msg) Tryz.underlying23 cells45 (by decide) (fun cs fuel x h hw => by
    obtain ⟨y, pv, rfl, hp, hq⟩ := hld_cellsW h hw
    refine ⟨y, fun u hu => ?_, ⟨pv, rfl, hp⟩, hq⟩
    have := hp.one
    simp only [hldV, List.mem_cons, List.not_mem_nil, or_false] at hu
    rcases hu with rfl | rfl | rfl | rfl | rfl | rfl | rfl | rfl | rfl | rfl <;> first | rfl | exact this) h hw
  exact ⟨l, rdl_part h1, h2⟩
theorem open_queW {H : Type} {enc : TypeId × Value → H} {W : World} {v : Value} {d : DataW H} {p : List MemPlace} (h : DataW.Trod enc Tryz.prog W 0 (fun _ => true) true 25 v d p)
    (hsz : ∀ n ∈ d.weights Tryz.prog 25, n ≤ reachBytes) : ∃ q : Que, RdQ W v q ∧ lenQ q ≤ 9223372036854775806 ∧ q.name.length ≤ maxLen ∧ (∀ y ∈ q.items, InM y.msg) ∧ ∀ y ∈ q.held, InM y.itm.msg := by
  obtain ⟨fuel, h⟩ := h
  obtain ⟨xs, n, _, hx, hl, hlen, hf⟩ := DataW.trod_struct Tryz.underlying25 h
  rw [cells25] at hl
  obtain ⟨hd, _⟩ := Prod.mk.inj hx
  subst hd
  match xs, hlen with
  | [y0, y1, y2, y3, y4, y5, y6], _ =>
    have t0 : DataW.trod enc Tryz.prog W 0 (fun _ => true) true n 9 ((v.cells.toList.drop 0).take (Tryz.prog.cellsOf 9)) = some y0 := by simpa using hf 0 _ rfl
    have t1 : DataW.trod enc Tryz.prog W 0 (fun _ => true) true n 4 ((v.cells.toList.drop 1).take (Tryz.prog.cellsOf 4)) = some y1 := by simpa using hf 1 _ rfl
    have t2 : DataW.trod enc Tryz.prog W 0 (fun _ => true) true n 3 ((v.cells.toList.drop 2).take (Tryz.prog.cellsOf 3)) = some y2 := by simpa using hf 2 _ rfl
    have t3 : DataW.trod enc Tryz.prog W 0 (fun _ => true) true n 3 ((v.cells.toList.drop 3).take (Tryz.prog.cellsOf 3)) = some y3 := by simpa using hf 3 _ rfl
    have t4 : DataW.trod enc Tryz.prog W 0 (fun _ => true) true n 3 ((v.cells.toList.drop 4).take (Tryz.prog.cellsOf 3)) = some y4 := by simpa using hf 4 _ rfl
    have t5 : DataW.trod enc Tryz.prog W 0 (fun _ => true) true n 22 ((v.cells.toList.drop 5).take (Tryz.prog.cellsOf 22)) = some y5 := by simpa using hf 5 _ rfl
    have t6 : DataW.trod enc Tryz.prog W 0 (fun _ => true) true n 23 ((v.cells.toList.drop 6).take (Tryz.prog.cellsOf 23)) = some y6 := by simpa using hf 6 _ rfl
    clear hf h
    obtain ⟨a, rfl⟩ : ∃ a, v = .agg a := by
      cases v with
      | agg a => exact ⟨a, rfl⟩
      | _ => simp [Value.cells] at hl
    obtain ⟨cs, rfl⟩ : ∃ cs : List Value, a = cs.toArray := ⟨a.toList, by simp⟩
    simp only [Value.cells] at hl t0 t1 t2 t3 t4 t5 t6
    match cs, hl with
    | [c0, c1, c2, c3, c4, c5, c6], _ =>
      simp only [cells3, cells4, cells9, cells22, cells23, List.drop, List.take] at t0 t1 t2 t3 t4 t5 t6
      obtain ⟨s, e0, _, wsn⟩ := DataW.trod_string Tryz.underlying9 t0
      obtain ⟨b, e1, _⟩ := DataW.trod_bool Tryz.underlying4 t1
      obtain ⟨z2, e2, _, _⟩ := DataW.trod_int Tryz.underlying3 t2
      obtain ⟨z3, e3, _, _⟩ := DataW.trod_int Tryz.underlying3 t3
      obtain ⟨z4, e4, _, _⟩ := DataW.trod_int Tryz.underlying3 t4
      obtain ⟨li, ⟨hi, hqi⟩, bi⟩ := items_cellW t5 (fun n hn => hsz n (by simp [DataW.weights, Tryz.underlying25, DataW.weightsEach]; simp [hn]))
      obtain ⟨lh, ⟨hh, hqh⟩, bh⟩ := held_cellW t6 (fun n hn => hsz n (by simp [DataW.weights, Tryz.underlying25, DataW.weightsEach]; simp [hn]))
      simp only [List.cons.injEq, and_true] at e0 e1 e2 e3 e4
      subst e0 e1 e2 e3 e4
      have w5 : li.length ≤ reachBytes := by
        rcases bi with h | ⟨E, S, Pl, rfl, h⟩
        · omega
        · have := hsz ((E.length + S.length) * 88) (by
            simp [DataW.weights, Tryz.underlying25, DataW.weightsEach, Tryz.underlying22, bytes35])
          omega
      have w6 : lh.length ≤ reachBytes := by
        rcases bh with h | ⟨E, S, Pl, rfl, h⟩
        · omega
        · have := hsz ((E.length + S.length) * 112) (by
            simp [DataW.weights, Tryz.underlying25, DataW.weightsEach, Tryz.underlying23, bytes45])
          omega
      refine ⟨⟨s.data.toList, b, z2, z3, z4, li, lh⟩, ⟨c5, c6, by simp only [queV, tx_of], hi, hh⟩, ?_, by simpa using wsn, hqi, hqh⟩
      simp only [lenQ, reachBytes] at *
      omega
theorem open_msgW {H : Type} {enc : TypeId × Value → H} {W : World} {v : Value} {d : DataW H} {p : List MemPlace} (h : DataW.Trod enc Tryz.prog W 0 (fun _ => true) true 28 v d p)
    (hsz : ∀ n ∈ d.weights Tryz.prog 28, n ≤ reachBytes) : ∃ (y : Msg) (pv : Value), v = .agg (msgV y pv).toArray ∧ RdP W pv y.props ∧ InM y := by
  obtain ⟨fuel, h⟩ := h
  obtain ⟨y, pv, e, hp, hq⟩ := msg_cellsW h hsz
  refine ⟨y, pv, ?_, hp, hq⟩
  cases v with
  | agg a =>
    simp only [Value.cells] at e
    rw [← e]
  | _ => simp [Value.cells, msgV] at e
theorem open_opW {H : Type} {enc : TypeId × Value → H} {W : World} {v : Value} {d : DataW H} {p : List MemPlace} (h : DataW.Trod enc Tryz.prog W 0 (fun _ => true) true 30 v d p)
    (hsz : ∀ n ∈ d.weights Tryz.prog 30, n ≤ reachBytes) : ∃ (y : Opn) (pv : Value), v = .agg (opV y pv).toArray ∧ RdP W pv y.m.props ∧ InM y.m := by
  obtain ⟨fuel, h⟩ := h
  obtain ⟨y, pv, e, hp, hq⟩ := op_cellsW h hsz
  refine ⟨y, pv, ?_, hp, hq⟩
  cases v with
  | agg a =>
    simp only [Value.cells] at e
    rw [← e]
  | _ => simp [Value.cells, opV] at e
end Go.Proofs.YtlbcefocmdnlgaaGreatDoor
