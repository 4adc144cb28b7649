/- What the law's spoil leaves of a queue: nothing is changed but what the queue holds. Conditions: those that each row states. -/
import Derived.Test.YtlbcefocmdnlgaaGreatDoorTq
namespace Go.Proofs.YtlbcefocmdnlgaaGreatDoor
open Go.RowKit Go.Lib
set_option maxRecDepth 100000
set_option linter.unusedSimpArgs false

/-- Of what was there nothing is changed but blocks from B on, below S. -/
structure Rng (B S : Nat) (w w' : World) : Prop where
  os : w'.os = w.os
  tape : w'.tape = w.tape
  output : w'.output = w.output
  size : w.heap.size ≤ w'.heap.size
  block : ∀ k, k < w.heap.size → (k < B ∨ S ≤ k) → w'.heap[k]? = w.heap[k]?
theorem Rng.refl (B S : Nat) (w : World) : Rng B S w w := ⟨rfl, rfl, rfl, Nat.le_refl _, fun _ _ _ => rfl⟩
theorem Rng.trans {B S : Nat} {a b c : World} (h : Rng B S a b) (k : Rng B S b c) : Rng B S a c :=
  ⟨k.os.trans h.os, k.tape.trans h.tape, k.output.trans h.output, Nat.le_trans h.size k.size, fun j hj hr => (k.block j (Nat.lt_of_lt_of_le hj h.size) hr).trans (h.block j hj hr)⟩
theorem Rng.of_below {B S : Nat} {w w' : World} (h : Below w.heap.size w w') : Rng B S w w' := ⟨h.os, h.tape, h.output, h.size, fun k hk _ => h.block k hk⟩
theorem Rng.of_grown {B S g : Nat} {w w' : World} (h : w.grownBy w' (some g)) (h1 : B ≤ g) (h2 : g < S) : Rng B S w w' := ⟨h.os, h.tape, h.output, h.size, fun k hk hr => h.block k hk (fun e => by injection e with e; omega)⟩
theorem Rng.blk {B S : Nat} {w w' : World} (h : Rng B S w w') {g : Nat} {cs : Array Value} {t : TypeId} (k : Blk w g cs t) (hr : g < B ∨ S ≤ g) : Blk w' g cs t := ⟨(h.block g k.lt hr).trans k.h⟩
theorem Rng.below {B S n : Nat} {u w w' : World} (h : Rng B S w w') (hb : Below n u w) (hn : n ≤ B) (hs : n ≤ w.heap.size) : Below n u w' :=
  ⟨h.os.trans hb.os, h.tape.trans hb.tape, h.output.trans hb.output, Nat.le_trans hb.size h.size, fun k hk => (h.block k (by omega) (.inl (by omega))).trans (hb.block k hk)⟩

/-- A list of properties that may be written over. -/
def PvOk (W : World) (B S : Nat) (pv : Value) : Prop := ∃ a n c, pv = .slice a n c ∧ n ≤ 2513169434916 ∧ (n = 0 ∨ ∃ g cs, a = some ⟨g, 0, none⟩ ∧ B ≤ g ∧ g < S ∧ Blk W g cs 54 ∧ n * 5 ≤ cs.size)
/-- Rows stand; lists of properties stand, whatever they hold. -/
structure Shp (B S : Nat) (W W' : World) : Prop where
  p : ∀ g cs, B ≤ g → g < S → Blk W g cs 54 → ∃ cs', Blk W' g cs' 54 ∧ cs'.size = cs.size
  r : ∀ g cs t, B ≤ g → g < S → t ≠ 54 → Blk W g cs t → Blk W' g cs t
theorem PvOk.shp {B S : Nat} {W W' : World} {pv : Value} (h : PvOk W B S pv) (k : ∀ g cs, B ≤ g → g < S → Blk W g cs 54 → ∃ cs', Blk W' g cs' 54 ∧ cs'.size = cs.size) : PvOk W' B S pv := by
  obtain ⟨a, n, c, rfl, hn, h⟩ := h
  refine ⟨a, n, c, rfl, hn, ?_⟩
  rcases h with h | ⟨g, cs, rfl, h1, h2, h3, h4⟩
  · exact .inl h
  · obtain ⟨cs', h5, h6⟩ := k g cs h1 h2 h3
    exact .inr ⟨g, cs', rfl, h1, h2, h5, by omega⟩
theorem OwnP.pvOk {W : World} {B S : Nat} {pv : Value} {l : List Pr} (h : OwnP W B pv l) (hS : W.heap.size ≤ S) (hl : l.length ≤ 2513169434916) : PvOk W B S pv := by
  obtain ⟨_, ⟨rfl, h0⟩ | ⟨g, cap, cur, rfl, hb, hg, hc, _, hs, _⟩⟩ := h
  · exact ⟨_, _, _, rfl, Nat.zero_le _, .inl rfl⟩
  · have hlt := (Array.getElem?_eq_some_iff.1 hg).1
    exact ⟨_, _, _, rfl, hl, .inr ⟨g, cur, rfl, hb, by omega, ⟨hg⟩, by rw [hs]; exact Nat.mul_le_mul_right 5 hc⟩⟩
/-- A row of the element type t, k cells each, whose lists of properties, at cell j of each, are ps from the i-th on. -/
def RowOk (W : World) (B S t k j : Nat) (v : Value) (ps : List Value) (i : Nat) : Prop := ∃ a c, v = .slice a ps.length c ∧ ps.length ≤ 1000 ∧ (ps = [] ∨ ∃ g cur, a = some ⟨g, 0, none⟩ ∧ B ≤ g ∧ g < S ∧ Blk W g cur t ∧ ps.length * k ≤ cur.size ∧ ∀ m (h : m < ps.length), i ≤ m → cur[m * k + j]? = some ps[m])
theorem RowOk.shp {W W' : World} {B S t k j : Nat} {v : Value} {ps : List Value} {i : Nat} (h : RowOk W B S t k j v ps i) (hk : ∀ g cs, B ≤ g → g < S → Blk W g cs t → Blk W' g cs t) : RowOk W' B S t k j v ps i := by
  obtain ⟨a, c, rfl, hn, h⟩ := h
  refine ⟨a, c, rfl, hn, ?_⟩
  rcases h with h | ⟨g, cur, h1, h2, h3, h4, h5⟩
  · exact .inl h
  · exact .inr ⟨g, cur, h1, h2, h3, hk g cur h2 h3 h4, h5⟩
/-- A queue that may be written over. -/
def SpQ (W : World) (B S : Nat) (v : Value) (q : Que) : Prop := ∃ iv hv pi ph, v = queV q iv hv ∧ RowOk W B S 43 7 4 iv pi 0 ∧ RowOk W B S 61 10 7 hv ph 0 ∧ (∀ pv ∈ pi, PvOk W B S pv) ∧ ∀ pv ∈ ph, PvOk W B S pv
theorem SpQ.shp {W W' : World} {B S : Nat} {v : Value} {q : Que} (h : SpQ W B S v q) (k : Shp B S W W') : SpQ W' B S v q := by
  obtain ⟨iv, hv, pi, ph, h1, h2, h3, h4, h5⟩ := h
  exact ⟨iv, hv, pi, ph, h1, h2.shp (fun g cs a b c => k.r g cs 43 a b (by decide) c), h3.shp (fun g cs a b c => k.r g cs 61 a b (by decide) c), fun pv hp => (h4 pv hp).shp k.p, fun pv hp => (h5 pv hp).shp k.p⟩
theorem rowOk_own {α : Type} {W : World} {B S e k j : Nat} {R : List Value → α → Prop} {v : Value} {zs : Zs α} (h : OwnZ e k R W B v zs) (hS : W.heap.size ≤ S) (hn : zs.length ≤ 1000) (hj : j < k) : RowOk W B S e k j v (zs.map (fun z => z.1.getD j undef)) 0 := by
  have hk : ∀ z ∈ zs, z.1.length = k := fun z hz => (h.2 z hz).1.1
  obtain ⟨hl, ⟨rfl, h0⟩ | ⟨g, cap, cur, rfl, hb, hg, hc, _, hs, ht⟩⟩ := h.1
  · have : zs = [] := List.length_eq_zero_iff.1 h0
    subst this
    exact ⟨none, 0, rfl, by simp, .inl rfl⟩
  · have hlt := (Array.getElem?_eq_some_iff.1 hg).1
    refine ⟨_, cap, by rw [List.length_map], by rw [List.length_map]; exact hn, .inr ⟨g, cur, rfl, hb, by omega, ⟨hg⟩, by rw [List.length_map, hs]; exact Nat.mul_le_mul_right k hc, fun m hm _ => ?_⟩⟩
    rw [List.length_map] at hm
    have h1 := cellsZ_at hk m hm j hj
    rw [← ht, List.getElem?_take_of_lt (by have : m * k + k ≤ zs.length * k := by rw [← Nat.succ_mul]; exact Nat.mul_le_mul_right k hm
                                           omega)] at h1
    rw [List.getElem_map]
    have h2 : j < (zs[m]).1.length := by rw [hk _ (List.getElem_mem hm)]; exact hj
    rw [List.getElem?_eq_getElem h2] at h1
    have h3 : (zs[m]).1.getD j undef = (zs[m]).1[j] := by simp [List.getD, h2]
    rw [h3, ← h1]
    simp
theorem OwnQ.spq {W : World} {B S : Nat} {v : Value} {q : Que} (h : OwnQ W B v q) (hS : W.heap.size ≤ S) (hq : Small q) : SpQ W B S v q := by
  obtain ⟨iv, hv, rfl, ⟨zi, ei, hi⟩, ⟨zh, eh, hh⟩⟩ := h
  have l1 : zi.length ≤ 1000 := by have := hq.items; rw [← ei, List.length_map] at this; exact this
  have l2 : zh.length ≤ 1000 := by have := hq.held; rw [← eh, List.length_map] at this; exact this
  refine ⟨iv, hv, _, _, rfl, rowOk_own hi hS l1 (by decide), rowOk_own hh hS l2 (by decide), fun pv hp => ?_, fun pv hp => ?_⟩
  · obtain ⟨z, hz, rfl⟩ := List.mem_map.1 hp
    obtain ⟨_, pv, e, o⟩ := hi.2 z hz
    rw [e]
    exact o.pvOk hS (hq.ip _ (by rw [← ei]; exact List.mem_map_of_mem hz))
  · obtain ⟨z, hz, rfl⟩ := List.mem_map.1 hp
    obtain ⟨_, pv, e, o⟩ := hh.2 z hz
    rw [e]
    exact o.pvOk hS (hq.hp _ (by rw [← eh]; exact List.mem_map_of_mem hz))

/-- Halfway. -/
structure SpS (w W : World) (B S : Nat) (qs : Array Value) (iv hv : Value) (pi ph : List Value) (i h : Nat) : Prop where
  q : Blk W w.heap.size qs 25
  ri : RowOk W B S 43 7 4 iv pi i
  rh : RowOk W B S 61 10 7 hv ph h
  pi : ∀ pv ∈ pi, PvOk W B S pv
  ph : ∀ pv ∈ ph, PvOk W B S pv
  rng : Rng B S w W
/-- One property is written over. -/
theorem SpS.prop {w W W' : World} {B S : Nat} {qs : Array Value} {iv hv : Value} {pi ph : List Value} {i h g : Nat} {cs cs' : Array Value} (s : SpS w W B S qs iv hv pi ph i h) (hSw : S ≤ w.heap.size) (h1 : B ≤ g) (h2 : g < S) (k : Blk W g cs 54) (k' : Blk W' g cs' 54) (hc : cs'.size = cs.size) (hg : W.grownBy W' (some g)) : SpS w W' B S qs iv hv pi ph i h := by
  have hp : ∀ g' cs2, B ≤ g' → g' < S → Blk W g' cs2 54 → ∃ cs3, Blk W' g' cs3 54 ∧ cs3.size = cs2.size := fun g' cs2 _ _ k2 => by
    by_cases e : g' = g
    · subst e
      have := k.h
      rw [k2.h] at this
      injection this with this
      injection this with this
      subst this
      exact ⟨cs', k', hc⟩
    · exact ⟨cs2, k2.grown hg (fun e2 => e (by injection e2)), rfl⟩
  have hr : ∀ t, t ≠ 54 → ∀ g' cs2, B ≤ g' → g' < S → Blk W g' cs2 t → Blk W' g' cs2 t := fun t ht g' cs2 _ _ k2 => k2.kt (kt_grown k hg ht)
  exact ⟨s.q.grown hg (fun e => by injection e with e; omega), s.ri.shp (hr 43 (by decide)), s.rh.shp (hr 61 (by decide)), fun pv hv => (s.pi pv hv).shp hp, fun pv hv => (s.ph pv hv).shp hp, s.rng.trans (.of_grown hg h1 h2)⟩
theorem putCells (cur : Array Value) (cells : Array Value) (off m : Nat) (hm : off + cells.size ≤ m) (hf : off + cells.size ≤ cur.size) : ((cur.toList.take off ++ cells.toList ++ cur.toList.drop (off + cells.size)).toArray)[m]? = cur[m]? := by
  rw [List.getElem?_toArray, List.append_assoc, List.getElem?_append_right (by simp; omega), List.getElem?_append_right (by simp; omega), List.getElem?_drop]
  simp only [List.length_take, Array.length_toList]
  rw [← Array.getElem?_toList]
  congr 1
  omega
theorem putSize (cur : Array Value) (cells : Array Value) (off : Nat) (hf : off + cells.size ≤ cur.size) : ((cur.toList.take off ++ cells.toList ++ cur.toList.drop (off + cells.size)).toArray).size = cur.size := by
  simp
  omega
/-- One element is written over. -/
theorem RowOk.step {W W' : World} {B S t k j g c : Nat} {a : Option Addr} {ps : List Value} {i : Nat} (h : RowOk W B S t k j (.slice a ps.length c) ps i) (ha : a = some ⟨g, 0, none⟩) {cur cells : Array Value} (kb : Blk W g cur t) (hz : cells.size = k) (hfit : i * k + cells.size ≤ cur.size)
    (k' : Blk W' g ((cur.toList.take (i * k) ++ cells.toList ++ cur.toList.drop (i * k + cells.size)).toArray) t) : RowOk W' B S t k j (.slice a ps.length c) ps (i + 1) := by
  obtain ⟨a', c', e, hn, h⟩ := h
  injection e with e1 e2 e3
  subst e1 e3
  refine ⟨a, c, rfl, hn, ?_⟩
  rcases h with h | ⟨g', cur', h1, h2, h3, h4, h5, h6⟩
  · exact .inl h
  · rw [ha] at h1
    injection h1 with h1
    injection h1 with h1
    subst h1
    have := kb.h
    rw [h4.h] at this
    injection this with this
    injection this with this
    subst this
    refine .inr ⟨g, _, ha, h2, h3, k', by rw [putSize _ _ _ hfit]; exact h5, fun m hm hi1 => ?_⟩
    have h7 : i * k + k ≤ m * k := by rw [← Nat.succ_mul]; exact Nat.mul_le_mul_right k hi1
    rw [putCells _ _ _ _ (by omega) hfit]
    exact h6 m hm (by omega)
theorem PvOk.shape {W : World} {B S : Nat} {pv : Value} (h : PvOk W B S pv) : ∃ a n c, pv = .slice a n c ∧ n ≤ 2513169434916 ∧ (0 < n → ∃ g cs, a = some ⟨g, 0, none⟩ ∧ B ≤ g ∧ g < S ∧ Blk W g cs 54 ∧ n * 5 ≤ cs.size) := by
  obtain ⟨a, n, c, e, hn, h⟩ := h
  refine ⟨a, n, c, e, hn, fun h0 => ?_⟩
  rcases h with h | h
  · omega
  · exact h
theorem rowAt {W : World} {B S t k j : Nat} {a : Option Addr} {n c : Nat} {ps : List Value} {i : Nat} (h : RowOk W B S t k j (.slice a n c) ps i) (h0 : 0 < ps.length) : ∃ g cur, a = some ⟨g, 0, none⟩ ∧ B ≤ g ∧ g < S ∧ Blk W g cur t ∧ ps.length * k ≤ cur.size ∧ ∀ m (h : m < ps.length), i ≤ m → cur[m * k + j]? = some ps[m] := by
  obtain ⟨a', c', e, _, h⟩ := h
  injection e with e1 e2 e3
  subst e1
  rcases h with rfl | h
  · simp at h0
  · exact h
theorem RowOk.stepN {W W' : World} {B S t k j g n c : Nat} {ps : List Value} {i : Nat} (h : RowOk W B S t k j (.slice (some ⟨g, 0, none⟩) n c) ps i) (hn : ps.length = n) {cur cells : Array Value} (kb : Blk W g cur t) (hz : cells.size = k) (hfit : i * k + cells.size ≤ cur.size)
    (k' : Blk W' g ((cur.toList.take (i * k) ++ cells.toList ++ cur.toList.drop (i * k + cells.size)).toArray) t) : RowOk W' B S t k j (.slice (some ⟨g, 0, none⟩) n c) ps (i + 1) := by
  subst hn
  exact h.step rfl kb hz hfit k'
theorem SpS.stepI {w W W' : World} {B S g n c : Nat} {qs : Array Value} {hv : Value} {pi ph : List Value} {i h : Nat} {cur cells : Array Value} (s : SpS w W B S qs (.slice (some ⟨g, 0, none⟩) n c) hv pi ph i h) (hSw : S ≤ w.heap.size) (hn : pi.length = n) (h1 : B ≤ g) (h2 : g < S) (kb : Blk W g cur 43) (hz : cells.size = 7) (hfit : i * 7 + cells.size ≤ cur.size)
    (k' : Blk W' g ((cur.toList.take (i * 7) ++ cells.toList ++ cur.toList.drop (i * 7 + cells.size)).toArray) 43) (hg : W.grownBy W' (some g)) : SpS w W' B S qs (.slice (some ⟨g, 0, none⟩) n c) hv pi ph (i + 1) h :=
  ⟨s.q.grown hg (fun e => by injection e with e; omega), s.ri.stepN hn kb hz hfit k', s.rh.shp (fun g' cs _ _ k2 => k2.kt (kt_grown kb hg (by decide))), fun pv hp => (s.pi pv hp).shp (fun g' cs _ _ k2 => ⟨cs, k2.kt (kt_grown kb hg (by decide)), rfl⟩), fun pv hp => (s.ph pv hp).shp (fun g' cs _ _ k2 => ⟨cs, k2.kt (kt_grown kb hg (by decide)), rfl⟩), s.rng.trans (.of_grown hg h1 h2)⟩
theorem SpS.stepH {w W W' : World} {B S g n c : Nat} {qs : Array Value} {iv : Value} {pi ph : List Value} {i h : Nat} {cur cells : Array Value} (s : SpS w W B S qs iv (.slice (some ⟨g, 0, none⟩) n c) pi ph i h) (hSw : S ≤ w.heap.size) (hn : ph.length = n) (h1 : B ≤ g) (h2 : g < S) (kb : Blk W g cur 61) (hz : cells.size = 10) (hfit : h * 10 + cells.size ≤ cur.size)
    (k' : Blk W' g ((cur.toList.take (h * 10) ++ cells.toList ++ cur.toList.drop (h * 10 + cells.size)).toArray) 61) (hg : W.grownBy W' (some g)) : SpS w W' B S qs iv (.slice (some ⟨g, 0, none⟩) n c) pi ph i (h + 1) :=
  ⟨s.q.grown hg (fun e => by injection e with e; omega), s.ri.shp (fun g' cs _ _ k2 => k2.kt (kt_grown kb hg (by decide))), s.rh.stepN hn kb hz hfit k', fun pv hp => (s.pi pv hp).shp (fun g' cs _ _ k2 => ⟨cs, k2.kt (kt_grown kb hg (by decide)), rfl⟩), fun pv hp => (s.ph pv hp).shp (fun g' cs _ _ k2 => ⟨cs, k2.kt (kt_grown kb hg (by decide)), rfl⟩), s.rng.trans (.of_grown hg h1 h2)⟩

set_option maxHeartbeats 8000000 in
theorem spoil_any (w : World) (B S : Nat) (hSw : S ≤ w.heap.size) (v : Value) (q : Que) (h : SpQ w B S v q) :
    Calls Tryz.prog 25 #[v] w fun e w' => (∃ r, e = .returned r) ∧ Rng B S w w' := by
  obtain ⟨iv, hv, pi, ph, rfl, hri, hrh, hpi, hph⟩ := h
  have hri' := hri
  have hrh' := hrh
  obtain ⟨ai, ci, rfl, hni, _⟩ := hri'
  obtain ⟨ah, ch, rfl, hnh, _⟩ := hrh'
  obtain ⟨ni, eni⟩ : ∃ n, pi.length = n := ⟨_, rfl⟩
  obtain ⟨nh, enh⟩ : ∃ n, ph.length = n := ⟨_, rfl⟩
  rw [eni] at hri hni ⊢
  rw [enh] at hrh hnh ⊢
  have NI : Hid (pi.length = ni) := eni
  have NH : Hid (ph.length = nh) := enh
  have b0 := (Below.refl w.heap.size w).alloc (Nat.le_refl _) (.cells #[tx q.name, .bool q.dur, .int .i64 q.depth, .int .i64 q.seq, .int .i64 q.tag, .slice ai ni ci, .slice ah nh ch] 25)
  have H0 : Hid (SpS w (w.alloc (.cells #[tx q.name, .bool q.dur, .int .i64 q.depth, .int .i64 q.seq, .int .i64 q.tag, .slice ai ni ci, .slice ah nh ch] 25)) B S #[tx q.name, .bool q.dur, .int .i64 q.depth, .int .i64 q.seq, .int .i64 q.tag, .slice ai ni ci, .slice ah nh ch] (.slice ai ni ci) (.slice ah nh ch) pi ph 0 0) := ⟨Blk.new _ _ _, hri.shp (fun _ _ _ _ k => k.on b0), hrh.shp (fun _ _ _ _ k => k.on b0), fun pv hp => (hpi pv hp).shp (fun _ cs _ _ k => ⟨cs, k.on b0, rfl⟩), fun pv hp => (hph pv hp).shp (fun _ cs _ _ k => ⟨cs, k.on b0, rfl⟩), .of_below b0⟩
  clear hri hrh hpi hph eni enh b0
  unfold queV
  go_enter Tryz.func25, Tryz.ntmps25
  go_upto_region 1 with fail
  generalize w.alloc (.cells #[tx q.name, .bool q.dur, .int .i64 q.depth, .int .i64 q.seq, .int .i64 q.tag, .slice ai ni ci, .slice ah nh ch] 25) = w1 at *
  have c5 : w1.cell? ⟨w.heap.size, 5, none⟩ = some (.slice ai ni ci) := H0.out.q.cell 5
  go_wp2_with fail
  clear c5
  go_loopg [9] ni (fun gg s1 wr => ∃ i : Nat, i ≤ ni ∧ ni - i ≤ gg ∧ s1 = .int .i64 i ∧ Hid (SpS w wr B S #[tx q.name, .bool q.dur, .int .i64 q.depth, .int .i64 q.seq, .int .i64 q.tag, .slice ai ni ci, .slice ah nh ch] (.slice ai ni ci) (.slice ah nh ch) pi ph i 0))
  case atStart => exact ⟨0, Nat.zero_le _, by omega, rfl, H0.out⟩
  case round =>
    obtain ⟨i, hi, hgg, rfl, HS⟩ := hrel
    clear H0
    obtain ⟨wt, hwt⟩ : ∃ W, W = wr := ⟨_, rfl⟩
    subst hwt
    by_cases hlt : i < ni
    · have hltz : (i : Int) < (ni : Int) := by omega
      have hil : i < pi.length := by rw [NI.out]; exact hlt
      obtain ⟨g, cur, hag, hB1, hS1, kb, hsz, hcell⟩ := rowAt HS.out.ri (by rw [NI.out]; omega)
      subst hag
      have c4 := hcell i hil (Nat.le_refl _)
      have hmem : pi[i] ∈ pi := List.getElem_mem hil
      have HPV : Hid (∀ W, SpS w W B S #[tx q.name, .bool q.dur, .int .i64 q.depth, .int .i64 q.seq, .int .i64 q.tag, .slice (some ⟨g, 0, none⟩) ni ci, .slice ah nh ch] (.slice (some ⟨g, 0, none⟩) ni ci) (.slice ah nh ch) pi ph i 0 → PvOk W B S pi[i]) := fun W h => h.pi _ hmem
      have hpv := HPV.out _ HS.out
      obtain ⟨ap, np, cp, epv, hnp, _⟩ := hpv.shape
      have EPV : Hid (pi[i] = .slice ap np cp) := epv
      rw [epv] at c4 HPV
      have d4 : wt.cell? ⟨g, i * 7 + 4, none⟩ = some (.slice ap np cp) := by rw [kb.cell]; exact c4
      have dq : wt.cell? ⟨w.heap.size, 5, none⟩ = some (.slice (some ⟨g, 0, none⟩) ni ci) := HS.out.q.cell 5
      clear hcell c4 hmem hpv epv kb
      go_wp2_with fail
      go_loopg [20] np (fun gg s2 wy => ∃ j : Nat, j ≤ np ∧ np - j ≤ gg ∧ s2 = .int .i64 j ∧ Hid (SpS w wy B S #[tx q.name, .bool q.dur, .int .i64 q.depth, .int .i64 q.seq, .int .i64 q.tag, .slice (some ⟨g, 0, none⟩) ni ci, .slice ah nh ch] (.slice (some ⟨g, 0, none⟩) ni ci) (.slice ah nh ch) pi ph i 0))
      case atStart => exact ⟨0, Nat.zero_le _, by omega, rfl, HS.out⟩
      case round =>
        obtain ⟨j, hj, hg2, rfl, HT⟩ := hrel
        clear HS d4 dq
        obtain ⟨wu, hwu⟩ : ∃ W, W = wr := ⟨_, rfl⟩
        subst hwu
        obtain ⟨g', cur, hag, _, _, kb, hsz', hcell⟩ := rowAt HT.out.ri (by rw [NI.out]; omega)
        injection hag with hag
        injection hag with hag
        subst hag
        have c4 := hcell i hil (Nat.le_refl _)
        have hpv := HPV.out _ HT.out
        obtain ⟨ap', np', cp', epv, _, hblk⟩ := hpv.shape
        injection epv with e1 e2 e3
        subst e1 e2 e3
        have dq : wu.cell? ⟨w.heap.size, 5, none⟩ = some (.slice (some ⟨g, 0, none⟩) ni ci) := HT.out.q.cell 5
        by_cases hjl : j < np
        · have hjz : (j : Int) < (np : Int) := by omega
          obtain ⟨gp, cs, hap, hB2, hS2, kp, hps⟩ := hblk (by omega)
          subst hap
          have d4 : wu.cell? ⟨g, i * 7 + 4, none⟩ = some (.slice (some ⟨gp, 0, none⟩) np cp) := by rw [kb.cell, c4, EPV.out]
          have hfit : j * 5 + 5 ≤ cs.size := by omega
          clear hcell c4 hpv hblk kb
          go_wp2_with (refine wpl_putAt rfl (.tmp 32) (.tmp 31) rfl gp (j * 5) _ rfl rfl kp (by kernel_rfl) (by simpa using hfit) (by simp [Value.oneCell']) ?_)
          intro w8 k8 g8 s8
          have S8 := HT.out.prop hSw hB2 hS2 kp k8 (by simp; omega) g8
          clear HT dq d4 kp k8 g8 s8
          go_wp2_with fail
          go_roundg (np - (j + 1))
          case measure => omega
          case rel => exact ⟨j + 1, by omega, by omega, by go_num, S8⟩
        · have hjz : ¬ (j : Int) < (np : Int) := by omega
          have hfit0 : i * 7 + 7 ≤ pi.length * 7 := by rw [← Nat.succ_mul]; exact Nat.mul_le_mul_right 7 hil
          have hfit : i * 7 + 7 ≤ cur.size := by omega
          clear hcell c4 hpv hblk
          go_wp2_with (refine wpl_putAt rfl (.tmp 38) (.tmp 37) rfl g (i * 7) _ rfl rfl kb (by kernel_rfl) (by simpa using hfit) (by simp [Value.oneCell']) ?_)
          intro w8 k8 g8 s8
          have k9 : Blk w8 g ((cur.toList.take (i * 7) ++ (#[.int .i64 0, .bool false, .string ⟨#[]⟩, .string ⟨#[]⟩, .slice none 0 0, .bool false, .int .i64 0] : Array Value).toList ++ cur.toList.drop (i * 7 + (#[.int .i64 0, .bool false, .string ⟨#[]⟩, .string ⟨#[]⟩, .slice none 0 0, .bool false, .int .i64 0] : Array Value).size)).toArray) 43 := by simpa using k8
          have S8 : SpS w w8 B S #[tx q.name, .bool q.dur, .int .i64 q.depth, .int .i64 q.seq, .int .i64 q.tag, .slice (some ⟨g, 0, none⟩) ni ci, .slice ah nh ch] (.slice (some ⟨g, 0, none⟩) ni ci) (.slice ah nh ch) pi ph (i + 1) 0 := HT.out.stepI hSw NI.out hB1 hS1 kb rfl (by simpa using hfit) k9 g8
          clear HT dq kb k8 k9 g8 s8
          go_wp2_with fail
          go_roundg (ni - (i + 1))
          case measure => omega
          case rel => exact ⟨i + 1, by omega, by omega, by go_num, S8⟩
    · have hltz : ¬ (i : Int) < (ni : Int) := by omega
      have hin : i = ni := by omega
      have HE : Hid (SpS w wt B S #[tx q.name, .bool q.dur, .int .i64 q.depth, .int .i64 q.seq, .int .i64 q.tag, .slice ai ni ci, .slice ah nh ch] (.slice ai ni ci) (.slice ah nh ch) pi ph ni 0) := by
        have h := HS.out
        rw [hin] at h
        exact h
      clear hin
      have c6 : wt.cell? ⟨w.heap.size, 6, none⟩ = some (.slice ah nh ch) := HE.out.q.cell 6
      clear HS
      go_wp2_with fail
      clear c6
      go_loopg [43] nh (fun gg s1 wr => ∃ i : Nat, i ≤ nh ∧ nh - i ≤ gg ∧ s1 = .int .i64 i ∧ Hid (SpS w wr B S #[tx q.name, .bool q.dur, .int .i64 q.depth, .int .i64 q.seq, .int .i64 q.tag, .slice ai ni ci, .slice ah nh ch] (.slice ai ni ci) (.slice ah nh ch) pi ph ni i))
      case atStart => exact ⟨0, Nat.zero_le _, by omega, rfl, HE.out⟩
      case round =>
        obtain ⟨i, hi, hgg, rfl, HS⟩ := hrel
        clear HE
        obtain ⟨wt, hwt⟩ : ∃ W, W = wr := ⟨_, rfl⟩
        subst hwt
        by_cases hlt : i < nh
        · have hltz : (i : Int) < (nh : Int) := by omega
          have hil : i < ph.length := by rw [NH.out]; exact hlt
          obtain ⟨g, cur, hag, hB1, hS1, kb, hsz, hcell⟩ := rowAt HS.out.rh (by rw [NH.out]; omega)
          subst hag
          have c4 := hcell i hil (Nat.le_refl _)
          have hmem : ph[i] ∈ ph := List.getElem_mem hil
          have HPV : Hid (∀ W, SpS w W B S #[tx q.name, .bool q.dur, .int .i64 q.depth, .int .i64 q.seq, .int .i64 q.tag, .slice ai ni ci, .slice (some ⟨g, 0, none⟩) nh ch] (.slice ai ni ci) (.slice (some ⟨g, 0, none⟩) nh ch) pi ph ni i → PvOk W B S ph[i]) := fun W h => h.ph _ hmem
          have hpv := HPV.out _ HS.out
          obtain ⟨ap, np, cp, epv, hnp, _⟩ := hpv.shape
          have EPV : Hid (ph[i] = .slice ap np cp) := epv
          rw [epv] at c4 HPV
          have d4 : wt.cell? ⟨g, i * 10 + 7, none⟩ = some (.slice ap np cp) := by rw [kb.cell]; exact c4
          have dq : wt.cell? ⟨w.heap.size, 6, none⟩ = some (.slice (some ⟨g, 0, none⟩) nh ch) := HS.out.q.cell 6
          clear hcell c4 hmem hpv epv kb
          go_wp2_with fail
          go_loopg [55] np (fun gg s2 wy => ∃ j : Nat, j ≤ np ∧ np - j ≤ gg ∧ s2 = .int .i64 j ∧ Hid (SpS w wy B S #[tx q.name, .bool q.dur, .int .i64 q.depth, .int .i64 q.seq, .int .i64 q.tag, .slice ai ni ci, .slice (some ⟨g, 0, none⟩) nh ch] (.slice ai ni ci) (.slice (some ⟨g, 0, none⟩) nh ch) pi ph ni i))
          case atStart => exact ⟨0, Nat.zero_le _, by omega, rfl, HS.out⟩
          case round =>
            obtain ⟨j, hj, hg2, rfl, HT⟩ := hrel
            clear HS d4 dq
            obtain ⟨wu, hwu⟩ : ∃ W, W = wr := ⟨_, rfl⟩
            subst hwu
            obtain ⟨g', cur, hag, _, _, kb, hsz', hcell⟩ := rowAt HT.out.rh (by rw [NH.out]; omega)
            injection hag with hag
            injection hag with hag
            subst hag
            have c4 := hcell i hil (Nat.le_refl _)
            have hpv := HPV.out _ HT.out
            obtain ⟨ap', np', cp', epv, _, hblk⟩ := hpv.shape
            injection epv with e1 e2 e3
            subst e1 e2 e3
            have dq : wu.cell? ⟨w.heap.size, 6, none⟩ = some (.slice (some ⟨g, 0, none⟩) nh ch) := HT.out.q.cell 6
            by_cases hjl : j < np
            · have hjz : (j : Int) < (np : Int) := by omega
              obtain ⟨gp, cs, hap, hB2, hS2, kp, hps⟩ := hblk (by omega)
              subst hap
              have d4 : wu.cell? ⟨g, i * 10 + 7, none⟩ = some (.slice (some ⟨gp, 0, none⟩) np cp) := by rw [kb.cell, c4, EPV.out]
              have hfit : j * 5 + 5 ≤ cs.size := by omega
              clear hcell c4 hpv hblk kb
              go_wp2_with (refine wpl_putAt rfl (.tmp 68) (.tmp 67) rfl gp (j * 5) _ rfl rfl kp (by kernel_rfl) (by simpa using hfit) (by simp [Value.oneCell']) ?_)
              intro w8 k8 g8 s8
              have S8 := HT.out.prop hSw hB2 hS2 kp k8 (by simp; omega) g8
              clear HT dq d4 kp k8 g8 s8
              go_wp2_with fail
              go_roundg (np - (j + 1))
              case measure => omega
              case rel => exact ⟨j + 1, by omega, by omega, by go_num, S8⟩
            · have hjz : ¬ (j : Int) < (np : Int) := by omega
              have hfit0 : i * 10 + 10 ≤ ph.length * 10 := by rw [← Nat.succ_mul]; exact Nat.mul_le_mul_right 10 hil
              have hfit : i * 10 + 10 ≤ cur.size := by omega
              clear hcell c4 hpv hblk
              go_wp2_with (refine wpl_putAt rfl (.tmp 74) (.tmp 73) rfl g (i * 10) _ rfl rfl kb (by kernel_rfl) (by simpa using hfit) (by simp [Value.oneCell']) ?_)
              intro w8 k8 g8 s8
              have k9 : Blk w8 g ((cur.toList.take (i * 10) ++ (#[.int .i64 0, .int .i64 0, .int .i64 0, .int .i64 0, .bool false, .string ⟨#[]⟩, .string ⟨#[]⟩, .slice none 0 0, .bool false, .int .i64 0] : Array Value).toList ++ cur.toList.drop (i * 10 + (#[.int .i64 0, .int .i64 0, .int .i64 0, .int .i64 0, .bool false, .string ⟨#[]⟩, .string ⟨#[]⟩, .slice none 0 0, .bool false, .int .i64 0] : Array Value).size)).toArray) 61 := by simpa using k8
              have S8 : SpS w w8 B S #[tx q.name, .bool q.dur, .int .i64 q.depth, .int .i64 q.seq, .int .i64 q.tag, .slice ai ni ci, .slice (some ⟨g, 0, none⟩) nh ch] (.slice ai ni ci) (.slice (some ⟨g, 0, none⟩) nh ch) pi ph ni (i + 1) := HT.out.stepH hSw NH.out hB1 hS1 kb rfl (by simpa using hfit) k9 g8
              clear HT dq kb k8 k9 g8 s8
              go_wp2_with fail
              go_roundg (nh - (i + 1))
              case measure => omega
              case rel => exact ⟨i + 1, by omega, by omega, by go_num, S8⟩
        · have hltz : ¬ (i : Int) < (nh : Int) := by omega
          have hin : i = nh := by omega
          clear hin
          go_wp2_with fail
          refine bodyPost_end (results_none rfl _ _ _) rfl ?_
          exact ⟨⟨_, rfl⟩, HS.out.rng⟩
end Go.Proofs.YtlbcefocmdnlgaaGreatDoor
