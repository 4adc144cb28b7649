/- A map from words to nodes, by what it holds at each word; going over it. Conditions: those that each row states. -/
import Derived.Test.YtcicnbbnkeellaaGreatDoorPu
import Derived.Test.YtcicnbbnkeellaaGreatDoorChecked
import Derived.Maps.RangeWalk
import Derived.WalkKit
namespace Go.Proofs.YtcicnbbnkeellaaGreatDoor
open Go.RowKit Go.Maps

def str (l : List UInt8) : Value := .string ⟨l.toArray⟩
def ptrO : Option Nat → Value
  | none => .pointer none
  | some q => .pointer (some ⟨q, 0, none⟩)
/-- How a node's address reads. -/
def ptrE : Value → Option (DataW Nat × List MemPlace)
  | .pointer (some ⟨q, 0, none⟩) => some (.held q, [])
  | _ => none
theorem ptrE_inv {v : Value} {z : DataW Nat × List MemPlace} (h : ptrE v = some z) : ∃ q, v = ptrO (some q) ∧ z = (.held q, []) := by
  unfold ptrE at h
  split at h
  · cases h; exact ⟨_, rfl, rfl⟩
  · cases h
def encO : Option Nat → DataW Nat
  | none => .nil
  | some q => .held q
theorem encO_inj {a b : Option Nat} (h : encO a = encO b) : a = b := by
  cases a <;> cases b <;> simp [encO] at h
  · rfl
  · rw [h]
theorem under9 : Tryz.prog.underlying 9 = some .string := by kernel_rfl
theorem under56 : Tryz.prog.underlying 56 = some (.map 9 47) := by kernel_rfl
theorem zero47 (w : World) : (zeroValue 47).run Tryz.prog w = .ok (.pointer none) w := by kernel_rfl
theorem law9 : Keyed Tryz.prog 9 := string_keyed under9
def kl (k : Wd) : Lit := .string k
theorem kl_inj {a b : Wd} (h : kl a = kl b) : a = b := by injection h
theorem key_of {k : Wd} (h : k.length ≤ maxLen) : keyOf Tryz.prog 9 (str k) = some (kl k) := by
  have := WideMaps.keyOf_string_mk (P := Tryz.prog) (k := 9) under9 (s := ⟨k.toArray⟩) h
  exact this
theorem key_inv {key : Value} {l : Lit} (h : keyOf Tryz.prog 9 key = some l) : ∃ k : Wd, key = str k ∧ l = kl k ∧ k.length ≤ maxLen := by
  cases key <;> simp [keyOf, mapKey] at h
  rename_i s
  obtain ⟨h1, rfl⟩ := h
  exact ⟨s.data.toList, by simp [str], rfl, by simpa using h1⟩

/-- Block b is a map of at most n entries that leads from each word to f of it. -/
def MapF (w : World) (b n : Nat) (f : Wd → Option Nat) : Prop :=
  ∃ D, w.ownsMap Tryz.prog 9 ptrE b n D ∧ ∀ k : Wd, k.length ≤ maxLen → D.atKey (kl k) .nil = encO (f k)
theorem MapF.lt {w : World} {b n : Nat} {f : Wd → Option Nat} (h : MapF w b n f) : b < w.heap.size := let ⟨_, h, _⟩ := h; h.lt
theorem MapF.on {w w' : World} {b n : Nat} {f : Wd → Option Nat} (h : MapF w b n f) (he : w'.heap[b]? = w.heap[b]?) : MapF w' b n f := by
  obtain ⟨D, ⟨es, clock, hb, r⟩, h2⟩ := h
  exact ⟨D, ⟨es, clock, he.trans hb, r⟩, h2⟩
theorem MapF.mono {w : World} {b n n' : Nat} {f : Wd → Option Nat} (h : MapF w b n f) (hn : n ≤ n') : MapF w b n' f := let ⟨D, h1, h2⟩ := h; ⟨D, h1.mono hn, h2⟩
theorem MapF.ext {w : World} {b n : Nat} {f g : Wd → Option Nat} (h : MapF w b n f) (he : ∀ k, k.length ≤ maxLen → f k = g k) : MapF w b n g := by
  obtain ⟨D, h1, h2⟩ := h
  exact ⟨D, h1, fun k hk => by rw [h2 k hk, he k hk]⟩
theorem MapF.made (w : World) : MapF (w.alloc (.map #[] 0)) w.heap.size 0 (fun _ => none) := ⟨_, World.ownsMap_made w _ _ _, fun _ _ => rfl⟩
theorem MapF.isMap {w : World} {b n : Nat} {f : Wd → Option Nat} (h : MapF w b n f) : ∃ es clock, w.heap[b]? = some (.map es clock) := let ⟨_, ⟨es, clock, hb, _⟩, _⟩ := h; ⟨es, clock, hb⟩
theorem MapF.look {w : World} {b n : Nat} {f : Wd → Option Nat} (h : MapF w b n f) {k : Wd} (hk : k.length ≤ maxLen) : (Instr.lookup 56 (.map (some b)) (str k) false).run Tryz.prog w = .ok (ptrO (f k)) w := by
  obtain ⟨D, ⟨es, clock, hb, F, _, rfl⟩, h2⟩ := h
  rcases Maps.fit_look false law9 under56 (zero47 w) hb F (key_of hk) with ⟨hrun, _, hat⟩ | ⟨e0, y, _, _, hrun, hRv, hat, _⟩
  · have := h2 k hk
    rw [hat] at this
    cases hf : f k with
    | none => exact hrun
    | some q => rw [hf] at this; cases this
  · have := h2 k hk
    rw [hat] at this
    obtain ⟨q, hq, rfl⟩ := ptrE_inv hRv
    cases hf : f k with
    | none => rw [hf] at this; cases this
    | some q' =>
      rw [hf] at this
      have e : q = q' := by injection this
      rw [← e]
      exact hrun.trans (congrArg (fun v => Result.ok v w) hq)
def updF (f : Wd → Option Nat) (k : Wd) (v : Option Nat) : Wd → Option Nat := fun x => if x = k then v else f x
theorem MapF.put {w : World} {b n : Nat} {f : Wd → Option Nat} (h : MapF w b n f) {k : Wd} (hk : k.length ≤ maxLen) (hn : n < maxLen) (q : Nat) :
    ∃ w', (Instr.mapUpdate 56 (.map (some b)) (str k) (ptrO (some q))).run Tryz.prog w = .ok () w' ∧ MapF w' b (n + 1) (updF f k (some q)) ∧ w.mapTurned w' b := by
  obtain ⟨D, h1, h2⟩ := h
  obtain ⟨w', hrun, r1, r2⟩ := h1.store law9 under56 hn (key_of hk) (show ptrE (ptrO (some q)) = some (.held q, []) from rfl)
  refine ⟨w', hrun, ⟨_, r1, fun x hx => ?_⟩, r2⟩
  unfold updF
  split
  · rename_i e
    subst e
    exact atKey_put_same h1.isMap (law9.key (key_of hx)) _ _
  · rename_i e
    rw [atKey_put_other (fun e1 => e (kl_inj e1))]
    exact h2 x hx
theorem MapF.len {w : World} {b n : Nat} {f : Wd → Option Nat} (h : MapF w b n f) (ty : TypeId) : ∃ z : Nat, (Builtin.len_ #[56] ty #[.map (some b)]).run Tryz.prog w = .ok (.int .i64 z) w ∧ z ≤ n ∧ (z = 0 → ∀ k : Wd, k.length ≤ maxLen → f k = none) := by
  obtain ⟨D, h1, h2⟩ := h
  refine ⟨_, h1.len under56 ty, h1.size_le, fun h0 k hk => ?_⟩
  obtain ⟨es, e⟩ := h1.isMap
  subst e
  have h3 := h2 k hk
  have : es = [] := List.eq_nil_of_length_eq_zero h0
  subst this
  exact (encO_inj (a := none) h3).symm

/-- A range over such a map under way: which words are still to come. -/
def RngF (w : World) (b r n : Nat) (f : Wd → Option Nat) (left : Wd → Bool) (cnt : Nat) : Prop :=
  ∃ D lf, w.ranges Tryz.prog 9 ptrE b r n D lf cnt ∧ (∀ k : Wd, k.length ≤ maxLen → D.atKey (kl k) .nil = encO (f k)) ∧ ∀ k : Wd, k.length ≤ maxLen → lf (kl k) = left k
theorem RngF.map {w : World} {b r n cnt : Nat} {f : Wd → Option Nat} {left : Wd → Bool} (h : RngF w b r n f left cnt) : MapF w b n f := let ⟨D, _, h1, h2, _⟩ := h; ⟨D, h1.owns, h2⟩
theorem RngF.lt {w : World} {b r n cnt : Nat} {f : Wd → Option Nat} {left : Wd → Bool} (h : RngF w b r n f left cnt) : r < w.heap.size := let ⟨_, _, h1, _⟩ := h; h1.lt
theorem RngF.on {w w' : World} {b r n cnt : Nat} {f : Wd → Option Nat} {left : Wd → Bool} (h : RngF w b r n f left cnt) (h1 : w'.heap[b]? = w.heap[b]?) (h2 : w'.heap[r]? = w.heap[r]?) : RngF w' b r n f left cnt := by
  obtain ⟨D, lf, ⟨es, clock, since, seen, c0, hb, F, hs, hD, hr, rest⟩, h3, h4⟩ := h
  exact ⟨D, lf, ⟨es, clock, since, seen, c0, h1.trans hb, F, hs, hD, h2.trans hr, rest⟩, h3, h4⟩
theorem RngF.left_eq {w : World} {b r n cnt : Nat} {f : Wd → Option Nat} {left : Wd → Bool} (h : RngF w b r n f left cnt) : w.rangeLeft b r = cnt := let ⟨_, _, h1, _⟩ := h; h1.left_eq
theorem has_f {w : World} {b n : Nat} {D : DataW Nat} (h : w.ownsMap Tryz.prog 9 ptrE b n D) {k : Wd} (hk : k.length ≤ maxLen) {o : Option Nat} (ho : D.atKey (kl k) .nil = encO o) : Maps.has D (kl k) = o.isSome := by
  obtain ⟨es, clock, hb, F, _, rfl⟩ := h
  rcases Maps.fit_look false law9 under56 (zero47 w) hb F (key_of hk) with ⟨hrun, _, hat⟩ | ⟨e0, y, _, _, hrun, hRv, hat, _⟩
  · rw [Maps.has_false_of_atKey hat]
    rw [hat] at ho
    cases o with
    | none => rfl
    | some q => cases ho
  · rw [Maps.has_true_of_atKey hat]
    rw [hat] at ho
    obtain ⟨q, hq, rfl⟩ := ptrE_inv hRv
    cases o with
    | none => cases ho
    | some q => rfl
theorem MapF.range {w : World} {b n : Nat} {f : Wd → Option Nat} (h : MapF w b n f) :
    ∃ w' cnt, (Instr.range 56 (.map (some b))).run Tryz.prog w = .ok (.pointer (some ⟨w.heap.size, 0, none⟩)) w' ∧ RngF w' b w.heap.size n f (fun k => (f k).isSome) cnt ∧ w.grownBy w' none ∧ w'.heap.size = w.heap.size + 1 := by
  obtain ⟨D, h1, h2⟩ := h
  obtain ⟨w', hrun, r1, r2, r3⟩ := h1.range law9 under56
  exact ⟨w', _, hrun, ⟨D, _, r1, h2, fun k hk => has_f h1 hk (h2 k hk)⟩, r2, r3⟩
theorem same_kl (a b : Wd) : (kl a).sameKey (kl b) = (a == b) := by
  by_cases h : a = b
  · subst h
    rw [WideAt.sameKey_self (by trivial)]
    simp
  · rw [Maps.sameKey_ne (fun e => h (kl_inj e))]
    simp [h]
theorem RngF.next {w : World} {b r n cnt : Nat} {f : Wd → Option Nat} {left : Wd → Bool} (h : RngF w b r n f left cnt) (ty : TypeId) :
    (cnt = 0 ∧ (∀ k : Wd, k.length ≤ maxLen → left k = false) ∧ (Instr.next (.pointer (some ⟨r, 0, none⟩)) false ty).run Tryz.prog w = .ok (.tuple #[.bool false]) w) ∨
    ∃ k q w' cnt', k.length ≤ maxLen ∧ left k = true ∧ f k = some q ∧ (Instr.next (.pointer (some ⟨r, 0, none⟩)) false ty).run Tryz.prog w = .ok (.tuple #[.bool true, str k, ptrO (some q)]) w' ∧
      RngF w' b r n f (fun x => left x && x != k) cnt' ∧ cnt' < cnt ∧ w.grownBy w' (some r) ∧ w'.heap.size = w.heap.size ∧ (Instr.entry (.pointer (some ⟨r, 0, none⟩))).run Tryz.prog w' = .ok (.tuple #[str k, ptrO (some q)]) w' := by
  obtain ⟨D, lf, h1, h2, h3⟩ := h
  rcases h1.next law9 ty with ⟨h0, hl, hrun⟩ | ⟨key, v, l, y, w', cnt', hkey, hlk, hv, hat, hrun, hrg, hlt, hgr, hsz, hen⟩
  · exact .inl ⟨h0, fun k hk => by rw [← h3 k hk]; exact hl _, hrun⟩
  · obtain ⟨k, rfl, rfl, hk⟩ := key_inv hkey
    obtain ⟨q, rfl, rfl⟩ := ptrE_inv hv
    have e1 := h2 k hk
    rw [hat] at e1
    refine .inr ⟨k, q, w', cnt', hk, by rw [← h3 k hk]; exact hlk, (encO_inj (a := some q) e1).symm, hrun, ⟨D, _, hrg, h2, fun x hx => ?_⟩, hlt, hgr, hsz, hen⟩
    show (lf (kl x) && !(kl x).sameKey (kl k)) = _
    rw [h3 x hx, same_kl]
    rfl
theorem RngF.drop {w : World} {b r n cnt : Nat} {f : Wd → Option Nat} {left : Wd → Bool} (h : RngF w b r n f left cnt) {k : Wd} (hk : k.length ≤ maxLen) (ty : TypeId) :
    ∃ w' cnt', (Builtin.delete_ #[56, 9] ty #[.map (some b), str k]).run Tryz.prog w = .ok (.tuple #[]) w' ∧ RngF w' b r n (updF f k none) (fun x => left x && x != k) cnt' ∧ cnt' ≤ cnt ∧ w.mapTurned w' b := by
  obtain ⟨D, lf, h1, h2, h3⟩ := h
  obtain ⟨w', cnt', hrun, r1, r2, r3⟩ := h1.drop law9 under56 (key_of hk) ty
  refine ⟨w', cnt', hrun, ⟨_, _, r1, fun x hx => ?_, fun x hx => ?_⟩, r2, r3⟩
  · unfold updF
    split
    · rename_i e
      subst e
      exact atKey_del_same _
    · rename_i e
      rw [atKey_del_other (fun e1 => e (kl_inj e1))]
      exact h2 x hx
  · show (lf (kl x) && !(kl x).sameKey (kl k)) = _
    rw [h3 x hx, same_kl]
    rfl
end Go.Proofs.YtcicnbbnkeellaaGreatDoor
