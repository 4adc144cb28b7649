/- tape.rest: all records from the place on. -/
import Derived.Test.YthgkkmcpmhfehaaNx
import Derived.Test.YthgkkmcpmhfehaaPush
namespace Go.Proofs.Ythgkkmcpmhfehaa
open Go.RowKit Go.Lib
set_option maxRecDepth 100000

/-- The records from a place on, and how it ends (0: no more). -/
def Chain (P : List UInt8) (lo size : Nat) : List (List UInt8) → Nat → Nat → Nat → Prop
  | [], p, c, k => (nxt P lo size p c).1 = k ∧ k ≠ 1
  | r :: rs, p, c, k => nxt P lo size p c = (1, r) ∧ Chain P lo size rs (p + (12 + r.length)) (c + 1) k

/-- Records in memory of their own. -/
def Recs (w : World) (B : Nat) (v : Value) (rs : List (List UInt8)) : Prop :=
  ∃ vals : List Value, w.ownsRow 0 30 1 v rs.length vals ∧ (∀ k, v.ownBlock = some k → B ≤ k) ∧ ∀ (i : Nat) (r : List UInt8), rs[i]? = some r → ∃ u, vals[i]? = some u ∧ RecAt w B u r
theorem Recs.nil (w : World) (B : Nat) : Recs w B (.slice none 0 0) [] := ⟨[], World.ownsRow_nil _ _ _ _, ⟨(fun k hk => by cases hk), fun i r h => by simp at h⟩⟩
theorem RecAt.on {w w' : World} {B : Nat} {v : Value} {r : List UInt8} (h : RecAt w B v r) (hk : ∀ (k : Nat) (c : Array Value), w.heap[k]? = some (.cells c 5 (0, 0)) → w'.heap[k]? = w.heap[k]?) : RecAt w' B v r := by
  obtain ⟨g, rfl, hB, hg⟩ := h
  exact ⟨g, rfl, hB, (hk g _ hg).trans hg⟩
theorem RecAt.one {w : World} {B : Nat} {v : Value} {r : List UInt8} (h : RecAt w B v r) : v.oneCell' = true := by
  obtain ⟨g, rfl, _⟩ := h; rfl
theorem Recs.lt {w : World} {B : Nat} {v : Value} {rs : List (List UInt8)} (h : Recs w B v rs) : ∀ k, v.ownBlock = some k → k < w.heap.size := fun k hk => by
  obtain ⟨vals, ho, _⟩ := h
  obtain ⟨c, hc⟩ := own_ne ho hk
  exact (Array.getElem?_eq_some_iff.1 hc).1
theorem Recs.on {w w' : World} {B : Nat} {v : Value} {rs : List (List UInt8)} (h : Recs w B v rs) (hk : ∀ (k : Nat) (c : Array Value) (e : TypeId), (e = 5 ∨ e = 30) → w.heap[k]? = some (.cells c e (0, 0)) → w'.heap[k]? = w.heap[k]?) : Recs w' B v rs := by
  obtain ⟨vals, ho, hb, hr⟩ := h
  refine ⟨vals, ownsRow_block ho (fun k h => ?_), hb, fun i r hi => ?_⟩
  · obtain ⟨c, hc⟩ := own_ne ho h
    exact hk k c 30 (.inr rfl) hc
  · obtain ⟨u, hu, hra⟩ := hr i r hi
    exact ⟨u, hu, hra.on fun k c hc => hk k c 5 (.inl rfl) hc⟩
theorem Recs.below {w w' : World} {B : Nat} {v : Value} {rs : List (List UInt8)} (h : Recs w B v rs) (hb : Below w.heap.size w w') : Recs w' B v rs :=
  h.on fun k _ _ _ hc => hb.block k (Array.getElem?_eq_some_iff.1 hc).1
theorem Recs.push {w w1 : World} {B : Nat} {v v1 u : Value} {rs : List (List UInt8)} {r : List UInt8} {g1 : Nat} {xs : List Value} (hB : B ≤ w.heap.size)
    (ho : w.ownsRow 0 30 1 v rs.length xs) (hbv : ∀ k, v.ownBlock = some k → B ≤ k) (hr : ∀ (i : Nat) (r : List UInt8), rs[i]? = some r → ∃ u, xs[i]? = some u ∧ RecAt w B u r) (hu : RecAt w B u r)
    (hp : Pushed w w1 30 v v1 rs.length xs u g1) : Recs w1 B v1 (rs ++ [r]) := by
  have hxl : xs.length = rs.length := by have := ho.1; omega
  have hk : ∀ (k : Nat) (c : Array Value), w.heap[k]? = some (.cells c 5 (0, 0)) → w1.heap[k]? = w.heap[k]? := fun k c hc =>
    hp.step.block k (Array.getElem?_eq_some_iff.1 hc).1 (fun e => by obtain ⟨c', hc'⟩ := own_ne ho e; exact ne_type hc hc' (by decide) rfl)
  refine ⟨xs ++ [u], by rw [List.length_append]; exact hp.own, fun k hk => ?_, fun i r' hi => ?_⟩
  · rw [hp.at1] at hk
    cases hk
    rcases hp.old with h | h
    · exact hbv _ h
    · omega
  · by_cases hil : i < rs.length
    · rw [List.getElem?_append_left hil] at hi
      obtain ⟨u', hu', hra⟩ := hr i r' hi
      exact ⟨u', by rw [List.getElem?_append_left (by omega)]; exact hu', hra.on hk⟩
    · rw [List.getElem?_append_right (by omega)] at hi
      have hi0 : i - rs.length = 0 := by
        have := (List.getElem?_eq_some_iff.1 hi).1
        simp at this; omega
      rw [hi0] at hi
      simp at hi
      subst hi
      exact ⟨u, by rw [List.getElem?_append_right (by omega), hxl, hi0]; rfl, hu.on hk⟩

theorem Chain.split {P : List UInt8} {lo size : Nat} : ∀ (ds : List (List UInt8)) {rs : List (List UInt8)} {p c k : Nat}, Chain P lo size (ds ++ rs) p c k → Chain P lo size rs (p + (ds.map fun r => 12 + r.length).sum) (c + ds.length) k
  | [], rs, p, c, k, h => by simpa using h
  | d :: ds, rs, p, c, k, h => by
    have := Chain.split ds h.2
    simp only [List.map_cons, List.sum_cons, List.length_cons]
    rw [show p + (12 + d.length + (ds.map fun r => 12 + r.length).sum) = p + (12 + d.length) + (ds.map fun r => 12 + r.length).sum by omega, show c + (ds.length + 1) = c + 1 + ds.length by omega]
    exact this
/-- How many bytes records have. -/
def tot (rs : List (List UInt8)) : Nat := (rs.map fun r => 12 + r.length).sum
theorem tot_snoc (rs : List (List UInt8)) (r : List UInt8) : tot (rs ++ [r]) = tot rs + (12 + r.length) := by simp [tot]
theorem nxt_le {P : List UInt8} {lo size p c : Nat} {r : List UInt8} (h : nxt P lo size p c = (1, r)) : p + (12 + r.length) ≤ size ∧ r.length ≤ 65536 := by
  unfold nxt at h
  split at h
  · simp at h
  split at h
  · simp at h
  split at h
  · simp at h
  rename_i h1 h2 h3
  split at h
  · simp at h
  · simp only [Prod.mk.injEq, true_and] at h
    have h4 : ¬ (65536 < Sl.de (((cutB P lo p 12).drop 1).take 3)) := fun e => h3 (.inr (.inl e))
    have h5 : ¬ (size < p + 12 + Sl.de (((cutB P lo p 12).drop 1).take 3)) := fun e => h3 (.inr (.inr e))
    have hl : r.length ≤ Sl.de (((cutB P lo p 12).drop 1).take 3) := by rw [← h]; unfold cutB; rw [List.length_take]; omega
    omega

def lenOf : Value → Nat
  | .slice _ n _ => n
  | _ => 0
theorem Recs.shape {w : World} {B : Nat} {v : Value} {rs : List (List UInt8)} (h : Recs w B v rs) : ∃ a c, v = .slice a rs.length c := by
  obtain ⟨vals, ho, _⟩ := h
  rcases ho.2 with ⟨rfl, h0⟩ | ⟨g, cap, cur, rfl, _⟩
  · rw [h0]; exact ⟨_, _, rfl⟩
  · exact ⟨_, _, rfl⟩

set_option maxHeartbeats 4000000 in
theorem rest_any (w : World) (X : Nat → Prop) (t q n : Nat) (S : DS) (lo hi p c met : Nat) (h : Drum w X q n S) (ht : Tp w t q lo hi p c met) (hx : ¬ X t) (hlh : lo ≤ hi) (hh : hi ≤ n) (hp : p ≤ (hi - lo) * 256) (hc : c ≤ p) (hd : S.down = false)
    (rs : List (List UInt8)) (k : Nat) (hch : Chain S.P lo ((hi - lo) * 256) rs p c k) (hrs : rs.length ≤ 5000) :
    Calls Try.prog 85 #[.pointer (some ⟨t, 0, none⟩)] w fun e w' => Step (fun k => k = t) (fun k => k = t) w w' ∧
      ((k = 0 ∧ ∃ v, e = .returned v ∧ Recs w' w.heap.size v rs ∧ Tp w' t q lo hi (p + tot rs) (c + rs.length) met) ∨ ((k = 11 ∨ k = 12) ∧ e = .panicked (gup (k : Int)))) := by
  have hn : n ≤ 4096 := by obtain ⟨g, v, hr, ok⟩ := h; exact ok.top
  have hPl : S.P.length = n * 256 := by obtain ⟨g, v, hr, ok⟩ := h; exact ok.len
  have hnot : ∀ (b : Bool) (w : World), (Op.unary .not (.bool b)).run Try.prog w = .ok (.bool (!b)) w := fun _ _ => rfl
  go_enter Try.func85, Try.ntmps85
  go_wp2_with fail
  go_loopw [3] (fun v wr => ∃ ds todo, rs = ds ++ todo ∧ Recs wr w.heap.size v ds ∧ Tp wr t q lo hi (p + tot ds) (c + ds.length) met ∧ Chain S.P lo ((hi - lo) * 256) todo (p + tot ds) (c + ds.length) k ∧ Step (fun k => k = t) (fun k => k = t) w wr ∧ p + tot ds ≤ (hi - lo) * 256 ∧ c + ds.length ≤ p + tot ds) (fun v _ => rs.length - lenOf v)
  case atStart => exact ⟨[], rs, rfl, Recs.nil _ _, by simpa [tot] using ht, by simpa [tot] using hch, Step.refl _ _, by simpa [tot] using hp, by simpa [tot] using hc⟩
  case round =>
    obtain ⟨ds, todo, hsp, hRc, hT, hC, hSt, hpp, hcc⟩ := hrel
    obtain ⟨va, vc, rfl⟩ := hRc.shape
    have hdr : Drum wr X q n S := h.on hSt (fun k hk e => hx (e ▸ hk))
    have N55 := next_any wr X t q n S lo hi (p + tot ds) (c + ds.length) met hdr hT hlh hh hpp hd
    obtain ⟨R, hR⟩ : ∃ R, Hid (R = nxt S.P lo ((hi - lo) * 256) (p + tot ds) (c + ds.length)) := ⟨_, rfl⟩
    rw [← hR.out] at N55
    go_wp2_with fail
    refine N55.mono ?_
    rintro e w1 ⟨hb1, hor⟩
    have hSt1 : Step (fun k => k = t) (fun k => k = t) w w1 := hSt.trans (Step.of_below hb1)
    have hlt1 : w.heap.size ≤ wr.heap.size := hSt.size
    cases todo with
    | nil =>
      obtain ⟨hC1, hC2⟩ := hC
      rw [← hR.out] at hC1
      rcases hor with ⟨h1, rfl⟩ | ⟨h1, _⟩ | ⟨h1, rfl⟩
      · have hk0 : k = 0 := by omega
        have hfin : Recs w1 w.heap.size (.slice va ds.length vc) rs := by rw [hsp, List.append_nil]; exact hRc.below hb1
        have hfin2 : Tp w1 t q lo hi (p + tot rs) (c + rs.length) met := by rw [hsp, List.append_nil]; exact hT.below hb1
        go_wp2_with fail
        go_ret
        exact ⟨hSt1, .inl ⟨hk0, _, rfl, hfin, hfin2⟩⟩
      · exact absurd (hC1.symm.trans h1) (fun e => hC2 e)
      · exact ⟨rfl, hSt1, .inr ⟨by omega, by rw [hC1]⟩⟩
    | cons r todo =>
      obtain ⟨hC1, hC2⟩ := hC
      have hle := nxt_le hC1
      rw [← hR.out] at hC1
      obtain ⟨v, rfl, hrec⟩ : ∃ v, e = .returned (.tuple #[v, .bool true]) ∧ RecAt w1 wr.heap.size v r := by
        rcases hor with ⟨h1, _⟩ | ⟨_, v, h1, h2⟩ | ⟨h1, _⟩
        · rw [hC1] at h1; simp at h1
        · rw [hC1] at h2; exact ⟨v, h1, h2⟩
        · rw [hC1] at h1; simp at h1
      clear hor
      have hrec2 : RecAt w1 w.heap.size v r := by obtain ⟨g, h1, h2, h3⟩ := hrec; exact ⟨g, h1, by omega, h3⟩
      have hone := hrec.one
      obtain ⟨g, rfl, hgB, hgh⟩ := hrec
      have hRc1 := hRc.below hb1
      obtain ⟨vals, ho, hbv, hrr⟩ := hRc1
      have hdl : ds.length ≤ 5000 := by rw [hsp, List.length_append] at hrs; omega
      go_wp2_with (at_builtin; refine wpList_plain rfl (fun K hK => wp_push1 (.tmp 14) (.tmp 16) 31 30 (.slice none 0 0) 24 rfl Try.underlying31 info22 rfl (by decide) w1 _ ds.length vals ho _ hone hdl rfl rfl (fun g1 cap w2 hpu => hK _ _ ?_)))
      have hRc2 : Recs w2 w.heap.size (.slice (some ⟨g1, 0, none⟩) (ds.length + 1) cap) (ds ++ [r]) := Recs.push (Nat.le_trans hlt1 hb1.size) ho hbv hrr hrec2 hpu.out
      have hT1 := hT.below hb1
      have hT2 : Tp w2 t q lo hi (p + tot ds) (c + ds.length) met := hT1.on (hpu.out.step.block t hT1.lt (fun e => by obtain ⟨c', hc'⟩ := own_ne ho e; exact ne_type hT1.b hc' (by decide) rfl))
      have hSt2 : Step (fun k => k = t) (fun k => k = t) w w2 := ⟨hpu.out.step.os.trans hSt1.os, hpu.out.step.tape.trans hSt1.tape, hpu.out.step.output.trans hSt1.output, Nat.le_trans hSt1.size hpu.out.step.size,
        fun k hk hne => (hpu.out.step.block k (Nat.lt_of_lt_of_le hk hSt1.size) (fun e => absurd (hbv k e) (Nat.not_le.2 hk))).trans (hSt1.block k hk hne), fun k hk => .inl hk⟩
      have N45 := pass_any w2 t q lo hi (p + tot ds) (c + ds.length) met r.length hT2 (by omega) (by omega) (by omega)
      refine N45.mono ?_
      rintro e w3 ⟨rfl, hT3, hSt3⟩
      have hRc3 : Recs w3 w.heap.size (.slice (some ⟨g1, 0, none⟩) (ds.length + 1) cap) (ds ++ [r]) := hRc2.on (fun k c' e' he hc' => hSt3.block k (Array.getElem?_eq_some_iff.1 hc').1 (fun e => by
        subst e; exact ne_type hc' hT2.b (by rcases he with rfl | rfl <;> decide) rfl))
      go_wp2_with fail
      go_roundw
      case rel =>
        refine ⟨ds ++ [r], todo, by rw [hsp, List.append_assoc]; rfl, hRc3, ?_, ?_, hSt2.trans hSt3, ?_, ?_⟩
        · rw [tot_snoc, List.length_append, ← Nat.add_assoc]; exact hT3
        · rw [tot_snoc, List.length_append, ← Nat.add_assoc]; exact hC2
        · rw [tot_snoc]; omega
        · rw [tot_snoc, List.length_append]; simp; omega
      case measure =>
        have : rs.length = ds.length + (todo.length + 1) := by rw [hsp, List.length_append, List.length_cons]
        simp [lenOf]; omega
end Go.Proofs.Ythgkkmcpmhfehaa
