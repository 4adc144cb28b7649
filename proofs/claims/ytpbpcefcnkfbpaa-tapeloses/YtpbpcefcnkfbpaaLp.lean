/- A tape whose drum may lose its power. -/
import Derived.Test.YtpbpcefcnkfbpaaTw
import Derived.Test.YtpbpcefcnkfbpaaLn
namespace Go.Proofs.Ytpbpcefcnkfbpaa
open Go.RowKit Go.Lib Go.Shelf
set_option maxRecDepth 100000

/-- A tape with its records laid, all of them safe; something may be armed. -/
structure TA (w : World) (X : Nat → Prop) (t q n : Nat) (S : DS) (lo hi : Nat) (rs : List (List UInt8)) : Prop where
  d : Drum w X q n S
  tp : Tp w t q lo hi (tot rs) rs.length 0
  nx : ¬ X t
  la : Laid S.P lo ((hi - lo) * 256) rs
  dn : S.down = false
  wz : S.W = []
theorem TA.on {w w' : World} {X Y Y' : Nat → Prop} {t q n : Nat} {S : DS} {lo hi : Nat} {rs : List (List UInt8)} (h : TA w X t q n S lo hi rs) (hs : Step Y Y' w w') (hd : ∀ k, X k → ¬ Y k) (ht : ¬ Y t) : TA w' X t q n S lo hi rs :=
  ⟨h.d.on hs hd, h.tp.on (hs.block t h.tp.lt ht), h.nx, h.la, h.dn, h.wz⟩

theorem append_ta (w : World) (X : Nat → Prop) (t q n : Nat) (S : DS) (lo hi : Nat) (rs : List (List UInt8)) (h : TA w X t q n S lo hi rs) (hlh : lo ≤ hi) (hh : hi ≤ n) (hops : S.ops ≤ 100000) (hn : rs.length ≤ 5000) (r : List UInt8) (v : Value) (hr : Sl.RdA w v r) (hrl : r.length ≤ 65536) (hpl : tot rs + (12 + r.length) ≤ (hi - lo) * 256) :
    Calls Try.prog 17 #[.pointer (some ⟨t, 0, none⟩), v] w fun e w' => ∃ X' S', Drum w' X' q n S' ∧ Step (fun k => X k ∨ k = t) (fun k => X' k ∨ k = t) w w' ∧ (∀ k, X' k → X k ∨ w.heap.size ≤ k) ∧ ¬ X' t ∧ S'.W = [] ∧ S'.ops ≤ S.ops + (r.length + 300) ∧ (∀ k, k < lo * 256 + tot rs ∨ hi * 256 ≤ k → S'.P[k]? = S.P[k]?) ∧
      ((e = .returned (.int .i64 0) ∧ TA w' X' t q n S' lo hi (rs ++ [r]) ∧ (S.armed = 0 → S'.armed = 0)) ∨
       (e = .returned (.int .i64 20) ∧ S.armed ≠ 0 ∧ S'.armed = 0 ∧ S'.down = true ∧ Tp w' t q lo hi (tot rs) rs.length 20 ∧ (Laid S'.P lo ((hi - lo) * 256) rs ∨ Laid S'.P lo ((hi - lo) * 256) (rs ++ [r])))) := by
  obtain ⟨a, c, rfl⟩ := hr.len
  obtain ⟨g1, g2, g3, g4⟩ := lay_torn S n lo hi rs h.la h.d.len hlh hh r hrl hpl h.dn h.wz
  have hopl := opsN_le (tot rs) r.length ((hi - lo) * 256)
  generalize hR : layD S lo (tot rs) (frB 0 rs.length r) ((hi - lo) * 256) = R at *
  refine (append_any w X t q n S lo hi (tot rs) rs.length h.d h.tp h.nx hlh hh h.dn (by rw [h.wz]; decide) hops (by omega) r a c hr hrl hpl R hR.symm (by rcases g4 with g | g; exact .inl g.1; exact .inr g.1)).mono ?_
  rintro e w' ⟨X', k1, k2, k3, rfl, k4⟩
  have hnx : ¬ X' t := fun hxx => by
    rcases k3 t hxx with h' | h'
    · exact h.nx h'
    · have := h.tp.lt; omega
  refine ⟨X', R.1, k1, k2, k3, hnx, g1, by omega, g3, ?_⟩
  rcases g4 with ⟨e1, e2, e3, e4⟩ | ⟨e1, e2, e3, e4, e5⟩
  · left
    rcases k4 with ⟨_, k4⟩ | ⟨k4, _⟩
    · exact ⟨by rw [e1], ⟨k1, by rw [tot_snoc, List.length_append]; exact k4, hnx, e4, e2, g1⟩, e3⟩
    · omega
  · right
    rcases k4 with ⟨k4, _⟩ | ⟨_, k4⟩
    · omega
    · exact ⟨by rw [e1], e3, e4, e2, k4, e5⟩

theorem open_ta (w : World) (X : Nat → Prop) (q n : Nat) (S : DS) (lo hi : Nat) (rs : List (List UInt8)) (h : Drum w X q n S) (hla : Laid S.P lo ((hi - lo) * 256) rs) (hd : S.down = false) (hw : S.W = []) (hlh : lo < hi) (hh : hi ≤ n) (hrs : rs.length ≤ 5000) :
    Calls Try.prog 12 #[.pointer (some ⟨q, 0, none⟩), .int .i64 lo, .int .i64 hi] w fun e w' => Below w.heap.size w w' ∧ ∃ v t, e = .returned (.tuple #[.pointer (some ⟨t, 0, none⟩), v, .int .i64 0]) ∧ w.heap.size ≤ t ∧ Recs w' w.heap.size v rs ∧ TA w' X t q n S lo hi rs := by
  refine (open_any w X q n S lo hi h hlh hh hd rs 0 hla.chain hrs).mono ?_
  rintro e w' ⟨hb, ⟨_, v, t, rfl, h1, h2, h3⟩ | ⟨hk, _⟩⟩
  · exact ⟨hb, v, t, rfl, h1, h2, ⟨h.below hb, h3, fun hx => by have := h.xlt t hx; omega, hla, hd, hw⟩⟩
  · omega

theorem flush_ts (w : World) (X : Nat → Prop) (q n : Nat) (S : DS) (ha : S.armed = 0) (hd : S.down = false) (hW : S.W.length < 9999) (hops : S.ops ≤ 100000) (h : Drum w X q n S) :
    Calls Try.prog 28 #[.pointer (some ⟨q, 0, none⟩)] w fun e w' => e = .returned (.int .i64 0) ∧ ∃ S', Drum w' X q n S' ∧ Step X X w w' ∧ S'.P = S.P ∧ S'.armed = 0 ∧ S'.down = false ∧ S'.W = [] ∧ S'.ops = S.ops + 1 := by
  have e : S.flush = ({ S with ops := S.ops + 1, W := [] }, 0) := by
    unfold DS.flush DS.oper
    rw [if_neg (by simp [hd]), if_pos ha]
  have N := flush_any w X q n S (by omega) (by omega) h
  rw [e] at N
  refine N.mono ?_
  rintro e w' ⟨rfl, h1, h2⟩
  exact ⟨rfl, _, h1, h2, rfl, ha, hd, rfl, rfl⟩

theorem off_down (w : World) (X : Nat → Prop) (q n : Nat) (S : DS) (z : Int) (hz : -9223372036854775808 ≤ z) (hz' : z < 9223372036854775808) (hd : S.down = true) (hW : S.W = []) (h : Drum w X q n S) :
    Calls Try.prog 21 #[.pointer (some ⟨q, 0, none⟩), .int .i64 z] w fun e w' => e = .returned (.tuple #[]) ∧ Drum w' X q n S ∧ Step X X w w' := by
  have N := off_any w X q n S z hz hz' (by rw [hW]; simp) h
  have e : S.off z = S := by unfold DS.off; rw [hd]; rfl
  rw [e] at N
  exact N

/-- A record of a list: what was handed in, or of its own. -/
def Elem (w wr : World) (X : Nat → Prop) (t : Nat) (u : Value) (r : List UInt8) : Prop :=
  Sl.RdA w u r ∨ ∃ g, u = .slice (some ⟨g, 0, none⟩) r.length r.length ∧ w.heap.size ≤ g ∧ ¬ X g ∧ g ≠ t ∧ wr.heap[g]? = some (.cells (byteCells r).toArray 5 (0, 0))
def SL (w wr : World) (X : Nat → Prop) (t : Nat) (v : Value) (rs : List (List UInt8)) : Prop :=
  ∃ vals : List Value, wr.ownsRow 0 22 1 v rs.length vals ∧ (∀ k, v.ownBlock = some k → w.heap.size ≤ k ∧ ¬ X k ∧ k ≠ t) ∧ ∀ (i : Nat) (r : List UInt8), rs[i]? = some r → ∃ u, vals[i]? = some u ∧ Elem w wr X t u r
theorem SL.nil (w wr : World) (X : Nat → Prop) (t : Nat) : SL w wr X t (.slice none 0 0) [] := ⟨[], World.ownsRow_nil _ _ _ _, ⟨(fun k hk => by cases hk), fun i r h => by simp at h⟩⟩
theorem SL.lt {w wr : World} {X : Nat → Prop} {t : Nat} {v : Value} {rs : List (List UInt8)} (h : SL w wr X t v rs) : ∀ k, v.ownBlock = some k → k < wr.heap.size := fun k hk => by
  obtain ⟨vals, ho, _⟩ := h
  obtain ⟨c, hc⟩ := own_ne ho hk
  exact (Array.getElem?_eq_some_iff.1 hc).1
theorem SL.shape {w wr : World} {X : Nat → Prop} {t : Nat} {v : Value} {rs : List (List UInt8)} (h : SL w wr X t v rs) : ∃ a c, v = .slice a rs.length c := by
  obtain ⟨vals, ho, _⟩ := h
  rcases ho.2 with ⟨rfl, h0⟩ | ⟨g, cap, cur, rfl, _⟩
  · rw [h0]; exact ⟨_, _, rfl⟩
  · exact ⟨_, _, rfl⟩
theorem Elem.on {w wr wr' : World} {X X' Y Y' : Nat → Prop} {t : Nat} {u : Value} {r : List UInt8} (h : Elem w wr X t u r) (hs : Step Y Y' wr wr') (hy : ∀ k, Y k → X k ∨ k = t) (hx : ∀ k, X' k → X k ∨ wr.heap.size ≤ k) : Elem w wr' X' t u r := by
  rcases h with h | ⟨g, h1, h2, h3, h4, h5⟩
  · exact .inl h
  · have hlt : g < wr.heap.size := (Array.getElem?_eq_some_iff.1 h5).1
    refine .inr ⟨g, h1, h2, fun hx' => ?_, h4, (hs.block g hlt (fun hyg => ?_)).trans h5⟩
    · rcases hx g hx' with h' | h'
      · exact h3 h'
      · omega
    · rcases hy g hyg with h' | h'
      · exact h3 h'
      · exact h4 h'
theorem SL.on {w wr wr' : World} {X X' Y Y' : Nat → Prop} {t : Nat} {v : Value} {rs : List (List UInt8)} (h : SL w wr X t v rs) (hs : Step Y Y' wr wr') (hy : ∀ k, Y k → X k ∨ k = t) (hx : ∀ k, X' k → X k ∨ wr.heap.size ≤ k) : SL w wr' X' t v rs := by
  have hlt := h.lt
  obtain ⟨vals, ho, hb, hr⟩ := h
  refine ⟨vals, ownsRow_block ho (fun k hk => hs.block k (hlt k hk) (fun hyk => ?_)), fun k hk => ⟨(hb k hk).1, fun hx' => ?_, (hb k hk).2.2⟩, fun i r hi => ?_⟩
  · rcases hy k hyk with h' | h'
    · exact (hb k hk).2.1 h'
    · exact (hb k hk).2.2 h'
  · rcases hx k hx' with h' | h'
    · exact (hb k hk).2.1 h'
    · have := hlt k hk; omega
  · obtain ⟨u, h1, h2⟩ := hr i r hi
    exact ⟨u, h1, h2.on hs hy hx⟩
theorem SL.push {w w1 w2 : World} {X : Nat → Prop} {t : Nat} {v v1 u : Value} {rs : List (List UInt8)} {r : List UInt8} {g1 : Nat} {xs : List Value} (hw : w.heap.size ≤ w1.heap.size) (hX : ∀ k, X k → k < w1.heap.size) (ht : t < w1.heap.size)
    (ho : w1.ownsRow 0 22 1 v rs.length xs) (hb : ∀ k, v.ownBlock = some k → w.heap.size ≤ k ∧ ¬ X k ∧ k ≠ t) (hr : ∀ (i : Nat) (r : List UInt8), rs[i]? = some r → ∃ u, xs[i]? = some u ∧ Elem w w1 X t u r) (hu : Sl.RdA w u r)
    (hp : Pushed w1 w2 22 v v1 rs.length xs u g1) : SL w w2 X t v1 (rs ++ [r]) := by
  have hxl : xs.length = rs.length := by have := ho.1; omega
  refine ⟨xs ++ [u], by rw [List.length_append]; exact hp.own, fun k hk => ?_, fun i r' hi => ?_⟩
  · rw [hp.at1] at hk
    cases hk
    rcases hp.old with h | h
    · exact hb _ h
    · exact ⟨by omega, fun hx => by have := hX _ hx; omega, by omega⟩
  · by_cases hlt : i < rs.length
    · rw [List.getElem?_append_left hlt] at hi
      obtain ⟨u', h1, h2⟩ := hr i r' hi
      refine ⟨u', by rw [List.getElem?_append_left (by omega)]; exact h1, ?_⟩
      rcases h2 with h2 | ⟨g, e1, e2, e3, e4, e5⟩
      · exact .inl h2
      · refine .inr ⟨g, e1, e2, e3, e4, (hp.step.block g (Array.getElem?_eq_some_iff.1 e5).1 (fun hk => ?_)).trans e5⟩
        obtain ⟨c, hc⟩ := own_ne ho hk
        exact ne_type hc e5 (by decide) rfl
    · have hi' : i = rs.length := by
        have := (List.getElem?_eq_some_iff.1 hi).1
        simp at this; omega
      subst hi'
      rw [List.getElem?_append_right (Nat.le_refl _), Nat.sub_self] at hi
      cases hi
      exact ⟨u, by rw [List.getElem?_append_right (by omega), hxl, Nat.sub_self]; rfl, .inl hu⟩
theorem SL.rdl {w wr : World} {X : Nat → Prop} {t : Nat} {v : Value} {rs : List (List UInt8)} (h : SL w wr X t v rs) (hb : Below w.heap.size w wr) : RdL wr v rs := by
  obtain ⟨a, c, rfl⟩ := h.shape
  obtain ⟨vals, ho, _, hr⟩ := h
  refine ⟨a, c, rfl, fun i r hi => ?_⟩
  obtain ⟨u, hu, he⟩ := hr i r hi
  obtain ⟨g, c', h1, h2⟩ := own_cell ho hu (List.getElem?_eq_some_iff.1 hi).1
  cases h1
  refine ⟨g, 0, u, rfl, by rw [Nat.zero_add]; exact h2, ?_⟩
  rcases he with he | ⟨g, e1, e2, e3, e4, e5⟩
  · exact Sl.RdA.on he hb
  · exact RecAt.rd (B := 0) ⟨g, e1, Nat.zero_le _, e5⟩
theorem Recs.sl {w wr : World} {X : Nat → Prop} {B t q lo hi p c m : Nat} {v : Value} {rs : List (List UInt8)} (h : Recs wr B v rs) (hB : w.heap.size ≤ B) (hX : ∀ k, X k → k < B) (ht : Tp wr t q lo hi p c m) : SL w wr X t v rs := by
  obtain ⟨vals, ho, hb, hr⟩ := h
  refine ⟨vals, ho, fun k hk => ⟨Nat.le_trans hB (hb k hk), fun hx => by have := hX k hx; have := hb k hk; omega, fun e => ?_⟩, fun i r hi => ?_⟩
  · obtain ⟨c, hc⟩ := own_ne ho hk
    exact ne_type hc ht.b (by decide) e
  · obtain ⟨u, hu, g, rfl, h1, h2⟩ := hr i r hi
    exact ⟨_, hu, .inr ⟨g, rfl, by omega, fun hx => by have := hX g hx; omega, ne_type h2 ht.b (by decide), h2⟩⟩
theorem Recs.cap {w : World} {B : Nat} {v : Value} {rs : List (List UInt8)} (h : Recs w B v rs) : ∀ a c, v = .slice a rs.length c → rs.length ≤ c := by
  rintro a c rfl
  obtain ⟨vals, ho, _⟩ := h
  rcases ho.2 with ⟨h1, h0⟩ | ⟨g, cap, cur, h1, _, _, hc, _⟩
  · omega
  · cases h1; exact hc
/-- A slice of pairs of ints that came in. -/
def RdW (w : World) (v : Value) (n : Nat) : Prop := ∃ (a : Option Addr) (c : Nat), v = .slice a n c ∧ ∀ k, k < n → ∃ (b o : Nat) (x y : Int), a = some ⟨b, o, none⟩ ∧ w.cell? ⟨b, o + k * 2, none⟩ = some (.int .i64 x) ∧ w.cell? ⟨b, o + k * 2 + 1, none⟩ = some (.int .i64 y) ∧ (-9223372036854775808 ≤ x ∧ x < 9223372036854775808) ∧ (-9223372036854775808 ≤ y ∧ y < 9223372036854775808)
end Go.Proofs.Ytpbpcefcnkfbpaa
