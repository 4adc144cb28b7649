/- A trie that a law makes: what the calls do to it, and what they leave alone; wakes. Conditions: Vars, what the library's tables hold when the call begins, and those that each row states. -/
import Derived.Test.YtcicnbbnkeellaaGreatDoorFc
import Derived.Test.YtcicnbbnkeellaaGreatDoorDw
import Derived.Test.YtcicnbbnkeellaaGreatDoorRte
import Derived.Test.YtcicnbbnkeellaaGreatDoorRtd
import Derived.Test.YtcicnbbnkeellaaGreatDoorLp
namespace Go.Proofs.YtcicnbbnkeellaaGreatDoor
open Go.RowKit
set_option maxRecDepth 100000

/-- All that the trie is made of is younger than the call, and is none of the blocks K. -/
structure St (w0 : World) (K : Nat → Prop) (W : World) (t N : Nat) (l : List Pr) : Prop where
  tr : ∃ X, PT W X t N l ∧ ∀ b, X b → w0.heap.size ≤ b ∧ ¬ K b
  below : Below w0.heap.size w0 W
  lt : ∀ b, K b → b < W.heap.size
/-- What stays: the blocks K. -/
structure Kp (K : Nat → Prop) (W w' : World) : Prop where
  size : W.heap.size ≤ w'.heap.size
  keep : ∀ b, K b → w'.heap[b]? = W.heap[b]?
theorem Kp.trans {K : Nat → Prop} {a b c : World} (h : Kp K a b) (k : Kp K b c) : Kp K a c := ⟨Nat.le_trans h.size k.size, fun x hx => (k.keep x hx).trans (h.keep x hx)⟩
theorem Kp.of_below {K : Nat → Prop} {W w' : World} (hl : ∀ b, K b → b < W.heap.size) (h : Below W.heap.size W w') : Kp K W w' := ⟨h.size, fun b hb => h.block b (hl b hb)⟩
theorem nxt {a b c : World} (h1 : Below a.heap.size a b) (h2 : Below b.heap.size b c) : Below a.heap.size a c := h1.trans (h2.mono h1.size)
theorem St.few {w0 W : World} {K : Nat → Prop} {t N : Nat} {l : List Pr} (h : St w0 K W t N l) : (∀ x ∈ l, pat x.1 = true) ∧ Rising l ∧ l.length ≤ 64 := by
  obtain ⟨X, h1, _⟩ := h.tr
  exact h1.facts
theorem St.on {w0 W w' : World} {K : Nat → Prop} {t N : Nat} {l : List Pr} (h : St w0 K W t N l) (hb : Below W.heap.size W w') : St w0 K w' t N l := by
  obtain ⟨X, h1, h2⟩ := h.tr
  exact ⟨⟨X, h1.below hb, h2⟩, h.below.trans (hb.mono h.below.size), fun b hk => Nat.lt_of_lt_of_le (h.lt b hk) hb.size⟩
theorem St.of_fr {w0 W w' : World} {K X X' : Nat → Prop} {t N : Nat} {l : List Pr} (h2 : ∀ b, X b → w0.heap.size ≤ b ∧ ¬ K b) (hb : Below w0.heap.size w0 W) (hk : ∀ b, K b → b < W.heap.size) (h1 : PT w' X' t N l) (hf : Fr X X' W w') : St w0 K w' t N l ∧ Kp K W w' := by
  refine ⟨⟨⟨X', h1, fun b hx => ?_⟩, hb.trans (hf.below (fun b hx => (h2 b hx).1) hb.size), fun b hkb => Nat.lt_of_lt_of_le (hk b hkb) hf.size⟩, hf.size, fun b hkb => hf.keep b (hk b hkb) (fun hx => (h2 b hx).2 hkb)⟩
  rcases hf.new b hx with h | h
  · exact h2 b h
  · exact ⟨Nat.le_trans hb.size h, fun hkb => by have := hk b hkb; omega⟩
theorem St.vars {w0 W : World} {K : Nat → Prop} {t N : Nat} {l : List Pr} (h : St w0 K W t N l) (hv : To.Vars w0) : To.Vars W := hv.below h.below

theorem new_st {w0 W : World} {K : Nat → Prop} (hb : Below w0.heap.size w0 W) (hk : ∀ b, K b → b < W.heap.size) : Calls Tryz.prog 9 #[] W fun e w' => e = .returned (.pointer (some ⟨W.heap.size + 2, 0, none⟩)) ∧ St w0 K w' (W.heap.size + 2) 0 [] ∧ Kp K W w' := by
  refine (new_any W).mono ?_
  rintro e w' ⟨rfl, X, h1, h2⟩
  refine ⟨rfl, St.of_fr (X := fun _ => False) (fun b h => h.elim) hb hk h1 h2⟩
theorem St.add {w0 W : World} {K : Nat → Prop} {t N : Nat} {l : List Pr} (h : St w0 K W t N l) (hv : To.Vars w0) (p : List UInt8) (hpl : p.length ≤ 9223372036854775807) (z : Int) (hN : N ≤ 1000000) :
    Calls Tryz.prog 10 #[.pointer (some ⟨t, 0, none⟩), str p, .int .i64 z] W fun e w' => e = .returned (.int .i64 (addC l p z)) ∧ St w0 K w' t (N + 8) (addR l p z) ∧ Kp K W w' := by
  obtain ⟨X, h1, h2⟩ := h.tr
  refine (add_any W X t N l h1 (h.vars hv) p hpl z hN).mono ?_
  rintro e w' ⟨rfl, X', h3, h4⟩
  exact ⟨rfl, St.of_fr h2 h.below h.lt h3 h4⟩
theorem St.drop {w0 W : World} {K : Nat → Prop} {t N : Nat} {l : List Pr} (h : St w0 K W t N l) (p : List UInt8) (hpl : p.length ≤ 9223372036854775807) (z : Int) :
    Calls Tryz.prog 12 #[.pointer (some ⟨t, 0, none⟩), str p, .int .i64 z] W fun e w' => e = .returned (.int .i64 (if (p, z) ∈ l then 0 else 33)) ∧ St w0 K w' t N (l.erase (p, z)) ∧ Kp K W w' := by
  obtain ⟨X, h1, h2⟩ := h.tr
  refine (drop_any W X t N l h1 p hpl z).mono ?_
  rintro e w' ⟨rfl, X', h3, h4⟩
  exact ⟨rfl, St.of_fr h2 h.below h.lt h3 h4⟩
theorem St.find {w0 W : World} {K : Nat → Prop} {t N : Nat} {l : List Pr} (h : St w0 K W t N l) (hv : To.Vars w0) (s : List UInt8) :
    Calls Tryz.prog 15 #[.pointer (some ⟨t, 0, none⟩), str s] W fun e w' => ∃ v, e = .returned v ∧ To.OwnV 3 w' W.heap.size v (ints (findP l s)) ∧ Below W.heap.size W w' := by
  obtain ⟨X, h1, h2⟩ := h.tr
  exact find_any W X t N l h1 (h.vars hv) s
theorem St.len {w0 W : World} {K : Nat → Prop} {t N : Nat} {l : List Pr} (h : St w0 K W t N l) : Calls Tryz.prog 17 #[.pointer (some ⟨t, 0, none⟩)] W fun e w' => e = .returned (.int .i64 l.length) ∧ Below W.heap.size W w' := by
  obtain ⟨X, h1, h2⟩ := h.tr
  exact len_any W X t N l h1
theorem St.all {w0 W : World} {K : Nat → Prop} {t N : Nat} {l : List Pr} (h : St w0 K W t N l) : Calls Tryz.prog 18 #[.pointer (some ⟨t, 0, none⟩)] W fun e w' => ∃ v, e = .returned v ∧ OwnPr w' W.heap.size v l ∧ Below W.heap.size W w' := by
  obtain ⟨X, h1, h2⟩ := h.tr
  exact all_any W X t N l h1

def wA : List Pr := [([97, 46, 42], 3)]
def wB : List Pr := [([35], 1), ([97, 46, 42], 3)]
def wC : List Pr := [([35], 1), ([97, 46, 42], 3), ([97, 46, 98], 3)]
theorem wk1 : addC [] [97, 46, 42] 3 = 0 ∧ addR [] [97, 46, 42] 3 = wA := by decide
theorem wk2 : addC wA [35] 1 = 0 ∧ addR wA [35] 1 = wB := by decide
theorem wk3 : addC wB [97, 46, 98] 3 = 0 ∧ addR wB [97, 46, 98] 3 = wC := by decide
theorem wk4 : findP wC [97, 46, 98] = [1, 3] := by decide
theorem wk5 : findP wC [97] = [1] := by decide

set_option maxHeartbeats 2000000 in
theorem wakes_any (w : World) (hv : To.Vars w) : Calls Tryz.prog 8 #[] w fun e w' => e = .returned (.bool true) ∧ Below w.heap.size w w' := by
  have hn := new_st (K := fun _ => False) (Below.refl w.heap.size w) (fun b h => h.elim)
  go_enter Tryz.func8, Tryz.ntmps8
  go_wp2_with fail
  refine hn.mono ?_
  rintro e w1 ⟨rfl, h1, _⟩
  have a1 := h1.add hv [97, 46, 42] (by decide) 3 (by decide)
  rw [wk1.1, wk1.2] at a1
  simp only [str] at a1
  clear hn
  go_wp2_with fail
  refine a1.mono ?_
  rintro e w2 ⟨rfl, h2, _⟩
  have a2 := h2.add hv [35] (by decide) 1 (by decide)
  rw [wk2.1, wk2.2] at a2
  simp only [str] at a2
  clear h1 a1
  go_wp2_with fail
  refine a2.mono ?_
  rintro e w3 ⟨rfl, h3, _⟩
  have a3 := h3.add hv [97, 46, 98] (by decide) 3 (by decide)
  rw [wk3.1, wk3.2] at a3
  simp only [str] at a3
  clear h2 a2
  go_wp2_with fail
  refine a3.mono ?_
  rintro e w4 ⟨rfl, h4, _⟩
  have a4 := h4.find hv [97, 46, 98]
  rw [wk4] at a4
  simp only [str] at a4
  clear h3 a3
  go_wp2_with fail
  refine a4.mono ?_
  rintro e w5 ⟨v, rfl, hO, hb5⟩
  obtain ⟨g, c, rfl⟩ := To.OwnV.some_of hO (by decide)
  obtain ⟨_, hlc, hcl⟩ := To.OwnV.cells hO
  have c0 := hcl 0 (by decide)
  have c1 := hcl 1 (by decide)
  have h5 := h4.on hb5
  have a5 := h5.find hv [97]
  rw [wk5] at a5
  simp only [str] at a5
  simp only [ints, List.map, List.length, List.getElem_cons_zero, List.getElem_cons_succ] at c0 c1 hlc ⊢
  clear h4 a4 hO hb5 hcl
  go_wp2_with fail
  refine a5.mono ?_
  rintro e w6 ⟨v, rfl, hO, hb6⟩
  obtain ⟨a6, c6, rfl, _⟩ := To.OwnV.len hO
  have h6 := h5.on hb6
  have HB : Hid (Below w.heap.size w w6) := h6.below
  simp only [ints, List.map, List.length]
  clear h5 a5 hO h6
  go_wp2
  go_ret
  exact ⟨rfl, HB.out⟩
end Go.Proofs.YtcicnbbnkeellaaGreatDoor
