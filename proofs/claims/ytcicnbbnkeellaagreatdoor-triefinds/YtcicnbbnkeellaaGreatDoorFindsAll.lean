/- Whatever two lists of texts, trivetlaw09.TrieFinds answers true and leaves its arguments as they were, where the listed tables of the library read as the program's text lays them (tied by the card). -/
import Derived.Test.YtcicnbbnkeellaaGreatDoorFc
import Derived.Test.YtcicnbbnkeellaaGreatDoorDw
import Derived.Test.YtcicnbbnkeellaaGreatDoorRte
import Derived.Test.YtcicnbbnkeellaaGreatDoorRtd
import Derived.Test.YtcicnbbnkeellaaGreatDoorLp
import Derived.Test.YtcicnbbnkeellaaGreatDoorAd
import Derived.Test.YtcicnbbnkeellaaGreatDoorTn
import Derived.Test.YtcicnbbnkeellaaGreatDoorRows
import Derived.Test.YtcicnbbnkeellaaGreatDoorWb
import Derived.ProofKit
import Derived.Lib.LaidU8
import Derived.Lib.LaidTab
import Derived.PinnedBridge
import Derived.Lay
import Derived.MakeChecks
import Derived.HandedShaped
import Derived.Laws.Cover2
import Derived.Test.YtcicnbbnkeellaaGreatDoorCards
import Derived.Test.YtcicnbbnkeellaaGreatDoorTie
namespace Go.Proofs.YtcicnbbnkeellaaGreatDoor
open Go.RowKit
set_option maxRecDepth 100000

/-- All that the trie is made of is younger than the call, and is none of the blocks K. -/
structure St (w0 : World) (K : Nat → Prop) (W : World) (t N : Nat) (l : List Pr) : Prop where
  tr : ∃ X, PT W X t N l ∧ ∀ b, X b → w0.heap.size ≤ b ∧ ¬ K b
  below : Below w0.heap.size w0 W
  lt : ∀ b, K b → b < W.heap.size
/-- What stays: the blocks K. -/
structure Kp (K : Nat → Prop) (W w' : World) : Prop where
  size : W.heap.size ≤ w'.heap.size
  keep : ∀ b, K b → w'.heap[b]? = W.heap[b]?
theorem Kp.trans {K : Nat → Prop} {a b c : World} (h : Kp K a b) (k : Kp K b c) : Kp K a c := ⟨Nat.le_trans h.size k.size, fun x hx => (k.keep x hx).trans (h.keep x hx)⟩
theorem Kp.of_below {K : Nat → Prop} {W w' : World} (hl : ∀ b, K b → b < W.heap.size) (h : Below W.heap.size W w') : Kp K W w' := ⟨h.size, fun b hb => h.block b (hl b hb)⟩
theorem nxt {a b c : World} (h1 : Below a.heap.size a b) (h2 : Below b.heap.size b c) : Below a.heap.size a c := h1.trans (h2.mono h1.size)
theorem St.few {w0 W : World} {K : Nat → Prop} {t N : Nat} {l : List Pr} (h : St w0 K W t N l) : (∀ x ∈ l, pat x.1 = true) ∧ Rising l ∧ l.length ≤ 64 := by
  obtain ⟨X, h1, _⟩ := h.tr
  exact h1.facts
theorem St.on {w0 W w' : World} {K : Nat → Prop} {t N : Nat} {l : List Pr} (h : St w0 K W t N l) (hb : Below W.heap.size W w') : St w0 K w' t N l := by
  obtain ⟨X, h1, h2⟩ := h.tr
  exact ⟨⟨X, h1.below hb, h2⟩, h.below.trans (hb.mono h.below.size), fun b hk => Nat.lt_of_lt_of_le (h.lt b hk) hb.size⟩
theorem St.of_fr {w0 W w' : World} {K X X' : Nat → Prop} {t N : Nat} {l : List Pr} (h2 : ∀ b, X b → w0.heap.size ≤ b ∧ ¬ K b) (hb : Below w0.heap.size w0 W) (hk : ∀ b, K b → b < W.heap.size) (h1 : PT w' X' t N l) (hf : Fr X X' W w') : St w0 K w' t N l ∧ Kp K W w' := by
  refine ⟨⟨⟨X', h1, fun b hx => ?_⟩, hb.trans (hf.below (fun b hx => (h2 b hx).1) hb.size), fun b hkb => Nat.lt_of_lt_of_le (hk b hkb) hf.size⟩, hf.size, fun b hkb => hf.keep b (hk b hkb) (fun hx => (h2 b hx).2 hkb)⟩
  rcases hf.new b hx with h | h
  · exact h2 b h
  · exact ⟨Nat.le_trans hb.size h, fun hkb => by have := hk b hkb; omega⟩
theorem St.vars {w0 W : World} {K : Nat → Prop} {t N : Nat} {l : List Pr} (h : St w0 K W t N l) (hv : To.Vars w0) : To.Vars W := hv.below h.below

theorem new_st {w0 W : World} {K : Nat → Prop} (hb : Below w0.heap.size w0 W) (hk : ∀ b, K b → b < W.heap.size) : Calls Tryz.prog 9 #[] W fun e w' => e = .returned (.pointer (some ⟨W.heap.size + 2, 0, none⟩)) ∧ St w0 K w' (W.heap.size + 2) 0 [] ∧ Kp K W w' := by
  refine (new_any W).mono ?_
  rintro e w' ⟨rfl, X, h1, h2⟩
  refine ⟨rfl, St.of_fr (X := fun _ => False) (fun b h => h.elim) hb hk h1 h2⟩
theorem St.add {w0 W : World} {K : Nat → Prop} {t N : Nat} {l : List Pr} (h : St w0 K W t N l) (hv : To.Vars w0) (p : List UInt8) (hpl : p.length ≤ 9223372036854775807) (z : Int) (hN : N ≤ 1000000) :
    Calls Tryz.prog 10 #[.pointer (some ⟨t, 0, none⟩), str p, .int .i64 z] W fun e w' => e = .returned (.int .i64 (addC l p z)) ∧ St w0 K w' t (N + 8) (addR l p z) ∧ Kp K W w' := by
  obtain ⟨X, h1, h2⟩ := h.tr
  refine (add_any W X t N l h1 (h.vars hv) p hpl z hN).mono ?_
  rintro e w' ⟨rfl, X', h3, h4⟩
  exact ⟨rfl, St.of_fr h2 h.below h.lt h3 h4⟩
theorem St.drop {w0 W : World} {K : Nat → Prop} {t N : Nat} {l : List Pr} (h : St w0 K W t N l) (p : List UInt8) (hpl : p.length ≤ 9223372036854775807) (z : Int) :
    Calls Tryz.prog 12 #[.pointer (some ⟨t, 0, none⟩), str p, .int .i64 z] W fun e w' => e = .returned (.int .i64 (if (p, z) ∈ l then 0 else 33)) ∧ St w0 K w' t N (l.erase (p, z)) ∧ Kp K W w' := by
  obtain ⟨X, h1, h2⟩ := h.tr
  refine (drop_any W X t N l h1 p hpl z).mono ?_
  rintro e w' ⟨rfl, X', h3, h4⟩
  exact ⟨rfl, St.of_fr h2 h.below h.lt h3 h4⟩
theorem St.find {w0 W : World} {K : Nat → Prop} {t N : Nat} {l : List Pr} (h : St w0 K W t N l) (hv : To.Vars w0) (s : List UInt8) :
    Calls Tryz.prog 15 #[.pointer (some ⟨t, 0, none⟩), str s] W fun e w' => ∃ v, e = .returned v ∧ To.OwnV 3 w' W.heap.size v (ints (findP l s)) ∧ Below W.heap.size W w' := by
  obtain ⟨X, h1, h2⟩ := h.tr
  exact find_any W X t N l h1 (h.vars hv) s
theorem St.len {w0 W : World} {K : Nat → Prop} {t N : Nat} {l : List Pr} (h : St w0 K W t N l) : Calls Tryz.prog 17 #[.pointer (some ⟨t, 0, none⟩)] W fun e w' => e = .returned (.int .i64 l.length) ∧ Below W.heap.size W w' := by
  obtain ⟨X, h1, h2⟩ := h.tr
  exact len_any W X t N l h1
theorem St.all {w0 W : World} {K : Nat → Prop} {t N : Nat} {l : List Pr} (h : St w0 K W t N l) : Calls Tryz.prog 18 #[.pointer (some ⟨t, 0, none⟩)] W fun e w' => ∃ v, e = .returned v ∧ OwnPr w' W.heap.size v l ∧ Below W.heap.size W w' := by
  obtain ⟨X, h1, h2⟩ := h.tr
  exact all_any W X t N l h1

def wA : List Pr := [([97, 46, 42], 3)]
def wB : List Pr := [([35], 1), ([97, 46, 42], 3)]
def wC : List Pr := [([35], 1), ([97, 46, 42], 3), ([97, 46, 98], 3)]
theorem wk1 : addC [] [97, 46, 42] 3 = 0 ∧ addR [] [97, 46, 42] 3 = wA := by decide
theorem wk2 : addC wA [35] 1 = 0 ∧ addR wA [35] 1 = wB := by decide
theorem wk3 : addC wB [97, 46, 98] 3 = 0 ∧ addR wB [97, 46, 98] 3 = wC := by decide
theorem wk4 : findP wC [97, 46, 98] = [1, 3] := by decide
theorem wk5 : findP wC [97] = [1] := by decide

set_option maxHeartbeats 2000000 in
theorem wakes_any (w : World) (hv : To.Vars w) : Calls Tryz.prog 8 #[] w fun e w' => e = .returned (.bool true) ∧ Below w.heap.size w w' := by
  have hn := new_st (K := fun _ => False) (Below.refl w.heap.size w) (fun b h => h.elim)
  go_enter Tryz.func8, Tryz.ntmps8
  go_wp2_with fail
  refine hn.mono ?_
  rintro e w1 ⟨rfl, h1, _⟩
  have a1 := h1.add hv [97, 46, 42] (by decide) 3 (by decide)
  rw [wk1.1, wk1.2] at a1
  simp only [str] at a1
  clear hn
  go_wp2_with fail
  refine a1.mono ?_
  rintro e w2 ⟨rfl, h2, _⟩
  have a2 := h2.add hv [35] (by decide) 1 (by decide)
  rw [wk2.1, wk2.2] at a2
  simp only [str] at a2
  clear h1 a1
  go_wp2_with fail
  refine a2.mono ?_
  rintro e w3 ⟨rfl, h3, _⟩
  have a3 := h3.add hv [97, 46, 98] (by decide) 3 (by decide)
  rw [wk3.1, wk3.2] at a3
  simp only [str] at a3
  clear h2 a2
  go_wp2_with fail
  refine a3.mono ?_
  rintro e w4 ⟨rfl, h4, _⟩
  have a4 := h4.find hv [97, 46, 98]
  rw [wk4] at a4
  simp only [str] at a4
  clear h3 a3
  go_wp2_with fail
  refine a4.mono ?_
  rintro e w5 ⟨v, rfl, hO, hb5⟩
  obtain ⟨g, c, rfl⟩ := To.OwnV.some_of hO (by decide)
  obtain ⟨_, hlc, hcl⟩ := To.OwnV.cells hO
  have c0 := hcl 0 (by decide)
  have c1 := hcl 1 (by decide)
  have h5 := h4.on hb5
  have a5 := h5.find hv [97]
  rw [wk5] at a5
  simp only [str] at a5
  simp only [ints, List.map, List.length, List.getElem_cons_zero, List.getElem_cons_succ] at c0 c1 hlc ⊢
  clear h4 a4 hO hb5 hcl
  go_wp2_with fail
  refine a5.mono ?_
  rintro e w6 ⟨v, rfl, hO, hb6⟩
  obtain ⟨a6, c6, rfl, _⟩ := To.OwnV.len hO
  have h6 := h5.on hb6
  have HB : Hid (Below w.heap.size w w6) := h6.below
  simp only [ints, List.map, List.length]
  clear h5 a5 hO h6
  go_wp2
  go_ret
  exact ⟨rfl, HB.out⟩
end Go.Proofs.YtcicnbbnkeellaaGreatDoor

namespace Go.Proofs.YtcicnbbnkeellaaGreatDoor

def adds (ps : List (List UInt8)) (f : Nat → Int) : Nat → List Pr
  | 0 => []
  | k + 1 => addR (adds ps f k) (ps.getD k []) (f k)
theorem addP_len (l : List Pr) (x : Pr) : (addP l x).length = l.length + 1 := by
  have h := take_while (fun y => plt y x) l
  unfold addP
  rw [← h.1, ← h.2]
  have h3 : l.length = (l.take (l.takeWhile (fun y => plt y x)).length).length + (l.drop (l.takeWhile (fun y => plt y x)).length).length := by
    rw [← List.length_append, List.take_append_drop]
  rw [List.length_append, List.length_cons]
  omega
theorem addR_len (l : List Pr) (p : List UInt8) (z : Int) : (addR l p z).length ≤ l.length + 1 := by
  unfold addR
  split
  · rw [addP_len]; exact Nat.le_refl _
  · omega
theorem adds_len (ps : List (List UInt8)) (f : Nat → Int) (k : Nat) : (adds ps f k).length ≤ k := by
  induction k with
  | zero => exact Nat.le_refl _
  | succ k ih => exact Nat.le_trans (addR_len _ _ _) (by omega)
/-- What is there after an Add for which there is room. -/
theorem addR_mem (l : List Pr) (p : List UInt8) (z : Int) (hl : l.length < 64) (x : Pr) : x ∈ addR l p z ↔ x ∈ l ∨ (x = (p, z) ∧ pat p = true) := by
  unfold addR
  cases hp : pat p with
  | false =>
    have : addC l p z = 30 := by unfold addC; rw [if_pos hp]
    rw [if_neg (by rw [this]; decide)]
    simp
  | true =>
    by_cases hm : (p, z) ∈ l
    · have : addC l p z = 32 := by unfold addC; rw [if_neg (by rw [hp]; simp), if_pos hm]
      rw [if_neg (by rw [this]; decide)]
      constructor
      · exact fun h => .inl h
      · rintro (h | ⟨rfl, _⟩)
        · exact h
        · exact hm
    · have : addC l p z = 0 := by unfold addC; rw [if_neg (by rw [hp]; simp), if_neg hm, if_neg (by omega)]
      rw [if_pos this, add_mem]
      simp only [and_true]
      exact Or.comm
theorem adds_mem (ps : List (List UInt8)) (f : Nat → Int) (k : Nat) (hk : k ≤ 64) (x : Pr) : x ∈ adds ps f k ↔ ∃ i, i < k ∧ x = (ps.getD i [], f i) ∧ pat (ps.getD i []) = true := by
  induction k with
  | zero => simp [adds]
  | succ k ih =>
    have := adds_len ps f k
    rw [adds, addR_mem _ _ _ (by omega), ih (by omega)]
    constructor
    · rintro (⟨i, h1, h2⟩ | h)
      · exact ⟨i, by omega, h2⟩
      · exact ⟨k, by omega, h⟩
    · rintro ⟨i, h1, h2⟩
      by_cases e : i = k
      · subst e; exact .inr h2
      · exact .inl ⟨i, by omega, h2⟩
def idx (i : Nat) : Int := (i : Int)
def want (ps : List (List UInt8)) (s : List UInt8) (k : Nat) : List Int := ((List.range k).filter (fun i => mat (ps.getD i []) s)).map idx
theorem want_succ (ps : List (List UInt8)) (s : List UInt8) (k : Nat) : want ps s (k + 1) = if mat (ps.getD k []) s = true then want ps s k ++ [(k : Int)] else want ps s k := by
  unfold want
  rw [List.range_succ, List.filter_append, List.map_append]
  split
  · rename_i h
    simp only [List.filter, h]
    rfl
  · rename_i h
    have h : mat (ps.getD k []) s = false := by simpa using h
    simp only [List.filter, h]
    simp
theorem want_len (ps : List (List UInt8)) (s : List UInt8) (k : Nat) : (want ps s k).length ≤ k := by
  unfold want
  rw [List.length_map]
  exact Nat.le_trans (List.length_filter_le _ _) (by rw [List.length_range]; exact Nat.le_refl _)
theorem want_mem (ps : List (List UInt8)) (s : List UInt8) (k : Nat) (z : Int) : z ∈ want ps s k ↔ ∃ i, i < k ∧ mat (ps.getD i []) s = true ∧ idx i = z := by
  unfold want
  simp only [List.mem_map, List.mem_filter, List.mem_range]
  constructor
  · rintro ⟨i, ⟨h1, h2⟩, h3⟩; exact ⟨i, h1, h2, h3⟩
  · rintro ⟨i, h1, h2, h3⟩; exact ⟨i, ⟨h1, h2⟩, h3⟩
theorem want_rising (ps : List (List UInt8)) (s : List UInt8) (k : Nat) : RisI (want ps s k) := by
  induction k with
  | zero => exact List.Pairwise.nil
  | succ k ih =>
    rw [want_succ]
    split
    · unfold RisI
      rw [List.pairwise_append]
      refine ⟨ih, List.pairwise_singleton _ _, fun a ha b hb => ?_⟩
      obtain ⟨i, h1, _, rfl⟩ := (want_mem ps s k a).1 ha
      simp only [List.mem_singleton] at hb
      subst hb
      unfold idx
      omega
    · exact ih
theorem mat_pat {p s : List UInt8} (h : mat p s = true) : pat p = true := by
  unfold mat covers at h
  cases hp : pat p with
  | true => rfl
  | false => rw [hp] at h; simp at h
theorem find_want (ps : List (List UInt8)) (s : List UInt8) (k : Nat) (hk : k ≤ 64) : findP (adds ps idx k) s = want ps s k := by
  refine risI_ext _ _ (find_rising _ _) (want_rising _ _ _) (fun z => ?_)
  rw [find_mem, want_mem]
  constructor
  · rintro ⟨p, h1, h2, h3⟩
    obtain ⟨i, hi, rfl, _⟩ := (adds_mem ps idx k hk p).1 h1
    exact ⟨i, hi, h2, h3⟩
  · rintro ⟨i, hi, h2, h3⟩
    exact ⟨_, (adds_mem ps idx k hk _).2 ⟨i, hi, rfl, mat_pat h2⟩, h2, h3⟩
end Go.Proofs.YtcicnbbnkeellaaGreatDoor

namespace Go.Proofs.YtcicnbbnkeellaaGreatDoor
open Go.RowKit Go.Lib
set_option maxRecDepth 100000

theorem txt_at {w wr : World} {a : Option Addr} {n c : Nat} {ps : List (List UInt8)} (h : To.RdV w (.slice a n c) (ps.map str)) (hb : Below w.heap.size w wr) {k : Nat} (hk : k < ps.length) :
    ∃ b o, a = some ⟨b, o, none⟩ ∧ wr.cell? ⟨b, o + k, none⟩ = some (.string ⟨(ps.getD k []).toArray⟩) := by
  obtain ⟨b, o, h1, h2⟩ := To.RdV.at (h.on hb) (j := k) (by rw [List.length_map]; exact hk)
  refine ⟨b, o, h1, ?_⟩
  rw [h2]
  simp [str, hk]
theorem getD_len {ps : List (List UInt8)} {B : Nat} (h : ∀ x ∈ ps, x.length ≤ B) (k : Nat) : (ps.getD k []).length ≤ B := by
  by_cases hk : k < ps.length
  · have := h _ (List.getElem_mem hk)
    simpa [hk] using this
  · simp [hk]

set_option maxHeartbeats 4000000 in
theorem matches_law (w : World) (hv : To.Vars w) (vp vn : Value) (ps ns : List (List UInt8)) (hp : To.RdV w vp (ps.map str)) (hn : To.RdV w vn (ns.map str)) (hpl : ∀ x ∈ ps, x.length ≤ maxLen) :
    Calls Tryz.prog 6 #[vp, vn] w fun e w' => e = .returned (.bool true) ∧ Below w.heap.size w w' := by
  have hwk := wakes_any w hv
  obtain ⟨ap, cp, rfl⟩ := hp.len
  obtain ⟨an, cn, rfl⟩ := hn.len
  rw [List.length_map] at hp hn ⊢
  rw [List.length_map]
  obtain ⟨n, hnn⟩ : ∃ n, ps.length = n := ⟨_, rfl⟩
  obtain ⟨m, hmm⟩ : ∃ m, ns.length = m := ⟨_, rfl⟩
  rw [hnn] at hp ⊢
  rw [hmm] at hn ⊢
  have HN : Hid (ps.length = n) := hnn
  have HM : Hid (ns.length = m) := hmm
  have HP : Hid (To.RdV w (.slice ap n cp) (ps.map str)) := hp
  have HNS : Hid (To.RdV w (.slice an m cn) (ns.map str)) := hn
  have HL : Hid (∀ k, (ps.getD k []).length ≤ 9223372036854775807) := fun k => getD_len hpl k
  have HV : Hid (To.Vars w) := hv
  clear hp hn hpl hnn hmm hv
  by_cases hA : 60 < n
  · have hAz : (60 : Int) < (n : Int) := by omega
    go_enter Tryz.func6, Tryz.ntmps6
    go_wp2_with (go_at_call 8; refine hwk.mono ?_; rintro e w1 ⟨rfl, hb1⟩)
    go_ret
    exact ⟨rfl, hb1⟩
  have hAz : ¬ (60 : Int) < (n : Int) := by omega
  by_cases hB : 40 < m
  · have hBz : (40 : Int) < (m : Int) := by omega
    go_enter Tryz.func6, Tryz.ntmps6
    go_wp2_with (go_at_call 8; refine hwk.mono ?_; rintro e w1 ⟨rfl, hb1⟩)
    go_ret
    exact ⟨rfl, hb1⟩
  have hBz : ¬ (40 : Int) < (m : Int) := by omega
  go_enter Tryz.func6, Tryz.ntmps6
  go_wp2_with fail
  refine hwk.mono ?_
  rintro e w1 ⟨rfl, hb1⟩
  have hnew := new_st (K := fun _ => False) hb1 (fun b h => h.elim)
  clear hwk
  go_wp2_with fail
  refine hnew.mono ?_
  rintro e w2 ⟨rfl, h2, _⟩
  obtain ⟨t, ht⟩ : ∃ t, w1.heap.size + 2 = t := ⟨_, rfl⟩
  rw [ht] at h2 ⊢
  have H2 : Hid (St w (fun _ => False) w2 t 0 []) := h2
  clear h2 hnew hb1 ht
  go_wp2_with fail
  go_loopg [6, 7, 26] n (fun gg _ _ s26 wr => ∃ kk : Nat, kk ≤ n ∧ n - kk ≤ gg ∧ s26 = .int .i64 kk ∧ Hid (St w (fun _ => False) wr t (8 * kk) (adds ps idx kk)))
  case atStart => exact ⟨0, Nat.zero_le _, by omega, rfl, H2.out⟩
  case round =>
    obtain ⟨kk, hkk, hg, rfl, HS⟩ := hrel
    clear H2
    by_cases hlt : kk < n
    · have hltz : (kk : Int) < (n : Int) := by omega
      obtain ⟨b, o, rfl, hc⟩ := txt_at HP.out HS.out.below (k := kk) (by rw [HN.out]; exact hlt)
      have ha := HS.out.add HV.out (ps.getD kk []) (HL.out kk) (idx kk) (by omega)
      simp only [str, idx] at ha
      generalize hx : (⟨(ps.getD kk []).toArray⟩ : ByteArray) = x at hc ha
      clear hx
      go_wp2_with fail
      refine ha.mono ?_
      rintro e w3 ⟨rfl, h3, _⟩
      have H3 : Hid (St w (fun _ => False) w3 t (8 * (kk + 1)) (adds ps idx (kk + 1))) := h3
      clear h3 ha hc HS
      go_wp2
      go_roundg (n - (kk + 1))
      case measure => omega
      case rel => exact ⟨kk + 1, by omega, by omega, by go_num, H3.out⟩
    · have hltz : ¬ (kk : Int) < (n : Int) := by omega
      obtain rfl : kk = n := by omega
      clear hg hkk
      go_wp2_with fail
      go_loopg [9, 10, 11, 12, 38] m (fun gg _ _ _ _ s38 wy => ∃ jj : Nat, jj ≤ m ∧ m - jj ≤ gg ∧ s38 = .int .i64 jj ∧ Hid (St w (fun _ => False) wy t (8 * kk) (adds ps idx kk)))
      case atStart => exact ⟨0, Nat.zero_le _, by omega, rfl, HS.out⟩
      case round =>
        obtain ⟨jj, hjj, hg, rfl, HS2⟩ := hrel
        clear HS
        by_cases hlj : jj < m
        · have hljz : (jj : Int) < (m : Int) := by omega
          obtain ⟨b2, o2, rfl, hc2⟩ := txt_at HNS.out HS2.out.below (k := jj) (by rw [HM.out]; exact hlj)
          obtain ⟨s, hs⟩ : ∃ s, ns.getD jj [] = s := ⟨_, rfl⟩
          rw [hs] at hc2
          obtain ⟨wy, hwy⟩ : ∃ wy, wy = wr := ⟨_, rfl⟩
          subst hwy
          clear hs
          go_wp2_with fail
          go_loopg [10, 11, 12, 44] kk (fun gg s10 _ _ s44 wz => ∃ (i : Nat) (a : Option Addr) (q c : Nat), i ≤ kk ∧ kk - i ≤ gg ∧ s44 = .int .i64 i ∧ s10 = .slice a q c ∧ Hid (To.OwnV 3 wz wy.heap.size (.slice a q c) (ints (want ps s i))) ∧ Hid (Below wy.heap.size wy wz))
          case atStart => exact ⟨0, none, 0, 0, Nat.zero_le _, by omega, rfl, rfl, To.OwnV.nil _ _ _, Below.refl _ _⟩
          case round =>
            obtain ⟨i, av, qv, cv, hik, hgi, rfl, rfl, HO, HB⟩ := hrel
            have HSz : Hid (St w (fun _ => False) wr t (8 * kk) (adds ps idx kk)) := HS2.out.on HB.out
            by_cases hli : i < kk
            · have hliz : (i : Int) < (kk : Int) := by omega
              obtain ⟨b, o, rfl, hc⟩ := txt_at HP.out HSz.out.below (k := i) (by rw [HN.out]; exact hli)
              have hma := To.match_any wr (HSz.out.vars HV.out) (ps.getD i []) s
              have hws := want_succ ps s i
              have hwl := want_len ps s i
              generalize mat (ps.getD i []) s = r at hma hws
              simp only [To.str] at hma
              generalize hx : (⟨(ps.getD i []).toArray⟩ : ByteArray) = x at hc hma
              clear hx
              cases r with
              | false =>
                rw [if_neg (by simp)] at hws
                have HW : Hid (want ps s (i + 1) = want ps s i) := hws
                clear hws
                go_wp2_with fail
                refine hma.mono ?_
                rintro e w5 ⟨rfl, hb5⟩
                have HO5 : Hid (To.OwnV 3 w5 wy.heap.size (.slice av qv cv) (ints (want ps s (i + 1)))) := by
                  show To.OwnV _ _ _ _ _
                  rw [HW.out]
                  exact HO.out.on hb5
                have HB5 : Hid (Below wy.heap.size wy w5) := nxt HB.out hb5
                clear hma hb5 HO HB HSz hc hc2
                go_wp2
                go_roundg (kk - (i + 1))
                case measure => omega
                case rel => exact ⟨i + 1, av, qv, cv, by omega, by omega, by go_num, rfl, HO5.out, HB5.out⟩
              | true =>
                rw [if_pos rfl] at hws
                have HW : Hid (want ps s (i + 1) = want ps s i ++ [(i : Int)]) := hws
                clear hws
                go_wp2_with fail
                refine hma.mono ?_
                rintro e w5 ⟨rfl, hb5⟩
                have ho5 := HO.out.on hb5
                have hb6 : Below wy.heap.size wy w5 := nxt HB.out hb5
                have HO5 : Hid (To.OwnV 3 (w5.alloc (.cells #[.int .i64 (i : Int)] 3)) wy.heap.size (.slice av qv cv) (ints (want ps s i))) := ho5.on ((Below.refl _ _).alloc (Nat.le_refl _) _)
                have HB5 : Hid (Below wy.heap.size wy w5) := hb6
                have hsz5 := hb6.size
                have hll : (ints (want ps s i)).length + [Value.int .i64 (i : Int)].length ≤ 1000000 := by simp [ints]; omega
                clear hma hb5 HO HB HSz hc hc2 ho5 hb6
                go_wp2_with (at_builtin; refine To.wpl_appV cI rfl _ _ rfl wy.heap.size (.slice av qv cv) (.slice (some ⟨w5.heap.size, 0, none⟩) 1 1) (ints (want ps s i)) [.int .i64 (i : Int)] _ rfl HO5.out rfl (To.new_x3 _ _) (fun u hu => by simp at hu; subst hu; rfl) hll (by simp; omega) ?_; intro v' w' hO3 hB3 hK3)
                obtain ⟨a3, c3, rfl, _⟩ := hO3.out.len
                have HO6 : Hid (To.OwnV 3 w' wy.heap.size (.slice a3 (ints (want ps s i) ++ [Value.int .i64 (i : Int)]).length c3) (ints (want ps s (i + 1)))) := by
                  show To.OwnV _ _ _ _ _
                  rw [HW.out]
                  have h9 := hO3.out
                  unfold ints at h9 ⊢
                  rw [List.map_append]
                  exact h9
                have HB6 : Hid (Below wy.heap.size wy w') := (HB5.out.alloc hsz5 _).trans hB3.out
                generalize (ints (want ps s i) ++ [Value.int .i64 (i : Int)]).length = q3 at *
                clear hO3 hB3 hK3 HO5 HB5 hll
                go_wp2
                go_roundg (kk - (i + 1))
                case measure => omega
                case rel => exact ⟨i + 1, a3, q3, c3, by omega, by omega, by go_num, rfl, HO6.out, HB6.out⟩
            · have hliz : ¬ (i : Int) < (kk : Int) := by omega
              obtain rfl : i = kk := by omega
              have hf := HSz.out.find HV.out s
              rw [find_want ps s i (by omega)] at hf
              simp only [str] at hf
              clear hc2
              go_wp2_with fail
              refine hf.mono ?_
              rintro e w6 ⟨v6, rfl, ho6, hb6⟩
              have hsa := To.same_any w6 v6 (.slice av qv cv) (want ps s i) (want ps s i) ho6.rd (HO.out.rd.on hb6) (by have := want_len ps s i; omega)
              have HS6 : Hid (St w (fun _ => False) w6 t (8 * i) (adds ps idx i)) := HSz.out.on hb6
              rw [decide_eq_true rfl] at hsa
              clear hf HO HB HSz ho6 hb6
              go_wp2_with fail
              refine hsa.mono ?_
              rintro e w7 ⟨rfl, d7, rfl⟩
              have HS7 : Hid (St w (fun _ => False) (w6.drewN d7) t (8 * i) (adds ps idx i)) := HS6.out.on (To.below_drawn _ _)
              clear hsa HS6
              go_wp2
              go_roundg (m - (jj + 1))
              case measure => omega
              case rel => exact ⟨jj + 1, by omega, by omega, by go_num, HS7.out⟩
        · have hljz : ¬ (jj : Int) < (m : Int) := by omega
          have HB : Hid (Below w.heap.size w wr) := HS2.out.below
          go_wp2
          go_ret
          exact ⟨rfl, HB.out⟩
end Go.Proofs.YtcicnbbnkeellaaGreatDoor

set_option maxRecDepth 100000
namespace Go.Proofs.YtcicnbbnkeellaaGreatDoor
open Go.RowKit Go.Lib

theorem own : ownKnob Tryz.prog.godebug = none := by kernel_rfl
theorem laidOut : laidOutB Tryz.prog = true := by kernel_rfl

theorem trodAll_cons_mk {H : Type} {enc : TypeId × Value → H} {P : Program} {w : World} {base : Nat} {sp : Nat → Bool} {held : Bool} {t : TypeId} {ts : List TypeId} {v : Value} {vs : List Value} {d : DataW H} {ds : List (DataW H)} {p q : List MemPlace}
    (h : DataW.Trod enc P w base sp held t v d p) (hr : DataW.TrodAll enc P w base sp held ts vs ds q) : DataW.TrodAll enc P w base sp held (t :: ts) (v :: vs) (d :: ds) (p ++ q) := ⟨p, q, h, hr, rfl⟩
theorem trodAll_mk0 {H : Type} {enc : TypeId × Value → H} {P : Program} {w : World} {base : Nat} {sp : Nat → Bool} {held : Bool} : DataW.TrodAll enc P w base sp held [] [] [] [] := rfl

theorem vars_of_shape {W : World} (hsh : W.ShapedOpen Tryz.prog) : To.Vars W :=
  ⟨Go.Proofs.cell_of_shapedOpen_int (zero := #[.int .i64 0]) (t := 3) hsh (of_decide_eq_true (by kernel_rfl)) (by kernel_rfl) rfl (by kernel_rfl) (by kernel_rfl) Tryz.underlying3⟩

/-- A statement over variables that are laid, in a world that has its shape. -/
theorem returns_and_shaped {H : Type} {enc : TypeId × Value → H} {a : Assume} {C : Checked} {os : Os} {f : FuncId} {fn : Func} {s : ChangeSpec} {conds : List PathCond} {apart fresh handsOn again : Bool} {X : World → Array Value → Prop}
    (hX : ∀ (w w' : World) (args : Array Value), w.heap = w'.heap → X w args → X w' args)
    (own : ownKnob C.prog.godebug = none) (started : os.Started) (noInit : C.prog.inits.idxOf? f = none) (hfn : C.prog.funcs[f]? = some fn)
    (witness : ∃ (w : World) (tape : Tape) (i : Input), w.os = os ∧ (w.forCall tape i).Shaped C.prog ∧ i.vars = [] ∧ Input.okWide C.prog (w.forCall tape i) .any w.heap.size f i ∧
      ((s.pre enc C.prog fn conds apart (w.forCall tape i).memory i.args ∧ X (w.forCall tape i).memory i.args) ∧ sizedMet enc C.prog fn (OpenSpec.ofChange s) apart (w.forCall tape i).memory i.args) ∧ a.holds C.prog (lone (Frame.enter C.prog f i.args .normal) [] (w.forCall tape i)))
    (contract : ∀ (W : World) (base : Nat) (args : Array Value) (ds gs : List (DataW H)) (before : List MemPlace),
      (∀ (j : Nat) t v, fn.params[j]? = some t → args[j]? = some v → Value.okWide C.prog W .any base t v) →
      DataW.Whole enc C.prog fn.params.toList s.vars apart W args.toList ds gs before →
      (DataW.weightsEach C.prog (fn.params.toList ++ s.plain.varTypes C.prog) (ds ++ gs)).all (· ≤ reachBytes) = true → X W args → W.ShapedOpen C.prog →
      Calls C.prog f args W fun e W' => ∃ v, e = .returned v ∧ s.post enc C.prog fn apart fresh handsOn again W args v W') :
    ReturnsInHanded a C os f .any (fun w args => (s.pre enc C.prog fn conds apart w args ∧ X w args) ∧ sizedMet enc C.prog fn (OpenSpec.ofChange s) apart w args) (s.post enc C.prog fn apart fresh handsOn again) := by
  refine returnsInHanded_of_calls own started noInit witness ?_
  intro w tape i _ hsh _ hok hpre hholds
  obtain ⟨_, _, _, fn', hfn', _, _, _, _, hval⟩ := hok
  obtain rfl : fn' = fn := Option.some.inj (hfn'.symm.trans hfn)
  obtain ⟨⟨⟨ds, gs, before, hw, hc⟩, hx⟩, hz⟩ := hpre
  refine (contract (w.forCall tape i) w.heap.size i.args ds gs before hval (DataW.Whole.of_heap (w' := w.forCall tape i) (by rfl) hw) (hz.weights hw) (hX _ _ _ (by rfl) hx) hsh).mono fun e W' ⟨v, he, hp⟩ => ?_
  subst he
  exact ChangeSpec.post_blind hp
end Go.Proofs.YtcicnbbnkeellaaGreatDoor

namespace Go.Proofs.YtcicnbbnkeellaaGreatDoor
open Go.RowKit Go.Lib
set_option maxRecDepth 100000

structure St2 (w0 W : World) (ta Na : Nat) (la : List Pr) (tb Nb : Nat) (lb : List Pr) : Prop where
  tr : ∃ X Y, PT W X ta Na la ∧ PT W Y tb Nb lb ∧ (∀ b, X b → w0.heap.size ≤ b) ∧ (∀ b, Y b → w0.heap.size ≤ b) ∧ ∀ b, X b → ¬ Y b
  below : Below w0.heap.size w0 W
theorem St2.swap {w0 W : World} {ta Na tb Nb : Nat} {la lb : List Pr} (h : St2 w0 W ta Na la tb Nb lb) : St2 w0 W tb Nb lb ta Na la := by
  obtain ⟨X, Y, h1, h2, h3, h4, h5⟩ := h.tr
  exact ⟨⟨Y, X, h2, h1, h4, h3, fun b hy hx => h5 b hx hy⟩, h.below⟩
theorem St2.on {w0 W w' : World} {ta Na tb Nb : Nat} {la lb : List Pr} (h : St2 w0 W ta Na la tb Nb lb) (hb : Below W.heap.size W w') : St2 w0 w' ta Na la tb Nb lb := by
  obtain ⟨X, Y, h1, h2, h3, h4, h5⟩ := h.tr
  exact ⟨⟨X, Y, h1.below hb, h2.below hb, h3, h4, h5⟩, nxt h.below hb⟩
theorem St2.facts {w0 W : World} {ta Na tb Nb : Nat} {la lb : List Pr} (h : St2 w0 W ta Na la tb Nb lb) : (∀ x ∈ la, pat x.1 = true) ∧ Rising la ∧ la.length ≤ 64 := by
  obtain ⟨X, Y, h1, h2, h3, h4, h5⟩ := h.tr
  exact h1.facts
theorem St2.one {w0 W : World} {ta Na tb Nb : Nat} {la lb : List Pr} (h : St2 w0 W ta Na la tb Nb lb) : St w0 (fun _ => False) W ta Na la := by
  obtain ⟨X, Y, h1, h2, h3, h4, h5⟩ := h.tr
  exact ⟨⟨X, h1, fun b hx => ⟨h3 b hx, fun h => h⟩⟩, h.below, fun b h => h.elim⟩
theorem St2.of_fr {w0 W w' : World} {ta Na' tb Nb : Nat} {la' lb : List Pr} {X X' Y : Nat → Prop} (h2 : PT W Y tb Nb lb) (h3 : ∀ b, X b → w0.heap.size ≤ b) (h4 : ∀ b, Y b → w0.heap.size ≤ b) (h5 : ∀ b, X b → ¬ Y b) (hb : Below w0.heap.size w0 W)
    (h6 : PT w' X' ta Na' la') (h7 : Fr X X' W w') : St2 w0 w' ta Na' la' tb Nb lb := by
  refine ⟨⟨X', Y, h6, h2.apart h7 (fun b hy hx => h5 b hx hy), fun b hx => ?_, h4, fun b hx hy => ?_⟩, hb.trans (h7.below h3 hb.size)⟩
  · rcases h7.new b hx with h | h
    · exact h3 b h
    · exact Nat.le_trans hb.size h
  · rcases h7.new b hx with h | h
    · exact h5 b h hy
    · have := h2.lt hy
      omega
theorem St.new2 {w0 W : World} {ta Na : Nat} {la : List Pr} (h : St w0 (fun _ => False) W ta Na la) : Calls Tryz.prog 9 #[] W fun e w' => e = .returned (.pointer (some ⟨W.heap.size + 2, 0, none⟩)) ∧ St2 w0 w' ta Na la (W.heap.size + 2) 0 [] := by
  obtain ⟨Y, h1, h2⟩ := h.tr
  refine (new_any W).mono ?_
  rintro e w' ⟨rfl, X, h3, h4⟩
  exact ⟨rfl, (St2.of_fr (X := fun _ => False) h1 (fun b h => h.elim) (fun b hy => (h2 b hy).1) (fun b h => h.elim) h.below h3 h4).swap⟩
theorem St2.add {w0 W : World} {ta Na tb Nb : Nat} {la lb : List Pr} (h : St2 w0 W ta Na la tb Nb lb) (hv : To.Vars w0) (p : List UInt8) (hpl : p.length ≤ 9223372036854775807) (z : Int) (hN : Na ≤ 1000000) :
    Calls Tryz.prog 10 #[.pointer (some ⟨ta, 0, none⟩), str p, .int .i64 z] W fun e w' => e = .returned (.int .i64 (addC la p z)) ∧ St2 w0 w' ta (Na + 8) (addR la p z) tb Nb lb := by
  obtain ⟨X, Y, h1, h2, h3, h4, h5⟩ := h.tr
  refine (add_any W X ta Na la h1 (hv.below h.below) p hpl z hN).mono ?_
  rintro e w' ⟨rfl, X', h6, h7⟩
  exact ⟨rfl, St2.of_fr h2 h3 h4 h5 h.below h6 h7⟩
theorem St2.drop {w0 W : World} {ta Na tb Nb : Nat} {la lb : List Pr} (h : St2 w0 W ta Na la tb Nb lb) (p : List UInt8) (hpl : p.length ≤ 9223372036854775807) (z : Int) :
    Calls Tryz.prog 12 #[.pointer (some ⟨ta, 0, none⟩), str p, .int .i64 z] W fun e w' => e = .returned (.int .i64 (if (p, z) ∈ la then 0 else 33)) ∧ St2 w0 w' ta Na (la.erase (p, z)) tb Nb lb := by
  obtain ⟨X, Y, h1, h2, h3, h4, h5⟩ := h.tr
  refine (drop_any W X ta Na la h1 p hpl z).mono ?_
  rintro e w' ⟨rfl, X', h6, h7⟩
  exact ⟨rfl, St2.of_fr h2 h3 h4 h5 h.below h6 h7⟩

def rem5 (i : Nat) : Int := ((i % 5 : Nat) : Int)
/-- What the pairs from k on are. -/
def Back (ps : List (List UInt8)) (n k : Nat) (l : List Pr) : Prop := ∀ x, x ∈ l ↔ ∃ i, k ≤ i ∧ i < n ∧ x = (ps.getD i [], rem5 i) ∧ pat (ps.getD i []) = true
theorem Back.few {ps : List (List UInt8)} {n k : Nat} {l : List Pr} (h : Back ps n k l) (hr : Rising l) : l.length ≤ n := by
  have := nodup_len l ((List.range n).map (fun i => (ps.getD i [], rem5 i))) (rising_nodup l hr) (fun x hx => by
    obtain ⟨i, _, h2, rfl, _⟩ := (h x).1 hx
    exact List.mem_map.2 ⟨i, List.mem_range.2 h2, rfl⟩)
  rw [List.length_map, List.length_range] at this
  exact this
theorem Back.step {ps : List (List UInt8)} {n k : Nat} {l : List Pr} (h : Back ps n (k + 1) l) (hk : k < n) (hl : l.length ≤ 40) (hr : Rising (addR (addR l (ps.getD k []) 99) (ps.getD k []) (rem5 k))) : Back ps n k ((addR (addR l (ps.getD k []) 99) (ps.getD k []) (rem5 k)).erase (ps.getD k [], 99)) := by
  intro x
  have h9 : ∀ i, rem5 i ≠ 99 := fun i => by unfold rem5; omega
  have hl2 := addR_len l (ps.getD k []) 99
  rw [drop_mem _ _ _ hr, addR_mem _ _ _ (by omega), addR_mem _ _ _ (by omega), h x]
  constructor
  · rintro ⟨hne, (⟨i, h1, h2, h3⟩ | ⟨h1, h2⟩) | ⟨h1, h2⟩⟩
    · exact ⟨i, by omega, h2, h3⟩
    · exact absurd h1 hne
    · exact ⟨k, Nat.le_refl _, hk, h1, h2⟩
  · rintro ⟨i, h1, h2, h3, h4⟩
    refine ⟨fun e => ?_, ?_⟩
    · rw [h3] at e
      exact h9 i (congrArg Prod.snd e)
    · by_cases e : i = k
      · subst e
        exact .inr ⟨h3, h4⟩
      · exact .inl (.inl ⟨i, by omega, h2, h3, h4⟩)
theorem Back.all {ps : List (List UInt8)} {n : Nat} {l : List Pr} (h : Back ps n 0 l) (hr : Rising l) (hn : n ≤ 40) (ha : Rising (adds ps rem5 n)) : l = adds ps rem5 n := by
  refine rising_ext _ _ hr ha (fun y => ?_)
  rw [h y, adds_mem ps rem5 n (by omega)]
  constructor
  · rintro ⟨i, _, h2⟩; exact ⟨i, h2⟩
  · rintro ⟨i, h2⟩; exact ⟨i, Nat.zero_le _, h2⟩
end Go.Proofs.YtcicnbbnkeellaaGreatDoor

namespace Go.Proofs.YtcicnbbnkeellaaGreatDoor
open Go.RowKit Go.Lib
set_option maxRecDepth 100000

theorem rem5_eq (k : Nat) : (k : Int).tmod 5 = rem5 k := by
  unfold rem5
  rw [Int.tmod_eq_emod_of_nonneg (by omega)]
  omega

set_option maxHeartbeats 4000000 in
theorem finds_law (w : World) (hv : To.Vars w) (vp vn : Value) (ps ns : List (List UInt8)) (hp : To.RdV w vp (ps.map str)) (hn : To.RdV w vn (ns.map str)) (hpl : ∀ x ∈ ps, x.length ≤ maxLen) :
    Calls Tryz.prog 4 #[vp, vn] w fun e w' => e = .returned (.bool true) ∧ Below w.heap.size w w' := by
  have hwk := wakes_any w hv
  obtain ⟨ap, cp, rfl⟩ := hp.len
  obtain ⟨an, cn, rfl⟩ := hn.len
  rw [List.length_map] at hp hn ⊢
  rw [List.length_map]
  obtain ⟨n, hnn⟩ : ∃ n, ps.length = n := ⟨_, rfl⟩
  obtain ⟨m, hmm⟩ : ∃ m, ns.length = m := ⟨_, rfl⟩
  rw [hnn] at hp ⊢
  rw [hmm] at hn ⊢
  have HN : Hid (ps.length = n) := hnn
  have HM : Hid (ns.length = m) := hmm
  have HP : Hid (To.RdV w (.slice ap n cp) (ps.map str)) := hp
  have HNS : Hid (To.RdV w (.slice an m cn) (ns.map str)) := hn
  have HL : Hid (∀ k, (ps.getD k []).length ≤ 9223372036854775807) := fun k => getD_len hpl k
  have HV : Hid (To.Vars w) := hv
  clear hp hn hpl hnn hmm hv
  by_cases hA : 40 < n
  · have hAz : (40 : Int) < (n : Int) := by omega
    go_enter Tryz.func4, Tryz.ntmps4
    go_wp2_with (go_at_call 8; refine hwk.mono ?_; rintro e w1 ⟨rfl, hb1⟩)
    go_ret
    exact ⟨rfl, hb1⟩
  have hAz : ¬ (40 : Int) < (n : Int) := by omega
  by_cases hB : 40 < m
  · have hBz : (40 : Int) < (m : Int) := by omega
    go_enter Tryz.func4, Tryz.ntmps4
    go_wp2_with (go_at_call 8; refine hwk.mono ?_; rintro e w1 ⟨rfl, hb1⟩)
    go_ret
    exact ⟨rfl, hb1⟩
  have hBz : ¬ (40 : Int) < (m : Int) := by omega
  go_enter Tryz.func4, Tryz.ntmps4
  go_wp2_with fail
  refine hwk.mono ?_
  rintro e w1 ⟨rfl, hb1⟩
  have hnew := new_st (K := fun _ => False) hb1 (fun b h => h.elim)
  clear hwk
  go_wp2_with fail
  refine hnew.mono ?_
  rintro e w2 ⟨rfl, h2, _⟩
  obtain ⟨t, ht⟩ : ∃ t, w1.heap.size + 2 = t := ⟨_, rfl⟩
  rw [ht] at h2 ⊢
  have hnew2 := h2.new2
  clear hnew hb1 ht
  go_wp2_with fail
  refine hnew2.mono ?_
  rintro e w3 ⟨rfl, h3⟩
  obtain ⟨u, hu⟩ : ∃ u, w2.heap.size + 2 = u := ⟨_, rfl⟩
  rw [hu] at h3 ⊢
  have H3 : Hid (St2 w w3 t 0 [] u 0 []) := h3
  clear h2 h3 hnew2 hu
  go_wp2_with fail
  go_loopg [7, 8, 26] n (fun gg _ _ s26 wr => ∃ kk : Nat, kk ≤ n ∧ n - kk ≤ gg ∧ s26 = .int .i64 kk ∧ Hid (St2 w wr t (8 * kk) (adds ps rem5 kk) u 0 []))
  case atStart => exact ⟨0, Nat.zero_le _, by omega, rfl, H3.out⟩
  case round =>
    obtain ⟨kk, hkk, hg, rfl, HS⟩ := hrel
    clear H3
    by_cases hlt : kk < n
    · have hltz : (kk : Int) < (n : Int) := by omega
      obtain ⟨b, o, rfl, hc⟩ := txt_at HP.out HS.out.below (k := kk) (by rw [HN.out]; exact hlt)
      have ha := HS.out.add HV.out (ps.getD kk []) (HL.out kk) (rem5 kk) (by omega)
      have hrem := rem5_eq kk
      have hr1 : 0 ≤ rem5 kk ∧ rem5 kk < 5 := by unfold rem5; omega
      simp only [str] at ha
      generalize hx : (⟨(ps.getD kk []).toArray⟩ : ByteArray) = x at hc ha
      clear hx
      go_wp2_with fail
      refine ha.mono ?_
      rintro e w3 ⟨rfl, h3⟩
      have H3 : Hid (St2 w w3 t (8 * (kk + 1)) (adds ps rem5 (kk + 1)) u 0 []) := h3
      clear h3 ha hc HS
      go_wp2
      go_roundg (n - (kk + 1))
      case measure => omega
      case rel => exact ⟨kk + 1, by omega, by omega, by go_num, H3.out⟩
    · have hltz : ¬ (kk : Int) < (n : Int) := by omega
      obtain rfl : kk = n := by omega
      clear hg hkk
      go_wp2_with fail
      go_loopg [9] kk (fun gg s9 wy => ∃ (k : Nat) (lb : List Pr), k ≤ kk ∧ k ≤ gg ∧ s9 = .int .i64 ((k : Int) - 1) ∧ Hid (St2 w wy t (8 * kk) (adds ps rem5 kk) u (16 * (kk - k)) lb) ∧ Hid (Back ps kk k lb))
      case atStart => exact ⟨kk, [], Nat.le_refl _, Nat.le_refl _, rfl, by rw [Nat.sub_self]; exact HS.out, fun x => ⟨fun h => (by cases h), fun ⟨i, h1, h2, _⟩ => (by omega)⟩⟩
      case round =>
        obtain ⟨k, lb, hkk, hgk, rfl, HS2, HK⟩ := hrel
        clear HS
        cases k with
        | zero =>
          have hkz : ((0 : Nat) : Int) - 1 = -1 := by omega
          rw [hkz]
          have hlb := HK.out.all HS2.out.swap.facts.2.1 (by omega) HS2.out.facts.2.1
          subst hlb
          clear HK hkk hgk
          go_wp2_with fail
          go_loopg [11, 66] m (fun gg _ s66 wy => ∃ jj : Nat, jj ≤ m ∧ m - jj ≤ gg ∧ s66 = .int .i64 jj ∧ Hid (St2 w wy t (8 * kk) (adds ps rem5 kk) u (16 * (kk - 0)) (adds ps rem5 kk)))
          case atStart => exact ⟨0, Nat.zero_le _, by omega, rfl, HS2.out⟩
          case round =>
            obtain ⟨jj, hjj, hg, rfl, HS3⟩ := hrel
            clear HS2
            by_cases hlj : jj < m
            · have hljz : (jj : Int) < (m : Int) := by omega
              obtain ⟨b2, o2, rfl, hc2⟩ := txt_at HNS.out HS3.out.below (k := jj) (by rw [HM.out]; exact hlj)
              obtain ⟨s, hs⟩ : ∃ s, ns.getD jj [] = s := ⟨_, rfl⟩
              rw [hs] at hc2
              have hf := HS3.out.one.find HV.out s
              simp only [str] at hf
              have hfl : (findP (adds ps rem5 kk) s).length ≤ 64 := by
                have h9 := To.fold_len (adds ps rem5 kk) s (adds ps rem5 kk).length
                rw [List.take_length] at h9
                have h8 := adds_len ps rem5 kk
                unfold findP
                omega
              clear hs
              go_wp2_with fail
              refine hf.mono ?_
              rintro e w6 ⟨v6, rfl, ho6, hb6⟩
              have h6 := HS3.out.on hb6
              have hf2 := h6.swap.one.find HV.out s
              simp only [str] at hf2
              have HO6 : Hid (To.RdV w6 v6 (ints (findP (adds ps rem5 kk) s))) := ho6.rd
              clear hf HS3 ho6 hb6 hc2
              go_wp2_with fail
              refine hf2.mono ?_
              rintro e w7 ⟨v7, rfl, ho7, hb7⟩
              have hsa := To.same_any w7 v6 v7 (findP (adds ps rem5 kk) s) (findP (adds ps rem5 kk) s) (HO6.out.on hb7) ho7.rd (by omega)
              rw [decide_eq_true rfl] at hsa
              have HS7 : Hid (St2 w w7 t (8 * kk) (adds ps rem5 kk) u (16 * (kk - 0)) (adds ps rem5 kk)) := h6.on hb7
              clear hf2 h6 ho7 hb7 HO6
              go_wp2_with fail
              refine hsa.mono ?_
              rintro e w8 ⟨rfl, d8, rfl⟩
              have HS8 : Hid (St2 w (w7.drewN d8) t (8 * kk) (adds ps rem5 kk) u (16 * (kk - 0)) (adds ps rem5 kk)) := HS7.out.on (To.below_drawn _ _)
              clear hsa HS7
              go_wp2
              go_roundg (m - (jj + 1))
              case measure => omega
              case rel => exact ⟨jj + 1, by omega, by omega, by go_num, HS8.out⟩
            · have hljz : ¬ (jj : Int) < (m : Int) := by omega
              have hl1 := HS3.out.one.len
              go_wp2_with fail
              refine hl1.mono ?_
              rintro e w6 ⟨rfl, hb6⟩
              have h6 := HS3.out.on hb6
              have hl2 := h6.swap.one.len
              have HB6 : Hid (Below w.heap.size w w6) := h6.below
              clear hl1 HS3 hb6 h6
              go_wp2_with fail
              refine hl2.mono ?_
              rintro e w7 ⟨rfl, hb7⟩
              clear hl2
              go_wp2
              go_ret
              exact ⟨rfl, nxt HB6.out hb7⟩
        | succ k =>
          have hkz : ((k + 1 : Nat) : Int) - 1 = (k : Int) := by omega
          rw [hkz]
          have hk0 : (k : Int) ≥ 0 := by omega
          have hkn : (k : Int) < (kk : Int) := by omega
          obtain ⟨b, o, rfl, hc⟩ := txt_at HP.out HS2.out.below (k := k) (by rw [HN.out]; omega)
          have hrem := rem5_eq k
          have hr1 : 0 ≤ rem5 k ∧ rem5 k < 5 := by unfold rem5; omega
          have hlbl := HK.out.few HS2.out.swap.facts.2.1
          have h2 := HS2.out.swap
          have ha1 := h2.add HV.out (ps.getD k []) (HL.out k) 99 (by omega)
          simp only [str] at ha1
          have hcx : ∀ W, Below w.heap.size w W → W.cell? ⟨b, o + k, none⟩ = some (.string ⟨(ps.getD k []).toArray⟩) := fun W hb => by
            obtain ⟨b', o', e1, e2⟩ := txt_at HP.out hb (k := k) (by rw [HN.out]; omega)
            injection e1 with e1
            injection e1 with e1 e3
            subst e1 e3
            exact e2
          have HCX : Hid _ := hcx
          clear hcx
          go_wp2_with fail
          refine ha1.mono ?_
          rintro e w4 ⟨rfl, h4⟩
          have hc4 := HCX.out w4 h4.below
          have ha2 := h4.add HV.out (ps.getD k []) (HL.out k) (rem5 k) (by omega)
          simp only [str] at ha2
          clear ha1 h2 hc
          go_wp2_with fail
          refine ha2.mono ?_
          rintro e w5 ⟨rfl, h5⟩
          have hc5 := HCX.out w5 h5.below
          have ha3 := h5.drop (ps.getD k []) (HL.out k) 99
          simp only [str] at ha3
          have HK2 : Hid (Back ps kk k _) := HK.out.step (by omega) (by omega) h5.facts.2.1
          clear ha2 h4 hc4
          go_wp2_with fail
          refine ha3.mono ?_
          rintro e w6 ⟨rfl, h6⟩
          have HS6 : Hid (St2 w w6 t (8 * kk) (adds ps rem5 kk) u (16 * (kk - k)) ((addR (addR lb (ps.getD k []) 99) (ps.getD k []) (rem5 k)).erase (ps.getD k [], 99))) := by
            have h9 := h6.swap
            rw [show 16 * (kk - (k + 1)) + 8 + 8 = 16 * (kk - k) by omega] at h9
            exact h9
          clear ha3 h5 hc5 h6 HS2 HK
          go_wp2
          all_goals
            go_roundg k
            case measure => omega
            case rel => exact ⟨k, _, by omega, by omega, by go_num, HS6.out, HK2.out⟩
end Go.Proofs.YtcicnbbnkeellaaGreatDoor

set_option maxRecDepth 100000
namespace Go.Proofs.YtcicnbbnkeellaaGreatDoor
open Go.ChangeShapes Go.WideShapes Go.ChangeAt Go.RowKit Go.Lib
open Go.ChangeMaps (open_string shut_string)

theorem finds_contract (H : Type) (enc : TypeId × Value → H) (W : World) (base : Nat) (args : Array Value) (ds gs : List (DataW H)) (before : List MemPlace)
    (hval : ∀ (j : Nat) t v, Tryz.f4.params[j]? = some t → args[j]? = some v → Value.okWide Tryz.prog W .any base t v)
    (hW : DataW.Whole enc Tryz.prog Tryz.f4.params.toList Rows.trieFindsSpec.vars false W args.toList ds gs before)
    (hsz0 : (DataW.weightsEach Tryz.prog (Tryz.f4.params.toList ++ Rows.trieFindsSpec.plain.varTypes Tryz.prog) (ds ++ gs)).all (· ≤ reachBytes) = true)
    (_hL : laidMetH Tryz.prog Rows.trieFindsRow.laid W) (hsh : W.ShapedOpen Tryz.prog) :
    Calls Tryz.prog 4 args W fun e W' => ∃ v, e = .returned v ∧ Rows.trieFindsSpec.post enc Tryz.prog Tryz.f4 false true false false W args v W' := by
  have hv : To.Vars W := by
    exact vars_of_shape hsh
  have hW' := hW
  obtain ⟨p, q, hA0, hV, rfl, hfz, hnd⟩ := hW
  have hA : DataW.TrodAll enc Tryz.prog W 0 (fun _ => true) true Tryz.f4.params.toList args.toList ds p := hA0
  have hsz := hsz0
  rw [Tryz.params4] at hA hval hsz
  obtain ⟨v0, vs0, d0, ds0, p0, q0, hargs, rfl, rfl, h0, r0⟩ := trodAll_cons hA
  obtain ⟨v1, vs1, d1, ds1, p1, q1, rfl, rfl, rfl, h1, r1⟩ := trodAll_cons r0
  obtain ⟨rfl, rfl, rfl⟩ := trodAll_nil r1
  obtain rfl : args = #[v0, v1] := by cases args; simp_all
  obtain ⟨rfl, rfl⟩ := trodVars_none hV
  have lt0 : ∀ x ∈ p0, x.block < W.heap.size := by obtain ⟨m, hm⟩ := h0; exact DataW.trod_lt m _ _ _ hm
  obtain ⟨a0, len0, cap0, rfl⟩ := okWide_slice Tryz.underlying27 (hval 0 27 v0 rfl rfl)
  obtain ⟨x0, hx0, wx0⟩ := To.rd_texts h0 ⟨_, _, _, rfl⟩
  have lt1 : ∀ x ∈ p1, x.block < W.heap.size := by obtain ⟨m, hm⟩ := h1; exact DataW.trod_lt m _ _ _ hm
  obtain ⟨a1, len1, cap1, rfl⟩ := okWide_slice Tryz.underlying27 (hval 1 27 v1 rfl rfl)
  obtain ⟨x1, hx1, wx1⟩ := To.rd_texts h1 ⟨_, _, _, rfl⟩
  refine (finds_law W hv _ _ x0 x1 hx0 hx1 wx0).mono fun e W' ⟨he, bel⟩ => ?_
  subst he
  exact ⟨_, rfl, _, _, _, [], _, [], hW', trodAll_mk1 (shut_bool Tryz.underlying4 _), (trodAll_cons_mk (Below.trod laidOut (by kernel_rfl) (of_decide_eq_true (by kernel_rfl)) h0 bel lt0) (trodAll_cons_mk (Below.trod laidOut (by kernel_rfl) (of_decide_eq_true (by kernel_rfl)) h1 bel lt1) trodAll_mk0)), rfl, bel.frame _, fun h => by cases h⟩

theorem finds_lifted (os : Os) (started : os.Started) (H : Type) (enc : TypeId × Value → H) :
    ReturnsInHanded {} Tryz.checked os 4 .any (fun w args => (Rows.trieFindsSpec.pre enc Tryz.prog Tryz.f4 [] false w args ∧ laidMetH Tryz.prog Rows.trieFindsRow.laid w) ∧ sizedMet enc Tryz.prog Tryz.f4 (OpenSpec.ofChange Rows.trieFindsSpec) false w args)
      (Rows.trieFindsSpec.post enc Tryz.prog Tryz.f4 false true false false) := by
  refine returns_and_shaped (C := Tryz.checked) (X := fun w _ => laidMetH Tryz.prog Rows.trieFindsRow.laid w) (fun _ _ _ hh h => h.of_heap hh) own started (by kernel_rfl) Tryz.func4
    (ChangeSpec.witness_shaped (enc := enc) (C := Tryz.checked) (os := os) (X := fun w _ => laidMetH Tryz.prog Rows.trieFindsRow.laid w) false (World.laidAll Tryz.prog os Rows.trieFindsRow.laid) #[.slice none 0 0, .slice none 0 0] 8 (World.laidAll_os _ _ _)
      (World.shaped_of_ZipB (by kernel_rfl) (by kernel_rfl)) (by kernel_rfl) (by kernel_rfl) (by kernel_rfl)
      (by rw [MakeChecks.laidMetH_plain _ _ _ (by kernel_rfl)]; exact laidMet_laidAll _ (by kernel_rfl) (by kernel_rfl))) ?_
  intro W base args ds gs before hval hW hsz hL hsh
  exact finds_contract H enc W base args ds gs before hval hW hsz hL hsh

theorem finds_said : Rows.TrieFindsSaid :=
  OpenClaim.holds_of_wide 4 Tryz.f4 rfl rfl rfl rfl rfl rfl rfl ⟨rfl, rfl, rfl, rfl, rfl⟩ rfl rfl rfl rfl rfl (by kernel_rfl) Tryz.func4 (by kernel_rfl)
    (of_decide_eq_true (by kernel_rfl)) (by unfold Func.isWrapper; first | (rw [if_pos (by decide +kernel)]; kernel_rfl) | (rw [if_neg (by decide +kernel)]; exact ⟨rfl, rfl⟩))
    (fun os started H enc _ => finds_lifted os started H enc)

theorem finds_plain (f : FuncId) (fn : Func) (hf : Tryz.pinned.checked.prog.funcNamed "trivet/trivetlaw09.TrieFinds" = some f) (hfn : Tryz.pinned.checked.prog.funcs[f]? = some fn) :
    false = Tryz.pinned.checked.prog.looks [] ∧ ∀ (j : Nat) t, fn.params[j]? = some t → Tryz.pinned.checked.prog.wantsStandIn t = false := by
  obtain rfl : f = 4 := Option.some.inj ((show Tryz.prog.funcNamed "trivet/trivetlaw09.TrieFinds" = some 4 by kernel_rfl).symm.trans hf) |>.symm
  obtain rfl : fn = Tryz.f4 := (Option.some.inj (Tryz.func4.symm.trans hfn)).symm
  refine ⟨by kernel_rfl, fun j t ht => ?_⟩
  rw [Tryz.params4] at ht
  have hm : t ∈ [27, 27] := by simpa using Array.mem_of_getElem? ht
  have hall : ([27, 27].all fun u => !Tryz.prog.wantsStandIn u) = true := by kernel_rfl
  exact (show Tryz.prog.wantsStandIn t = false by simpa using List.all_eq_true.1 hall t hm)

theorem trieFinds_card : Rows.TrieFindsCardSaid :=
  Claim7.holds_tied_plain_at .later [] _ _ _ _ finds_said (fun _ h => by cases h) (by kernel_rfl) (fun _ h => by cases h) trieFinds_row_tie rfl ⟨rfl, rfl⟩ (by kernel_rfl) rfl finds_plain (by kernel_rfl)
#print axioms trieFinds_card
end Go.Proofs.YtcicnbbnkeellaaGreatDoor
