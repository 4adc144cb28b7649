/- What prop.Text answers of values that are no floats. -/
import Derived.Test.YtlhfdklfkfodkabDoorPg
import Derived.Test.YtlhfdklfkfodkabDoorNum
import Derived.Lib.SlBytesConst
namespace Go.Proofs.YtlhfdklfkfodkabDoor
open Go.RowKit Go.Lib Ieee

theorem below_grow (w : World) (k : Nat) (os : Array Obj) : Below w.heap.size w (Sort.grow (w.drewN k) os) :=
  ⟨rfl, rfl, rfl, by simp [Sort.grow, World.drewN], fun j hj => by simp [Sort.grow, World.drewN, Array.getElem?_append, hj]⟩

theorem itoa7 (w : World) (n : Int) (h0 : -9223372036854775808 ≤ n) (h1 : n ≤ 9223372036854775807) (ht : Tab w.heap.size w) :
    Calls Tryd.prog 14 #[.int .i64 n] w fun e w' => e = .returned (.string ⟨(itoa n).toArray⟩) ∧ Below w.heap.size w w' := by
  refine (Tryd.strconv_Itoa n h0 h1 w (ht w (Below.refl _ _))).mono ?_
  rintro e w' ⟨rfl, k, os, rfl⟩
  exact ⟨rfl, below_grow w k os⟩

theorem cons_app (c : UInt8) (l : List UInt8) : (⟨#[c]⟩ : ByteArray) ++ ⟨l.toArray⟩ = ⟨(c :: l).toArray⟩ := by
  apply ByteArray.ext
  simp

set_option maxRecDepth 4000 in
theorem text7_bad (w : World) (x : Val) (hg : goodV x = false) : Calls Tryd.prog 8 #[x.v] w fun e w' => e = .returned (.tuple #[.string ⟨#[]⟩, .int .i64 36]) ∧ Below w.heap.size w w' := by
  obtain ⟨k, n, t, r⟩ := x
  have HG := fun W : World => good7 W ⟨k, n, t, r⟩
  simp only [hg] at HG
  have hb1 : Below w.heap.size w (w.alloc (.cells #[.int .i64 k, .int .i64 n, .string t, .float .f64 r] 32)) := (Below.refl _ w).alloc (Nat.le_refl _) _
  have hs1 : (w.alloc (.cells #[.int .i64 k, .int .i64 n, .string t, .float .f64 r] 32)).heap.size = w.heap.size + 1 := by simp
  unfold Val.v at *
  dsimp only at *
  go_enter Tryd.func8, Tryd.ntmps8
  go_wp2_with fail
  refine (HG _).mono ?_
  rintro e w3 ⟨rfl, hb3⟩
  go_wp2
  go_ret2
  exact ⟨rfl, hb1.trans (hb3.mono (by omega))⟩

set_option maxRecDepth 4000 in
theorem text7_1 (w : World) (n : Int) (h0 : -9223372036854775808 ≤ n) (h1 : n ≤ 9223372036854775807) (ht : Tab w.heap.size w) :
    Calls Tryd.prog 8 #[(⟨1, n, ⟨#[]⟩, 0⟩ : Val).v] w fun e w' => e = .returned (.tuple #[.string ⟨(105 :: itoa n).toArray⟩, .int .i64 0]) ∧ Below w.heap.size w w' := by
  rw [← cons_app]
  have HG := fun W : World => good7 W ⟨1, n, ⟨#[]⟩, 0⟩
  have hg : goodV ⟨1, n, ⟨#[]⟩, 0⟩ = true := by simp [goodV, sameV]
  simp only [hg] at HG
  have hb1 : Below w.heap.size w (w.alloc (.cells #[.int .i64 1, .int .i64 n, .string ⟨#[]⟩, .float .f64 0] 32)) := (Below.refl _ w).alloc (Nat.le_refl _) _
  have hs1 : (w.alloc (.cells #[.int .i64 1, .int .i64 n, .string ⟨#[]⟩, .float .f64 0] 32)).heap.size = w.heap.size + 1 := by simp
  have c0 : (w.alloc (.cells #[.int .i64 1, .int .i64 n, .string ⟨#[]⟩, .float .f64 0] 32)).cell? ⟨w.heap.size, 0, none⟩ = some (.int .i64 1) := World.cell?_alloc_new ..
  have c1 : (w.alloc (.cells #[.int .i64 1, .int .i64 n, .string ⟨#[]⟩, .float .f64 0] 32)).cell? ⟨w.heap.size, 1, none⟩ = some (.int .i64 n) := World.cell?_alloc_new ..
  unfold Val.v at *
  dsimp only at *
  go_enter Tryd.func8, Tryd.ntmps8
  go_wp2_with fail
  refine (HG _).mono ?_
  rintro e w3 ⟨rfl, hb3⟩
  have b3 := hb1.trans (hb3.mono (by omega))
  have hs3 := hb3.size
  have d0 : w3.cell? ⟨w.heap.size, 0, none⟩ = some (.int .i64 1) := by rw [hb3.cell (by dsimp only; omega)]; exact c0
  have d1 : w3.cell? ⟨w.heap.size, 1, none⟩ = some (.int .i64 n) := by rw [hb3.cell (by dsimp only; omega)]; exact c1
  go_wp2_with fail
  refine (itoa7 w3 n h0 h1 ((ht.on b3).mono (by omega))).mono ?_
  rintro e w4 ⟨rfl, hb4⟩
  have hil := itoa_length n h0 h1
  go_wp2
  go_ret2
  exact ⟨rfl, b3.trans (hb4.mono (by omega))⟩
set_option maxRecDepth 4000 in
theorem text7_2 (w : World) (n : Int) (hn : n = 0 ∨ n = 1) (ht : Tab w.heap.size w) :
    Calls Tryd.prog 8 #[(⟨2, n, ⟨#[]⟩, 0⟩ : Val).v] w fun e w' => e = .returned (.tuple #[.string ⟨(98 :: itoa n).toArray⟩, .int .i64 0]) ∧ Below w.heap.size w w' := by
  have h0 : -9223372036854775808 ≤ n := by omega
  have h1 : n ≤ 9223372036854775807 := by omega
  rw [← cons_app]
  have HG := fun W : World => good7 W ⟨2, n, ⟨#[]⟩, 0⟩
  have hg : goodV ⟨2, n, ⟨#[]⟩, 0⟩ = true := by rcases hn with rfl | rfl <;> simp [goodV, sameV]
  simp only [hg] at HG
  have hb1 : Below w.heap.size w (w.alloc (.cells #[.int .i64 2, .int .i64 n, .string ⟨#[]⟩, .float .f64 0] 32)) := (Below.refl _ w).alloc (Nat.le_refl _) _
  have hs1 : (w.alloc (.cells #[.int .i64 2, .int .i64 n, .string ⟨#[]⟩, .float .f64 0] 32)).heap.size = w.heap.size + 1 := by simp
  have c0 : (w.alloc (.cells #[.int .i64 2, .int .i64 n, .string ⟨#[]⟩, .float .f64 0] 32)).cell? ⟨w.heap.size, 0, none⟩ = some (.int .i64 2) := World.cell?_alloc_new ..
  have c1 : (w.alloc (.cells #[.int .i64 2, .int .i64 n, .string ⟨#[]⟩, .float .f64 0] 32)).cell? ⟨w.heap.size, 1, none⟩ = some (.int .i64 n) := World.cell?_alloc_new ..
  unfold Val.v at *
  dsimp only at *
  go_enter Tryd.func8, Tryd.ntmps8
  go_wp2_with fail
  refine (HG _).mono ?_
  rintro e w3 ⟨rfl, hb3⟩
  have b3 := hb1.trans (hb3.mono (by omega))
  have hs3 := hb3.size
  have d0 : w3.cell? ⟨w.heap.size, 0, none⟩ = some (.int .i64 2) := by rw [hb3.cell (by dsimp only; omega)]; exact c0
  have d1 : w3.cell? ⟨w.heap.size, 1, none⟩ = some (.int .i64 n) := by rw [hb3.cell (by dsimp only; omega)]; exact c1
  go_wp2_with fail
  refine (itoa7 w3 n h0 h1 ((ht.on b3).mono (by omega))).mono ?_
  rintro e w4 ⟨rfl, hb4⟩
  have hil := itoa_length n h0 h1
  go_wp2
  go_ret2
  exact ⟨rfl, b3.trans (hb4.mono (by omega))⟩
set_option maxRecDepth 4000 in
theorem text7_3 (w : World) (t : ByteArray) (h : t.size ≤ 256) :
    Calls Tryd.prog 8 #[(⟨3, 0, t, 0⟩ : Val).v] w fun e w' => e = .returned (.tuple #[.string (⟨#[116]⟩ ++ t), .int .i64 0]) ∧ Below w.heap.size w w' := by
  have HG := fun W : World => good7 W ⟨3, 0, t, 0⟩
  have hg : goodV ⟨3, 0, t, 0⟩ = true := by simp [goodV, sameV]; omega
  simp only [hg] at HG
  have hb1 : Below w.heap.size w (w.alloc (.cells #[.int .i64 3, .int .i64 0, .string t, .float .f64 0] 32)) := (Below.refl _ w).alloc (Nat.le_refl _) _
  have hs1 : (w.alloc (.cells #[.int .i64 3, .int .i64 0, .string t, .float .f64 0] 32)).heap.size = w.heap.size + 1 := by simp
  have c0 : (w.alloc (.cells #[.int .i64 3, .int .i64 0, .string t, .float .f64 0] 32)).cell? ⟨w.heap.size, 0, none⟩ = some (.int .i64 3) := World.cell?_alloc_new ..
  have c1 : (w.alloc (.cells #[.int .i64 3, .int .i64 0, .string t, .float .f64 0] 32)).cell? ⟨w.heap.size, 2, none⟩ = some (.string t) := World.cell?_alloc_new ..
  unfold Val.v at *
  dsimp only at *
  go_enter Tryd.func8, Tryd.ntmps8
  go_wp2_with fail
  refine (HG _).mono ?_
  rintro e w3 ⟨rfl, hb3⟩
  have b3 := hb1.trans (hb3.mono (by omega))
  have hs3 := hb3.size
  have d0 : w3.cell? ⟨w.heap.size, 0, none⟩ = some (.int .i64 3) := by rw [hb3.cell (by dsimp only; omega)]; exact c0
  have d1 : w3.cell? ⟨w.heap.size, 2, none⟩ = some (.string t) := by rw [hb3.cell (by dsimp only; omega)]; exact c1
  go_wp2
  go_ret2
  exact ⟨rfl, b3⟩


theorem toList_inj {s t : ByteArray} (h : s.toList = t.toList) : s = t := by
  rw [ByteArray.toList_eq, ByteArray.toList_eq] at h
  exact ByteArray.ext (Array.ext' h)
theorem sameV_eq (a b : Val) : sameV a b = true ↔ a = b := by
  obtain ⟨k, n, t, r⟩ := a
  obtain ⟨k', n', t', r'⟩ := b
  simp only [sameV, Bool.and_eq_true, beq_iff_eq, Val.mk.injEq, Int.natCast_inj]
  constructor
  · rintro ⟨h1, h2, h3, h4⟩
    exact ⟨h1, h2, toList_inj h3, h4⟩
  · rintro ⟨h1, h2, rfl, h4⟩
    exact ⟨h1, h2, rfl, h4⟩
theorem goodV_cases (x : Val) (h : goodV x = true) : (∃ n, x = ⟨1, n, ⟨#[]⟩, 0⟩) ∨ (∃ n, (n = 0 ∨ n = 1) ∧ x = ⟨2, n, ⟨#[]⟩, 0⟩) ∨ (∃ t : ByteArray, t.size ≤ 256 ∧ x = ⟨3, 0, t, 0⟩) ∨ ∃ r, canonB r = r ∧ x = ⟨4, 0, ⟨#[]⟩, r⟩ := by
  unfold goodV at h
  split at h
  · exact .inl ⟨_, (sameV_eq _ _).1 h⟩
  split at h
  · simp only [Bool.and_eq_true, Bool.or_eq_true, beq_iff_eq] at h
    exact .inr (.inl ⟨_, h.1, (sameV_eq _ _).1 h.2⟩)
  split at h
  · simp only [Bool.and_eq_true, decide_eq_true_eq] at h
    exact .inr (.inr (.inl ⟨_, by omega, (sameV_eq _ _).1 h.2⟩))
  split at h
  · have e := (sameV_eq _ _).1 h
    refine .inr (.inr (.inr ⟨x.real, ?_, ?_⟩))
    · have := congrArg Val.real e
      exact this.symm
    · have e2 := congrArg Val.real e
      dsimp only at e2
      rw [← e2] at e
      exact e
  · cases h
end Go.Proofs.YtlhfdklfkfodkabDoor

namespace Go.Proofs.YtlhfdklfkfodkabDoor
open Go.RowKit Go.Lib Ieee

theorem Own.low {w : World} {B B' : Nat} {v : Value} {l : List UInt8} (h : Own w B' v l) (hB : B ≤ B') : Own w B v l := by
  obtain ⟨hl, h⟩ := h
  refine ⟨hl, ?_⟩
  rcases h with h | ⟨g, cap, cur, hv, hb, h⟩
  · exact .inl h
  · exact .inr ⟨g, cap, cur, hv, by omega, h⟩
theorem Own.up {w w' : World} {B : Nat} {v : Value} {l : List UInt8} (h : Own w B v l) (hb : Below w.heap.size w w') : Own w' B v l := by
  obtain ⟨hl, h⟩ := h
  refine ⟨hl, ?_⟩
  rcases h with h | ⟨g, cap, cur, hv, hg, hc, h⟩
  · exact .inl h
  · have hlt : g < w.heap.size := by
      rcases Nat.lt_or_ge g w.heap.size with h1 | h1
      · exact h1
      · rw [Array.getElem?_eq_none h1] at hc; cases hc
    exact .inr ⟨g, cap, cur, hv, hg, by rw [hb.block g hlt]; exact hc, h⟩

/-- Properties' bytes, where tx is what a value's text is. -/
def encQ (tx : Val → List UInt8) (l : List Pr) : List UInt8 := encNs [(l.length : Int)] ++ l.flatMap fun p => encS p.name.toList ++ encS (tx p.val)
def encT (tx : Val → List UInt8) (l : List Pr) (k : Nat) : List UInt8 := encNs [(l.length : Int)] ++ (l.take k).flatMap fun p => encS p.name.toList ++ encS (tx p.val)
theorem encT_s (tx : Val → List UInt8) (l : List Pr) (k : Nat) (h : k < l.length) : encT tx l (k + 1) = encT tx l k ++ encS l[k].name.toList ++ encS (tx l[k].val) := by
  unfold encT
  rw [List.take_succ_eq_append_getElem h, List.flatMap_append]
  simp
theorem encS_len (s : List UInt8) (h : s.length ≤ 1000000) : (encS s).length ≤ s.length + 22 := by
  unfold encS
  have := itoa_length (s.length : Int) (by omega) (by omega)
  simp only [List.length_append, List.length_cons, List.length_nil]
  omega
theorem encT_len (tx : Val → List UInt8) (l : List Pr) (h16 : l.length ≤ 16) (hn : ∀ p ∈ l, p.name.toList.length ≤ 16) (hx : ∀ p ∈ l, (tx p.val).length ≤ 1000) : ∀ k, k ≤ l.length → (encT tx l k).length ≤ 100 + k * 1100
  | 0, _ => by
    have := encNs_length [(l.length : Int)] (by simp; omega)
    simp [encT] at this ⊢
    omega
  | k + 1, h => by
    have ih := encT_len tx l h16 hn hx k (by omega)
    rw [encT_s tx l k (by omega)]
    have h1 := hn l[k] (List.getElem_mem _)
    have h2 := hx l[k] (List.getElem_mem _)
    have := encS_len l[k].name.toList (by omega)
    have := encS_len (tx l[k].val) (by omega)
    simp only [List.length_append]
    omega
theorem encT_all (tx : Val → List UInt8) (l : List Pr) (k : Nat) (h : l.length ≤ k) : encT tx l k = encQ tx l := by
  unfold encT encQ; rw [List.take_of_length_le h]

theorem lit1 (w : World) (n : Nat) (hn : n ≤ 16) : RdN (w.alloc (.cells #[.int .i64 (n : Int)] 3)) (.slice (some ⟨w.heap.size, 0, none⟩) 1 1) [(n : Int)] := by
  refine ⟨fun z hz => by simp at hz; omega, .inr ⟨w.heap.size, 0, 1, rfl, fun i hi => ?_⟩⟩
  rw [World.cell?_alloc_new]
  match i, hi with
  | 0, _ => rfl

set_option maxRecDepth 4000 in
theorem encode7_bad (w : World) (v : Value) (l : List Pr) (h : RdP w v l) (hv : validL l = false) :
    Calls Tryd.prog 6 #[v] w fun e w' => e = .returned (.tuple #[.slice none 0 0, .int .i64 36]) ∧ Below w.heap.size w w' := by
  have HV := valid7 w v l h
  rw [hv] at HV
  go_enter Tryd.func6, Tryd.ntmps6
  go_wp2_with fail
  refine HV.mono ?_
  rintro e w1 ⟨rfl, hb1⟩
  go_wp2
  go_ret2
  exact ⟨rfl, hb1⟩

set_option maxRecDepth 4000 in
theorem encode7_some (w : World) (l : List Pr) (b o c : Nat) (h : ∀ i (h : i < l.length), PrAt w b (o + i * 5) l[i]) (hc : l.length ≤ c) (hv : validL l = true) (tx : Val → List UInt8)
    (HT : ∀ p ∈ l, ∀ W : World, Below w.heap.size w W → Calls Tryd.prog 8 #[p.val.v] W fun e w' => e = .returned (.tuple #[.string ⟨(tx p.val).toArray⟩, .int .i64 0]) ∧ Below W.heap.size W w')
    (hx : ∀ p ∈ l, (tx p.val).length ≤ 1000) (hn : ∀ p ∈ l, p.name.toList.length ≤ 16) (h16 : l.length ≤ 16) (ht : Tab w.heap.size w) :
    Calls Tryd.prog 6 #[.slice (some ⟨b, o, none⟩) l.length c] w fun e w' => ∃ v', e = .returned (.tuple #[v', .int .i64 0]) ∧ Own w' w.heap.size v' (encQ tx l) ∧ Below w.heap.size w w' := by
  have HV := valid7 w _ l (.inr ⟨b, o, c, rfl, hc, h⟩)
  rw [hv] at HV
  have H : Hid (∀ i (h : i < l.length), PrAt w b (o + i * 5) l[i]) := h
  have HL : Hid (∀ k, k ≤ l.length → (encT tx l k).length ≤ 100 + k * 1100) := encT_len tx l h16 hn hx
  have HS : Hid (∀ (k : Nat) (h : k < l.length), encT tx l (k + 1) = encT tx l k ++ encS l[k].name.toList ++ encS (tx l[k].val)) := encT_s tx l
  have HA : Hid (∀ k, l.length ≤ k → encT tx l k = encQ tx l) := encT_all tx l
  have H0 : Hid (encT tx l 0 = [] ++ encNs [(l.length : Int)]) := by show encT tx l 0 = _; simp [encT]
  have HT2 : Hid (∀ (k : Nat) (h : k < l.length) (W : World), Below w.heap.size w W → Calls Tryd.prog 8 #[l[k].val.v] W fun e w' => e = .returned (.tuple #[.string ⟨(tx l[k].val).toArray⟩, .int .i64 0]) ∧ Below W.heap.size W w') := fun k h => HT _ (List.getElem_mem _)
  have HN : Hid (∀ (k : Nat) (h : k < l.length), l[k].name.toList.length ≤ 16 ∧ (tx l[k].val).length ≤ 1000) := fun k h => ⟨hn _ (List.getElem_mem _), hx _ (List.getElem_mem _)⟩
  clear h HT hx hn hv
  go_enter Tryd.func6, Tryd.ntmps6
  go_wp2_with fail
  refine HV.mono ?_
  rintro e w1 ⟨rfl, hb1⟩
  have hs1 := hb1.size
  go_wp2_with fail
  refine (num_any _ _ _ [] [(l.length : Int)] (.inl (.inl ⟨rfl, rfl⟩)) (lit1 w1 l.length h16) (by simp) (((ht.on hb1).on (Below.alloc (Below.refl _ w1) (Nat.le_refl _) _ |>.mono hs1)).mono (by simp; omega))).mono ?_
  rintro e w2 ⟨v2, rfl, ho2, hb2⟩
  have hb12 : Below w1.heap.size w1 w2 := ((Below.refl _ w1).alloc (Nat.le_refl _) _).trans (hb2.mono (by simp))
  have hb02 : Below w.heap.size w w2 := hb1.trans (hb12.mono hs1)
  have ho2' : Own w2 w.heap.size v2 (encT tx l 0) := by rw [H0.out]; exact ho2.low (by simp; omega)
  clear ho2 hb2 hb12 HV H0
  go_wp2_with fail
  go_loopw [4, 18] (fun v i wr => ∃ k : Nat, k ≤ l.length ∧ i = .int .i64 k ∧ Own wr w.heap.size v (encT tx l k) ∧ Below w.heap.size w wr) (fun _ i _ => l.length - (RowKit.intOf i).toNat)
  case atStart => exact ⟨0, by omega, rfl, ho2', hb02⟩
  case round =>
    obtain ⟨k, hk, rfl, ho, hbr⟩ := hrel
    have hwr := hbr.size
    by_cases hlt : k < l.length
    · obtain ⟨a0, a1, a2, a3, a4⟩ := (H.out k hlt).on hbr
      have hT := HT2.out k hlt
      have hS := HS.out k hlt
      have hL := HL.out k hk
      have hN := HN.out k hlt
      obtain ⟨pk, hpk⟩ : ∃ pk, pk = l[k] := ⟨_, rfl⟩
      unfold Val.v at hT
      rw [← hpk] at a0 a1 a2 a3 a4 hT hS hN
      clear hpk
      obtain ⟨tk, htk⟩ : ∃ tk, tk = tx pk.val := ⟨_, rfl⟩
      rw [← htk] at hT hS hN
      clear htk
      obtain ⟨hN1, hN2⟩ := hN
      rw [toList_len] at hN1
      have hSx : ∀ {W : World} {u : Value} {B : Nat}, Own W B u (encT tx l k ++ encS pk.name.data.toList ++ encS tk) → Own W B u (encT tx l (k + 1)) := fun h => by
        rw [hS, ByteArray.toList_eq]; exact h
      have hE := encS_len pk.name.data.toList (by show pk.name.size ≤ _; omega)
      have hE1 : pk.name.data.toList.length = pk.name.size := rfl
      clear hS
      go_wp2_with fail
      refine (hT _ (hbr.alloc hwr _)).mono ?_
      rintro e w3 ⟨rfl, hb3⟩
      have c0 : w3.cell? ⟨wr.heap.size, 0, none⟩ = some (.string pk.name) := by rw [hb3.cell (by simp)]; exact World.cell?_alloc_new ..
      have hbw3 : Below wr.heap.size wr w3 := ((Below.refl _ wr).alloc (Nat.le_refl _) _).trans (hb3.mono (by simp))
      have ho3 := ho.up hbw3
      have hb03 := hbr.trans (hbw3.mono hwr)
      have hs3 := hb03.size
      clear hT hb3 hbw3 ho a0 a1 a2 a3 a4
      go_wp2_with fail
      refine (str_any w3 _ (encT tx l k) pk.name (.inl ho3.rd) (by omega) ((ht.on hb03).mono hs3)).mono ?_
      rintro e w4 ⟨v4, rfl, ho4, hb4⟩
      have hb04 := hb03.trans (hb4.mono hs3)
      have hs4 := hb04.size
      go_wp2_with fail
      refine (str_any w4 v4 (encT tx l k ++ encS pk.name.data.toList) ⟨tk.toArray⟩ (.inl ho4.rd) (by simp only [List.length_append, ByteArray.size, List.size_toArray]; omega) ((ht.on hb04).mono hs4)).mono ?_
      rintro e w5 ⟨v5, rfl, ho5, hb5⟩
      have hb05 := hb04.trans (hb5.mono hs4)
      have ho6 : Own w5 w.heap.size v5 (encT tx l (k + 1)) := hSx (ho5.low hs4)
      clear ho5 hSx
      go_wp2
      go_roundw
      case rel => exact ⟨k + 1, by omega, by go_num, ho6, hb05⟩
      case measure => simp [RowKit.intOf]; omega
    · have h4 := HA.out k (by omega)
      rw [h4] at ho
      go_wp2
      go_ret2
      exact ⟨_, rfl, ho, hbr⟩
end Go.Proofs.YtlhfdklfkfodkabDoor

namespace Go.Proofs.YtlhfdklfkfodkabDoor
open Go.RowKit Go.Lib Ieee

theorem itoa_1 : itoa 1 = [49] := by simp [itoa, decDigits_one]
theorem itoa_2 : itoa 2 = [50] := by simp [itoa, decDigits_one]
theorem itoa_7 : itoa 7 = [55] := by simp [itoa, decDigits_one]
theorem itoa_m5 : itoa (-5) = [45, 53] := by simp [itoa, decDigits_one]
def tx1 (x : Val) : List UInt8 := 105 :: itoa x.num
def pr7 : Pr := ⟨⟨#[97]⟩, ⟨1, 7, ⟨#[]⟩, 0⟩⟩
theorem valid_7 : validL [pr7] = true := by
  have e : goodV ⟨1, 7, ⟨#[]⟩, 0⟩ = true := by simp [goodV, sameV]
  simp [validL, canB, nameL, pr7, rising, e, inN]
theorem enc_7 : encQ tx1 [pr7] = [49, 59, 49, 58, 97, 44, 50, 58, 105, 55, 44] := by
  simp [encQ, tx1, pr7, encNs, encN, encS, itoa_1, itoa_2, itoa_7]
theorem at_7 (w : World) : PrAt (w.alloc (.cells #[.string ⟨#[97]⟩, .int .i64 1, .int .i64 7, .string ⟨#[]⟩, .float .f64 0] 34)) w.heap.size 0 pr7 :=
  ⟨World.cell?_alloc_new .., World.cell?_alloc_new .., World.cell?_alloc_new .., World.cell?_alloc_new .., World.cell?_alloc_new ..⟩
theorem enc_at7 (w : World) (ht : Tab w.heap.size w) :
    Calls Tryd.prog 6 #[.slice (some ⟨w.heap.size, 0, none⟩) 1 1] (w.alloc (.cells #[.string ⟨#[97]⟩, .int .i64 1, .int .i64 7, .string ⟨#[]⟩, .float .f64 0] 34)) fun e w' => ∃ v', e = .returned (.tuple #[v', .int .i64 0]) ∧ RdB w' v' [49, 59, 49, 58, 97, 44, 50, 58, 105, 55, 44] ∧ Below w.heap.size w w' := by
  have hbA : Below w.heap.size w (w.alloc (.cells #[.string ⟨#[97]⟩, .int .i64 1, .int .i64 7, .string ⟨#[]⟩, .float .f64 0] 34)) := (Below.refl _ w).alloc (Nat.le_refl _) _
  have hA := at_7 w
  have hsA : (w.alloc (.cells #[.string ⟨#[97]⟩, .int .i64 1, .int .i64 7, .string ⟨#[]⟩, .float .f64 0] 34)).heap.size = w.heap.size + 1 := by simp
  generalize (w.alloc (.cells #[.string ⟨#[97]⟩, .int .i64 1, .int .i64 7, .string ⟨#[]⟩, .float .f64 0] 34)) = wA at *
  have ht1 : Tab wA.heap.size wA := (ht.on hbA).mono (by omega)
  have h := encode7_some wA [pr7] w.heap.size 0 1 (fun i hi => by
    have : i = 0 := by simpa using hi
    subst this
    exact hA) (by simp) valid_7 tx1 (fun p hp W hW => by
      simp only [List.mem_singleton] at hp
      subst hp
      exact text7_1 W 7 (by omega) (by omega) ((ht1.on hW).mono hW.size)) (by simp [tx1, pr7, itoa_7]) (by simp [pr7]) (by simp) ht1
  refine Calls.mono h ?_
  rintro e w' ⟨v', rfl, ho, hb⟩
  rw [enc_7] at ho
  exact ⟨v', rfl, ho.rd, hbA.trans (hb.mono (by omega))⟩

theorem conv_is {w : World} {v : Value} {l : List UInt8} (h : RdB w v l) (a : Array UInt8) (e : l.toArray = a) : (convert 25 9 v).run Tryd.prog w = .ok (.string ⟨a⟩) w := by
  rw [← e]; exact conv_any h

set_option maxRecDepth 4000 in
theorem wakes7 (w : World) (ht : Tab w.heap.size w) :
    Calls Tryd.prog 4 #[] w fun e w' => e = .returned (.bool true) ∧ Below w.heap.size w w' := by
  have H1 := enc_at7 w ht
  have HT : Hid (Tab w.heap.size w) := ht
  clear ht
  go_enter Tryd.func4, Tryd.ntmps4
  go_wp2_with fail
  refine H1.mono ?_
  rintro e w2 ⟨v2, rfl, hr, hb2⟩
  have hs2 := hb2.size
  go_wp2_with fail
  refine (text7_1 w2 (-5) (by omega) (by omega) ((HT.out.on hb2).mono hs2)).mono ?_
  rintro e w3 ⟨rfl, hb3⟩
  rw [itoa_m5]
  have hr3 := conv_is (hr.on hb3) #[49, 59, 49, 58, 97, 44, 50, 58, 105, 55, 44] rfl
  clear H1 hr
  go_wp2
  go_ret
  exact ⟨rfl, hb2.trans (hb3.mono hs2)⟩
end Go.Proofs.YtlhfdklfkfodkabDoor
