/- What prop.Encode answers of any list, where prop.Text answers of its values. -/
import Derived.Test.YtlhfdklfkfodkaaDoorPh
namespace Go.Proofs.YtlhfdklfkfodkaaDoor
open Go.RowKit Go.Lib Ieee

theorem Own.low {w : World} {B B' : Nat} {v : Value} {l : List UInt8} (h : Own w B' v l) (hB : B ≤ B') : Own w B v l := by
  obtain ⟨hl, h⟩ := h
  refine ⟨hl, ?_⟩
  rcases h with h | ⟨g, cap, cur, hv, hb, h⟩
  · exact .inl h
  · exact .inr ⟨g, cap, cur, hv, by omega, h⟩
theorem Own.up {w w' : World} {B : Nat} {v : Value} {l : List UInt8} (h : Own w B v l) (hb : Below w.heap.size w w') : Own w' B v l := by
  obtain ⟨hl, h⟩ := h
  refine ⟨hl, ?_⟩
  rcases h with h | ⟨g, cap, cur, hv, hg, hc, h⟩
  · exact .inl h
  · have hlt : g < w.heap.size := by
      rcases Nat.lt_or_ge g w.heap.size with h1 | h1
      · exact h1
      · rw [Array.getElem?_eq_none h1] at hc; cases hc
    exact .inr ⟨g, cap, cur, hv, hg, by rw [hb.block g hlt]; exact hc, h⟩

/-- Properties' bytes, where tx is what a value's text is. -/
def encQ (tx : Val → List UInt8) (l : List Pr) : List UInt8 := encNs [(l.length : Int)] ++ l.flatMap fun p => encS p.name.toList ++ encS (tx p.val)
def encT (tx : Val → List UInt8) (l : List Pr) (k : Nat) : List UInt8 := encNs [(l.length : Int)] ++ (l.take k).flatMap fun p => encS p.name.toList ++ encS (tx p.val)
theorem encT_s (tx : Val → List UInt8) (l : List Pr) (k : Nat) (h : k < l.length) : encT tx l (k + 1) = encT tx l k ++ encS l[k].name.toList ++ encS (tx l[k].val) := by
  unfold encT
  rw [List.take_succ_eq_append_getElem h, List.flatMap_append]
  simp
theorem encS_len (s : List UInt8) (h : s.length ≤ 1000000) : (encS s).length ≤ s.length + 22 := by
  unfold encS
  have := itoa_length (s.length : Int) (by omega) (by omega)
  simp only [List.length_append, List.length_cons, List.length_nil]
  omega
theorem encT_len (tx : Val → List UInt8) (l : List Pr) (h16 : l.length ≤ 16) (hn : ∀ p ∈ l, p.name.toList.length ≤ 16) (hx : ∀ p ∈ l, (tx p.val).length ≤ 1000) : ∀ k, k ≤ l.length → (encT tx l k).length ≤ 100 + k * 1100
  | 0, _ => by
    have := encNs_length [(l.length : Int)] (by simp; omega)
    simp [encT] at this ⊢
    omega
  | k + 1, h => by
    have ih := encT_len tx l h16 hn hx k (by omega)
    rw [encT_s tx l k (by omega)]
    have h1 := hn l[k] (List.getElem_mem _)
    have h2 := hx l[k] (List.getElem_mem _)
    have := encS_len l[k].name.toList (by omega)
    have := encS_len (tx l[k].val) (by omega)
    simp only [List.length_append]
    omega
theorem encT_all (tx : Val → List UInt8) (l : List Pr) (k : Nat) (h : l.length ≤ k) : encT tx l k = encQ tx l := by
  unfold encT encQ; rw [List.take_of_length_le h]

theorem lit1 (w : World) (n : Nat) (hn : n ≤ 16) : RdN (w.alloc (.cells #[.int .i64 (n : Int)] 3)) (.slice (some ⟨w.heap.size, 0, none⟩) 1 1) [(n : Int)] := by
  refine ⟨fun z hz => by simp at hz; omega, .inr ⟨w.heap.size, 0, 1, rfl, fun i hi => ?_⟩⟩
  rw [World.cell?_alloc_new]
  match i, hi with
  | 0, _ => rfl

set_option maxRecDepth 4000 in
theorem encode7_bad (w : World) (v : Value) (l : List Pr) (h : RdP w v l) (hv : validL l = false) :
    Calls Tryd.prog 17 #[v] w fun e w' => e = .returned (.tuple #[.slice none 0 0, .int .i64 36]) ∧ Below w.heap.size w w' := by
  have HV := valid7 w v l h
  rw [hv] at HV
  go_enter Tryd.func17, Tryd.ntmps17
  go_wp2_with fail
  refine HV.mono ?_
  rintro e w1 ⟨rfl, hb1⟩
  go_wp2
  go_ret2
  exact ⟨rfl, hb1⟩

set_option maxRecDepth 4000 in
theorem encode7_some (w : World) (l : List Pr) (b o c : Nat) (h : ∀ i (h : i < l.length), PrAt w b (o + i * 5) l[i]) (hc : l.length ≤ c) (hv : validL l = true) (tx : Val → List UInt8)
    (HT : ∀ p ∈ l, ∀ W : World, Below w.heap.size w W → Calls Tryd.prog 18 #[p.val.v] W fun e w' => e = .returned (.tuple #[.string ⟨(tx p.val).toArray⟩, .int .i64 0]) ∧ Below W.heap.size W w')
    (hx : ∀ p ∈ l, (tx p.val).length ≤ 1000) (hn : ∀ p ∈ l, p.name.toList.length ≤ 16) (h16 : l.length ≤ 16) (ht : Tab w.heap.size w) :
    Calls Tryd.prog 17 #[.slice (some ⟨b, o, none⟩) l.length c] w fun e w' => ∃ v', e = .returned (.tuple #[v', .int .i64 0]) ∧ Own w' w.heap.size v' (encQ tx l) ∧ Below w.heap.size w w' := by
  have HV := valid7 w _ l (.inr ⟨b, o, c, rfl, hc, h⟩)
  rw [hv] at HV
  have H : Hid (∀ i (h : i < l.length), PrAt w b (o + i * 5) l[i]) := h
  have HL : Hid (∀ k, k ≤ l.length → (encT tx l k).length ≤ 100 + k * 1100) := encT_len tx l h16 hn hx
  have HS : Hid (∀ (k : Nat) (h : k < l.length), encT tx l (k + 1) = encT tx l k ++ encS l[k].name.toList ++ encS (tx l[k].val)) := encT_s tx l
  have HA : Hid (∀ k, l.length ≤ k → encT tx l k = encQ tx l) := encT_all tx l
  have H0 : Hid (encT tx l 0 = [] ++ encNs [(l.length : Int)]) := by show encT tx l 0 = _; simp [encT]
  have HT2 : Hid (∀ (k : Nat) (h : k < l.length) (W : World), Below w.heap.size w W → Calls Tryd.prog 18 #[l[k].val.v] W fun e w' => e = .returned (.tuple #[.string ⟨(tx l[k].val).toArray⟩, .int .i64 0]) ∧ Below W.heap.size W w') := fun k h => HT _ (List.getElem_mem _)
  have HN : Hid (∀ (k : Nat) (h : k < l.length), l[k].name.toList.length ≤ 16 ∧ (tx l[k].val).length ≤ 1000) := fun k h => ⟨hn _ (List.getElem_mem _), hx _ (List.getElem_mem _)⟩
  clear h HT hx hn hv
  go_enter Tryd.func17, Tryd.ntmps17
  go_wp2_with fail
  refine HV.mono ?_
  rintro e w1 ⟨rfl, hb1⟩
  have hs1 := hb1.size
  go_wp2_with fail
  refine (num_any _ _ _ [] [(l.length : Int)] (.inl (.inl ⟨rfl, rfl⟩)) (lit1 w1 l.length h16) (by simp) (((ht.on hb1).on (Below.alloc (Below.refl _ w1) (Nat.le_refl _) _ |>.mono hs1)).mono (by simp; omega))).mono ?_
  rintro e w2 ⟨v2, rfl, ho2, hb2⟩
  have hb12 : Below w1.heap.size w1 w2 := ((Below.refl _ w1).alloc (Nat.le_refl _) _).trans (hb2.mono (by simp))
  have hb02 : Below w.heap.size w w2 := hb1.trans (hb12.mono hs1)
  have ho2' : Own w2 w.heap.size v2 (encT tx l 0) := by rw [H0.out]; exact ho2.low (by simp; omega)
  clear ho2 hb2 hb12 HV H0
  go_wp2_with fail
  go_loopw [4, 18] (fun v i wr => ∃ k : Nat, k ≤ l.length ∧ i = .int .i64 k ∧ Own wr w.heap.size v (encT tx l k) ∧ Below w.heap.size w wr) (fun _ i _ => l.length - (RowKit.intOf i).toNat)
  case atStart => exact ⟨0, by omega, rfl, ho2', hb02⟩
  case round =>
    obtain ⟨k, hk, rfl, ho, hbr⟩ := hrel
    have hwr := hbr.size
    by_cases hlt : k < l.length
    · obtain ⟨a0, a1, a2, a3, a4⟩ := (H.out k hlt).on hbr
      have hT := HT2.out k hlt
      have hS := HS.out k hlt
      have hL := HL.out k hk
      have hN := HN.out k hlt
      obtain ⟨pk, hpk⟩ : ∃ pk, pk = l[k] := ⟨_, rfl⟩
      unfold Val.v at hT
      rw [← hpk] at a0 a1 a2 a3 a4 hT hS hN
      clear hpk
      obtain ⟨tk, htk⟩ : ∃ tk, tk = tx pk.val := ⟨_, rfl⟩
      rw [← htk] at hT hS hN
      clear htk
      obtain ⟨hN1, hN2⟩ := hN
      rw [toList_len] at hN1
      have hSx : ∀ {W : World} {u : Value} {B : Nat}, Own W B u (encT tx l k ++ encS pk.name.data.toList ++ encS tk) → Own W B u (encT tx l (k + 1)) := fun h => by
        rw [hS, ByteArray.toList_eq]; exact h
      have hE := encS_len pk.name.data.toList (by show pk.name.size ≤ _; omega)
      have hE1 : pk.name.data.toList.length = pk.name.size := rfl
      clear hS
      go_wp2_with fail
      refine (hT _ (hbr.alloc hwr _)).mono ?_
      rintro e w3 ⟨rfl, hb3⟩
      have c0 : w3.cell? ⟨wr.heap.size, 0, none⟩ = some (.string pk.name) := by rw [hb3.cell (by simp)]; exact World.cell?_alloc_new ..
      have hbw3 : Below wr.heap.size wr w3 := ((Below.refl _ wr).alloc (Nat.le_refl _) _).trans (hb3.mono (by simp))
      have ho3 := ho.up hbw3
      have hb03 := hbr.trans (hbw3.mono hwr)
      have hs3 := hb03.size
      clear hT hb3 hbw3 ho a0 a1 a2 a3 a4
      go_wp2_with fail
      refine (str_any w3 _ (encT tx l k) pk.name (.inl ho3.rd) (by omega) ((ht.on hb03).mono hs3)).mono ?_
      rintro e w4 ⟨v4, rfl, ho4, hb4⟩
      have hb04 := hb03.trans (hb4.mono hs3)
      have hs4 := hb04.size
      go_wp2_with fail
      refine (str_any w4 v4 (encT tx l k ++ encS pk.name.data.toList) ⟨tk.toArray⟩ (.inl ho4.rd) (by simp only [List.length_append, ByteArray.size, List.size_toArray]; omega) ((ht.on hb04).mono hs4)).mono ?_
      rintro e w5 ⟨v5, rfl, ho5, hb5⟩
      have hb05 := hb04.trans (hb5.mono hs4)
      have ho6 : Own w5 w.heap.size v5 (encT tx l (k + 1)) := hSx (ho5.low hs4)
      clear ho5 hSx
      go_wp2
      go_roundw
      case rel => exact ⟨k + 1, by omega, by go_num, ho6, hb05⟩
      case measure => simp [RowKit.intOf]; omega
    · have h4 := HA.out k (by omega)
      rw [h4] at ho
      go_wp2
      go_ret2
      exact ⟨_, rfl, ho, hbr⟩
end Go.Proofs.YtlhfdklfkfodkaaDoor
