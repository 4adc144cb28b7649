/- What the document's own reader (trivetref01) answers, and what it leaves, for any bytes that can be read, where the library's table of powers of ten and its two errors' variables read as they were laid. -/
import Derived.Test.YtbdfhmffdnlbfaaDoorReadMath
namespace Go.Proofs.YtbdfhmffdnlbfaaDoor
open Go.RowKit Go.Lib

/-- The block of the document's reader. -/
def RefAt (w : World) (R : Nat) (v : Value) (bad : Bool) : Prop := w.heap[R]? = some (.cells #[v, .bool bad] 33 (0, 0))
section
variable {w : World} {R : Nat} {v : Value} {bad : Bool}
theorem RefAt.lt (h : RefAt w R v bad) : R < w.heap.size := (Array.getElem?_eq_some_iff.1 h).1
theorem RefAt.c0 (h : RefAt w R v bad) : w.cell? ⟨R, 0, none⟩ = some v := by unfold RefAt at h; simp [World.cell?, h]
theorem RefAt.c1 (h : RefAt w R v bad) : w.cell? ⟨R, 1, none⟩ = some (.bool bad) := by unfold RefAt at h; simp [World.cell?, h]
theorem RefAt.f0 (h : RefAt w R v bad) : w.frozen? ⟨R, 0, none⟩ = false := by unfold RefAt at h; simp [World.frozen?, h]
theorem RefAt.f1 (h : RefAt w R v bad) : w.frozen? ⟨R, 1, none⟩ = false := by unfold RefAt at h; simp [World.frozen?, h]
theorem RefAt.set0 (h : RefAt w R v bad) (x : Value) : RefAt (w.setCell ⟨R, 0, none⟩ x) R x bad := by
  unfold RefAt at h ⊢
  simp [World.setCell, Array.getElem?_modify, h]
theorem RefAt.set1 (h : RefAt w R v bad) (x : Bool) : RefAt (w.setCell ⟨R, 1, none⟩ (.bool x)) R v x := by
  unfold RefAt at h ⊢
  simp [World.setCell, Array.getElem?_modify, h]
theorem RefAt.on (h : RefAt w R v bad) {w' : World} {B : Nat} (hb : Below B w w') (hR : R < B) : RefAt w' R v bad := (hb.block R hR).trans h
end
def Ref (w : World) (R : Nat) (bad : Bool) (l : List UInt8) : Prop := ∃ v, RefAt w R v bad ∧ RdB w v l
theorem Ref.on {w w' : World} {R : Nat} {bad : Bool} {l : List UInt8} (h : Ref w R bad l) (hb : Below w.heap.size w w') : Ref w' R bad l := by
  obtain ⟨v, h, hv⟩ := h
  exact ⟨v, h.on hb h.lt, hv.on hb⟩
/-- Bytes don't lie in a reader's block. -/
theorem RdB.apart {w w' : World} {R : Nat} {v : Value} {a : Option Addr} {n c : Nat} {bad : Bool} {l : List UInt8} (h : RdB w v l) (hr : RefAt w R (.slice a n c) bad) (hg : w.grownBy w' (some R)) : RdB w' v l := by
  rcases h with h | ⟨b, o, c, rfl, hlc, hc⟩
  · exact .inl h
  · refine .inr ⟨b, o, c, rfl, hlc, fun i hi => ?_⟩
    refine hg.cell (hc i hi) ?_
    intro e
    have eb : b = R := Option.some.inj e
    have h1 := hc i hi
    unfold RefAt at hr
    rw [eb] at h1
    simp only [World.cell?, hr] at h1
    revert h1
    match o + i with
    | 0 => simp
    | 1 => simp
    | k + 2 => simp

theorem atoi_m (w : World) (B : Nat) (s : ByteArray) (hs : s.size ≤ 1000) (hV : Vars B w) :
    Calls Tryd.prog 35 #[.string s] w fun e w' => ∃ (m : Int) (ev : Value), e = .returned (.tuple #[.int .i64 m, ev]) ∧ I64 m ∧ (∀ v, atoiAll s.data.toList = .ok v → m = v) ∧ Below w.heap.size w w' := by
  cases e : atoiAll s.data.toList
  · rename_i v
    refine (atoi_ok w s hs v e).mono ?_
    rintro e' w' ⟨rfl, hb⟩
    exact ⟨v, _, rfl, atoiAll_bounds e, fun u hu => by cases hu; rfl, hb⟩
  · obtain ⟨tp, p, hv⟩ := hV.syn w (Below.refl _ _)
    refine (Tryd.strconv_Atoi_syntax_var s (by omega) e tp p w hv).mono ?_
    rintro e' w' ⟨N, rfl, _, _, hb⟩
    exact ⟨0, _, rfl, ⟨by omega, by omega⟩, (fun u hu => by cases hu), hb⟩
  · obtain ⟨tp, p, hv⟩ := hV.rng w (Below.refl _ _)
    refine (Tryd.strconv_Atoi_range_var s (by omega) e tp p w hv).mono ?_
    rintro e' w' ⟨N, rfl, _, _, hb⟩
    exact ⟨_, _, rfl, atoiSat_bounds _, (fun u hu => by cases hu), hb⟩

theorem digs_hit {l : List UInt8} {c : UInt8} {k : Nat} (hk : k < l.length) (h20 : k ≤ 20) (hb : ∀ j, j < k → l.getD j 0 ≠ c) (hc : l.getD k 0 = c) (m : Int) (hm : I64 m) (hv : ∀ v, atoiAll (l.take k) = .ok v → m = v) :
    digs l c = if itoa m = l.take k then some (m, k) else none := by
  have e0 : l[k] = c := by simpa [List.getElem?_eq_getElem hk] using hc
  have e : l = l.take k ++ c :: l.drop (k + 1) := by rw [← e0]; simp
  have hn : c ∉ l.take k := by
    intro h
    obtain ⟨j, hj, ej⟩ := List.getElem_of_mem h
    have hj' : j < k := by simp at hj; omega
    refine hb j hj' ?_
    have : l[j]? = some c := by rw [← ej]; simp
    simp [this]
  have hi : indexByte l c = k := by
    have := index_app (l.take k) c (l.drop (k + 1)) hn
    rw [← e] at this
    rw [this]
    simp
    omega
  unfold digs
  rw [hi, if_neg (by omega)]
  simp only [Int.toNat_natCast]
  cases ha : atoiAll (l.take k) with
  | ok v => rw [hv v ha]
  | _ =>
    have hne : itoa m ≠ l.take k := fun h => by
      have := atoi_itoa m hm
      rw [h, ha] at this
      cases this
    simp [hne]
theorem digs_miss {l : List UInt8} {c : UInt8} {k : Nat} (hb : ∀ j, j < k → l.getD j 0 ≠ c) (h : l.length ≤ k ∨ 20 < k) : digs l c = none := by
  unfold digs
  rw [if_pos]
  rcases Int.lt_or_le (indexByte l c) 0 with h0 | h0
  · exact .inl h0
  · obtain ⟨o, ho⟩ := Int.eq_ofNat_of_zero_le h0
    obtain ⟨hs, _⟩ := indexByte_some ho
    have hol : o < l.length := (List.getElem?_eq_some_iff.1 hs).1
    have hko : k ≤ o := by
      rcases Nat.lt_or_ge o k with h1 | h1
      · exact absurd (by simp [hs]) (hb o h1)
      · exact h1
    exact .inr (by omega)

set_option maxHeartbeats 400000 in
theorem fail_any (w : World) (R : Nat) (v : Value) (bad : Bool) (h : RefAt w R v bad) :
    Calls Tryd.prog 30 #[.pointer (some ⟨R, 0, none⟩)] w fun e w' => e = .returned (.tuple #[]) ∧ Ref w' R true [] ∧ w.grownBy w' (some R) := by
  have h0 := h.c0
  have h1 := h.c1
  have f0 := h.f0
  have f1 := h.f1
  have hf : Hid (RefAt w R v bad) := h
  clear h
  go_enter Tryd.func30, Tryd.ntmps30
  go_wp2
  go_end0
  refine ⟨rfl, ⟨.slice none 0 0, (hf.out.set0 _).set1 true, .inl ⟨rfl, rfl⟩⟩, ?_⟩
  exact grownBy_trans (grownBy_setCell _ _ _ _) (grownBy_setCell _ _ _ _)

/-- What word hands back. -/
def wordV : Option (Int × Nat) → Value
  | some (n, _) => .tuple #[.int .i64 n, .bool true]
  | none => .tuple #[.int .i64 0, .bool false]
def wordL (l : List UInt8) : Option (Int × Nat) → List UInt8
  | some (_, i) => l.drop (i + 1)
  | none => l

set_option maxHeartbeats 2000000 in
set_option maxRecDepth 100000 in
theorem word_any (w : World) (B R : Nat) (bad : Bool) (l : List UInt8) (c : UInt8) (cv : Int) (hcv : cv = (c.toNat : Int)) (h : Ref w R bad l) (hll : l.length ≤ 140737488355328) (hV : Vars B w) (hBR : B ≤ R) :
    Calls Tryd.prog 29 #[.pointer (some ⟨R, 0, none⟩), .int .u8 cv] w fun e w' => e = .returned (wordV (digs l c)) ∧ Ref w' R bad (wordL l (digs l c)) ∧ w.grownBy w' (some R) := by
  obtain ⟨v, hr, hv⟩ := h
  have hR := hr.lt
  obtain ⟨a, cp, rfl⟩ : ∃ a cp, v = .slice a l.length cp := by
    rcases hv with ⟨rfl, rfl⟩ | ⟨b, o, cp, rfl, _⟩
    · exact ⟨_, _, rfl⟩
    · exact ⟨_, _, rfl⟩
  have h0 := hr.c0
  have HF : Hid (RefAt w R (.slice a l.length cp) bad) := hr
  have HB : Hid (RdB w (.slice a l.length cp) l) := hv
  have HV : Hid (Vars B w) := hV
  clear hr hv hV
  go_enter Tryd.func29, Tryd.ntmps29
  go_wp2_with fail
  go_loopw [6] (fun i wr => ∃ k : Nat, k ≤ l.length ∧ k ≤ 21 ∧ i = .int .i64 k ∧ wr = w ∧ Hid (∀ j, j < k → l.getD j 0 ≠ c)) (fun i _ => l.length - (RowKit.intOf i).toNat)
  case atStart => exact ⟨0, Nat.zero_le _, by omega, rfl, rfl, fun j hj => by omega⟩
  case round =>
    obtain ⟨k, hk, hk21, rfl, rfl, hN⟩ := hrel
    by_cases hlt : k < l.length ∧ k ≤ 20
    · obtain ⟨hl1, hl2⟩ := hlt
      have i1 : (k : Int) < (l.length : Int) := by omega
      have i2 : (k : Int) ≤ 20 := by omega
      obtain ⟨b, o, rfl, hlc, hc⟩ : ∃ b o, a = some ⟨b, o, none⟩ ∧ l.length ≤ cp ∧ ∀ i, i < l.length → wr.cell? ⟨b, o + i, none⟩ = some (.int .u8 ((l.getD i 0).toNat : Int)) := by
        rcases HB.out with ⟨_, rfl⟩ | ⟨b, o, c', e, hlc, hc⟩
        · simp at hl1
        · cases e
          exact ⟨b, o, rfl, hlc, hc⟩
      have hck := hc k hl1
      have hT := conv_any (RdB.take k (by omega) hc hlc)
      have HC : Hid (∀ i, i < l.length → wr.cell? ⟨b, o + i, none⟩ = some (.int .u8 ((l.getD i 0).toNat : Int))) := hc
      clear hc
      have ikc : (k : Int) ≤ (cp : Int) := by omega
      by_cases hx : l.getD k 0 = c
      · have hne : (((l.getD k 0).toNat : Int) != cv) = false := by rw [hcv, hx]; simp
        generalize ((l.getD k 0).toNat : Int) = z at *
        obtain ⟨T, eT⟩ : ∃ T : ByteArray, T = ⟨(l.take k).toArray⟩ := ⟨_, rfl⟩
        have hTs : T.size ≤ 1000 := by rw [eT]; show (l.take k).toArray.size ≤ 1000; rw [List.size_toArray]; simp; omega
        have hTd : T.data.toList = l.take k := by rw [eT]
        rw [← eT] at hT
        have hA := atoi_m wr B T hTs HV.out
        rw [hTd] at hA
        have HTd : Hid (T.data.toList = l.take k) := hTd
        clear eT hTd hTs
        go_wp2_with fail
        refine hA.mono ?_
        rintro e w2 ⟨m, ev, rfl, hm, hmv, hb2⟩
        have HD : Hid (digs l c = if itoa m = l.take k then some (m, k) else none) := digs_hit hl1 hl2 hN.out hx m hm hmv
        have hI := itoa_any w2 B m hm.1 hm.2 (HV.out.on (hb2.mono (by omega)))
        have hr2 := HF.out.on hb2 hR
        have k0 := hr2.c0
        have f0 := hr2.f0
        have HR2 : Hid (RefAt w2 R (.slice (some ⟨b, o, none⟩) l.length cp) bad) := hr2
        have HM : Hid (I64 m) := hm
        clear hA hmv hr2 hm hN
        go_wp2_with fail
        refine hI.mono ?_
        rintro e w3 ⟨rfl, hb3⟩
        clear hI
        have hq : ((⟨(itoa m).toArray⟩ : ByteArray).toList == T.toList) = decide (itoa m = l.take k) := by
          rw [toList_data, toList_data, HTd.out, Bool.eq_iff_iff]
          simp
        generalize (⟨(itoa m).toArray⟩ : ByteArray) = S at *
        have hr3 := HR2.out.on hb3 (Nat.lt_of_lt_of_le hR hb2.size)
        have k3 := hr3.c0
        have f3 := hr3.f0
        have HR3 : Hid (RefAt w3 R (.slice (some ⟨b, o, none⟩) l.length cp) bad) := hr3
        have b3 := hb2.trans (hb3.mono hb2.size)
        clear hr3 k0 f0 HR2
        by_cases he : itoa m = l.take k
        · have hq' : (S.toList == T.toList) = true := by rw [hq]; simp [he]
          have HD' : Hid (digs l c = some (m, k)) := by show _ = _; rw [HD.out, if_pos he]
          clear hq HD he
          go_wp2
          all_goals
            go_ret2
            rw [HD'.out]
            refine ⟨rfl, ⟨_, HR3.out.set0 _, ?_⟩, grownBy_trans (grownBy_of_below b3) (grownBy_setCell _ _ _ _)⟩
            refine RdB.apart (RdB.on ?_ b3) HR3.out (grownBy_setCell _ _ _ _)
            exact RdB.drop (k + 1) (by omega) HC.out hlc _ _ _ (by omega) (by omega) (by omega)
        · have hq' : (S.toList == T.toList) = false := by rw [hq]; simp [he]
          have HD' : Hid (digs l c = none) := by show _ = _; rw [HD.out, if_neg he]
          clear hq HD he
          go_wp2
          go_ret2
          rw [HD'.out]
          exact ⟨rfl, ⟨_, HR3.out, HB.out.on b3⟩, grownBy_of_below b3⟩
      · have hne : (((l.getD k 0).toNat : Int) != cv) = true := by
          rw [hcv, bne_iff_ne]
          intro e
          exact hx (UInt8.toNat_inj.1 (by omega))
        have hN' : Hid (∀ j, j < k + 1 → l.getD j 0 ≠ c) := fun j hj => by
          rcases Nat.lt_or_ge j k with h1 | h1
          · exact hN.out j h1
          · have : j = k := by omega
            subst this
            exact hx
        generalize ((l.getD k 0).toNat : Int) = z at *
        clear hT hx
        go_wp2
        go_roundw
        case rel => exact ⟨k + 1, by omega, by omega, by go_num, by trivial, hN'⟩
        case measure => simp [RowKit.intOf]; omega
    · have HD : Hid (digs l c = none) := digs_miss hN.out (by omega)
      by_cases h1 : k < l.length
      · have i1 : (k : Int) < (l.length : Int) := by omega
        have i2 : ¬ (k : Int) ≤ 20 := by omega
        clear hlt
        go_wp2
        go_ret2
        rw [HD.out]
        exact ⟨rfl, ⟨_, HF.out, HB.out⟩, World.grownBy.refl _ _⟩
      · have i1 : ¬ (k : Int) < (l.length : Int) := by omega
        clear hlt
        go_wp2
        go_ret2
        rw [HD.out]
        exact ⟨rfl, ⟨_, HF.out, HB.out⟩, World.grownBy.refl _ _⟩
end Go.Proofs.YtbdfhmffdnlbfaaDoor
