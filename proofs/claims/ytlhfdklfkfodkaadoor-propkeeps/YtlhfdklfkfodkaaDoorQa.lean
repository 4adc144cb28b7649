/- Where prop.place finds a name in a list by rising names. -/
import Derived.Test.YtlhfdklfkfodkaaDoorPk
namespace Go.Proofs.YtlhfdklfkfodkaaDoor
open Go.RowKit Go.Lib Ieee

def lessP (p : Pr) (nm : ByteArray) : Bool := Op.bytesLess p.name.toList nm.toList

theorem rising_next : ∀ (l : List Pr), rising l = true → ∀ i (h : i + 1 < l.length), Op.bytesLess (l[i]'(by omega)).name.toList l[i + 1].name.toList = true
  | a :: b :: l, h, 0, _ => by simp [rising] at h; simpa using h.1
  | a :: b :: l, h, i + 1, hi => by
    simp only [rising, Bool.and_eq_true] at h
    exact rising_next (b :: l) h.2 i (by simpa using hi)
  | [_], _, i, h => by simp at h
  | [], _, i, h => by simp at h
theorem rising_lt (l : List Pr) (hr : rising l = true) (i : Nat) : ∀ j (hj : j < l.length) (hij : i < j), Op.bytesLess (l[i]'(by omega)).name.toList l[j].name.toList = true
  | j + 1, hj, hij => by
    by_cases e : i = j
    · subst e; exact rising_next l hr i hj
    · exact bl_trans _ _ _ (rising_lt l hr i j (by omega) (by omega)) (rising_next l hr j hj)
theorem less_below (l : List Pr) (hr : rising l = true) (nm : ByteArray) (h : Nat) (hh : h < l.length) (hl : lessP l[h] nm = true) (j : Nat) (hj : j < l.length) (hjh : j ≤ h) : lessP l[j] nm = true := by
  by_cases e : j = h
  · subst e; exact hl
  · exact bl_trans _ _ _ (rising_lt l hr j h hh (by omega)) hl
theorem less_above (l : List Pr) (hr : rising l = true) (nm : ByteArray) (h : Nat) (hh : h < l.length) (hl : lessP l[h] nm = false) (j : Nat) (hj : j < l.length) (hjh : h ≤ j) : lessP l[j] nm = false := by
  cases e : lessP l[j] nm with
  | false => rfl
  | true => rw [less_below l hr nm j hj e h hh hjh] at hl; cases hl

set_option maxRecDepth 4000 in
theorem cmp45 (w : World) (p : Pr) (nm : ByteArray) : Calls Tryd.prog 45 #[p.v, .string nm] w fun e w' => e = .returned (.int .i64 (cmpL p.name.toList nm.toList)) ∧ Below w.heap.size w w' := by
  obtain ⟨n0, k, n, t, r⟩ := p
  unfold Pr.v
  dsimp only
  have HC := fun W : World => cmpS_any W n0 nm
  have hb1 : Below w.heap.size w (w.alloc (.cells #[.string n0, .int .i64 k, .int .i64 n, .string t, .float .f64 r] 33)) := (Below.refl _ w).alloc (Nat.le_refl _) _
  go_enter Tryd.func45, Tryd.ntmps45
  go_wp2_with fail
  refine (HC _).mono ?_
  rintro e w2 ⟨rfl, rfl⟩
  go_wp2
  go_ret
  exact ⟨rfl, hb1⟩

/-- Where a name stands, or would. -/
def AtP (l : List Pr) (nm : ByteArray) (k : Nat) : Prop := k ≤ l.length ∧ (∀ j (h : j < l.length), j < k → lessP l[j] nm = true) ∧ ∀ j (h : j < l.length), k ≤ j → lessP l[j] nm = false

set_option maxRecDepth 4000 in
set_option maxHeartbeats 1000000 in
theorem search7 (w : World) (l : List Pr) (nm : ByteArray) (b o c : Nat) (h16 : l.length ≤ 16) (h : ∀ i (h : i < l.length), PrAt w b (o + i * 5) l[i]) (hr : rising l = true) :
    Calls Tryd.prog 44 #[.slice (some ⟨b, o, none⟩) l.length c, .string nm, .func (.func 45) #[] #[]] w fun e w' => ∃ k, AtP l nm k ∧ e = .returned (.tuple #[.int .i64 (k : Int), .bool (decide (∃ h : k < l.length, l[k].name.toList = nm.toList))]) ∧ Below w.heap.size w w' := by
  have H : Hid (∀ i (h : i < l.length), PrAt w b (o + i * 5) l[i]) := h
  have HB : Hid (∀ h (hh : h < l.length), lessP l[h] nm = true → ∀ j (hj : j < l.length), j ≤ h → lessP l[j] nm = true) := fun h hh hl j hj hjh => less_below l hr nm h hh hl j hj hjh
  have HA : Hid (∀ h (hh : h < l.length), lessP l[h] nm = false → ∀ j (hj : j < l.length), h ≤ j → lessP l[j] nm = false) := fun h hh hl j hj hjh => less_above l hr nm h hh hl j hj hjh
  have HC : Hid (∀ (W : World) (p : Pr), Calls Tryd.prog 45 #[.agg #[.string p.name, .int .i64 p.val.kind, .int .i64 p.val.num, .string p.val.text, .float .f64 p.val.real], .string nm] W fun e w' => e = .returned (.int .i64 (cmpL p.name.toList nm.toList)) ∧ Below W.heap.size W w') := fun W p => cmp45 W p nm
  clear h hr
  go_enter Tryd.func44, Tryd.ntmps44
  go_wp2_with fail
  go_loopw [9, 10] (fun x y wr => ∃ i j : Nat, i ≤ j ∧ j ≤ l.length ∧ x = .int .i64 i ∧ y = .int .i64 j ∧ Below w.heap.size w wr ∧ Hid (∀ x (h : x < l.length), x < i → lessP l[x] nm = true) ∧ Hid (∀ x (h : x < l.length), j ≤ x → lessP l[x] nm = false)) (fun x y _ => (RowKit.intOf y).toNat - (RowKit.intOf x).toNat)
  case atStart => exact ⟨0, l.length, by omega, by omega, rfl, rfl, Below.refl _ _, fun x h hx => by omega, fun x h hx => by omega⟩
  case round =>
    obtain ⟨i, j, hij, hjn, rfl, rfl, hbr, hlo, hhi⟩ := hrel
    have hwr := hbr.size
    by_cases hlt : i < j
    · obtain ⟨m, hm⟩ : ∃ m, m = (i + j) / 2 := ⟨_, rfl⟩
      have hml : m < l.length := by omega
      obtain ⟨a0, a1, a2, a3, a4⟩ := (H.out m hml).on hbr
      have hmi : i ≤ m := by omega
      have hmj : m < j := by omega
      have hmI : ((i : Int) + (j : Int)) / 2 = (m : Int) := by omega
      have hC := HC.out
      have hB := HB.out m hml
      have hA := HA.out m hml
      obtain ⟨pk, hpk⟩ : ∃ pk, pk = l[m] := ⟨_, rfl⟩
      rw [← hpk] at a0 a1 a2 a3 a4 hB hA
      clear hpk hm
      cases hl : lessP pk nm with
      | true =>
        have hB2 := hB hl
        have hC2 := fun W : World => hC W pk
        rw [cmpL_lt hl] at hC2
        clear hB hA hC
        go_wp2_with fail
        refine (hC2 _).mono ?_
        rintro e w2 ⟨rfl, hb2⟩
        go_wp2
        go_roundw
        case rel => exact ⟨m + 1, j, by omega, hjn, by go_num, rfl, hbr.trans (hb2.mono hwr), fun x hx hxm => hB2 x hx (by omega), hhi⟩
        case measure => simp [RowKit.intOf]; omega
      | false =>
        have hA2 := hA hl
        have hC2 := fun W : World => hC W pk
        have hge : ¬ cmpL pk.name.toList nm.toList < 0 := by
          rcases cmpL_rng pk.name.toList nm.toList with h | h | h
          · rw [show Op.bytesLess pk.name.toList nm.toList = false from hl] at h; exact absurd h.2 (by simp)
          · omega
          · omega
        generalize cmpL pk.name.toList nm.toList = z at *
        clear hB hA hC
        go_wp2_with fail
        refine (hC2 _).mono ?_
        rintro e w2 ⟨rfl, hb2⟩
        go_wp2
        go_roundw
        case rel => exact ⟨i, m, by omega, by omega, rfl, rfl, hbr.trans (hb2.mono hwr), hlo, fun x hx hxm => hA2 x hx (by omega)⟩
        case measure => simp [RowKit.intOf]; omega
    · have hj : j = i := by omega
      subst hj
      have hAt : AtP l nm j := ⟨hjn, hlo.out, hhi.out⟩
      by_cases hin : j < l.length
      · obtain ⟨a0, a1, a2, a3, a4⟩ := (H.out j hin).on hbr
        have hC2 := fun W : World => HC.out W l[j]
        obtain ⟨pk, hpk⟩ : ∃ pk, pk = l[j] := ⟨_, rfl⟩
        have hD : Hid (decide (∃ h : j < l.length, l[j].name.toList = nm.toList) = (cmpL pk.name.toList nm.toList == 0)) := by
          show decide (∃ h : j < l.length, l[j].name.toList = nm.toList) = (cmpL pk.name.toList nm.toList == 0)
          rw [Bool.eq_iff_iff, decide_eq_true_eq, beq_iff_eq, hpk]
          constructor
          · rintro ⟨_, e⟩; rw [e]; exact cmpL_self _
          · intro e
            refine ⟨hin, ?_⟩
            rcases cmpL_rng l[j].name.toList nm.toList with h | h | h
            · omega
            · exact h.2
            · omega
        rw [← hpk] at a0 a1 a2 a3 a4 hC2
        clear hpk
        have HAt : Hid (AtP l nm j) := hAt
        clear hAt
        go_wp2_with fail
        refine (hC2 _).mono ?_
        rintro e w2 ⟨rfl, hb2⟩
        go_wp2
        go_ret2
        exact ⟨j, HAt.out, by rw [hD.out]; rfl, hbr.trans (hb2.mono hwr)⟩
      · have hD : Hid (decide (∃ h : j < l.length, l[j].name.toList = nm.toList) = false) := by
          show decide _ = false
          rw [decide_eq_false_iff_not]
          rintro ⟨h, _⟩; exact hin h
        have HAt : Hid (AtP l nm j) := hAt
        clear hAt
        go_wp2
        go_ret2
        exact ⟨j, HAt.out, by rw [hD.out]; rfl, hbr⟩

set_option maxRecDepth 4000 in
theorem search7_nil (w : World) (nm : ByteArray) (a : Option Addr) (c : Nat) :
    Calls Tryd.prog 44 #[.slice a 0 c, .string nm, .func (.func 45) #[] #[]] w fun e w' => e = .returned (.tuple #[.int .i64 0, .bool false]) ∧ Below w.heap.size w w' := by
  go_enter Tryd.func44, Tryd.ntmps44
  go_wp2_with fail
  go_loopw [9, 10] (fun x y wr => x = .int .i64 0 ∧ y = .int .i64 0 ∧ wr = w) (fun _ _ _ => 0)
  case atStart => exact ⟨rfl, rfl, rfl⟩
  case round =>
    obtain ⟨rfl, rfl, rfl⟩ := hrel
    go_wp2
    go_ret2
    exact ⟨rfl, Below.refl _ _⟩

/-- Whether the name is there. -/
def isAt (l : List Pr) (nm : ByteArray) (k : Nat) : Bool := decide (∃ h : k < l.length, l[k].name.toList = nm.toList)

theorem search7_any (w : World) (v : Value) (l : List Pr) (nm : ByteArray) (h16 : l.length ≤ 16) (h : RdP w v l) (hr : rising l = true) :
    Calls Tryd.prog 44 #[v, .string nm, .func (.func 45) #[] #[]] w fun e w' => ∃ k, AtP l nm k ∧ e = .returned (.tuple #[.int .i64 (k : Int), .bool (isAt l nm k)]) ∧ Below w.heap.size w w' := by
  rcases h with ⟨⟨a, c, rfl⟩, rfl⟩ | ⟨b, o, c, rfl, _, h⟩
  · refine (search7_nil w nm a c).mono ?_
    rintro e w' ⟨rfl, hb⟩
    exact ⟨0, ⟨by simp, fun j h => by simp at h, fun j h => by simp at h⟩, rfl, hb⟩
  · exact search7 w l nm b o c h16 h hr

set_option maxRecDepth 4000 in
theorem place7 (w : World) (v : Value) (l : List Pr) (nm : ByteArray) (h16 : l.length ≤ 16) (h : RdP w v l) (hr : rising l = true) :
    Calls Tryd.prog 27 #[v, .string nm] w fun e w' => ∃ k, AtP l nm k ∧ e = .returned (.tuple #[.int .i64 (k : Int), .int .i64 ((if isAt l nm k then k + 1 else k : Nat) : Int)]) ∧ Below w.heap.size w w' := by
  have HS := search7_any w v l nm h16 h hr
  go_enter Tryd.func27, Tryd.ntmps27
  go_wp2_with fail
  refine HS.mono ?_
  rintro e w2 ⟨k, hk, rfl, hb2⟩
  have hk1 : k ≤ 16 := Nat.le_trans hk.1 h16
  have HK : Hid (AtP l nm k) := hk
  clear hk HS
  cases e : isAt l nm k with
  | true =>
    go_wp2
    go_ret2
    exact ⟨k, HK.out, by rw [e]; rfl, hb2⟩
  | false =>
    go_wp2
    go_ret2
    exact ⟨k, HK.out, by rw [e]; rfl, hb2⟩
end Go.Proofs.YtlhfdklfkfodkaaDoor
