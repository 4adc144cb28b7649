/- What cord.digits answers of any bytes that can be read, where the library's table of powers of ten and its two errors' variables read as they were laid. -/
import Derived.Test.YtbdfhmffdnlbfaaDoorNum
import Derived.Lib.IndexLaws
namespace Go.Proofs.YtbdfhmffdnlbfaaDoor
open Go.RowKit Go.Lib

/-- The number that bytes begin with, if c stands right behind it; and where c stands. -/
def digs (l : List UInt8) (c : UInt8) : Option (Int × Nat) :=
  if indexByte l c < 0 ∨ 20 < indexByte l c then none else
  match atoiAll (l.take (indexByte l c).toNat) with
  | .ok v => if itoa v = l.take (indexByte l c).toNat then some (v, (indexByte l c).toNat) else none
  | _ => none

/-- The library's variables: the table, the two errors. -/
structure Vars (B : Nat) (w : World) : Prop where
  tab : Tab B w
  syn : ∀ w', Below B w w' → ∃ tp p, w'.var? Tryd.prog "strconv.ErrSyntax" = some #[.iface tp p]
  rng : ∀ w', Below B w w' → ∃ tp p, w'.var? Tryd.prog "strconv.ErrRange" = some #[.iface tp p]
theorem Vars.on {B : Nat} {w w' : World} (h : Vars B w) (hb : Below B w w') : Vars B w' :=
  ⟨h.tab.on hb, fun u hu => h.syn u (hb.trans hu), fun u hu => h.rng u (hb.trans hu)⟩
theorem Vars.mono {B B' : Nat} {w : World} (h : Vars B w) (hB : B ≤ B') : Vars B' w :=
  ⟨h.tab.mono hB, fun u hu => h.syn u (hu.mono hB), fun u hu => h.rng u (hu.mono hB)⟩

theorem atoi_ok (w : World) (s : ByteArray) (hs : s.size ≤ 1000) (v : Int) (h : atoiAll s.data.toList = .ok v) :
    Calls Tryd.prog 35 #[.string s] w fun e w' => e = .returned (.tuple #[.int .i64 v, .nilIface]) ∧ Below w.heap.size w w' := by
  refine (Tryd.strconv_Atoi_ok s (by omega) v h w).mono ?_
  rintro e w' ⟨rfl, rfl | ⟨t, rfl⟩⟩
  · exact ⟨rfl, Below.refl _ _⟩
  · exact ⟨rfl, bytesWorld_below _ _ _⟩

theorem atoi_no (w : World) (B : Nat) (s : ByteArray) (hs : s.size ≤ 1000) (hV : Vars B w) (h : ∀ v, atoiAll s.data.toList ≠ .ok v) :
    Calls Tryd.prog 35 #[.string s] w fun e w' => ∃ (m : Int) (N : Nat), e = .returned (.tuple #[.int .i64 m, .iface 73 (.pointer (some ⟨N, 0, none⟩))]) ∧ Below w.heap.size w w' := by
  cases e : atoiAll s.data.toList with
  | ok v => exact absurd e (h v)
  | «syntax» =>
    obtain ⟨tp, p, hv⟩ := hV.syn w (Below.refl _ _)
    refine (Tryd.strconv_Atoi_syntax_var s (by omega) e tp p w hv).mono ?_
    rintro e w' ⟨N, rfl, _, _, hb⟩
    exact ⟨_, N, rfl, hb⟩
  | range =>
    obtain ⟨tp, p, hv⟩ := hV.rng w (Below.refl _ _)
    refine (Tryd.strconv_Atoi_range_var s (by omega) e tp p w hv).mono ?_
    rintro e w' ⟨N, rfl, _, _, hb⟩
    exact ⟨_, N, rfl, hb⟩

theorem itoa_any (w : World) (B : Nat) (n : Int) (h0 : -9223372036854775808 ≤ n) (h1 : n ≤ 9223372036854775807) (hV : Vars B w) :
    Calls Tryd.prog 25 #[.int .i64 n] w fun e w' => e = .returned (.string ⟨(itoa n).toArray⟩) ∧ Below w.heap.size w w' := by
  refine (Tryd.strconv_Itoa n h0 h1 w hV.tab.here).mono ?_
  rintro e w' ⟨rfl, k, os, rfl⟩
  exact ⟨rfl, below_grow _ _ (Nat.le_refl _) _ _⟩

theorem index_any (w : World) (v : Value) (l : List UInt8) (c : UInt8) (cv : Int) (hcv : cv = (c.toNat : Int)) (h : RdB w v l) :
    Calls Tryd.prog 36 #[v, .int .u8 cv] w fun e w' => e = .returned (.int .i64 (indexByte l c)) ∧ w' = w := by
  subst hcv
  rcases h with ⟨rfl, rfl⟩ | ⟨b, o, cp, rfl, _, hc⟩
  · exact Tryd.bytes_IndexByte_nil _ w
  · have e1 : bytesOf (nums l) = l := by simp [bytesOf, nums, Function.comp_def]
    have e2 : ((c.toNat : Int).toNat).toUInt8 = c := by simp
    have := Tryd.bytes_IndexByte b o l.length cp (nums l) (c.toNat : Int) w (by simp [nums]) (fun i hi => by rw [nums_getD]; exact hc i hi)
    rw [e1, e2] at this
    exact this

theorem RdB.take {w : World} {b o c : Nat} {l : List UInt8} (i : Nat) (hi : i ≤ l.length) (hc : ∀ j, j < l.length → w.cell? ⟨b, o + j, none⟩ = some (.int .u8 ((l.getD j 0).toNat : Int))) (hlc : l.length ≤ c) :
    RdB w (.slice (some ⟨b, o, none⟩) i c) (l.take i) := by
  have e : (l.take i).length = i := by simp; omega
  refine .inr ⟨b, o, c, by rw [e], by omega, fun j hj => ?_⟩
  rw [hc j (by omega)]
  simp only [List.getD_eq_getElem?_getD, List.getElem?_take_of_lt (show j < i by omega)]

set_option maxHeartbeats 400000 in
theorem digits_far (w : World) (v : Value) (l : List UInt8) (c : UInt8) (cv : Int) (hcv : cv = (c.toNat : Int)) (h : RdB w v l) (hi : indexByte l c < 0 ∨ 20 < indexByte l c) :
    Calls Tryd.prog 31 #[v, .int .u8 cv] w fun e w' => e = .returned (.tuple #[.int .i64 0, .int .i64 0, .bool false]) ∧ w' = w := by
  have hI := index_any w v l c cv hcv h
  generalize indexByte l c = n at *
  clear h hcv
  go_enter Tryd.func31, Tryd.ntmps31
  rcases hi with hi | hi
  all_goals
    go_wp2_with fail
    refine hI.mono ?_
    rintro e w1 ⟨rfl, rfl⟩
    clear hI
    go_wp2
    all_goals go_ret3
    all_goals exact ⟨rfl, rfl⟩

set_option maxHeartbeats 400000 in
theorem digits_fail (w : World) (B b o cp : Nat) (l : List UInt8) (cv : Int) (i : Nat) (t : ByteArray) (h20 : i ≤ 20) (hil : i < l.length) (hlc : l.length ≤ cp)
    (hI : Calls Tryd.prog 36 #[.slice (some ⟨b, o, none⟩) l.length cp, .int .u8 cv] w fun e w' => e = .returned (.int .i64 (i : Int)) ∧ w' = w)
    (hC : (convert 22 9 (.slice (some ⟨b, o, none⟩) i cp)).run Tryd.prog w = .ok (.string t) w) (ht : t.size ≤ 1000) (hV : Vars B w) (hno : ∀ v, atoiAll t.data.toList ≠ .ok v) :
    Calls Tryd.prog 31 #[.slice (some ⟨b, o, none⟩) l.length cp, .int .u8 cv] w fun e w' => e = .returned (.tuple #[.int .i64 0, .int .i64 0, .bool false]) ∧ Below w.heap.size w w' := by
  have hA := atoi_no w B t ht hV hno
  clear hno ht hV
  go_enter Tryd.func31, Tryd.ntmps31
  go_wp2_with fail
  refine hI.mono ?_
  rintro e w1 ⟨rfl, rfl⟩
  clear hI
  go_wp2_with fail
  refine hA.mono ?_
  rintro e w2 ⟨m, N, rfl, hb⟩
  clear hA
  go_wp2
  go_ret3
  exact ⟨rfl, hb⟩

set_option maxHeartbeats 400000 in
theorem digits_yes (w : World) (B b o cp : Nat) (l : List UInt8) (cv : Int) (i : Nat) (n : Int) (h20 : i ≤ 20) (hil : i < l.length) (hlc : l.length ≤ cp)
    (hI : Calls Tryd.prog 36 #[.slice (some ⟨b, o, none⟩) l.length cp, .int .u8 cv] w fun e w' => e = .returned (.int .i64 (i : Int)) ∧ w' = w)
    (hC : (convert 22 9 (.slice (some ⟨b, o, none⟩) i cp)).run Tryd.prog w = .ok (.string ⟨(itoa n).toArray⟩) w) (hV : Vars B w) (hB : B ≤ w.heap.size)
    (h0 : -9223372036854775808 ≤ n) (h1 : n ≤ 9223372036854775807) (hok : atoiAll (itoa n) = .ok n) :
    Calls Tryd.prog 31 #[.slice (some ⟨b, o, none⟩) l.length cp, .int .u8 cv] w fun e w' => e = .returned (.tuple #[.int .i64 n, .int .i64 (i + 1), .bool true]) ∧ Below w.heap.size w w' := by
  have hl := itoa_length n h0 h1
  have hA := atoi_ok w ⟨(itoa n).toArray⟩ (by simp [ByteArray.size]; omega) n hok
  clear hok hl
  generalize hs : (⟨(itoa n).toArray⟩ : ByteArray) = s at *
  go_enter Tryd.func31, Tryd.ntmps31
  go_wp2_with fail
  refine hI.mono ?_
  rintro e w1 ⟨rfl, rfl⟩
  clear hI
  go_wp2_with fail
  refine hA.mono ?_
  rintro e w2 ⟨rfl, hb⟩
  clear hA
  go_wp2_with fail
  have hI := itoa_any w2 B n h0 h1 (hV.on (hb.mono hB))
  rw [hs] at hI
  refine hI.mono ?_
  rintro e w3 ⟨rfl, hb3⟩
  clear hI
  go_wp2
  go_ret3
  exact ⟨rfl, hb.trans (hb3.mono hb.size)⟩

theorem bytes_ne {s t : ByteArray} (h : t ≠ s) : (s.toList == t.toList) = false := by
  rw [beq_eq_false_iff_ne]
  intro e
  rw [toList_data, toList_data] at e
  exact h (ByteArray.ext (Array.toList_inj.1 e.symm))

set_option maxHeartbeats 400000 in
theorem digits_un (w : World) (B b o cp : Nat) (l : List UInt8) (cv : Int) (i : Nat) (n : Int) (t : ByteArray) (h20 : i ≤ 20) (hil : i < l.length) (hlc : l.length ≤ cp)
    (hI : Calls Tryd.prog 36 #[.slice (some ⟨b, o, none⟩) l.length cp, .int .u8 cv] w fun e w' => e = .returned (.int .i64 (i : Int)) ∧ w' = w)
    (hC : (convert 22 9 (.slice (some ⟨b, o, none⟩) i cp)).run Tryd.prog w = .ok (.string t) w) (ht : t.size ≤ 1000) (hV : Vars B w) (hB : B ≤ w.heap.size)
    (h0 : -9223372036854775808 ≤ n) (h1 : n ≤ 9223372036854775807) (hok : atoiAll t.data.toList = .ok n) (hne : t ≠ ⟨(itoa n).toArray⟩) :
    Calls Tryd.prog 31 #[.slice (some ⟨b, o, none⟩) l.length cp, .int .u8 cv] w fun e w' => e = .returned (.tuple #[.int .i64 0, .int .i64 0, .bool false]) ∧ Below w.heap.size w w' := by
  have hA := atoi_ok w t ht n hok
  clear hok ht
  go_enter Tryd.func31, Tryd.ntmps31
  go_wp2_with fail
  refine hI.mono ?_
  rintro e w1 ⟨rfl, rfl⟩
  clear hI
  go_wp2_with fail
  refine hA.mono ?_
  rintro e w2 ⟨rfl, hb⟩
  clear hA
  go_wp2_with fail
  have hI := itoa_any w2 B n h0 h1 (hV.on (hb.mono hB))
  generalize (⟨(itoa n).toArray⟩ : ByteArray) = s at *
  have hq := bytes_ne hne
  refine hI.mono ?_
  rintro e w3 ⟨rfl, hb3⟩
  clear hI hne
  go_wp2
  go_ret3
  exact ⟨rfl, hb.trans (hb3.mono hb.size)⟩

/-- What digits hands back. -/
def digsV : Option (Int × Nat) → Value
  | some (n, i) => .tuple #[.int .i64 n, .int .i64 (i + 1), .bool true]
  | none => .tuple #[.int .i64 0, .int .i64 0, .bool false]

theorem digits_any (w : World) (B : Nat) (v : Value) (l : List UInt8) (c : UInt8) (cv : Int) (hcv : cv = (c.toNat : Int)) (h : RdB w v l) (hV : Vars B w) (hB : B ≤ w.heap.size) :
    Calls Tryd.prog 31 #[v, .int .u8 cv] w fun e w' => e = .returned (digsV (digs l c)) ∧ Below w.heap.size w w' := by
  by_cases hf : indexByte l c < 0 ∨ 20 < indexByte l c
  · have e : digs l c = none := by unfold digs; rw [if_pos hf]
    rw [e]
    refine (digits_far w v l c cv hcv h hf).mono ?_
    rintro e w' ⟨rfl, rfl⟩
    exact ⟨rfl, Below.refl _ _⟩
  · obtain ⟨i, hi⟩ := Int.eq_ofNat_of_zero_le (show 0 ≤ indexByte l c by omega)
    have h20 : i ≤ 20 := by omega
    have hil : i < l.length := (List.getElem?_eq_some_iff.1 (indexByte_some hi).1).1
    have hI := index_any w v l c cv hcv h
    rw [hi] at hI
    rcases h with ⟨rfl, rfl⟩ | ⟨b, o, cp, rfl, hlc, hc⟩
    · simp at hil
    have hC := conv_any (RdB.take i (by omega) hc hlc)
    have hsz : (⟨(l.take i).toArray⟩ : ByteArray).size ≤ 1000 := by simp [ByteArray.size]; omega
    have hdl : (⟨(l.take i).toArray⟩ : ByteArray).data.toList = l.take i := by simp
    have ei : (indexByte l c).toNat = i := by omega
    cases ha : atoiAll (l.take i) with
    | ok n =>
      obtain ⟨h0, h1⟩ := atoiAll_bounds ha
      by_cases he : itoa n = l.take i
      · have e : digs l c = some (n, i) := by unfold digs; rw [if_neg hf, ei, ha]; simp only [he, if_true]
        rw [e]
        rw [← he] at hC ha
        exact digits_yes w B b o cp l cv i n h20 hil hlc hI hC hV hB h0 h1 ha
      · have e : digs l c = none := by unfold digs; rw [if_neg hf, ei, ha]; simp only [he, if_false]
        rw [e]
        refine digits_un w B b o cp l cv i n _ h20 hil hlc hI hC hsz hV hB h0 h1 (by rw [hdl]; exact ha) ?_
        intro x
        exact he (by have := congrArg (fun b : ByteArray => b.data.toList) x; simpa using this.symm)
    | «syntax» =>
      have e : digs l c = none := by unfold digs; rw [if_neg hf, ei, ha]
      rw [e]
      exact digits_fail w B b o cp l cv i _ h20 hil hlc hI hC hsz hV (by rw [hdl, ha]; intro v hv; cases hv)
    | range =>
      have e : digs l c = none := by unfold digs; rw [if_neg hf, ei, ha]
      rw [e]
      exact digits_fail w B b o cp l cv i _ h20 hil hlc hI hC hsz hV (by rw [hdl, ha]; intro v hv; cases hv)
end Go.Proofs.YtbdfhmffdnlbfaaDoor
