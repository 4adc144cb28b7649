/- What trivetlaw01.put answers of any list of parts that can be read: its bytes, or that it is more than is played; where the library's table of powers of ten reads as it was laid. -/
import Derived.Test.YtbdfhmffdnlbfabDoorWakes
namespace Go.Proofs.YtbdfhmffdnlbfabDoor
open Go.RowKit Go.Lib

theorem RdB.lens {w : World} {v : Value} {l : List UInt8} (h : RdB w v l) : ∃ a c, v = .slice a l.length c := by
  rcases h with ⟨rfl, rfl⟩ | ⟨b, o, c, rfl, _⟩
  · exact ⟨_, _, rfl⟩
  · exact ⟨_, _, rfl⟩

/-- A part as it lies in memory: whether it is a text, the number, the text. -/
abbrev Pm := Bool × Int × ByteArray
def ptOf (p : Pm) : Pt := (p.1, p.2.1, p.2.2.data.toList)
def pts (ps : List Pm) : List Pt := ps.map ptOf
def pmZ : Pm := (false, 0, ByteArray.empty)

/-- A slice of parts that can be read. -/
def RdP (w : World) (v : Value) (ps : List Pm) : Prop :=
  (∀ p ∈ ps, -9223372036854775808 ≤ p.2.1 ∧ p.2.1 ≤ 9223372036854775807) ∧
  (((∃ a c, v = .slice a 0 c) ∧ ps = []) ∨ ∃ (b o c : Nat), v = .slice (some ⟨b, o, none⟩) ps.length c ∧ ∀ i, i < ps.length →
    w.cell? ⟨b, o + i * 3, none⟩ = some (.bool (ps.getD i pmZ).1) ∧ w.cell? ⟨b, o + i * 3 + 1, none⟩ = some (.int .i64 (ps.getD i pmZ).2.1) ∧ w.cell? ⟨b, o + i * 3 + 2, none⟩ = some (.string (ps.getD i pmZ).2.2))

theorem RdP.on {w w' : World} {v : Value} {ps : List Pm} (h : RdP w v ps) (hb : Below w.heap.size w w') : RdP w' v ps := by
  obtain ⟨hr, h⟩ := h
  refine ⟨hr, ?_⟩
  rcases h with h | ⟨b, o, c, rfl, hc⟩
  · exact .inl h
  · refine .inr ⟨b, o, c, rfl, fun i hi => ?_⟩
    obtain ⟨h0, h1, h2⟩ := hc i hi
    have hl := World.block_lt_of_cell? w _ h0
    rw [hb.cell (p := ⟨b, o + i * 3, none⟩) hl, hb.cell (p := ⟨b, o + i * 3 + 1, none⟩) hl, hb.cell (p := ⟨b, o + i * 3 + 2, none⟩) hl]
    exact ⟨h0, h1, h2⟩
theorem RdP.len {w : World} {v : Value} {ps : List Pm} (h : RdP w v ps) : ∃ a c, v = .slice a ps.length c := by
  rcases h.2 with ⟨⟨a, c, rfl⟩, rfl⟩ | ⟨b, o, c, rfl, _⟩
  · exact ⟨_, _, rfl⟩
  · exact ⟨_, _, rfl⟩
theorem RdP.at {w : World} {a : Option Addr} {n c : Nat} {ps : List Pm} (h : RdP w (.slice a n c) ps) {k : Nat} (hk : k < ps.length) : ∃ b o, a = some ⟨b, o, none⟩ ∧
    w.cell? ⟨b, o + k * 3, none⟩ = some (.bool (ps.getD k pmZ).1) ∧ w.cell? ⟨b, o + k * 3 + 1, none⟩ = some (.int .i64 (ps.getD k pmZ).2.1) ∧ w.cell? ⟨b, o + k * 3 + 2, none⟩ = some (.string (ps.getD k pmZ).2.2) := by
  rcases h.2 with ⟨_, rfl⟩ | ⟨b, o, c, e, hc⟩
  · simp at hk
  · cases e
    exact ⟨b, o, rfl, hc k hk⟩
theorem RdP.rng {w : World} {v : Value} {ps : List Pm} (h : RdP w v ps) (k : Nat) : -9223372036854775808 ≤ (ps.getD k pmZ).2.1 ∧ (ps.getD k pmZ).2.1 ≤ 9223372036854775807 := by
  rw [List.getD_eq_getElem?_getD]
  cases e : ps[k]? with
  | none => exact ⟨by simp [pmZ], by simp [pmZ]⟩
  | some z => exact h.1 z (List.mem_of_getElem? e)

theorem pts_take (ps : List Pm) (k : Nat) (h : k < ps.length) : encAll (pts (ps.take (k + 1))) = encAll (pts (ps.take k)) ++ encP (ptOf (ps.getD k pmZ)) := by
  rw [List.take_succ_eq_append_getElem h, pts, List.map_append, List.map_cons, List.map_nil, encAll_snoc, List.getD_eq_getElem?_getD, List.getElem?_eq_getElem h, Option.getD_some]
  rfl

/-- What is played: up to 200 parts, texts up to 4096 bytes. -/
def Played (ps : List Pm) : Prop := ps.length ≤ 200 ∧ ∀ p ∈ ps, p.2.2.size ≤ 4096

theorem lit1 (w : World) (N : Nat) (hN : N = w.heap.size) (z : Int) (h : -9223372036854775808 ≤ z ∧ z ≤ 9223372036854775807) : RdN (w.alloc (.cells #[.int .i64 z] 3)) (.slice (some ⟨N, 0, none⟩) 1 1) [z] := by
  subst hN
  refine ⟨fun y hy => by simp at hy; subst hy; exact h, .inr ⟨w.heap.size, 0, 1, rfl, fun i hi => ?_⟩⟩
  rw [World.cell?_alloc_new]
  match i, hi with
  | 0, _ => rfl

set_option maxHeartbeats 1000000 in
theorem put_any (w : World) (v : Value) (ps : List Pm) (h : RdP w v ps) (hl : ps.length ≤ 140737488355328) (hV : Vars w.heap.size w) :
    Calls Tryd.prog 5 #[v] w fun e w' => Below w.heap.size w w' ∧ (e = .returned (.tuple #[.slice none 0 0, .bool false]) ∨ ∃ v', e = .returned (.tuple #[v', .bool true]) ∧ RdB w' v' (encAll (pts ps)) ∧ Played ps) := by
  obtain ⟨a, c, rfl⟩ := h.len
  have HP : Hid (RdP w (.slice a ps.length c) ps) := h
  have HV : Hid (Vars w.heap.size w) := hV
  clear h hV
  by_cases hbig : 200 < ps.length
  · have hb2 : (200 : Int) < (ps.length : Int) := by omega
    go_enter Tryd.func5, Tryd.ntmps5
    go_wp2
    go_ret2
    exact ⟨Below.refl _ _, .inl rfl⟩
  have hb2 : (ps.length : Int) ≤ 200 := by omega
  go_enter Tryd.func5, Tryd.ntmps5
  go_wp2_with fail
  go_loopw [4, 12] (fun v i wr => ∃ k : Nat, k ≤ ps.length ∧ i = .int .i64 k ∧ RdB wr v (encAll (pts (ps.take k))) ∧ Below w.heap.size w wr ∧ Hid (∀ p ∈ ps.take k, p.2.2.size ≤ 4096)) (fun _ i _ => ps.length - (RowKit.intOf i).toNat)
  case atStart => exact ⟨0, Nat.zero_le _, rfl, .inl ⟨rfl, rfl⟩, Below.refl _ _, by intro p hp; simp at hp⟩
  case round =>
    obtain ⟨k, hk, rfl, hr, hbr, hP⟩ := hrel
    have hwr := hbr.size
    obtain ⟨ad, cv, rfl⟩ := hr.lens
    by_cases hlt : k < ps.length
    · obtain ⟨b, o, rfl, h0, h1, h2⟩ := HP.out.at hlt
      have hlo := World.block_lt_of_cell? w _ h0
      have hc0 : wr.cell? ⟨b, o + k * 3, none⟩ = some (.bool (ps.getD k pmZ).1) := by rw [hbr.cell (p := ⟨b, o + k * 3, none⟩) hlo]; exact h0
      have hc1 : wr.cell? ⟨b, o + k * 3 + 1, none⟩ = some (.int .i64 (ps.getD k pmZ).2.1) := by rw [hbr.cell (p := ⟨b, o + k * 3 + 1, none⟩) hlo]; exact h1
      have hc2 : wr.cell? ⟨b, o + k * 3 + 2, none⟩ = some (.string (ps.getD k pmZ).2.2) := by rw [hbr.cell (p := ⟨b, o + k * 3 + 2, none⟩) hlo]; exact h2
      clear h0 h1 h2
      have hrg := HP.out.rng k
      have hT : Hid (encAll (pts (ps.take (k + 1))) = encAll (pts (ps.take k)) ++ encP (ptOf (ps.getD k pmZ))) := pts_take ps k hlt
      have hQ : Hid (∀ p ∈ ps.take (k + 1), p = ps.getD k pmZ ∨ p ∈ ps.take k) := by
        intro p hp
        rw [List.take_succ_eq_append_getElem hlt] at hp
        rcases List.mem_append.1 hp with hp | hp
        · exact .inr hp
        · simp at hp; subst hp; simp [List.getElem?_eq_getElem hlt]
      generalize ps.getD k pmZ = pm at *
      obtain ⟨t, n, s⟩ := pm
      generalize encAll (pts (ps.take k)) = l at *
      simp only at hc0 hc1 hc2 hrg
      obtain ⟨hr1, hr2⟩ := hrg
      by_cases hbb : 8192 < l.length
      · have : (8192 : Int) < (l.length : Int) := by omega
        go_wp2
        go_ret2
        exact ⟨hbr.alloc hwr _, .inl rfl⟩
      have hb3 : (l.length : Int) ≤ 8192 := by omega
      by_cases hss : 4096 < s.size
      · have : (4096 : Int) < (s.size : Int) := by omega
        go_wp2
        go_ret2
        exact ⟨hbr.alloc hwr _, .inl rfl⟩
      have hb4 : (s.size : Int) ≤ 4096 := by omega
      have hP' : Hid (∀ p ∈ ps.take (k + 1), p.2.2.size ≤ 4096) := by
        intro p hp
        rcases hQ.out p hp with rfl | hp
        · show s.size ≤ 4096; omega
        · exact hP.out p hp
      clear hP hQ
      cases t with
      | true =>
        have hT2 : Hid (encAll (pts (ps.take (k + 1))) = l ++ encS s.data.toList) := hT.out
        clear hT
        go_wp2_with fail
        refine (str_any _ _ l s (.inl (hr.on ((Below.refl _ _).alloc (Nat.le_refl _) _))) (by omega) (HV.out.up (hbr.alloc hwr _) (by simp; omega)).tab).mono ?_
        rintro e w2 ⟨v2, rfl, ho2, hb2'⟩
        have hr2' := ho2.rd
        rw [← hT2.out] at hr2'
        have b2 := hbr.trans ((below_alloc hb2').mono hwr)
        clear ho2 hb2' hT2 hr hbr hc0 hc1 hc2
        go_wp2
        go_roundw
        case rel => exact ⟨k + 1, by omega, by go_num, hr2', b2, hP'⟩
        case measure => simp [RowKit.intOf]; omega
      | false =>
        have hT2 : Hid (encAll (pts (ps.take (k + 1))) = l ++ encNs [n]) := by
          show _ = _
          rw [hT.out]; simp [encP, ptOf, encNs]
        clear hT
        go_wp2_with fail
        refine (num_any ((wr.alloc (.cells #[.bool false, .int .i64 n, .string s] 32)).alloc (.cells #[.int .i64 n] 3)) (.slice ad l.length cv) (.slice (some ⟨wr.heap.size + 1, 0, none⟩) 1 1) l [n] (.inl ((hr.on ((Below.refl _ _).alloc (Nat.le_refl _) _)).on ((Below.refl _ _).alloc (Nat.le_refl _) _))) (lit1 _ _ (by simp) n ⟨hr1, hr2⟩) (by simp; omega) (HV.out.up ((hbr.alloc hwr _).alloc (by simp; omega) _) (by simp; omega)).tab).mono ?_
        rintro e w2 ⟨v2, rfl, ho2, hb2'⟩
        have hr2' := ho2.rd
        rw [← hT2.out] at hr2'
        have b2 := hbr.trans ((below_alloc (below_alloc hb2')).mono hwr)
        clear ho2 hb2' hT2 hr hbr hc0 hc1 hc2
        go_wp2
        go_roundw
        case rel => exact ⟨k + 1, by omega, by go_num, hr2', b2, hP'⟩
        case measure => simp [RowKit.intOf]; omega
    · have HE : Hid (ps.take k = ps) := List.take_of_length_le (by omega)
      go_wp2
      go_ret2
      have e : encAll (pts (ps.take k)) = encAll (pts ps) := by rw [HE.out]
      have hP' := hP.out
      rw [HE.out] at hP'
      refine ⟨hbr, .inr ⟨.slice ad (encAll (pts (ps.take k))).length cv, rfl, ?_, by omega, hP'⟩⟩
      rw [← e]
      exact hr
end Go.Proofs.YtbdfhmffdnlbfabDoor
