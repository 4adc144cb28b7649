
/- What cord.Num answers of any bytes that can be read and any list of numbers of such lengths as fit into memory, where the library's table of powers of ten reads as it was laid. -/
import Derived.Test.YtlhfdklfkfodkabDoorPut
namespace Go.Proofs.YtlhfdklfkfodkabDoor
open Go.RowKit Go.Lib

/-- A slice of ints that can be read: nil, or so many cells. -/
def RdN (w : World) (v : Value) (zs : List Int) : Prop :=
  (∀ z ∈ zs, -9223372036854775808 ≤ z ∧ z ≤ 9223372036854775807) ∧
  (((∃ a c, v = .slice a 0 c) ∧ zs = []) ∨ ∃ (b o c : Nat), v = .slice (some ⟨b, o, none⟩) zs.length c ∧ ∀ i, i < zs.length → w.cell? ⟨b, o + i, none⟩ = some (.int .i64 (zs.getD i 0)))

theorem RdN.on {w w' : World} {v : Value} {l : List Int} (h : RdN w v l) (hb : Below w.heap.size w w') : RdN w' v l := by
  obtain ⟨hr, h⟩ := h
  refine ⟨hr, ?_⟩
  rcases h with h | ⟨b, o, c, rfl, hc⟩
  · exact .inl h
  · refine .inr ⟨b, o, c, rfl, fun i hi => ?_⟩
    rw [hb.cell (p := ⟨b, o + i, none⟩) (World.block_lt_of_cell? w _ (hc i hi))]
    exact hc i hi

theorem encNs_length : ∀ (zs : List Int), (∀ z ∈ zs, -9223372036854775808 ≤ z ∧ z ≤ 9223372036854775807) → (encNs zs).length ≤ 21 * zs.length
  | [], _ => by simp [encNs]
  | z :: zs, h => by
    have h1 := encNs_length zs (fun x hx => h x (List.mem_cons_of_mem _ hx))
    have h2 := itoa_length z (h z (by simp)).1 (h z (by simp)).2
    have e : encNs (z :: zs) = itoa z ++ [59] ++ encNs zs := by simp [encNs, encN]
    rw [e]
    simp only [List.length_append, List.length_cons, List.length_nil]
    omega
theorem encNs_take (zs : List Int) (k : Nat) (h : k < zs.length) : encNs (zs.take (k + 1)) = encNs (zs.take k) ++ (itoa (zs.getD k 0) ++ [59]) := by
  rw [List.take_succ_eq_append_getElem h, encNs_snoc, List.getD_eq_getElem?_getD, List.getElem?_eq_getElem h, Option.getD_some]
theorem take_range {zs : List Int} (h : ∀ z ∈ zs, -9223372036854775808 ≤ z ∧ z ≤ 9223372036854775807) (k : Nat) : (encNs (zs.take k)).length ≤ 21 * k := by
  have h1 := encNs_length (zs.take k) (fun z hz => h z (List.mem_of_mem_take hz))
  have h2 : (zs.take k).length ≤ k := List.length_take_le _ _
  omega
theorem getD_range {zs : List Int} (h : ∀ z ∈ zs, -9223372036854775808 ≤ z ∧ z ≤ 9223372036854775807) (k : Nat) : -9223372036854775808 ≤ zs.getD k 0 ∧ zs.getD k 0 ≤ 9223372036854775807 := by
  rw [List.getD_eq_getElem?_getD]
  cases e : zs[k]? with
  | none => simp
  | some z => exact h z (List.mem_of_getElem? e)

theorem step_num {w : World} {B : Nat} {v : Value} {l : List UInt8} {zs : List Int} {k : Nat} (h : k < zs.length) (ho : Own w B v (l ++ (encNs (zs.take k) ++ (itoa (zs.getD k 0) ++ [59])))) : Own w B v (l ++ encNs (zs.take (k + 1))) := by
  rw [encNs_take zs k h]
  exact ho

set_option maxHeartbeats 400000 in
theorem num_some (w : World) (v : Value) (l : List UInt8) (zs : List Int) (b o c : Nat) (h : RdA w v l) (hr : ∀ z ∈ zs, -9223372036854775808 ≤ z ∧ z ≤ 9223372036854775807)
    (hc : ∀ i, i < zs.length → w.cell? ⟨b, o + i, none⟩ = some (.int .i64 (zs.getD i 0))) (hl : l.length + 21 * zs.length + 100 ≤ 140737488355328) (ht : Tab w.heap.size w) :
    Calls Tryd.prog 10 #[v, .slice (some ⟨b, o, none⟩) zs.length c] w fun e w' => ∃ v', e = .returned v' ∧ Own w' w.heap.size v' (l ++ encNs zs) ∧ Below w.heap.size w w' := by
  have H : Hid (∀ i, i < zs.length → w.cell? ⟨b, o + i, none⟩ = some (.int .i64 (zs.getD i 0))) := hc
  have HR : Hid (∀ z ∈ zs, -9223372036854775808 ≤ z ∧ z ≤ 9223372036854775807) := hr
  clear hc hr
  go_enter Tryd.func10, Tryd.ntmps10
  go_wp2_with fail
  refine (clone_any w v l h (by omega)).mono ?_
  rintro e w1 ⟨v1, rfl, ho1, hb1⟩
  go_wp2_with fail
  go_loopw [5, 12] (fun v i wr => ∃ k : Nat, k ≤ zs.length ∧ i = .int .i64 k ∧ Own wr w.heap.size v (l ++ encNs (zs.take k)) ∧ Below w.heap.size w wr) (fun _ i _ => zs.length - (RowKit.intOf i).toNat)
  case atStart => exact ⟨0, Nat.zero_le _, rfl, by simpa [encNs] using ho1, hb1⟩
  case round =>
    obtain ⟨k, hk, rfl, ho, hbr⟩ := hrel
    have hwr := hbr.size
    by_cases hlt : k < zs.length
    · have hcx : wr.cell? ⟨b, o + k, none⟩ = some (.int .i64 (zs.getD k 0)) := by
        rw [hbr.cell (p := ⟨b, o + k, none⟩) (World.block_lt_of_cell? w _ (H.out k hlt))]; exact H.out k hlt
      have hrg := getD_range HR.out k
      have htl := take_range HR.out k
      have hil := itoa_length _ hrg.1 hrg.2
      have hS : Hid (∀ w' v', Own w' w.heap.size v' (l ++ (encNs (zs.take k) ++ (itoa (zs.getD k 0) ++ [59]))) → Own w' w.heap.size v' (l ++ encNs (zs.take (k + 1)))) := fun w' v' h => step_num hlt h
      generalize zs.getD k 0 = z at *
      generalize encNs (zs.take k) = t at *
      obtain ⟨hr1, hr2⟩ := hrg
      have hlB : (l ++ t).length + 21 ≤ 140737488355328 := by simp only [List.length_append]; omega
      go_wp2_with fail
      refine (appInt wr w.heap.size _ (l ++ t) z hr1 hr2 ho (by omega) hlB (ht.on hbr)).mono ?_
      rintro e w2 ⟨v2, rfl, ho2, hb2⟩
      have hw2 := hb2.size
      have hlC : (l ++ t ++ itoa z).length + 1 ≤ 140737488355328 := by simp only [List.length_append] at hlB ⊢; omega
      go_wp2_with (at_builtin; refine app1 rfl (.tmp 19) (.tmp 20) rfl w.heap.size v2 (l ++ t ++ itoa z) w2 59 59 rfl rfl ho2 rfl hlC (by omega) ?_)
      intro v3 w3 ho3 hb3
      have ho4 := hS.out _ _ ho3
      clear ho3 hS hlB hlC
      go_wp2
      go_roundw
      case rel => exact ⟨k + 1, by omega, by go_num, ho4, (hbr.trans hb2).trans hb3⟩
      case measure => simp [RowKit.intOf]; omega
    · go_wp2
      go_ret
      rw [List.take_of_length_le (by omega)] at ho
      exact ⟨_, rfl, ho, hbr⟩

set_option maxHeartbeats 400000 in
theorem num_nil (w : World) (v : Value) (l : List UInt8) (a : Option Addr) (c : Nat) (h : RdA w v l) (hl : l.length + 100 ≤ 140737488355328) :
    Calls Tryd.prog 10 #[v, .slice a 0 c] w fun e w' => ∃ v', e = .returned v' ∧ Own w' w.heap.size v' l ∧ Below w.heap.size w w' := by
  go_enter Tryd.func10, Tryd.ntmps10
  go_wp2_with fail
  refine (clone_any w v l h (by omega)).mono ?_
  rintro e w1 ⟨v1, rfl, ho1, hb1⟩
  go_wp2_with fail
  go_loopw [5, 12] (fun v i wr => i = .int .i64 0 ∧ Own wr w.heap.size v l ∧ Below w.heap.size w wr) (fun _ _ _ => 0)
  case atStart => exact ⟨rfl, ho1, hb1⟩
  case round =>
    obtain ⟨rfl, ho, hbr⟩ := hrel
    go_wp2
    go_ret
    exact ⟨_, rfl, ho, hbr⟩

theorem num_any (w : World) (v u : Value) (l : List UInt8) (zs : List Int) (h : RdA w v l) (hz : RdN w u zs) (hl : l.length + 21 * zs.length + 100 ≤ 140737488355328) (ht : Tab w.heap.size w) :
    Calls Tryd.prog 10 #[v, u] w fun e w' => ∃ v', e = .returned v' ∧ Own w' w.heap.size v' (l ++ encNs zs) ∧ Below w.heap.size w w' := by
  obtain ⟨hr, ⟨⟨a, c, rfl⟩, rfl⟩ | ⟨b, o, c, rfl, hc⟩⟩ := hz
  · simpa [encNs] using num_nil w v l a c h (by omega)
  · exact num_some w v l zs b o c h hr hc hl ht
end Go.Proofs.YtlhfdklfkfodkabDoor
