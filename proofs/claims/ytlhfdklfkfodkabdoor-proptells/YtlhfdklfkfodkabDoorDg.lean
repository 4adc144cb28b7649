
/- What the library's setDigits leaves of any number: its digits, and how many there are without the noughts at the end. -/
import Derived.Test.YtlhfdklfkfodkabDoorMe
import Derived.Test.YtlhfdklfkfodkabDoorFs
namespace Go.Proofs.YtlhfdklfkfodkabDoor.Ff
open Go.RowKit Go.Lib Go.Sort

abbrev encU8 : UInt8 → Value := fun b => .int .u8 (b.toNat : Int)

/-- The digits of u, nd of them, stand in block q from its beginning on. -/
def Digs (w : World) (q u nd : Nat) : Prop := ∀ t, t < nd → w.cell? ⟨q, t, none⟩ = some (.int .u8 ((dg u (nd - 1 - t)).toNat : Int))
/-- k of them are left without the noughts at the end. -/
def Trims (u nd k : Nat) : Prop := k ≤ nd ∧ (∀ t, k ≤ t → t < nd → dg u (nd - 1 - t) = 48) ∧ (k = 0 ∨ dg u (nd - k) ≠ 48)

theorem grown_put (w : World) (q : Nat) (d : Array UInt8) (n : Nat) : w.grownBy ((putRow encU8 w q 0 d).drewN n) (some q) := by
  refine ⟨rfl, rfl, rfl, by simp, fun k hk hne => ?_⟩
  have : q ≠ k := fun e => hne (by rw [e])
  simp [putRow, mapBlock, Array.getElem?_modify, this]

set_option maxHeartbeats 1000000 in
theorem setDigits_any (w : World) (q u nd : Nat) (p : Int) (cs : Array Value) (ty : TypeId) (hb : w.heap[q]? = some (.cells cs ty (0, 0))) (hcs : cs = (List.replicate 32 (.int .u8 0)).toArray) (hnd : nd ≤ 32) (hu : u < 10 ^ nd) (hu64 : u < 18446744073709551616) (hp0 : -100000 ≤ p) (hp1 : p ≤ 100000) :
    Calls Tryd.prog 50 #[.slice (some ⟨q, 0, none⟩) 32 32, .int .u64 u, .int .i64 p, .int .i64 nd] w fun e w' =>
      ∃ k : Nat, e = .returned (.tuple #[.int .i64 (nd + p), .int .i64 k]) ∧ Trims u nd k ∧ Digs w' q u nd ∧ w.grownBy w' (some q) := by
  have hcell : ∀ j, j < 32 → w.cell? ⟨q, j, none⟩ = some (.int .u8 0) := fun j hj => by
    subst hcs
    simp only [World.cell?, hb]
    rw [List.getElem?_toArray, List.getElem?_replicate_of_lt hj]
    rfl
  have hH : Holds encU8 w q 0 (List.replicate nd (0 : UInt8)).toArray := fun j hj => by
    simp at hj
    refine ⟨?_, ?_⟩
    · rw [Nat.zero_add, hcell j (by omega)]
      simp [encU8, getElem!_pos, hj]
    · simp [World.frozen?, hb]
  have hF := Tryd.internal_strconv_formatBase10 q 0 32 u (List.replicate nd (0 : UInt8)).toArray w hH (by simpa using hu) hu64 (by simp; omega)
  simp only [List.size_toArray, List.length_replicate] at hF
  have HH : Hid _ := hH
  clear hH hcell hb hcs hu
  go_enter Tryd.func50, Tryd.ntmps50
  go_wp2_with fail
  refine hF.mono ?_
  rintro e w1 ⟨rfl, n, v', dk, rfl, hI⟩
  clear hF
  have hsz := hI.size
  have hD : Digs ((putRow encU8 w q 0 dk).drewN n) q u nd := fun t ht => by
    have := cell?_putRow encU8 w q 0 _ dk HH.out (by simp [hsz]) t (by omega)
    rw [World.cell?_drewN, Nat.zero_add] at *
    rw [this, hI.done t (Nat.zero_le _) ht]
  have hG : w.grownBy ((putRow encU8 w q 0 dk).drewN n) (some q) := grown_put w q dk n
  clear hI HH hsz
  generalize ((putRow encU8 w q 0 dk).drewN n) = w1 at *
  have HD : Hid (Digs w1 q u nd) := hD
  have HG : Hid (w.grownBy w1 (some q)) := hG
  clear hD hG
  go_wp2_with fail
  go_loop [3] (fun x => ∃ k : Nat, k ≤ nd ∧ x = .int .i64 k ∧ ∀ t, k ≤ t → t < nd → dg u (nd - 1 - t) = 48) (fun x => (RowKit.intOf x).toNat)
  case atStart => exact ⟨nd, Nat.le_refl _, rfl, fun t h1 h2 => by omega⟩
  case round =>
    obtain ⟨k, hk, rfl, ht⟩ := hrel
    have HT : Hid (∀ t, k ≤ t → t < nd → dg u (nd - 1 - t) = 48) := ht
    clear ht
    by_cases h0 : k = 0
    · subst h0
      go_wp2
      go_ret2
      exact ⟨0, rfl, ⟨Nat.zero_le _, HT.out, .inl rfl⟩, HD.out, HG.out⟩
    · obtain ⟨j, rfl⟩ : ∃ j, k = j + 1 := ⟨k - 1, by omega⟩
      have hc := HD.out j (by omega)
      have HJ : Hid (dg u (nd - 1 - j) = dg u (nd - (j + 1))) := by
        show dg u (nd - 1 - j) = dg u (nd - (j + 1))
        congr 1; omega
      have hlt := (dg u (nd - 1 - j)).toNat_lt
      by_cases h48 : dg u (nd - 1 - j) = 48
      · rw [h48] at hc
        have HE : Hid (dg u (nd - 1 - j) = 48) := h48
        clear h48 hlt h0
        have e48 : (((48 : UInt8).toNat : Nat) : Int) = 48 := rfl
        rw [e48] at hc
        clear e48
        go_wp2
        go_round
        case rel =>
          refine ⟨j, by omega, by go_num, fun t h1 h2 => ?_⟩
          by_cases e : t = j
          · subst e; exact HE.out
          · exact HT.out t (by omega) h2
        case measure => simp [RowKit.intOf]
      · have hne : (((dg u (nd - 1 - j)).toNat : Int) == 48) = false := by
          rw [beq_eq_false_iff_ne]
          intro e
          apply h48
          apply UInt8.toNat_inj.1
          show _ = 48
          omega
        have HE : Hid (dg u (nd - 1 - j) ≠ 48) := h48
        generalize ((dg u (nd - 1 - j)).toNat : Int) = x at *
        clear h48 hlt h0
        go_wp2
        go_ret2
        refine ⟨j + 1, ?_, ⟨by omega, HT.out, .inr ?_⟩, HD.out, HG.out⟩
        · rfl
        · rw [← HJ.out]; exact HE.out
end Go.Proofs.YtlhfdklfkfodkabDoor.Ff
