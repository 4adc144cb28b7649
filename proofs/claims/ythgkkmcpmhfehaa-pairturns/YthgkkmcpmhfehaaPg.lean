/- tape.pages: the pages on which bytes stand, gone over in order. -/
import Derived.Test.YthgkkmcpmhfehaaRg
import Derived.Test.YthgkkmcpmhfehaaChecked
import Derived.Shelf.Abstract
import Derived.WalkKit
import Derived.OwnWalkIn
import Derived.TacticsInMore
import Derived.LoopNIn
import Derived.LoopIn
namespace Go.Proofs.Ythgkkmcpmhfehaa
open Go.RowKit Go.Shelf
attribute [local go_sem] Oper.semAt_some

/-- How many pages hold the bytes from one place to another. -/
def pgN (from' to' : Nat) : Nat := (to' + 255) / 256 - from' / 256
/-- What a round is handed. -/
def pgE (lo from' k : Nat) : Array Value := #[.int .i64 ((lo : Int) + ((from' / 256 + k : Nat) : Int)), .int .i64 (((from' / 256 + k : Nat) : Int) * 256)]

theorem pages_w (w : World) (q : Nat) (x y : Int) : Calls Try.prog 88 #[.pointer (some ⟨q, 0, none⟩), .int .i64 x, .int .i64 y] w fun e w' =>
    e = .returned (.func (.func 95) #[] #[.pointer (some ⟨w.heap.size + 1, 0, none⟩), .pointer (some ⟨w.heap.size + 2, 0, none⟩), .pointer (some ⟨w.heap.size, 0, none⟩)]) ∧
    w' = ((w.alloc (.cells #[.pointer (some ⟨q, 0, none⟩)] 72)).alloc (.cells #[.int .i64 x] 3)).alloc (.cells #[.int .i64 y] 3) := by
  have hmf : ∀ (fn : Fn) (first cap : Array Value) (w : World), (Instr.makeFunc fn first cap).run Try.prog w = .ok (.func fn first cap) w := fun _ _ _ _ => rfl
  go_enter Try.func88, Try.ntmps88
  go_wp2
  go_ret
  exact ⟨rfl, rfl⟩

set_option maxRecDepth 100000 in
set_option maxHeartbeats 2000000 in
theorem pages_iter (b0 b1 b2 q lo from' to' : Nat) (hlo : lo ≤ 4096) (hft : from' ≤ to') (hto : to' ≤ 1048576) :
    Iter Try.prog 95 #[.pointer (some ⟨b1, 0, none⟩), .pointer (some ⟨b2, 0, none⟩), .pointer (some ⟨b0, 0, none⟩)] (pgE lo from') (pgN from' to') fun W =>
      W.cell? ⟨b0, 0, none⟩ = some (.pointer (some ⟨q, 0, none⟩)) ∧ W.cell? ⟨b1, 0, none⟩ = some (.int .i64 from') ∧ W.cell? ⟨b2, 0, none⟩ = some (.int .i64 to') ∧ W.cell? ⟨q, 1, none⟩ = some (.int .i64 lo) := by
  intro l J Y W hC hY h0
  refine callsIn_wide (n := 2).1 ?_
  obtain ⟨c0, c1, c2, c3⟩ := hC 0 W h0
  have ht : (from' : Int).tmod 256 = (from' : Int) % 256 := Int.tmod_eq_emod_of_nonneg (by omega)
  refine callsIn_of_wp Try.func95 rfl trivial ?_ rfl
  simp only [Try.ntmps95, List.size_toArray, List.length_cons, List.length_nil, Nat.reduceAdd, Nat.reduceSub, Array.replicate_succ, Array.replicate_zero, List.push_toArray, List.append_toArray, List.nil_append, List.cons_append]
  gi_wp2
  gi_loopw [5] (fun i wr => ∃ k : Nat, k ≤ pgN from' to' ∧ i = .int .i64 (((from' / 256 + k : Nat) : Int) * 256) ∧ J k wr) (fun i _ => to' + 256 - (intOf i).toNat)
  case atStart => exact ⟨0, Nat.zero_le _, by congr 1; omega, h0⟩
  case round =>
    obtain ⟨k, hk, rfl, hJs⟩ := hrel
    obtain ⟨d0, d1, d2, d3⟩ := hC k wr hJs
    have hN : pgN from' to' = (to' + 255) / 256 - from' / 256 := rfl
    have hq : ((((from' / 256 + k : Nat) : Int) * 256)).tdiv 256 = ((from' / 256 + k : Nat) : Int) := by rw [Int.tdiv_eq_ediv_of_nonneg (by omega)]; omega
    have hb : from' / 256 + k ≤ 4096 := by omega
    by_cases hlt : k < pgN from' to'
    · obtain ⟨fn, tmps, assign, body, hy, hR⟩ := hY k wr hlt hJs
      have hlt2 : ((from' / 256 + k : Nat) : Int) * 256 < (to' : Int) := by omega
      have hs : from' / 256 + (k + 1) = from' / 256 + k + 1 := by omega
      generalize hx : from' / 256 + k = x at *
      simp only [pgE, hx] at hy
      gi_wp2
      refine hR.mono ?_
      rintro e W3 (⟨rfl, hJ3⟩ | ⟨ch, rfl, hY3⟩)
      · gi_wp2
        go_roundw
        case rel => exact ⟨k + 1, by omega, by rw [hs]; congr 1; omega, hJ3⟩
        case measure => simp [intOf]; omega
      · exact ⟨rfl, .inr ⟨ch, rfl, hY3⟩⟩
    · obtain rfl : k = pgN from' to' := by omega
      have hlt2 : ¬ ((from' / 256 + pgN from' to' : Nat) : Int) * 256 < (to' : Int) := by omega
      generalize hx : from' / 256 + pgN from' to' = x at *
      gi_wp2
      go_end0
      exact .inl ⟨rfl, hJs⟩
end Go.Proofs.Ythgkkmcpmhfehaa
