/- trie.newNode, and the nodes' small calls that only read: open. Conditions: those that each row states. -/
import Derived.Test.YtcicnbbnkeellaaGreatDoorTw
import Derived.WalkLawsBesides
namespace Go.Proofs.YtcicnbbnkeellaaGreatDoor
open Go.RowKit Go.Maps

theorem node_any (w : World) : Calls Tryz.prog 20 #[] w fun e w' => e = .returned (ptrO (some (w.heap.size + 1))) ∧ w' = (w.alloc (.map #[] 0)).alloc (.cells #[.map (some w.heap.size), .slice none 0 0] 58) := by
  have hmm := @run_makeMap Tryz.prog
  go_enter Tryz.func20, Tryz.ntmps20
  go_wp2
  go_ret
  exact ⟨by simp [ptrO], rfl⟩
theorem cell_q {w : World} {q m : Nat} {v : Value} (h : w.heap[q]? = some (.cells #[.map (some m), v] 58 (0, 0))) : w.cell? ⟨q, 0, none⟩ = some (.map (some m)) ∧ w.cell? ⟨q, 1, none⟩ = some v ∧ w.frozen? ⟨q, 0, none⟩ = false ∧ w.frozen? ⟨q, 1, none⟩ = false := by
  unfold World.cell? World.frozen?
  rw [h]
  exact ⟨rfl, rfl, rfl, rfl⟩
set_option maxRecDepth 10000 in
theorem open_any (w : World) {N : Nat} {T : Tr} (h : TrW w N T) {p : List Wd} {nd : Nd} (hp : T p = some nd) : Calls Tryz.prog 32 #[ptrO (some nd.q)] w fun e w' =>
    e = .returned (match T (p ++ [[35]]) with | some c => c.v | none => .slice none 0 0) ∧ w' = w := by
  obtain ⟨c0, c1, _, _⟩ := cell_q (h.at' p nd hp).cells
  have hl := (h.at' p nd hp).map.look (k := [35]) (by decide)
  cases hc : T (p ++ [[35]]) with
  | none =>
    rw [hc] at hl
    generalize nd.q = q at *
    generalize nd.m = m at *
    clear c1
    simp only [ptrO, Option.map_none, str] at *
    go_enter Tryz.func32, Tryz.ntmps32
    go_wp2
    go_ret
    exact ⟨rfl, rfl⟩
  | some nc =>
    rw [hc, Option.map_some] at hl
    obtain ⟨d0, d1, _, _⟩ := cell_q (h.at' _ nc hc).cells
    clear c1
    generalize nd.q = q at *
    generalize nd.m = m at *
    generalize nc.q = q2 at *
    generalize nc.m = m2 at *
    simp only [ptrO, str] at *
    go_enter Tryz.func32, Tryz.ntmps32
    go_wp2
    go_ret
    exact ⟨rfl, rfl⟩
end Go.Proofs.YtcicnbbnkeellaaGreatDoor
