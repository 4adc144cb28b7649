/- An item, a held one, read out of its slice. -/
import Derived.Test.YtlbcefocmdnlgaaGreatDoorMm
namespace Go.Proofs.YtlbcefocmdnlgaaGreatDoor
open Go.RowKit Go.Lib

theorem itm_at {w W : World} {a : Option Addr} {n c : Nat} {zs : Zs Itm} (h : RdZ 7 (ItR (RdP w)) w (.slice a n c) zs) (hb : Below w.heap.size w W) {i : Nat} (hi : i < zs.length) :
    ∃ b o pv, a = some ⟨b, o, none⟩ ∧ (zs[i]).1 = itmV (zs[i]).2 pv ∧ RdP W pv (zs[i]).2.msg.props ∧ W.cell? ⟨b, o + i * 7, none⟩ = some (.int .i64 (zs[i]).2.seq) ∧ W.cell? ⟨b, o + i * 7 + 1, none⟩ = some (.bool (zs[i]).2.again) ∧ W.cell? ⟨b, o + i * 7 + 2, none⟩ = some (tx (zs[i]).2.msg.topic) ∧ W.cell? ⟨b, o + i * 7 + 3, none⟩ = some (tx (zs[i]).2.msg.body) ∧ W.cell? ⟨b, o + i * 7 + 4, none⟩ = some (pv) ∧ W.cell? ⟨b, o + i * 7 + 5, none⟩ = some (.bool (zs[i]).2.msg.dur) ∧ W.cell? ⟨b, o + i * 7 + 6, none⟩ = some (.int .i64 (zs[i]).2.msg.til) := by
  obtain ⟨b, o, c', e, hc⟩ := h.some (by omega)
  obtain ⟨rfl, _, _⟩ : a = some ⟨b, o, none⟩ ∧ n = zs.length ∧ c = c' := by
    injection e with e1 e2 e3
    exact ⟨e1, e2, e3⟩
  obtain ⟨hk, pv, hv, hp⟩ := h.2 _ (List.getElem_mem hi)
  have h1 := h.cells hi
  have key : ∀ j (hj : j < 7), W.cell? ⟨b, o + i * 7 + j, none⟩ = (itmV (zs[i]).2 pv)[j]? := fun j hj => by
    have e2 : ((zs[i]).1)[j]? = some (((zs[i]).1)[j]'(by rw [hk.1]; exact hj)) := List.getElem?_eq_getElem _
    have h2 := h1 j _ e2
    rw [hb.cell (World.block_lt_of_cell? w _ h2), h2, ← e2, hv]
  exact ⟨b, o, pv, rfl, hv, hp.on hb, key 0 (by omega), key 1 (by omega), key 2 (by omega), key 3 (by omega), key 4 (by omega), key 5 (by omega), key 6 (by omega)⟩

theorem hld_at {w W : World} {a : Option Addr} {n c : Nat} {zs : Zs Hld} (h : RdZ 10 (HeR (RdP w)) w (.slice a n c) zs) (hb : Below w.heap.size w W) {i : Nat} (hi : i < zs.length) :
    ∃ b o pv, a = some ⟨b, o, none⟩ ∧ (zs[i]).1 = hldV (zs[i]).2 pv ∧ RdP W pv (zs[i]).2.itm.msg.props ∧ W.cell? ⟨b, o + i * 10, none⟩ = some (.int .i64 (zs[i]).2.tag) ∧ W.cell? ⟨b, o + i * 10 + 1, none⟩ = some (.int .i64 (zs[i]).2.conn) ∧ W.cell? ⟨b, o + i * 10 + 2, none⟩ = some (.int .i64 (zs[i]).2.sub) ∧ W.cell? ⟨b, o + i * 10 + 3, none⟩ = some (.int .i64 (zs[i]).2.itm.seq) ∧ W.cell? ⟨b, o + i * 10 + 4, none⟩ = some (.bool (zs[i]).2.itm.again) ∧ W.cell? ⟨b, o + i * 10 + 5, none⟩ = some (tx (zs[i]).2.itm.msg.topic) ∧ W.cell? ⟨b, o + i * 10 + 6, none⟩ = some (tx (zs[i]).2.itm.msg.body) ∧ W.cell? ⟨b, o + i * 10 + 7, none⟩ = some (pv) ∧ W.cell? ⟨b, o + i * 10 + 8, none⟩ = some (.bool (zs[i]).2.itm.msg.dur) ∧ W.cell? ⟨b, o + i * 10 + 9, none⟩ = some (.int .i64 (zs[i]).2.itm.msg.til) := by
  obtain ⟨b, o, c', e, hc⟩ := h.some (by omega)
  obtain ⟨rfl, _, _⟩ : a = some ⟨b, o, none⟩ ∧ n = zs.length ∧ c = c' := by
    injection e with e1 e2 e3
    exact ⟨e1, e2, e3⟩
  obtain ⟨hk, pv, hv, hp⟩ := h.2 _ (List.getElem_mem hi)
  have h1 := h.cells hi
  have key : ∀ j (hj : j < 10), W.cell? ⟨b, o + i * 10 + j, none⟩ = (hldV (zs[i]).2 pv)[j]? := fun j hj => by
    have e2 : ((zs[i]).1)[j]? = some (((zs[i]).1)[j]'(by rw [hk.1]; exact hj)) := List.getElem?_eq_getElem _
    have h2 := h1 j _ e2
    rw [hb.cell (World.block_lt_of_cell? w _ h2), h2, ← e2, hv]
  exact ⟨b, o, pv, rfl, hv, hp.on hb, key 0 (by omega), key 1 (by omega), key 2 (by omega), key 3 (by omega), key 4 (by omega), key 5 (by omega), key 6 (by omega), key 7 (by omega), key 8 (by omega), key 9 (by omega)⟩
end Go.Proofs.YtlbcefocmdnlgaaGreatDoor
