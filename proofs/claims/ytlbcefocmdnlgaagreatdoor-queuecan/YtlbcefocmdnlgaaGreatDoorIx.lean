/- What slices.IndexFunc answers of items and of what is held. Conditions: those that each row states. -/
import Derived.Test.YtlbcefocmdnlgaaGreatDoorBx
import Derived.Test.YtlbcefocmdnlgaaGreatDoorMn
import Derived.Test.YtlbcefocmdnlgaaGreatDoorPq
import Derived.Deep.LoopGhost
namespace Go.Proofs.YtlbcefocmdnlgaaGreatDoor
open Go.RowKit Go.Lib
set_option maxRecDepth 100000

theorem itm_at0 {w W : World} {a : Option Addr} {n c : Nat} {zs : Zs Itm} (h : RdZ 7 (ItR (RdP w)) w (.slice a n c) zs) (hb : Below w.heap.size w W) {i : Nat} (hi : i < zs.length) :
    ∃ b o pv, a = some ⟨b, o, none⟩ ∧ (zs[i]).1 = itmV (zs[i]).2 pv ∧ RdP w pv (zs[i]).2.msg.props ∧ W.cell? ⟨b, o + i * 7, none⟩ = some (.int .i64 (zs[i]).2.seq) ∧ W.cell? ⟨b, o + i * 7 + 1, none⟩ = some (.bool (zs[i]).2.again) ∧ W.cell? ⟨b, o + i * 7 + 2, none⟩ = some (tx (zs[i]).2.msg.topic) ∧ W.cell? ⟨b, o + i * 7 + 3, none⟩ = some (tx (zs[i]).2.msg.body) ∧ W.cell? ⟨b, o + i * 7 + 4, none⟩ = some (pv) ∧ W.cell? ⟨b, o + i * 7 + 5, none⟩ = some (.bool (zs[i]).2.msg.dur) ∧ W.cell? ⟨b, o + i * 7 + 6, none⟩ = some (.int .i64 (zs[i]).2.msg.til) := by
  obtain ⟨b, o, c', e, hc⟩ := h.some (by omega)
  obtain ⟨rfl, _, _⟩ : a = some ⟨b, o, none⟩ ∧ n = zs.length ∧ c = c' := by
    injection e with e1 e2 e3
    exact ⟨e1, e2, e3⟩
  obtain ⟨hk, pv, hv, hp⟩ := h.2 _ (List.getElem_mem hi)
  have h1 := h.cells hi
  have key : ∀ j (hj : j < 7), W.cell? ⟨b, o + i * 7 + j, none⟩ = (itmV (zs[i]).2 pv)[j]? := fun j hj => by
    have e2 : ((zs[i]).1)[j]? = some (((zs[i]).1)[j]'(by rw [hk.1]; exact hj)) := List.getElem?_eq_getElem _
    have h2 := h1 j _ e2
    rw [hb.cell (World.block_lt_of_cell? w _ h2), h2, ← e2, hv]
  exact ⟨b, o, pv, rfl, hv, hp, key 0 (by omega), key 1 (by omega), key 2 (by omega), key 3 (by omega), key 4 (by omega), key 5 (by omega), key 6 (by omega)⟩

theorem hld_at0 {w W : World} {a : Option Addr} {n c : Nat} {zs : Zs Hld} (h : RdZ 10 (HeR (RdP w)) w (.slice a n c) zs) (hb : Below w.heap.size w W) {i : Nat} (hi : i < zs.length) :
    ∃ b o pv, a = some ⟨b, o, none⟩ ∧ (zs[i]).1 = hldV (zs[i]).2 pv ∧ RdP w pv (zs[i]).2.itm.msg.props ∧ W.cell? ⟨b, o + i * 10, none⟩ = some (.int .i64 (zs[i]).2.tag) ∧ W.cell? ⟨b, o + i * 10 + 1, none⟩ = some (.int .i64 (zs[i]).2.conn) ∧ W.cell? ⟨b, o + i * 10 + 2, none⟩ = some (.int .i64 (zs[i]).2.sub) ∧ W.cell? ⟨b, o + i * 10 + 3, none⟩ = some (.int .i64 (zs[i]).2.itm.seq) ∧ W.cell? ⟨b, o + i * 10 + 4, none⟩ = some (.bool (zs[i]).2.itm.again) ∧ W.cell? ⟨b, o + i * 10 + 5, none⟩ = some (tx (zs[i]).2.itm.msg.topic) ∧ W.cell? ⟨b, o + i * 10 + 6, none⟩ = some (tx (zs[i]).2.itm.msg.body) ∧ W.cell? ⟨b, o + i * 10 + 7, none⟩ = some (pv) ∧ W.cell? ⟨b, o + i * 10 + 8, none⟩ = some (.bool (zs[i]).2.itm.msg.dur) ∧ W.cell? ⟨b, o + i * 10 + 9, none⟩ = some (.int .i64 (zs[i]).2.itm.msg.til) := by
  obtain ⟨b, o, c', e, hc⟩ := h.some (by omega)
  obtain ⟨rfl, _, _⟩ : a = some ⟨b, o, none⟩ ∧ n = zs.length ∧ c = c' := by
    injection e with e1 e2 e3
    exact ⟨e1, e2, e3⟩
  obtain ⟨hk, pv, hv, hp⟩ := h.2 _ (List.getElem_mem hi)
  have h1 := h.cells hi
  have key : ∀ j (hj : j < 10), W.cell? ⟨b, o + i * 10 + j, none⟩ = (hldV (zs[i]).2 pv)[j]? := fun j hj => by
    have e2 : ((zs[i]).1)[j]? = some (((zs[i]).1)[j]'(by rw [hk.1]; exact hj)) := List.getElem?_eq_getElem _
    have h2 := h1 j _ e2
    rw [hb.cell (World.block_lt_of_cell? w _ h2), h2, ← e2, hv]
  exact ⟨b, o, pv, rfl, hv, hp, key 0 (by omega), key 1 (by omega), key 2 (by omega), key 3 (by omega), key 4 (by omega), key 5 (by omega), key 6 (by omega), key 7 (by omega), key 8 (by omega), key 9 (by omega)⟩
/-- slices.IndexFunc of items, with a function that may change memory of its own: Inv tells what stands behind so many calls. -/
theorem indexI_any (w0 w : World) (a : Option Addr) (n c : Nat) (zs : Zs Itm) (h : RdZ 7 (ItR (RdP w0)) w0 (.slice a n c) zs) (hn : zs.length = n) (hbig : n ≤ 1000000) (g : Nat) (lb : Array Value) (eg : ∀ args w, (callFunc g args).run Tryz.prog w = .ok (.enter g args) w)
    (p : Nat → Bool) (Inv : Nat → World → Prop) (hI : ∀ i W, Inv i W → Below w0.heap.size w0 W) (h0 : Inv 0 w)
    (hcall : ∀ i (hi : i < zs.length) pv W, Inv i W → RdP w0 pv (zs[i]).2.msg.props → Calls Tryz.prog g (#[.agg (itmV (zs[i]).2 pv).toArray] ++ lb) W fun e W' => e = .returned (.bool (p i)) ∧ Inv (i + 1) W') :
    Calls Tryz.prog 86 #[.slice a n c, .func (.func g) #[] lb] w fun e w' => (∃ k, k < n ∧ e = .returned (.int .i64 (k : Nat)) ∧ p k = true ∧ (∀ j, j < k → p j = false) ∧ Inv (k + 1) w') ∨ (e = .returned (.int .i64 (-1)) ∧ (∀ j, j < n → p j = false) ∧ Inv n w') := by
  have HI : Hid (RdZ 7 (ItR (RdP w0)) w0 (.slice a n c) zs) := h
  have NI : Hid (zs.length = n) := hn
  have HC : Hid (∀ i (hi : i < zs.length) pv W, Inv i W → RdP w0 pv (zs[i]).2.msg.props → Calls Tryz.prog g (#[.agg (itmV (zs[i]).2 pv).toArray] ++ lb) W fun e W' => e = .returned (.bool (p i)) ∧ Inv (i + 1) W') := hcall
  have H0 : Hid (Inv 0 w) := h0
  have HB : Hid (∀ i W, Inv i W → Below w0.heap.size w0 W) := hI
  clear h hn hcall h0 hI
  go_enter Tryz.func86, Tryz.ntmps86
  go_wp2_with fail
  go_loopg [5, 8] n (fun gg _ s8 wr => ∃ kk : Nat, kk ≤ n ∧ n - kk ≤ gg ∧ s8 = .int .i64 kk ∧ Hid (Inv kk wr) ∧ Hid (∀ j, j < kk → p j = false))
  case atStart => exact ⟨0, Nat.zero_le _, by omega, rfl, H0.out, fun j hj => absurd hj (Nat.not_lt_zero _)⟩
  case round =>
    obtain ⟨kk, hkk, hg, rfl, HS, A⟩ := hrel
    clear H0
    by_cases hlt : kk < n
    · have hltz : (kk : Int) < (n : Int) := by omega
      obtain ⟨b, o, pv, rfl, hz1, hp, c0, c1, c2, c3, c4, c5, c6⟩ := itm_at0 HI.out (HB.out _ _ HS.out) (i := kk) (by rw [NI.out]; exact hlt)
      have hcl := HC.out kk (by rw [NI.out]; exact hlt) pv wr HS.out hp
      generalize (zs[kk]'(by rw [NI.out]; exact hlt)).2 = x at *
      obtain ⟨pa, pc, rfl⟩ := hp.shape
      generalize x.msg.props.length = pn at *
      clear hz1 hp
      unfold itmV at hcl
      cases hq : p kk with
      | true =>
        go_wp2_with fail
        refine hcl.mono ?_
        rintro e w' ⟨rfl, hin⟩
        rw [hq]
        clear hcl c0 c1 c2 c3 c4 c5 c6
        go_wp2
        go_ret
        exact .inl ⟨kk, hlt, rfl, hq, A.out, hin⟩
      | false =>
        go_wp2_with fail
        refine hcl.mono ?_
        rintro e w' ⟨rfl, hin⟩
        rw [hq]
        have HN : Hid (Inv (kk + 1) w') := hin
        clear hcl hin c0 c1 c2 c3 c4 c5 c6
        go_wp2
        go_roundg (n - (kk + 1))
        case measure => omega
        case rel =>
          refine ⟨kk + 1, by omega, by omega, by go_num, HN.out, (show Hid _ from fun j hj => ?_)⟩
          by_cases e : j = kk
          · subst e
            exact hq
          · exact A.out j (by omega)
    · have hltz : ¬ (kk : Int) < (n : Int) := by omega
      have : kk = n := by omega
      subst this
      go_wp2
      go_ret
      exact .inr ⟨rfl, A.out, HS.out⟩
/-- slices.IndexFunc of what is held, with a function that may change memory of its own: Inv tells what stands behind so many calls. -/
theorem indexH_any (w0 w : World) (a : Option Addr) (n c : Nat) (zs : Zs Hld) (h : RdZ 10 (HeR (RdP w0)) w0 (.slice a n c) zs) (hn : zs.length = n) (hbig : n ≤ 1000000) (g : Nat) (lb : Array Value) (eg : ∀ args w, (callFunc g args).run Tryz.prog w = .ok (.enter g args) w)
    (p : Nat → Bool) (Inv : Nat → World → Prop) (hI : ∀ i W, Inv i W → Below w0.heap.size w0 W) (h0 : Inv 0 w)
    (hcall : ∀ i (hi : i < zs.length) pv W, Inv i W → RdP w0 pv (zs[i]).2.itm.msg.props → Calls Tryz.prog g (#[.agg (hldV (zs[i]).2 pv).toArray] ++ lb) W fun e W' => e = .returned (.bool (p i)) ∧ Inv (i + 1) W') :
    Calls Tryz.prog 51 #[.slice a n c, .func (.func g) #[] lb] w fun e w' => (∃ k, k < n ∧ e = .returned (.int .i64 (k : Nat)) ∧ p k = true ∧ (∀ j, j < k → p j = false) ∧ Inv (k + 1) w') ∨ (e = .returned (.int .i64 (-1)) ∧ (∀ j, j < n → p j = false) ∧ Inv n w') := by
  have HI : Hid (RdZ 10 (HeR (RdP w0)) w0 (.slice a n c) zs) := h
  have NI : Hid (zs.length = n) := hn
  have HC : Hid (∀ i (hi : i < zs.length) pv W, Inv i W → RdP w0 pv (zs[i]).2.itm.msg.props → Calls Tryz.prog g (#[.agg (hldV (zs[i]).2 pv).toArray] ++ lb) W fun e W' => e = .returned (.bool (p i)) ∧ Inv (i + 1) W') := hcall
  have H0 : Hid (Inv 0 w) := h0
  have HB : Hid (∀ i W, Inv i W → Below w0.heap.size w0 W) := hI
  clear h hn hcall h0 hI
  go_enter Tryz.func51, Tryz.ntmps51
  go_wp2_with fail
  go_loopg [5, 8] n (fun gg _ s8 wr => ∃ kk : Nat, kk ≤ n ∧ n - kk ≤ gg ∧ s8 = .int .i64 kk ∧ Hid (Inv kk wr) ∧ Hid (∀ j, j < kk → p j = false))
  case atStart => exact ⟨0, Nat.zero_le _, by omega, rfl, H0.out, fun j hj => absurd hj (Nat.not_lt_zero _)⟩
  case round =>
    obtain ⟨kk, hkk, hg, rfl, HS, A⟩ := hrel
    clear H0
    by_cases hlt : kk < n
    · have hltz : (kk : Int) < (n : Int) := by omega
      obtain ⟨b, o, pv, rfl, hz1, hp, c0, c1, c2, c3, c4, c5, c6, c7, c8, c9⟩ := hld_at0 HI.out (HB.out _ _ HS.out) (i := kk) (by rw [NI.out]; exact hlt)
      have hcl := HC.out kk (by rw [NI.out]; exact hlt) pv wr HS.out hp
      generalize (zs[kk]'(by rw [NI.out]; exact hlt)).2 = x at *
      obtain ⟨pa, pc, rfl⟩ := hp.shape
      generalize x.itm.msg.props.length = pn at *
      clear hz1 hp
      unfold hldV at hcl
      cases hq : p kk with
      | true =>
        go_wp2_with fail
        refine hcl.mono ?_
        rintro e w' ⟨rfl, hin⟩
        rw [hq]
        clear hcl c0 c1 c2 c3 c4 c5 c6 c7 c8 c9
        go_wp2
        go_ret
        exact .inl ⟨kk, hlt, rfl, hq, A.out, hin⟩
      | false =>
        go_wp2_with fail
        refine hcl.mono ?_
        rintro e w' ⟨rfl, hin⟩
        rw [hq]
        have HN : Hid (Inv (kk + 1) w') := hin
        clear hcl hin c0 c1 c2 c3 c4 c5 c6 c7 c8 c9
        go_wp2
        go_roundg (n - (kk + 1))
        case measure => omega
        case rel =>
          refine ⟨kk + 1, by omega, by omega, by go_num, HN.out, (show Hid _ from fun j hj => ?_)⟩
          by_cases e : j = kk
          · subst e
            exact hq
          · exact A.out j (by omega)
    · have hltz : ¬ (kk : Int) < (n : Int) := by omega
      have : kk = n := by omega
      subst this
      go_wp2
      go_ret
      exact .inr ⟨rfl, A.out, HS.out⟩
end Go.Proofs.YtlbcefocmdnlgaaGreatDoor
