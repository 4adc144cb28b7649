/- tape.Append. -/
import Derived.Test.YthgkkmcpmhfehaaLy
namespace Go.Proofs.Ythgkkmcpmhfehaa
open Go.RowKit Go.Lib Go.Shelf
set_option maxRecDepth 100000

theorem Sl_own_slice {w : World} {B : Nat} {v : Value} {l : List UInt8} (h : Sl.Own w B v l) : ∃ a c, v = .slice a l.length c ∧ Sl.RdA w (.slice a l.length c) l := by
  have hr : Sl.RdA w v l := .inl h.rd
  obtain ⟨a, c, rfl⟩ := hr.len
  exact ⟨a, c, rfl, hr⟩

set_option maxHeartbeats 2000000 in
theorem append1_any (w : World) (X : Nat → Prop) (t q n : Nat) (S : DS) (lo hi p c met : Nat) (h : Drum w X q n S) (ht : Tp w t q lo hi p c met) (hx : ¬ X t) (hlh : lo ≤ hi) (hh : hi ≤ n) (hd : S.down = false) (hW : S.W.length < 10000) (hops : S.ops ≤ 100000)
    (r : List UInt8) (a : Option Addr) (fc : Nat) (hr : Sl.RdA w (.slice a r.length fc) r) (hrl : r.length ≤ 65536) (hpl : p + (12 + r.length) ≤ (hi - lo) * 256)
    (tb rb : Nat) (htb : w.heap[tb]? = some (.cells #[.pointer (some ⟨t, 0, none⟩)] 72 (0, 0))) (hrb : w.heap[rb]? = some (.cells #[.slice a r.length fc] 30 (0, 0))) (hxtb : ¬ X tb) (hxrb : ¬ X rb) :
    Calls Try.prog 73 #[.pointer (some ⟨tb, 0, none⟩), .pointer (some ⟨rb, 0, none⟩)] w fun e w' => ∃ X', Drum w' X' q n (layD S lo p (frB 0 c r) ((hi - lo) * 256)).1 ∧ Step X X' w w' ∧
      (((layD S lo p (frB 0 c r) ((hi - lo) * 256)).2 = 0 ∧ e = .returned (.tuple #[])) ∨ ((layD S lo p (frB 0 c r) ((hi - lo) * 256)).2 ≠ 0 ∧ e = .panicked (gup (layD S lo p (frB 0 c r) ((hi - lo) * 256)).2))) := by
  have hmix : Try.prog.follows .mixedOrders = true := by kernel_rfl
  obtain ⟨t0, t1, t2, t3, t4, t5, tf⟩ := ht.cells
  have c1 : w.cell? ⟨tb, 0, none⟩ = some (.pointer (some ⟨t, 0, none⟩)) := by rw [cell_of_row _ _ _ _ _ _ htb]; rfl
  have c2 : w.cell? ⟨rb, 0, none⟩ = some (.slice a r.length fc) := by rw [cell_of_row _ _ _ _ _ _ hrb]; rfl
  have N44 := framed_any w.drew c (.slice a r.length fc) r (Sl.RdA.on hr (below_drew w)) hrl
  have hfl := frB_length 0 c r
  have hlay : ∀ (w2 : World) (v : Value), Below w.heap.size w w2 → Sl.Own w2 w.heap.size v (frB 0 c r) → Calls Try.prog 74 #[.pointer (some ⟨t, 0, none⟩), v] w2 fun e w' => ∃ X', Drum w' X' q n (layD S lo p (frB 0 c r) ((hi - lo) * 256)).1 ∧ Step X X' w w' ∧
      (((layD S lo p (frB 0 c r) ((hi - lo) * 256)).2 = 0 ∧ e = .returned (.tuple #[])) ∨ ((layD S lo p (frB 0 c r) ((hi - lo) * 256)).2 ≠ 0 ∧ e = .panicked (gup (layD S lo p (frB 0 c r) ((hi - lo) * 256)).2))) := fun w2 v hb ho => by
    obtain ⟨a2, c2, rfl, hr2⟩ := Sl_own_slice ho
    refine (lay_any w2 X t q n S lo hi p c met (h.below hb) (ht.below hb) hx hlh hh hd hW hops (frB 0 c r) a2 c2 hr2 (by omega) (by omega)).mono ?_
    rintro e w' ⟨X', g1, g2, g3⟩
    exact ⟨X', g1, (Step.of_below hb).trans g2, g3⟩
  have HL : Hid _ := hlay
  clear hlay
  generalize layD S lo p (frB 0 c r) ((hi - lo) * 256) = R at *
  generalize frB 0 c r = Fr at *
  go_enter Try.func73, Try.ntmps73
  refine wp_region_held (S := fun W' => W'.cell? ⟨tb, 0, none⟩ = some (.pointer (some ⟨t, 0, none⟩)) ∧ W'.cell? ⟨rb, 0, none⟩ = some (.slice a r.length fc) ∧ W'.cell? ⟨t, 4, none⟩ = some (.int .i64 c)) hmix ?_
  show wpAnyH _ _ _ _ _ _ _ _ w.drew
  have hS : w.drew.cell? ⟨tb, 0, none⟩ = some (.pointer (some ⟨t, 0, none⟩)) ∧ w.drew.cell? ⟨rb, 0, none⟩ = some (.slice a r.length fc) ∧ w.drew.cell? ⟨t, 4, none⟩ = some (.int .i64 c) := ⟨c1, c2, t4⟩
  refine wpAnyH_take (i := 0) (v := .pointer (some ⟨t, 0, none⟩)) rfl (by kernel_rfl) (by kernel_rfl) (by kernel_rfl) (fun _ _ _ h => h) (.inl ⟨by rfl, fun W' hW' => ?_⟩) hS ?_
  · obtain ⟨u1, u2, u3⟩ := hW'
    go_simp
  dsimp only [Act.put]
  refine wpAnyH_take (i := 1) (v := .pointer (some ⟨t, 0, none⟩)) rfl (by kernel_rfl) (by kernel_rfl) (by kernel_rfl) (fun _ _ _ h => h) (.inl ⟨by rfl, fun W' hW' => ?_⟩) hS ?_
  · obtain ⟨u1, u2, u3⟩ := hW'
    go_simp
  dsimp only [Act.put]
  refine wpAnyH_take (i := 2) (v := .pointer (some ⟨t, 0, none⟩)) rfl (by kernel_rfl) (by kernel_rfl) (by kernel_rfl) (fun _ _ _ h => h) (.inl ⟨by rfl, fun W' hW' => ?_⟩) hS ?_
  · obtain ⟨u1, u2, u3⟩ := hW'
    go_simp
  dsimp only [Act.put]
  refine wpAnyH_take (i := 3) (v := .pointer (some ⟨t, 4, none⟩)) rfl (by kernel_rfl) (by kernel_rfl) (by kernel_rfl) (fun _ _ _ h => h) (.inl ⟨by rfl, fun W' hW' => ?_⟩) hS ?_
  · obtain ⟨u1, u2, u3⟩ := hW'
    go_simp
  dsimp only [Act.put]
  refine wpAnyH_take (i := 4) (v := .int .i64 (c : Int)) rfl (by kernel_rfl) (by kernel_rfl) (by kernel_rfl) (fun _ _ _ h => h) (.inl ⟨by rfl, fun W' hW' => ?_⟩) hS ?_
  · obtain ⟨u1, u2, u3⟩ := hW'
    go_simp
  dsimp only [Act.put]
  refine wpAnyH_take (i := 5) (v := .slice a r.length fc) rfl (by kernel_rfl) (by kernel_rfl) (by kernel_rfl) (fun _ _ _ h => h) (.inl ⟨by rfl, fun W' hW' => ?_⟩) hS ?_
  · obtain ⟨u1, u2, u3⟩ := hW'
    go_simp
  dsimp only [Act.put]
  refine wpAnyH_one (i := 6) (by kernel_rfl) rfl (by rfl) (fun K hK => ?_)
  go_simp
  refine N44.mono ?_
  rintro e w2 ⟨v2, rfl, ho2, hb2⟩
  have hb02 : Below w.heap.size w w2 := (below_drew w).trans hb2
  have kk : ∀ j o, j < w.heap.size → w2.cell? ⟨j, o, none⟩ = w.cell? ⟨j, o, none⟩ := fun j o hj => hb02.cell (p := ⟨j, o, none⟩) hj
  have htbl : tb < w.heap.size := (Array.getElem?_eq_some_iff.1 htb).1
  have hrbl : rb < w.heap.size := (Array.getElem?_eq_some_iff.1 hrb).1
  show K _ _
  refine hK _ _ ⟨(kk _ _ htbl).trans c1, (kk _ _ hrbl).trans c2, (kk _ _ ht.lt).trans t4⟩ ?_
  clear hK K
  have N43 := HL.out w2 v2 hb02 ho2
  refine wpAnyH_one (i := 7) (by kernel_rfl) rfl (by rfl) (fun K hK => ?_)
  go_simp
  refine N43.mono ?_
  rintro e w3 ⟨X', g1, g2, ⟨g3, rfl⟩ | ⟨g3, rfl⟩⟩
  · have k3 : ∀ j o, j < w.heap.size → ¬ X j → w3.cell? ⟨j, o, none⟩ = w.cell? ⟨j, o, none⟩ := fun j o hj hxj => by simp only [World.cell?, g2.block j hj hxj]
    show K _ _
    refine hK _ _ ⟨(k3 _ _ htbl hxtb).trans c1, (k3 _ _ hrbl hxrb).trans c2, (k3 _ _ ht.lt hx).trans t4⟩ ?_
    clear hK K
    refine wpAnyH_done (by kernel_rfl) ?_ _
    go_end0
    exact ⟨X', g1, g2, .inl ⟨g3, rfl⟩⟩
  · exact ⟨rfl, X', g1, g2, .inr ⟨g3, rfl⟩⟩
end Go.Proofs.Ythgkkmcpmhfehaa
