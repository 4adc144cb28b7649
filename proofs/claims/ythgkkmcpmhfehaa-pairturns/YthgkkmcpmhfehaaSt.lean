/- A tape where nothing is armed: what its calls do, said of its records. -/
import Derived.Test.YthgkkmcpmhfehaaMb
import Derived.Test.YthgkkmcpmhfehaaAq
import Derived.Test.YthgkkmcpmhfehaaOp
import Derived.Test.YthgkkmcpmhfehaaDl
namespace Go.Proofs.Ythgkkmcpmhfehaa
open Go.RowKit Go.Lib Go.Shelf
set_option maxRecDepth 100000

structure TS (w : World) (X : Nat → Prop) (t q n : Nat) (S : DS) (lo hi : Nat) (rs : List (List UInt8)) : Prop where
  d : Drum w X q n S
  tp : Tp w t q lo hi (tot rs) rs.length 0
  nx : ¬ X t
  la : Laid S.P lo ((hi - lo) * 256) rs
  ar : S.armed = 0
  dn : S.down = false
  wl : S.W.length < 10000


theorem append_ts (w : World) (X : Nat → Prop) (t q n : Nat) (S : DS) (lo hi : Nat) (rs : List (List UInt8)) (h : TS w X t q n S lo hi rs) (hlh : lo ≤ hi) (hh : hi ≤ n) (hops : S.ops ≤ 100000) (hn : rs.length ≤ 5000) (r : List UInt8) (v : Value) (hr : Sl.RdA w v r) (hrl : r.length ≤ 65536) (hpl : tot rs + (12 + r.length) ≤ (hi - lo) * 256) :
    Calls Try.prog 44 #[.pointer (some ⟨t, 0, none⟩), v] w fun e w' => e = .returned (.int .i64 0) ∧ ∃ X' S', TS w' X' t q n S' lo hi (rs ++ [r]) ∧ Step (fun k => X k ∨ k = t) (fun k => X' k ∨ k = t) w w' ∧ (∀ k, X' k → X k ∨ w.heap.size ≤ k) ∧ S'.ops = S.ops + opsN (tot rs) r.length ((hi - lo) * 256) ∧ S'.W = [] ∧ (∀ k, k < lo * 256 ∨ hi * 256 ≤ k → S'.P[k]? = S.P[k]?) := by
  obtain ⟨a, c, rfl⟩ := hr.len
  obtain ⟨g1, g2, g3, g4, g5, g6, g7, _, _, g10⟩ := layD0 S lo hi (tot rs) rs.length r n h.d.len hlh hh hpl h.ar h.dn
  have hmore := h.la.more h.d.len hlh hh r hrl hpl h.ar h.dn
  refine (append_any w X t q n S lo hi (tot rs) rs.length h.d h.tp h.nx hlh hh h.dn h.wl hops (by omega) r a c hr hrl hpl _ rfl (.inl g1)).mono ?_
  rintro e w' ⟨X', k1, k2, k3, rfl, k4⟩
  refine ⟨by rw [g1], X', _, ⟨k1, ?_, ?_, hmore, g2, g3, by rw [g4]; decide⟩, k2, k3, g5, g4, fun k hk => ?_⟩
  · rcases k4 with ⟨_, k4⟩ | ⟨k4, _⟩
    · rw [tot_snoc, List.length_append]; exact k4
    · rw [g1] at k4; cases k4
  · intro hxx
    rcases k3 t hxx with h' | h'
    · exact h.nx h'
    · have := h.tp.lt; omega
  · rcases hk with hk | hk
    · exact g7 k (by omega)
    · exact g10 k hk

theorem open_ts (w : World) (X : Nat → Prop) (q n : Nat) (S : DS) (lo hi : Nat) (rs : List (List UInt8)) (h : Drum w X q n S) (hla : Laid S.P lo ((hi - lo) * 256) rs) (ha : S.armed = 0) (hd : S.down = false) (hw : S.W.length < 10000) (hlh : lo < hi) (hh : hi ≤ n) (hrs : rs.length ≤ 5000) :
    Calls Try.prog 66 #[.pointer (some ⟨q, 0, none⟩), .int .i64 lo, .int .i64 hi] w fun e w' => Below w.heap.size w w' ∧ ∃ v t, e = .returned (.tuple #[.pointer (some ⟨t, 0, none⟩), v, .int .i64 0]) ∧ w.heap.size ≤ t ∧ Recs w' w.heap.size v rs ∧ TS w' X t q n S lo hi rs := by
  refine (open_any w X q n S lo hi h hlh hh hd rs 0 hla.chain hrs).mono ?_
  rintro e w' ⟨hb, ⟨_, v, t, rfl, h1, h2, h3⟩ | ⟨hk, _⟩⟩
  · exact ⟨hb, v, t, rfl, h1, h2, ⟨h.below hb, h3, fun hx => by have := h.xlt t hx; omega, hla, ha, hd, hw⟩⟩
  · omega

theorem zeros_laid (P : List UInt8) (n lo hi : Nat) (hP : P.length = n * 256) (hh : hi ≤ n) (hlh : lo < hi) (h0 : P[lo * 256]? = some 0) : Laid P lo ((hi - lo) * 256) [] := Laid.nil P lo _ (by omega) h0
theorem new_ts (w : World) (n : Nat) (h1 : 1 ≤ n) (h2 : n ≤ 4096) :
    Calls Try.prog 10 #[.int .i64 n] w fun e w' => ∃ X q S, e = .returned (.pointer (some ⟨q, 0, none⟩)) ∧ Drum w' X q n S ∧ S.P = List.replicate (n * 256) 0 ∧ S.W = [] ∧ S.ops = 0 ∧ S.armed = 0 ∧ S.down = false ∧ Below w.heap.size w w' ∧ ∀ k, X k → w.heap.size ≤ k := by
  refine (new0 w n h1 h2).mono ?_
  rintro e w' ⟨X, q, rfl, h3, h4, h5⟩
  exact ⟨X, q, _, rfl, h3, rfl, rfl, rfl, rfl, rfl, h4, h5⟩

set_option maxHeartbeats 1000000 in
theorem clear_ts (w : World) (X : Nat → Prop) (q n : Nat) (S : DS) (lo hi : Nat) (h : Drum w X q n S) (ha : S.armed = 0) (hd : S.down = false) (hw : S.W.length < 9999) (hops : S.ops ≤ 100000) (hlh : lo < hi) (hh : hi ≤ n) :
    Calls Try.prog 79 #[.pointer (some ⟨q, 0, none⟩), .int .i64 lo] w fun e w' => e = .returned (.int .i64 0) ∧ ∃ X' S', Drum w' X' q n S' ∧ Step X X' w w' ∧ Laid S'.P lo ((hi - lo) * 256) [] ∧ S'.armed = 0 ∧ S'.down = false ∧ S'.W.length = S.W.length + 1 ∧ S'.ops = S.ops + 1 := by
  have hmk := make256 w
  have hb1 : Below w.heap.size w (w.alloc (.cells (byteCells (List.replicate 256 0)).toArray 5)) := (Below.refl _ _).alloc (Nat.le_refl _) _
  have hc1 : (w.alloc (.cells (byteCells (List.replicate 256 0)).toArray 5)).heap[w.heap.size]? = some (.cells (byteCells (List.replicate 256 0)).toArray 5 (0, 0)) := heap_alloc_new w _
  have ho : (S.put lo (List.replicate 256 0)).oper = ({ S.put lo (List.replicate 256 0) with ops := S.ops + 1 }, 0) := by
    unfold DS.oper; rw [if_pos (show (S.put lo (List.replicate 256 0)).armed = 0 from ha)]; rfl
  have N27 := write_ok (w.alloc (.cells (byteCells (List.replicate 256 0)).toArray 5)) X q n S lo (.slice (some ⟨w.heap.size, 0, none⟩) 256 256) (List.replicate 256 0) (by omega) hd (by omega) (by omega) (h.below hb1) List.length_replicate
    ⟨_, _, by rw [List.length_replicate], fun _ => ⟨_, _, rfl, range_of_block hc1⟩⟩ (fun j hj hxj => by
      have hj' : j = w.heap.size := by cases hj; rfl
      have := h.xlt j hxj; omega)
  rw [ho] at N27
  have hP := h.len
  have hla : Laid (S.put lo (List.replicate 256 0)).P lo ((hi - lo) * 256) [] := by
    have hle : lo * 256 + (List.replicate 256 (0 : UInt8)).length ≤ S.P.length := by rw [List.length_replicate]; omega
    refine Laid.nil _ lo _ ?_ ?_
    · show _ ≤ (splice S.P (lo * 256) (List.replicate 256 0)).length
      rw [splice_len _ _ _ hle]; omega
    · show (splice S.P (lo * 256) (List.replicate 256 0))[lo * 256]? = _
      rw [splice_get _ _ _ hle, if_pos (by rw [List.length_replicate]; omega), Nat.sub_self, List.getElem?_replicate, if_pos (by omega)]
  have HLa : Hid _ := hla
  clear hla
  generalize List.replicate 256 (0 : UInt8) = Z at *
  generalize hW1 : w.alloc (.cells (byteCells Z).toArray 5) = w1 at *
  clear hW1
  go_enter Try.func79, Try.ntmps79
  go_wp2_with (go_at_call 24; refine N27.mono ?_; rintro e w2 ⟨X', rfl, hdr2, hs2⟩)
  go_ret
  refine ⟨rfl, X', _, hdr2, (Step.of_below hb1).trans hs2, HLa.out, ha, hd, ?_, rfl⟩
  show (_ ++ [_]).length = _
  rw [List.length_append]; rfl
end Go.Proofs.Ythgkkmcpmhfehaa
