/- A pair where nothing is armed, all of it above a world's blocks. -/
import Derived.Test.YthgkkmcpmhfehaaPw
namespace Go.Proofs.Ythgkkmcpmhfehaa
open Go.RowKit Go.Lib Go.Shelf
set_option maxRecDepth 100000

structure PA (w0 wr : World) (X : Nat → Prop) (p t q n : Nat) (S : DS) (half : Nat) (b : List UInt8) (rs : List (List UInt8)) : Prop where
  ps : PS wr X p t q n S half b rs
  bel : Below w0.heap.size w0 wr
  xa : ∀ k, X k → w0.heap.size ≤ k
  pa : w0.heap.size ≤ p
  ta : w0.heap.size ≤ t
  ar : S.armed = 0
theorem PA.on {w0 w w' : World} {X : Nat → Prop} {p t q n : Nat} {S : DS} {half : Nat} {b : List UInt8} {rs : List (List UInt8)} (h : PA w0 w X p t q n S half b rs) (hb : Below w.heap.size w w') : PA w0 w' X p t q n S half b rs :=
  ⟨h.ps.below hb, h.bel.trans (hb.mono h.bel.size), h.xa, h.pa, h.ta, h.ar⟩

theorem append_pa (w0 w : World) (X : Nat → Prop) (p t q n : Nat) (S : DS) (half : Nat) (b : List UInt8) (rs : List (List UInt8)) (h : PA w0 w X p t q n S half b rs) (hops : S.ops ≤ 100000) (hn : rs.length ≤ 5000) (r : List UInt8) (v : Value) (hr : Sl.RdA w v r) (hrl : r.length ≤ 65536) (hpl : tot rs + (12 + r.length) ≤ (spanN n - takesN b.length) * 256) :
    Calls Try.prog 14 #[.pointer (some ⟨p, 0, none⟩), v] w fun e w' => e = .returned (.int .i64 0) ∧ ∃ X' S', PA w0 w' X' p t q n S' half b (rs ++ [r]) ∧ S'.ops ≤ S.ops + (r.length / 256 + 6) ∧ (∀ k, k < (firstN n half + takesN b.length) * 256 + tot rs ∨ (firstN n half + spanN n) * 256 ≤ k → S'.P[k]? = S.P[k]?) ∧ (∀ k, X' k → X k ∨ w.heap.size ≤ k) ∧ Step (fun k => X k ∨ k = t) (fun k => X' k ∨ k = t) w w' := by
  refine (append_ps w X p t q n S half b rs h.ps hops hn r v hr hrl hpl).mono ?_
  rintro e w' ⟨X', S', k1, k2, k3, k4, k5, k6, ⟨rfl, k7, k8⟩ | ⟨_, k7, _⟩⟩
  · refine ⟨rfl, X', S', ⟨k7, h.bel.trans (k2.below (fun k hk => ?_) h.bel.size), fun k hk => ?_, h.pa, h.ta, k8 h.ar⟩, k5, k6, k3, k2⟩
    · rcases hk with hk | hk
      · exact h.xa k hk
      · rw [hk]; exact h.ta
    · rcases k3 k hk with hk | hk
      · exact h.xa k hk
      · exact Nat.le_trans h.bel.size hk
  · exact absurd h.ar k7
theorem append_pafull (w0 w : World) (X : Nat → Prop) (p t q n : Nat) (S : DS) (half : Nat) (b : List UInt8) (rs : List (List UInt8)) (h : PA w0 w X p t q n S half b rs) (r : List UInt8) (a : Option Addr) (fc : Nat) (hrl : r.length ≤ 65536) (hpl : (spanN n - takesN b.length) * 256 < tot rs + (12 + r.length)) :
    Calls Try.prog 14 #[.pointer (some ⟨p, 0, none⟩), .slice a r.length fc] w fun e w' => e = .returned (.int .i64 22) ∧ PA w0 w' X p t q n S half b rs := by
  refine (append_psfull w X p t q n S half b rs h.ps r a fc hrl hpl).mono ?_
  rintro e w' ⟨rfl, hb⟩
  exact ⟨rfl, h.on hb⟩
theorem save_pa (w0 w : World) (X : Nat → Prop) (p t q n : Nat) (S : DS) (half : Nat) (b : List UInt8) (rs : List (List UInt8)) (h : PA w0 w X p t q n S half b rs) (hops : S.ops ≤ 80000) (b' : List UInt8) (v : Value) (hb : Sl.RdA w v b') (hl : b'.length ≤ 1048576) (htk : takesN b'.length < spanN n) :
    Calls Try.prog 16 #[.pointer (some ⟨p, 0, none⟩), v] w fun e w' => e = .returned (.int .i64 0) ∧ ∃ X' S' t', PA w0 w' X' p t' q n S' (1 - half) b' [] ∧ S'.ops = S.ops + (takesN b'.length + 4) ∧ (∀ j, 256 ≤ j → j < firstN n (1 - half) * 256 ∨ (firstN n (1 - half) + spanN n) * 256 ≤ j → S'.P[j]? = S.P[j]?) ∧ (∀ k, X' k → X k ∨ w.heap.size ≤ k) ∧ w.heap.size ≤ t' ∧ Step (fun k => X k ∨ k = p) (fun k => X' k ∨ k = p) w w' := by
  refine (save_ps w X p t q n S half b rs h.ps hops b' v hb hl htk).mono ?_
  rintro e w' ⟨X', S', k1, k2, k3, k4, k5, ⟨rfl, ⟨t', k6, k7⟩, k8, k9, k10⟩ | ⟨_, k7, _⟩⟩
  · refine ⟨rfl, X', S', t', ⟨k7, h.bel.trans (k2.below (fun k hk => ?_) h.bel.size), fun k hk => ?_, h.pa, Nat.le_trans h.bel.size k6, k9 h.ar⟩, k8, k10, k3, k6, k2⟩
    · rcases hk with hk | hk
      · exact h.xa k hk
      · rw [hk]; exact h.pa
    · rcases k3 k hk with hk | hk
      · exact h.xa k hk
      · exact Nat.le_trans h.bel.size hk
  · exact absurd h.ar k7
theorem save_palong (w0 w : World) (X : Nat → Prop) (p t q n : Nat) (S : DS) (half : Nat) (b : List UInt8) (rs : List (List UInt8)) (h : PA w0 w X p t q n S half b rs) (hn1 : 1 ≤ n) (b' : List UInt8) (va : Option Addr) (vc : Nat) (hl : b'.length ≤ 1099511627776) (htk : ¬ takesN b'.length < spanN n) :
    Calls Try.prog 16 #[.pointer (some ⟨p, 0, none⟩), .slice va b'.length vc] w fun e w' => e = .returned (.int .i64 3) ∧ PA w0 w' X p t q n S half b rs ∧ Below w.heap.size w w' := by
  refine (save_long w X p q n S half _ 0 h.ps.d h.ps.pr hn1 b' va vc hl htk).mono ?_
  rintro e w' ⟨rfl, hb⟩
  exact ⟨rfl, h.on hb, hb⟩
theorem count_pa (w0 w : World) (X : Nat → Prop) (p t q n : Nat) (S : DS) (half : Nat) (b : List UInt8) (rs : List (List UInt8)) (h : PA w0 w X p t q n S half b rs) :
    Calls Try.prog 28 #[.pointer (some ⟨p, 0, none⟩)] w fun e w' => e = .returned (.int .i64 (rs.length : Int)) ∧ w' = w := pcount_any w p q half t _ _ _ _ _ 0 h.ps.pr h.ps.tp
theorem ops_pa (w0 w : World) (X : Nat → Prop) (p t q n : Nat) (S : DS) (half : Nat) (b : List UInt8) (rs : List (List UInt8)) (h : PA w0 w X p t q n S half b rs) :
    Calls Try.prog 31 #[.pointer (some ⟨q, 0, none⟩)] w fun e w' => e = .returned (.int .i64 (S.ops : Int)) ∧ w' = w := ops_any w X q n S h.ps.d
/-- Opened anew: another pair beside it. -/
theorem open_pa (w0 w : World) (X : Nat → Prop) (p t q n : Nat) (S : DS) (half : Nat) (b : List UInt8) (rs : List (List UInt8)) (h : PA w0 w X p t q n S half b rs) (hn : 5 ≤ n) (hrs : rs.length ≤ 5000) :
    Calls Try.prog 12 #[.pointer (some ⟨q, 0, none⟩)] w fun e w' => ∃ v1 v2 p' t', e = .returned (.tuple #[.pointer (some ⟨p', 0, none⟩), v1, v2, .int .i64 0]) ∧ w.heap.size ≤ p' ∧ w.heap.size ≤ t' ∧ SnV w' w.heap.size v1 b ∧ Recs w' w.heap.size v2 rs ∧ PA w0 w' X p t q n S half b rs ∧ PA w0 w' X p' t' q n S half b rs ∧ Below w.heap.size w w' := by
  refine (popen_any w X q n S h.ps.dn h.ps.wz h.ps.d hn half b rs hrs h.ps.pp).mono ?_
  rintro e w' ⟨hb, v1, v2, p', t', rfl, h1, h2, h3, h4, h5⟩
  exact ⟨v1, v2, p', t', rfl, h1, h2, h3, h4, h.on hb, ⟨h5, h.bel.trans (hb.mono h.bel.size), h.xa, Nat.le_trans h.bel.size h1, Nat.le_trans h.bel.size h2, h.ar⟩, hb⟩
/-- Opened on a new drum. -/
theorem first_pa (w0 w : World) (X : Nat → Prop) (q n : Nat) (S : DS) (h : Drum w X q n S) (hpp : PP S.P n 0 [] []) (hW : S.W = []) (har : S.armed = 0) (hdn : S.down = false) (hb : Below w0.heap.size w0 w) (hX : ∀ k, X k → w0.heap.size ≤ k) (hn : 5 ≤ n) :
    Calls Try.prog 12 #[.pointer (some ⟨q, 0, none⟩)] w fun e w' => ∃ v1 v2 p t, e = .returned (.tuple #[.pointer (some ⟨p, 0, none⟩), v1, v2, .int .i64 0]) ∧ (∃ a c, v1 = .slice a 0 c) ∧ (∃ a c, v2 = .slice a 0 c) ∧ PA w0 w' X p t q n S 0 [] [] := by
  refine (popen_any w X q n S hdn hW h hn 0 [] [] (by decide) hpp).mono ?_
  rintro e w' ⟨hb', v1, v2, p', t', rfl, h1, h2, h3, h4, h5⟩
  exact ⟨v1, v2, p', t', rfl, h3.shape, h4.shape, h5, hb.trans (hb'.mono hb.size), hX, Nat.le_trans hb.size h1, Nat.le_trans hb.size h2, har⟩
end Go.Proofs.Ythgkkmcpmhfehaa
