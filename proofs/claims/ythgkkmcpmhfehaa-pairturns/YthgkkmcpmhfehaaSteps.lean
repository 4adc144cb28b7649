/- A drum's calls, said of what is safe and what waits; full's bytes. -/
import Derived.Test.YthgkkmcpmhfehaaHist
namespace Go.Proofs.Ythgkkmcpmhfehaa
open Go.RowKit Go.Lib
set_option maxRecDepth 100000

/-- A page of one byte. -/
def fullB (c : UInt8) : List UInt8 := List.replicate 256 c
theorem fullB_length (c : UInt8) : (fullB c).length = 256 := List.length_replicate
/-- The world behind full. -/
structure FullAt (w w' : World) (c : UInt8) : Prop where
  eq : w' = w.alloc (.cells (byteCells (fullB c)).toArray 5)
theorem FullAt.below {w w' : World} {c : UInt8} (h : FullAt w w' c) : Below w.heap.size w w' := by
  rw [h.eq]; exact (Below.refl _ _).alloc (Nat.le_refl _) _
theorem FullAt.step {w w' : World} {c : UInt8} (h : FullAt w w' c) (X : Nat → Prop) : Step X X w w' := Step.of_below h.below
theorem FullAt.block {w w' : World} {c : UInt8} (h : FullAt w w' c) : w'.heap[w.heap.size]? = some (.cells (byteCells (fullB c)).toArray 5 (0, 0)) := by
  rw [h.eq]; exact heap_alloc_new w _
theorem range_of_block {w : World} {b : Nat} {l : List UInt8} {t : TypeId} {fr : Nat × Nat} (h : w.heap[b]? = some (.cells (byteCells l).toArray t fr)) : w.rangeAt b 0 (byteCells l) := by
  intro j u hj
  rw [Nat.zero_add, cell_of_row _ _ _ _ _ _ h]
  simpa using hj
theorem FullAt.rd {w w' : World} {c : UInt8} (h : FullAt w w' c) : RdB w' (.slice (some ⟨w.heap.size, 0, none⟩) 256 256) (fullB c) :=
  ⟨_, _, by rw [fullB_length], fun _ => ⟨_, _, rfl, range_of_block h.block⟩⟩

/-- A drum's state, of what is safe and what waits. -/
def mkS (safe : List UInt8) (log : List (Nat × List UInt8)) (ops : Nat) (down : Bool) (armed : Nat) (keep : Int) : DS := { P := appAll safe log, W := hist safe log, ops := ops, down := down, armed := armed, keep := keep }
theorem new_mk (n : Nat) : DS.new n = mkS (List.replicate (n * 256) 0) [] 0 false 0 0 := rfl
theorem put_mk (safe : List UInt8) (log : List (Nat × List UInt8)) (ops : Nat) (down : Bool) (armed : Nat) (keep : Int) (i : Nat) (l : List UInt8) : (mkS safe log ops down armed keep).put i l = mkS safe (log ++ [(i, l)]) ops down armed keep := by
  simp only [DS.put, mkS, appAll_snoc, hist_snoc]
theorem off_mk (n : Nat) (safe : List UInt8) (log : List (Nat × List UInt8)) (ops : Nat) (armed : Nat) (keep z : Int) (hs : safe.length = n * 256) (hl : LogOk n log) : (mkS safe log ops false armed keep).off z = mkS (partAll safe z.toNat log) [] ops true 0 0 := by
  unfold DS.off mkS
  rw [if_neg (by simp)]
  have := undo_hist z.toNat n safe hs log.reverse (by rwa [List.reverse_reverse])
  rw [List.reverse_reverse] at this
  simp only [hist_length]
  rw [this]
  rfl
theorem oper_mk0 (safe : List UInt8) (log : List (Nat × List UInt8)) (ops : Nat) (down : Bool) (keep : Int) : (mkS safe log ops down 0 keep).oper = (mkS safe log (ops + 1) down 0 keep, 0) := rfl
theorem oper_mk1 (n : Nat) (safe : List UInt8) (log : List (Nat × List UInt8)) (ops : Nat) (keep : Int) (hs : safe.length = n * 256) (hl : LogOk n log) : (mkS safe log ops false 1 keep).oper = (mkS (partAll safe keep.toNat log) [] (ops + 1) true 0 0, 20) := by
  have : (mkS safe log ops false 1 keep).oper = ((mkS safe log (ops + 1) false 0 keep).off keep, 20) := rfl
  rw [this, off_mk n safe log _ _ _ _ hs hl]
theorem oper_mk2 (safe : List UInt8) (log : List (Nat × List UInt8)) (ops : Nat) (down : Bool) (armed : Nat) (keep : Int) : (mkS safe log ops down (armed + 2) keep).oper = (mkS safe log (ops + 1) down (armed + 1) keep, 0) := by
  unfold DS.oper
  have e : (mkS safe log ops down (armed + 2) keep).armed = armed + 2 := rfl
  rw [if_neg (by rw [e]; omega), if_neg (by rw [e]; omega)]
  rfl
theorem flush_mk0 (safe : List UInt8) (log : List (Nat × List UInt8)) (ops : Nat) (keep : Int) : (mkS safe log ops false 0 keep).flush = (mkS (appAll safe log) [] (ops + 1) false 0 keep, 0) := rfl
theorem flush_mk1 (n : Nat) (safe : List UInt8) (log : List (Nat × List UInt8)) (ops : Nat) (keep : Int) (hs : safe.length = n * 256) (hl : LogOk n log) : (mkS safe log ops false 1 keep).flush = (mkS (partAll safe keep.toNat log) [] (ops + 1) true 0 0, 20) := by
  unfold DS.flush
  rw [if_neg (by simp [mkS]), oper_mk1 n safe log ops keep hs hl]
  rfl
theorem flush_mk2 (safe : List UInt8) (log : List (Nat × List UInt8)) (ops : Nat) (armed : Nat) (keep : Int) : (mkS safe log ops false (armed + 2) keep).flush = (mkS (appAll safe log) [] (ops + 1) false (armed + 1) keep, 0) := by
  unfold DS.flush
  rw [if_neg (by simp [mkS]), oper_mk2]
  rfl

/-! ### Calls, where nothing is armed -/
theorem flush0 (w : World) (X : Nat → Prop) (q n : Nat) (safe : List UInt8) (log : List (Nat × List UInt8)) (ops : Nat) (keep : Int) (hW : log.length ≤ 100000) (hops : ops ≤ 1000000) (h : Drum w X q n (mkS safe log ops false 0 keep)) :
    Calls Try.prog 26 #[.pointer (some ⟨q, 0, none⟩)] w fun e w' => e = .returned (.int .i64 0) ∧ Drum w' X q n (mkS (appAll safe log) [] (ops + 1) false 0 keep) ∧ Step X X w w' := by
  have := flush_any w X q n _ (by rw [show (mkS safe log ops false 0 keep).W = hist safe log from rfl, hist_length]; exact hW) hops h
  rw [flush_mk0] at this
  exact this
theorem off0 (w : World) (X : Nat → Prop) (q n : Nat) (safe : List UInt8) (log : List (Nat × List UInt8)) (ops : Nat) (armed : Nat) (keep z : Int) (hz : -9223372036854775808 ≤ z) (hz' : z < 9223372036854775808) (hs : safe.length = n * 256) (hl : LogOk n log) (hW : log.length ≤ 100000) (h : Drum w X q n (mkS safe log ops false armed keep)) :
    Calls Try.prog 20 #[.pointer (some ⟨q, 0, none⟩), .int .i64 z] w fun e w' => e = .returned (.tuple #[]) ∧ Drum w' X q n (mkS (partAll safe z.toNat log) [] ops true 0 0) ∧ Step X X w w' := by
  have := off_any w X q n _ z hz hz' (by rw [show (mkS safe log ops false armed keep).W = hist safe log from rfl, hist_length]; exact hW) h
  rw [off_mk n safe log _ _ _ _ hs hl] at this
  exact this
theorem off1 (w : World) (X : Nat → Prop) (q n : Nat) (safe : List UInt8) (ops : Nat) (armed : Nat) (keep z : Int) (hz : -9223372036854775808 ≤ z) (hz' : z < 9223372036854775808) (h : Drum w X q n (mkS safe [] ops true armed keep)) :
    Calls Try.prog 20 #[.pointer (some ⟨q, 0, none⟩), .int .i64 z] w fun e w' => e = .returned (.tuple #[]) ∧ Drum w' X q n (mkS safe [] ops true armed keep) ∧ Step X X w w' :=
  off_any w X q n _ z hz hz' (by show 0 ≤ _; omega) h
theorem on0 (w : World) (X : Nat → Prop) (q n : Nat) (safe : List UInt8) (log : List (Nat × List UInt8)) (ops : Nat) (down : Bool) (armed : Nat) (keep : Int) (h : Drum w X q n (mkS safe log ops down armed keep)) :
    Calls Try.prog 22 #[.pointer (some ⟨q, 0, none⟩)] w fun e w' => e = .returned (.tuple #[]) ∧ Drum w' X q n (mkS safe log ops false armed keep) ∧ Step X X w w' := on_any w X q n _ h
/-- The world behind a Read that answers a page. -/
structure PageAt (w w' : World) (l : List UInt8) : Prop where
  eq : w' = w.alloc (.cells (byteCells l).toArray 85)
theorem PageAt.below {w w' : World} {l : List UInt8} (h : PageAt w w' l) : Below w.heap.size w w' := by
  rw [h.eq]; exact (Below.refl _ _).alloc (Nat.le_refl _) _
theorem PageAt.step {w w' : World} {l : List UInt8} (h : PageAt w w' l) (X : Nat → Prop) : Step X X w w' := Step.of_below h.below
theorem PageAt.block {w w' : World} {l : List UInt8} (h : PageAt w w' l) : w'.heap[w.heap.size]? = some (.cells (byteCells l).toArray 85 (0, 0)) := by
  rw [h.eq]; exact heap_alloc_new w _
theorem read0 (w : World) (X : Nat → Prop) (q n : Nat) (S : DS) (i : Nat) (hi : i < n) (hd : S.down = false) (h : Drum w X q n S) :
    Calls Try.prog 32 #[.pointer (some ⟨q, 0, none⟩), .int .i64 i] w fun e w' => e = .returned (.tuple #[.slice (some ⟨w.heap.size, 0, none⟩) 256 256, .int .i64 0]) ∧ PageAt w w' (pageOf S.P i) :=
  (read_ok w X q n S i hi hd h).mono fun _ _ h => ⟨h.1, ⟨h.2⟩⟩
theorem new0 (w : World) (n : Nat) (h1 : 1 ≤ n) (h2 : n ≤ 4096) :
    Calls Try.prog 10 #[.int .i64 n] w fun e w' => ∃ X q, e = .returned (.pointer (some ⟨q, 0, none⟩)) ∧ Drum w' X q n (mkS (List.replicate (n * 256) 0) [] 0 false 0 0) ∧ Below w.heap.size w w' ∧ ∀ k, X k → w.heap.size ≤ k := by
  have := new_any w n (by omega) (by omega)
  have e : newN (n : Int) = n := by unfold newN; omega
  rw [e] at this
  exact this
/-- A slice of bytes as a string. -/
theorem conv37 {w : World} {b o c n : Nat} {l : List UInt8} (hn : l.length = n) (h : w.rangeAt b o (byteCells l)) : (convert 30 9 (.slice (some ⟨b, o, none⟩) n c)).run Try.prog w = .ok (.string ⟨l.toArray⟩) w := by
  subst hn
  have := run_convert_bytes_arg (P := Try.prog) w 30 5 Try.underlying30 Try.underlying5 b o l.length c (l.map (fun x => (x.toNat : Int))) (by simp) (fun i hi => by
    rw [h i (.int .u8 ((l.getD i 0).toNat : Int)) (by simp [byteCells, List.getElem?_eq_getElem hi])]
    simp [List.getElem?_eq_getElem hi]) 9 Try.underlying9
  rw [this]
  congr 2
  simp [strOfNums, Function.comp_def]

theorem zeros_len (n : Nat) : (List.replicate (n * 256) (0 : UInt8)).length = n * 256 := List.length_replicate
theorem zeros_page (n i : Nat) (hi : i < n) : pageOf (List.replicate (n * 256) 0) i = fullB 0 := by
  have hl := pageOf_length _ n i (zeros_len n) hi
  have hb : (i + 1) * 256 ≤ n * 256 := Nat.mul_le_mul_right _ hi
  apply List.ext_getElem?
  intro k
  by_cases hk : k < 256
  · rw [pageOf_get _ _ _ hk, fullB, List.getElem?_replicate, List.getElem?_replicate, if_pos hk, if_pos (by omega)]
  · rw [List.getElem?_eq_none (by omega), List.getElem?_eq_none (by rw [fullB_length]; omega)]
end Go.Proofs.Ythgkkmcpmhfehaa
