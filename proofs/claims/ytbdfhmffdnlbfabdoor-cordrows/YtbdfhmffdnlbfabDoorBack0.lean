/- Parts that were put are read as they are; the lengths of what is played. -/
import Derived.Test.YtbdfhmffdnlbfabDoorParts
import Derived.Test.YtbdfhmffdnlbfabDoorReadMath
namespace Go.Proofs.YtbdfhmffdnlbfabDoor
open Go.RowKit Go.Lib

theorem pts_ok {w : World} {v : Value} {ps : List Pm} (h : RdP w v ps) (hp : Played ps) : ∀ p ∈ pts ps, PtOk p := by
  intro p hp'
  obtain ⟨q, hq, rfl⟩ := List.mem_map.1 hp'
  refine ⟨h.1 q hq, ?_⟩
  have := hp.2 q hq
  show q.2.2.data.toList.length ≤ _
  have e : q.2.2.data.toList.length = q.2.2.size := rfl
  omega
theorem encP_len (p : Pt) (hp : PtOk p) (h : p.2.2.length ≤ 4096) : (encP p).length ≤ 5000 := by
  obtain ⟨t, n, s⟩ := p
  have h1 := itoa_length n hp.1.1 hp.1.2
  have h2 := itoa_length (s.length : Int) (by omega) (by simp only at h; omega)
  simp only at h
  cases t
  · simp [encP, encN]; omega
  · simp [encP, encS]; omega
theorem encAll_len (ps : List Pt) : (∀ p ∈ ps, PtOk p ∧ p.2.2.length ≤ 4096) → (encAll ps).length ≤ 5000 * ps.length := by
  induction ps with
  | nil => intro _; simp [encAll]
  | cons p ps ih =>
    intro h
    have h1 := ih (fun q hq => h q (List.mem_cons_of_mem _ hq))
    have h2 := encP_len p (h p (by simp)).1 (h p (by simp)).2
    rw [encAll_cons]
    simp
    omega
theorem played_len {w : World} {v : Value} {ps : List Pm} (h : RdP w v ps) (hp : Played ps) : (encAll (pts ps)).length ≤ 1000000 := by
  have h1 := encAll_len (pts ps) (fun p hp' => ⟨pts_ok h hp p hp', by
    obtain ⟨q, hq, rfl⟩ := List.mem_map.1 hp'
    exact hp.2 q hq⟩)
  have h2 : (pts ps).length = ps.length := by simp [pts]
  have := hp.1
  omega
theorem pts_drop (ps : List Pm) (k : Nat) (h : k < ps.length) : encAll (pts (ps.drop k)) = encP (ptOf (ps.getD k pmZ)) ++ encAll (pts (ps.drop (k + 1))) := by
  rw [List.drop_eq_getElem_cons h, pts, List.map_cons, encAll_cons, List.getD_eq_getElem?_getD, List.getElem?_eq_getElem h, Option.getD_some]
  rfl

theorem drop_len (ps : List Pm) (k : Nat) : (encAll (pts (ps.drop k))).length ≤ (encAll (pts ps)).length := by
  have e : encAll (pts ps) = encAll (pts (ps.take k)) ++ encAll (pts (ps.drop k)) := by
    have e1 : encAll (pts (ps.take k ++ ps.drop k)) = encAll (pts (ps.take k)) ++ encAll (pts (ps.drop k)) := by
      rw [pts, List.map_append, encAll, List.flatMap_append]
      rfl
    rw [List.take_append_drop] at e1
    exact e1
  rw [e, List.length_append]
  omega

/-- A text that was put is read as it is. -/
theorem rstr_put (w : World) (B R : Nat) (s : ByteArray) (r : List UInt8) (h : Rdr w R false (encS s.data.toList ++ r)) (hl : (encS s.data.toList ++ r).length ≤ 140737488355328) (hV : Vars B w) (hBR : B ≤ R) :
    Calls Tryd.prog 8 #[.pointer (some ⟨R, 0, none⟩)] w fun e w' => e = .returned (.string s) ∧ Rdr w' R false r ∧ w.grownBy w' (some R) := by
  have hs : s.data.toList.length ≤ 140737488355328 := by simp only [List.length_append, encS, List.length_cons] at hl; omega
  have := rstr_any w B R false _ h hl hV hBR
  rw [strR_enc _ hs r] at this
  simpa using this
theorem rnum_put (w : World) (B R : Nat) (n : Int) (hn : I64 n) (r : List UInt8) (h : Rdr w R false (encN n ++ r)) (hV : Vars B w) (hBR : B ≤ R) :
    Calls Tryd.prog 9 #[.pointer (some ⟨R, 0, none⟩)] w fun e w' => e = .returned (.int .i64 n) ∧ Rdr w' R false r ∧ w.grownBy w' (some R) := by
  have := rnum_any w B R false _ h hV hBR
  rw [numR_enc _ n hn hn.1 r] at this
  exact this

theorem box_cells (w : World) (R : Nat) (hR : R < w.heap.size) (t : Bool) (n : Int) (s : ByteArray) {w' : World} (hg : ((w.alloc (.cells #[.bool t, .int .i64 n, .string s] 32)).drew).grownBy w' (some R)) :
    w'.cell? ⟨w.heap.size, 0, none⟩ = some (.bool t) ∧ w'.cell? ⟨w.heap.size, 1, none⟩ = some (.int .i64 n) ∧ w'.cell? ⟨w.heap.size, 2, none⟩ = some (.string s) := by
  have hne : some w.heap.size ≠ some R := fun e => by cases e; omega
  exact ⟨hg.cell (a := ⟨w.heap.size, 0, none⟩) (World.cell?_alloc_new w _ _ 0) hne, hg.cell (a := ⟨w.heap.size, 1, none⟩) (World.cell?_alloc_new w _ _ 1) hne, hg.cell (a := ⟨w.heap.size, 2, none⟩) (World.cell?_alloc_new w _ _ 2) hne⟩

end Go.Proofs.YtbdfhmffdnlbfabDoor
