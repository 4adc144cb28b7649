/- What the law's own page of a call answers. -/
import Derived.Test.YtgbgeoplbmjcbaaLastWalk
namespace Go.Proofs.Ytgbgeoplbmjcbaa
open Go.RowKit Go.Lib

/-- The bytes of a call's page. -/
def cpage (f : UInt8) : List UInt8 := (List.range 256).map fun i => f + UInt8.ofNat (i % 7)
theorem cpage_length (f : UInt8) : (cpage f).length = 256 := by rw [cpage, List.length_map, List.length_range]
theorem cpage_at (f : UInt8) (k : Nat) (hk : k < 256) : (((cpage f).getD k 0).toNat : Int) = ((f.toNat : Int) + (k : Int) % 7) % 256 := by
  have e : (cpage f).getD k 0 = f + UInt8.ofNat (k % 7) := by
    rw [cpage, List.getD_eq_getElem?_getD, List.getElem?_map, List.getElem?_range hk]; rfl
  rw [e, UInt8.toNat_add, UInt8.toNat_ofNat']
  omega

set_option maxRecDepth 100000 in
set_option maxHeartbeats 1000000 in
theorem page_any (w : World) (a b c : Int) (f : UInt8) (s : Bool) :
    Calls Try.prog 13 #[.agg #[.int .i64 a, .int .i64 b, .int .i64 c, .int .u8 (f.toNat : Int), .bool s]] w fun e w' => ∃ g, e = .returned (.slice (some ⟨g, 0, none⟩) (if s = true then 255 else 256) 256) ∧ w'.rangeAt g 0 (byteCells (cpage f)) ∧ w.heap.size ≤ g ∧ Below w.heap.size w w' := by
  have hw0 : ∃ w0, w0 = w.alloc (.cells #[.int .i64 a, .int .i64 b, .int .i64 c, .int .u8 (f.toNat : Int), .bool s] 34) := ⟨_, rfl⟩
  obtain ⟨w0, hw0⟩ := hw0
  have hm : (Instr.makeSlice 37 (.int .i64 256) (.int .i64 256)).run Try.prog (w.alloc (.cells #[.int .i64 a, .int .i64 b, .int .i64 c, .int .u8 (f.toNat : Int), .bool s] 34)) = .ok (.slice (some ⟨w0.heap.size, 0, none⟩) 256 256) (w0.alloc (.cells (byteCells (List.replicate 256 0)).toArray 5)) := by rw [← hw0]; exact make256 w0
  have hb0 : Below w.heap.size w w0 := by rw [hw0]; exact (Below.refl _ _).alloc (Nat.le_refl _) _
  have hg0 : w0.heap[w.heap.size]? = some (.cells #[.int .i64 a, .int .i64 b, .int .i64 c, .int .u8 (f.toNat : Int), .bool s] 34 (0, 0)) := by rw [hw0]; exact heap_alloc_new w _
  have hlt0 : w.heap.size < w0.heap.size := (Array.getElem?_eq_some_iff.1 hg0).1
  clear hw0
  have hD : Hid ((List.replicate 256 (0 : UInt8)).length = 256) := List.length_replicate
  have hC : Hid ((cpage f).length = 256) := cpage_length f
  have HAT : Hid (∀ k, k < 256 → (((cpage f).getD k 0).toNat : Int) = ((f.toNat : Int) + (k : Int) % 7) % 256) := cpage_at f
  have hcf : ∀ o, (w0.alloc o).cell? ⟨w.heap.size, 3, none⟩ = some (.int .u8 (f.toNat : Int)) := fun o => by rw [World.cell?_alloc_lt _ _ _ hlt0, cell_of_row _ _ _ _ _ _ hg0]; rfl
  have hcs : ∀ o, (w0.alloc o).cell? ⟨w.heap.size, 4, none⟩ = some (.bool s) := fun o => by rw [World.cell?_alloc_lt _ _ _ hlt0, cell_of_row _ _ _ _ _ _ hg0]; rfl
  have HB : Hid (∀ o, Below w.heap.size w (w0.alloc o)) := fun o => hb0.alloc hb0.size o
  have HL : Hid (w.heap.size ≤ w0.heap.size) := hb0.size
  generalize List.replicate 256 (0 : UInt8) = D at *
  clear hb0 hg0 hlt0
  go_enter Try.func13, Try.ntmps13
  go_wp2
  clear hm
  go_loopw [8] (fun i wr => ∃ k : Nat, k ≤ 256 ∧ i = .int .i64 k ∧ wr = w0.alloc (.cells (byteCells (filled k (cpage f) D)).toArray 5)) (fun i _ => 256 - (RowKit.intOf i).toNat)
  case atStart => exact ⟨0, by omega, rfl, rfl⟩
  case round =>
    obtain ⟨k, hk, rfl, rfl⟩ := hrel
    by_cases hlt : k < 256
    · have HS : Hid (∀ x : Int, x = ((f.toNat : Int) + (k : Int) % 7) % 256 → (byteCells (filled k (cpage f) D)).toArray.setIfInBounds k (.int .u8 x) = (byteCells (filled (k + 1) (cpage f) D)).toArray) := by
        rintro x rfl
        rw [← HAT.out k hlt]
        exact filled_set k (cpage f) D (by rw [hC.out]; exact hlt) (by rw [hC.out, hD.out])
      have hcell : ((byteCells (filled k (cpage f) D)).toArray[k]?).isSome = true := by
        simp [byteCells_length, filled_length k (cpage f) D (by rw [hC.out, hD.out]), hD.out, hlt]
      generalize (byteCells (filled k (cpage f) D)).toArray = A at *
      obtain ⟨x, hx⟩ := Option.isSome_iff_exists.1 hcell
      have hcc : (w0.alloc (.cells A 5)).cell? ⟨w0.heap.size, k, none⟩ = some x := by rw [cell_of_row _ _ _ _ _ _ (heap_alloc_new w0 _)]; exact hx
      have hfz : (w0.alloc (.cells A 5)).frozen? ⟨w0.heap.size, k, none⟩ = false := frozen_of_row _ _ _ _ _ (heap_alloc_new w0 _)
      have hfl := f.toNat_lt
      clear hcell
      go_wp2
      refine ⟨⟨k + 1, by omega, by go_num, ?_⟩, by simp [RowKit.intOf]; omega⟩
      rw [HS.out _ (by first | rfl | omega | (rw [IntKind.wrap_u8']))]
    · obtain rfl : k = 256 := by omega
      have HF : Hid (filled 256 (cpage f) D = cpage f) := by
        have := filled_all (cpage f) D (by rw [hC.out, hD.out])
        rw [hD.out] at this
        exact this
      cases s
      · go_wp2
        go_ret
        refine ⟨w0.heap.size, rfl, ?_, HL.out, HB.out _⟩
        rw [HF.out]
        exact range_of_block (heap_alloc_new w0 _)
      · go_wp2
        go_ret
        refine ⟨w0.heap.size, rfl, ?_, HL.out, HB.out _⟩
        rw [HF.out]
        exact range_of_block (heap_alloc_new w0 _)
end Go.Proofs.Ytgbgeoplbmjcbaa
