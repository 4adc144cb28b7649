
/- What the row's variable gives to the walks. -/
import Derived.Test.YtmaaacaifpgpaaaGreatDoorFo
import Derived.Test.YtmaaacaifpgpaaaGreatDoorRows
import Derived.ProofKit
import Derived.Lib.LaidU8
import Derived.Lib.LaidTab
import Derived.Lay
import Derived.MakeChecks
set_option maxRecDepth 100000
set_option linter.unusedSimpArgs false
namespace Go.Proofs.YtmaaacaifpgpaaaGreatDoor
open Go.RowKit Go.Lib

def rowD (x : Nat × Nat × List UInt8) : DataW Unit := .agg [.lit (.int .i64 (x.1 : Int)), .lit (.int .i64 (x.2.1 : Int)), .lit (.string x.2.2)]
theorem laid_rows : (Rows.laid_trivet_table_methods : DataW Unit) = .agg (mL.map rowD) := rfl
theorem struct_row {enc : TypeId × Value → Unit} {w : World} {base : Nat} {sp : Nat → Bool} {held : Bool} {fuel : Nat} {cs : List Value} {x : Nat × Nat × List UInt8} {q : List MemPlace}
    (h : DataW.trod enc Tryz.prog w base sp held fuel 46 cs = some (rowD x, q)) : cs = [.int .i64 (x.1 : Int), .int .i64 (x.2.1 : Int), str x.2.2] := by
  obtain ⟨xs, n, hfe, hx, hl, hxl, hall⟩ := DataW.trod_struct Tryz.underlying46 h
  have hc : Tryz.prog.cellsOf 46 = 3 := by kernel_rfl
  have c3 : Tryz.prog.cellsOf 3 = 1 := by kernel_rfl
  have c9 : Tryz.prog.cellsOf 9 = 1 := by kernel_rfl
  have h0 := hall 0 _ rfl
  have h1 := hall 1 _ rfl
  have h2 := hall 2 _ rfl
  have hx1 := congrArg Prod.fst hx
  rw [hc] at hl
  unfold rowD at hx1
  simp only [DataW.agg.injEq] at hx1
  match cs, hl with
  | [u0, u1, u2], _ =>
    match xs, hx1 with
    | [x0, x1, x2], hx1 =>
      simp only [List.map_cons, List.map_nil, List.cons.injEq, and_true] at hx1
      simp only [c3, c9, List.drop_zero, List.drop_succ_cons, List.take_succ_cons, List.take_zero, List.getElem?_cons_zero, List.getElem?_cons_succ] at h0 h1 h2
      obtain ⟨e0, e1, e2⟩ := hx1
      obtain ⟨z0, hz0, rfl, _⟩ := DataW.trod_int Tryz.underlying3 h0
      obtain ⟨z1, hz1, rfl, _⟩ := DataW.trod_int Tryz.underlying3 h1
      obtain ⟨s2, hz2, rfl, _⟩ := DataW.trod_string Tryz.underlying9 h2
      cases e0
      cases e1
      simp only [DataW.lit.injEq, Lit.string.injEq] at e2
      cases hz0
      cases hz1
      cases hz2
      simp [str, e2]
theorem arr_len {enc : TypeId × Value → Unit} {w : World} {base : Nat} {sp : Nat → Bool} {held : Bool} {fuel : Nat} {cs : List Value} {x : DataW Unit × List MemPlace}
    (h : DataW.trod enc Tryz.prog w base sp held fuel 47 cs = some x) : cs.length = 108 := by
  have hc : Tryz.prog.cellsOf 47 = 108 := by kernel_rfl
  cases fuel with
  | zero => simp [DataW.trod] at h
  | succ fuel =>
    simp only [DataW.trod, Tryz.underlying47] at h
    split at h
    · rename_i hh
      rw [← hc]
      simpa using hh
    · cases h
theorem mCells_of : ∀ (l : List (Nat × Nat × List UInt8)) (cs : List Value), cs.length = 3 * l.length → (∀ (i : Nat) (h : i < l.length), (cs.drop (i * 3)).take 3 = [.int .i64 (l[i].1 : Int), .int .i64 (l[i].2.1 : Int), str l[i].2.2]) → cs = mCells l
  | [], cs, hl, _ => List.length_eq_zero_iff.mp (by simpa using hl)
  | x :: l, cs, hl, h => by
    match cs, hl with
    | u0 :: u1 :: u2 :: cs, hl =>
      have h0 := h 0 (by simp)
      simp at h0
      obtain ⟨rfl, rfl, rfl⟩ := h0
      have ih := mCells_of l cs (by simp at hl; omega) (fun i hi => by
        have := h (i + 1) (by simp; omega)
        have e : (i + 1) * 3 = i * 3 + 1 + 1 + 1 := by omega
        rw [e] at this
        simpa using this)
      rw [ih]
      rfl
theorem mv_of_laid {W : World} (h : laidMetH Tryz.prog Rows.tableMethodsRow.laid W) : Mv W := by
  rw [MakeChecks.laidMetH_plain _ _ _ (by kernel_rfl)] at h
  obtain ⟨g, t, cs, fuel, p, hg, ht, hv, hd⟩ := laidMet.reads h (n := "trivet/table.methods") (d := Rows.laid_trivet_table_methods) (.head _)
  have hG : Tryz.prog.globalNamed "trivet/table.methods" = some 0 := by kernel_rfl
  obtain rfl := Option.some.inj (hG.symm.trans hg)
  obtain rfl := Option.some.inj ((show (Tryz.prog.globals[0]?).map (·.type) = some 47 by kernel_rfl).symm.trans ht)
  have hlen := arr_len hd
  rw [laid_rows] at hd
  have e : cs.toList = mCells mL := by
    refine mCells_of mL cs.toList (by rw [hlen]; rfl) (fun i hi => ?_)
    obtain ⟨fuel', d, q, hds, htr⟩ := array_elem Tryz.underlying47 hd i hi
    have hc : Tryz.prog.cellsOf 46 = 3 := by kernel_rfl
    rw [List.getElem?_map, List.getElem?_eq_getElem hi] at hds
    cases hds
    rw [hc] at htr
    exact struct_row htr
  have hcs : cs = (mCells mL).toArray := by rw [← e]
  subst hcs
  unfold World.var? at hv
  rw [hG] at hv
  simp only [Option.bind_some] at hv
  split at hv
  · rename_i cs' t' fr' hh
    injection hv with hv
    subst hv
    exact ⟨_, _, hh⟩
  · cases hv
end Go.Proofs.YtmaaacaifpgpaaaGreatDoor
