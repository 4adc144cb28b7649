/- What the rows' list of package-level variables gives to the walks; how an argument that is a value is opened. -/
import Derived.Test.YtlhfdklfkfodkaaDoorRows
import Derived.Test.YtlhfdklfkfodkaaDoorPl
import Derived.ProofKit
import Derived.Lib.LaidU8
import Derived.Lib.LaidTab
import Derived.Lay
import Derived.MakeChecks
import Derived.Laws.Cover2
set_option maxRecDepth 100000
namespace Go.Proofs.YtlhfdklfkfodkaaDoor
open Go.RowKit Go.Lib

theorem own : ownKnob Tryd.prog.godebug = none := by kernel_rfl
theorem laidOut : laidOutB Tryd.prog = true := by kernel_rfl

abbrev laidL := Rows.propOrdersRow.laid

theorem trodAll_cons_mk {H : Type} {enc : TypeId × Value → H} {P : Program} {w : World} {base : Nat} {sp : Nat → Bool} {held : Bool} {t : TypeId} {ts : List TypeId} {v : Value} {vs : List Value} {d : DataW H} {ds : List (DataW H)} {p q : List MemPlace}
    (h : DataW.Trod enc P w base sp held t v d p) (hr : DataW.TrodAll enc P w base sp held ts vs ds q) : DataW.TrodAll enc P w base sp held (t :: ts) (v :: vs) (d :: ds) (p ++ q) := ⟨p, q, h, hr, rfl⟩
theorem trodAll_mk0 {H : Type} {enc : TypeId × Value → H} {P : Program} {w : World} {base : Nat} {sp : Nat → Bool} {held : Bool} : DataW.TrodAll enc P w base sp held [] [] [] [] := rfl

theorem powData : (Rows.laid_internal_strconv_uint64pow10 : DataW Unit) = Lib.tabData .u64 Lib.pow10Tab := by
  simp [Rows.laid_internal_strconv_uint64pow10, Lib.tabData, Lib.pow10Tab, List.range_succ]

theorem tab_of_laid {W : World} (h : laidMetH Tryd.prog laidL W) : Tab W.heap.size W := by
  rw [MakeChecks.laidMetH_plain _ _ _ (by kernel_rfl)] at h
  obtain ⟨g, t, cs, fuel, p, hg, ht, hv, hd⟩ := laidMet.reads h (n := "internal/strconv.uint64pow10") (d := Rows.laid_internal_strconv_uint64pow10) (.tail _ (.tail _ (.tail _ (.head _))))
  obtain rfl := Option.some.inj ((show Tryd.prog.globalNamed "internal/strconv.uint64pow10" = some 1 by kernel_rfl).symm.trans hg)
  obtain rfl := Option.some.inj ((show (Tryd.prog.globals[1]?).map (·.type) = some 91 by kernel_rfl).symm.trans ht)
  refine Lib.tabBelow_of_tabIs ?_
  unfold Lib.TabIs
  rw [powData] at hd
  rw [hv, ← Lib.cells_of_tab Tryd.underlying91 Tryd.underlying65 (by kernel_rfl) (by kernel_rfl) hd]

theorem cells3 : Tryd.prog.cellsOf 3 = 1 := by kernel_rfl
theorem cells9 : Tryd.prog.cellsOf 9 = 1 := by kernel_rfl
theorem cells22 : Tryd.prog.cellsOf 22 = 1 := by kernel_rfl
theorem cells24 : Tryd.prog.cellsOf 24 = 4 := by kernel_rfl
theorem i64b {z : Int} (h : (Lit.int .i64 z).wf = true) : -9223372036854775808 ≤ z ∧ z ≤ 9223372036854775807 := by
  simpa [Lit.wf, IntKind.min, IntKind.max, IntKind.signed, IntKind.bits] using h
theorem f64b {z : Nat} (h : (Lit.float .f64 z).wf = true) : z < 2 ^ 64 := by
  simpa [Lit.wf] using h

theorem flt_cell {H : Type} {enc : TypeId × Value → H} {W : World} {c : Value} {fuel : Nat} {x : DataW H × List MemPlace} (h : DataW.trod enc Tryd.prog W 0 (fun _ => true) true fuel 22 [c] = some x) : ∃ r, [c] = [Value.float .f64 r] ∧ r < 2 ^ 64 := by
  cases fuel with
  | zero => simp [DataW.trod] at h
  | succ n =>
    simp only [DataW.trod, Tryd.underlying22] at h
    cases c with
    | float k b =>
      simp at h
      obtain ⟨⟨rfl, hw⟩, _⟩ := h
      exact ⟨b, rfl, f64b hw⟩
    | _ => simp at h
theorem val_cells {H : Type} {enc : TypeId × Value → H} {W : World} {cs : List Value} {fuel : Nat} {x : DataW H × List MemPlace} (h : DataW.trod enc Tryd.prog W 0 (fun _ => true) true fuel 24 cs = some x) :
    ∃ y : Val, cs = [.int .i64 y.kind, .int .i64 y.num, .string y.text, .float .f64 y.real] ∧ (-9223372036854775808 ≤ y.kind ∧ y.kind ≤ 9223372036854775807) ∧ (-9223372036854775808 ≤ y.num ∧ y.num ≤ 9223372036854775807) ∧ y.text.size ≤ maxLen ∧ y.real < 2 ^ 64 := by
  obtain ⟨xs, n, _, rfl, hl, hlen, hf⟩ := DataW.trod_struct Tryd.underlying24 h
  rw [cells24] at hl
  match xs, hlen with
  | [y0, y1, y2, y3], _ =>
    have t0 : DataW.trod enc Tryd.prog W 0 (fun _ => true) true n 3 ((cs.drop 0).take (Tryd.prog.cellsOf 3)) = some y0 := by simpa using hf 0 _ rfl
    have t1 : DataW.trod enc Tryd.prog W 0 (fun _ => true) true n 3 ((cs.drop 1).take (Tryd.prog.cellsOf 3)) = some y1 := by simpa using hf 1 _ rfl
    have t2 : DataW.trod enc Tryd.prog W 0 (fun _ => true) true n 9 ((cs.drop 2).take (Tryd.prog.cellsOf 9)) = some y2 := by simpa using hf 2 _ rfl
    have t3 : DataW.trod enc Tryd.prog W 0 (fun _ => true) true n 22 ((cs.drop 3).take (Tryd.prog.cellsOf 22)) = some y3 := by simpa using hf 3 _ rfl
    match cs, hl with
    | [c0, c1, c2, c3], _ =>
      simp only [cells3, cells9, cells22, List.drop, List.take] at t0 t1 t2 t3
      obtain ⟨k, e0, _, wk⟩ := DataW.trod_int Tryd.underlying3 t0
      obtain ⟨m, e1, _, wm⟩ := DataW.trod_int Tryd.underlying3 t1
      obtain ⟨s, e2, _, ws⟩ := DataW.trod_string Tryd.underlying9 t2
      obtain ⟨r, e3, wr⟩ := flt_cell t3
      simp only [List.cons.injEq, and_true] at e0 e1 e2 e3
      subst e0 e1 e2 e3
      exact ⟨⟨k, m, s, r⟩, rfl, i64b wk, i64b wm, ws, wr⟩
theorem open_val {H : Type} {enc : TypeId × Value → H} {W : World} {v : Value} {d : DataW H} {p : List MemPlace} (h : DataW.Trod enc Tryd.prog W 0 (fun _ => true) true 24 v d p) :
    ∃ y : Val, v = y.v ∧ (-9223372036854775808 ≤ y.kind ∧ y.kind ≤ 9223372036854775807) ∧ (-9223372036854775808 ≤ y.num ∧ y.num ≤ 9223372036854775807) ∧ y.text.size ≤ maxLen ∧ y.real < 2 ^ 64 := by
  obtain ⟨fuel, hf⟩ := h
  obtain ⟨y, e, hy⟩ := val_cells hf
  refine ⟨y, ?_, hy⟩
  unfold Val.v
  cases v with
  | agg a => simp only [Value.cells] at e; rw [show a = #[.int .i64 y.kind, .int .i64 y.num, .string y.text, .float .f64 y.real] from Array.ext' (by simpa using e)]
  | _ => simp [Value.cells] at e
end Go.Proofs.YtlhfdklfkfodkaaDoor
