/- What the rows' list of package-level variables gives to the walks, and one world that meets the list. -/
import Derived.Test.YtklgemnmihpkcaaGreatDoorRows
import Derived.Test.YtklgemnmihpkcaaGreatDoorKw
import Derived.ProofKit
import Derived.Lib.LaidU8
import Derived.Lib.LaidTab
import Derived.Lay
import Derived.MakeChecks
set_option maxRecDepth 100000
namespace Go.Proofs.YtklgemnmihpkcaaGreatDoor
open Go.RowKit Go.Lib

theorem own : ownKnob Tryz.prog.godebug = none := by kernel_rfl
theorem laidOut : laidOutB Tryz.prog = true := by kernel_rfl

abbrev laidL := Rows.fltKeysRow.laid

theorem trodAll_cons_mk {H : Type} {enc : TypeId × Value → H} {P : Program} {w : World} {base : Nat} {sp : Nat → Bool} {held : Bool} {t : TypeId} {ts : List TypeId} {v : Value} {vs : List Value} {d : DataW H} {ds : List (DataW H)} {p q : List MemPlace}
    (h : DataW.Trod enc P w base sp held t v d p) (hr : DataW.TrodAll enc P w base sp held ts vs ds q) : DataW.TrodAll enc P w base sp held (t :: ts) (v :: vs) (d :: ds) (p ++ q) := ⟨p, q, h, hr, rfl⟩
theorem trodAll_mk0 {H : Type} {enc : TypeId × Value → H} {P : Program} {w : World} {base : Nat} {sp : Nat → Bool} {held : Bool} : DataW.TrodAll enc P w base sp held [] [] [] [] := rfl

theorem cellsOf_of {t n : Nat} (h : Tryz.prog.cellsOf t = n) : Tryz.prog.cellsOf t = n := h
theorem powData : (Rows.laid_internal_strconv_uint64pow10 : DataW Unit) = Lib.tabData .u64 Lib.pow10Tab := by
  simp [Rows.laid_internal_strconv_uint64pow10, Lib.tabData, Lib.pow10Tab, List.range_succ]

section
variable {W : World} (h : laidMet Tryz.prog laidL W)
include h
theorem la_tab : Lib.TabIs Tryz.prog W "internal/strconv.uint64pow10" .u64 Lib.pow10Tab := by
  obtain ⟨g, t, cs, fuel, p, hg, ht, hv, hd⟩ := laidMet.reads h (n := "internal/strconv.uint64pow10") (d := Rows.laid_internal_strconv_uint64pow10) (.tail _ (.tail _ (.tail _ (.tail _ (.tail _ (.tail _ (.tail _ (.tail _ (.head _)))))))))
  obtain rfl := Option.some.inj ((show Tryz.prog.globalNamed "internal/strconv.uint64pow10" = some 6 by kernel_rfl).symm.trans hg)
  obtain rfl := Option.some.inj ((show (Tryz.prog.globals[6]?).map (·.type) = some 130 by kernel_rfl).symm.trans ht)
  unfold Lib.TabIs
  rw [powData] at hd
  rw [hv, ← Lib.cells_of_tab Tryz.underlying130 Tryz.underlying22 (by kernel_rfl) (by kernel_rfl) hd]
theorem la_opt : W.cell? ⟨3, 0, none⟩ = some (.bool true) := by
  obtain ⟨g, t, cs, fuel, p, hg, ht, hv, hd⟩ := laidMet.reads h (n := "internal/strconv.optimize") (d := Rows.laid_internal_strconv_optimize) (.tail _ (.tail _ (.tail _ (.tail _ (.head _)))))
  have hG : Tryz.prog.globalNamed "internal/strconv.optimize" = some 3 := by kernel_rfl
  obtain rfl := Option.some.inj (hG.symm.trans hg)
  obtain rfl := Option.some.inj ((show (Tryz.prog.globals[3]?).map (·.type) = some 4 by kernel_rfl).symm.trans ht)
  rw [World.var?_cell hG hv 0]
  obtain ⟨b, hcs, hx⟩ := DataW.trod_bool Tryz.underlying4 hd
  cases hx
  rw [← Array.getElem?_toList, hcs]
  rfl
theorem la_info : W.cell? ⟨5, 0, none⟩ = some (.int .u64 52) := by
  obtain ⟨g, t, cs, fuel, p, hg, ht, hv, hd⟩ := laidMet.reads h (n := "internal/strconv.float64info") (d := Rows.laid_internal_strconv_float64info) (.tail _ (.tail _ (.tail _ (.head _))))
  have hG : Tryz.prog.globalNamed "internal/strconv.float64info" = some 5 := by kernel_rfl
  obtain rfl := Option.some.inj (hG.symm.trans hg)
  obtain rfl := Option.some.inj ((show (Tryz.prog.globals[5]?).map (·.type) = some 101 by kernel_rfl).symm.trans ht)
  rw [World.var?_cell hG hv 0]
  obtain ⟨xs, n, hfe, hx, hl, hxl, hall⟩ := DataW.trod_struct Tryz.underlying101 hd
  have h0 := hall 0 _ rfl
  have hx1 := congrArg Prod.fst hx
  simp only [Rows.laid_internal_strconv_float64info, DataW.agg.injEq] at hx1
  match xs, hx1 with
  | x :: r, hx1 =>
    simp only [List.map_cons, List.cons.injEq] at hx1
    simp only [List.getElem?_cons_zero] at h0
    obtain ⟨z, hcs, hz, _⟩ := DataW.trod_int Tryz.underlying55 h0
    have := hx1.1
    rw [hz] at this
    cases this
    have e := congrArg (·[0]?) hcs
    have e' : 0 < Tryz.prog.cellsOf 55 ∧ cs[0]? = some (Value.int IntKind.u64 52) := by simpa [List.getElem?_take] using e
    exact e'.2
theorem la_f10 : ∃ b o sp c, W.cell? ⟨9, 0, none⟩ = some (.slice (some ⟨b, o, sp⟩) 23 c) ∧ W.cell? ⟨b, o + 1, none⟩ = some (.float .f64 4621819117588971520) := by
  obtain ⟨g, t, cs, fuel, p, hg, ht, hv, hd⟩ := laidMet.reads h (n := "internal/strconv.float64pow10") (d := Rows.laid_internal_strconv_float64pow10) (.tail _ (.tail _ (.tail _ (.tail _ (.tail _ (.tail _ (.head _)))))))
  have hG : Tryz.prog.globalNamed "internal/strconv.float64pow10" = some 9 := by kernel_rfl
  obtain rfl := Option.some.inj (hG.symm.trans hg)
  obtain rfl := Option.some.inj ((show (Tryz.prog.globals[9]?).map (·.type) = some 141 by kernel_rfl).symm.trans ht)
  rw [World.var?_cell hG hv 0]
  rcases DataW.trod_slice Tryz.underlying141 hd with ⟨_, hx⟩ | ⟨a, len, cap, elems, rest, n, hfe, hcs, hx, hb, hlc, hcm, hel, hall, _⟩
  · cases hx
  · have hx1 := congrArg Prod.fst hx
    simp only [Rows.laid_internal_strconv_float64pow10, DataW.slice.injEq] at hx1
    have hlen : len = 23 := by
      have := congrArg List.length hx1.1
      simp at this
      omega
    subst hlen
    refine ⟨a.block, a.off, a.spot, cap, by rw [← Array.getElem?_toList, hcs]; rfl, ?_⟩
    have h1 := hall 1 (by omega)
    have hc : Tryz.prog.cellsOf 24 = 1 := by kernel_rfl
    rw [hc] at h1
    have he : (elems.map (·.1))[1]? = some (.lit (.float .f64 4621819117588971520)) := by rw [← hx1.1]; rfl
    rw [List.getElem?_map, Option.map_eq_some_iff] at he
    obtain ⟨y, hy, hy1⟩ := he
    rw [hy, Option.bind_eq_some_iff] at h1
    obtain ⟨l, hl, htr⟩ := h1
    unfold World.cells? at hl
    rw [if_pos (Nat.zero_le _)] at hl
    have hl' : (W.cell? ((a.add 1).add 0)).bind (fun v => some [v]) = some l := by simpa [List.range_succ] using hl
    rw [Option.bind_eq_some_iff] at hl'
    obtain ⟨v, hv1, hv2⟩ := hl'
    cases hv2
    have e0 : (a.add 1).add 0 = ⟨a.block, a.off + 1, none⟩ := by unfold Addr.add; simp
    rw [e0] at hv1
    rw [hv1]
    cases n with
    | zero => simp [DataW.trod] at htr
    | succ n =>
      simp only [DataW.trod, Tryz.underlying24] at htr
      cases v <;> simp at htr
      obtain ⟨_, rfl⟩ := htr
      simp at hy1
      simp_all
theorem la_p10 (i : Nat) (hi lo : Nat) (h1 : i < 696) (h2 : Go.Pinned.pow10Rows[i]? = some (hi, lo)) : W.cell? ⟨10, 2 * i, none⟩ = some (.int .u64 hi) ∧ W.cell? ⟨10, 2 * i + 1, none⟩ = some (.int .u64 lo) := by
  obtain ⟨g, t, cs, fuel, p, hg, ht, hv, hd⟩ := laidMet.reads h (n := "internal/strconv.pow10Tab") (d := Rows.laid_internal_strconv_pow10Tab) (.tail _ (.tail _ (.tail _ (.tail _ (.tail _ (.tail _ (.tail _ (.tail _ (.tail _ (.tail _ (.tail _ (.tail _ (.head _)))))))))))))
  have hG : Tryz.prog.globalNamed "internal/strconv.pow10Tab" = some 10 := by kernel_rfl
  obtain rfl := Option.some.inj (hG.symm.trans hg)
  obtain rfl := Option.some.inj ((show (Tryz.prog.globals[10]?).map (·.type) = some 148 by kernel_rfl).symm.trans ht)
  rw [World.var?_cell hG hv, World.var?_cell hG hv]
  obtain ⟨fuel', d, q, hds, htr⟩ := array_elem (ds := Go.Pinned.pow10Rows.map fun x => .agg [.lit (.int .u64 x.1), .lit (.int .u64 x.2)]) Tryz.underlying148 hd i h1
  have hc : Tryz.prog.cellsOf 147 = 2 := by kernel_rfl
  rw [List.getElem?_map, h2] at hds
  cases hds
  rw [hc] at htr
  have hs := ints_of_struct (zs := [(hi : Int), (lo : Int)]) (k := .u64) Tryz.underlying147 (by
    intro j f hf
    match j, hf with
    | 0, hf => cases hf; exact ⟨Tryz.underlying22, rfl, by kernel_rfl⟩
    | 1, hf => cases hf; exact ⟨Tryz.underlying22, rfl, by kernel_rfl⟩) (by kernel_rfl) htr
  have e0 := congrArg (·[0]?) hs
  have e1 := congrArg (·[1]?) hs
  simp [List.getElem?_drop] at e0 e1
  rw [Nat.mul_comm 2 i]
  exact ⟨e0, e1⟩
theorem la_a : W.cell? ⟨10, 730, none⟩ = some (.int .u64 12800000000000000000) ∧ W.cell? ⟨10, 731, none⟩ = some (.int .u64 0) :=
  la_p10 h 365 12800000000000000000 0 (by omega) (by kernel_rfl)
theorem la_b : W.cell? ⟨10, 686, none⟩ = some (.int .u64 12089258196146291748) ∧ W.cell? ⟨10, 687, none⟩ = some (.int .u64 17307473159717249708) :=
  la_p10 h 343 12089258196146291748 17307473159717249708 (by omega) (by kernel_rfl)
theorem la_vars : Vars W := ⟨la_opt h, la_info h, la_tab h, la_f10 h, (la_a h).1, (la_a h).2, (la_b h).1, (la_b h).2⟩
end
theorem vars_of_laid {W : World} (h : laidMetH Tryz.prog laidL W) : Vars W := by
  rw [MakeChecks.laidMetH_plain _ _ _ (by kernel_rfl)] at h
  exact la_vars h
end Go.Proofs.YtklgemnmihpkcaaGreatDoor
