/- PairKeeps walked. -/
import Derived.Test.YthgkkmcpmhfehaaPx
import Derived.BigQuiet
namespace Go.Proofs.Ythgkkmcpmhfehaa
open Go.RowKit Go.Lib Go.Shelf
set_option maxRecDepth 100000

/-- What moves with a pair. -/
def ZP' (X : Nat → Prop) (p t : Nat) : Nat → Prop := fun k => X k ∨ k = p ∨ k = t
theorem PA.step {w0 w w' : World} {X Y Y' : Nat → Prop} {p t q n : Nat} {S : DS} {half : Nat} {b : List UInt8} {rs : List (List UInt8)} (h : PA w0 w X p t q n S half b rs) (hs : Step Y Y' w w') (hy : ∀ k, Y k → w0.heap.size ≤ k) (hz : ∀ k, Y k → ¬ ZP' X p t k) : PA w0 w' X p t q n S half b rs :=
  ⟨h.ps.on hs (fun k hk hy' => hz k hy' (.inl hk)) (fun hy' => hz p hy' (.inr (.inl rfl))) (fun hy' => hz t hy' (.inr (.inr rfl))), h.bel.trans (hs.below hy h.bel.size), h.xa, h.pa, h.ta, h.ar⟩
theorem own_blk {w : World} {B : Nat} {v : Value} {l : List UInt8} (h : Sl.Own w B v l) (hl : 0 < l.length) : ∃ g cap cur, v = .slice (some ⟨g, 0, none⟩) l.length cap ∧ B ≤ g ∧ w.heap[g]? = some (.cells cur 5 (0, 0)) ∧ l.length ≤ cur.size ∧ l.length ≤ cap ∧ w.rangeAt g 0 (byteCells l) := by
  rcases h.2 with ⟨_, h0⟩ | ⟨g, cap, cur, rfl, hB, hg, hc, _, hsz, ht⟩
  · omega
  · refine ⟨g, cap, cur, rfl, hB, hg, by omega, hc, fun j u hj => ?_⟩
    have hjl := (List.getElem?_eq_some_iff.1 hj).1
    rw [byteCells_length] at hjl
    have e : (cur.toList.take (l.length * 1))[j]? = (byteCells l)[j]? := by rw [ht]
    rw [List.getElem?_take_of_lt (by omega), hj] at e
    simp only [World.cell?, hg, Nat.zero_add]
    simpa using e
theorem range_take {w : World} {g : Nat} {l m : List UInt8} (h : w.rangeAt g 0 (byteCells (l ++ m))) : w.rangeAt g 0 (byteCells l) := fun j u hj => h j u (by
  have hjl := (List.getElem?_eq_some_iff.1 hj).1
  rw [← hj, byteCells_append, List.getElem?_append_left hjl])
theorem range_on {w w' : World} {g o : Nat} {cs : List Value} (h : w.rangeAt g o cs) (hb : w'.heap[g]? = w.heap[g]?) : w'.rangeAt g o cs := fun j u hj => by
  rw [← h j u hj]
  simp only [World.cell?, hb]

set_option maxHeartbeats 16000000 in
theorem keeps_any (w : World) (vs vr : Value) (s r : List UInt8) (hs : Sl.RdA w vs s) (hr : Sl.RdA w vr r) (hsl : s.length ≤ 140737488355328) (hrl : r.length ≤ 140737488355328) :
    Calls Try.prog 6 #[vs, vr] w fun e w' => e = .returned (.bool true) ∧ Below w.heap.size w w' := by
  have hmix : Try.prog.follows .mixedOrders = true := by kernel_rfl
  obtain ⟨ra, rc, rfl⟩ := hr.len
  obtain ⟨sa, sc, rfl⟩ := hs.len
  have HR : Hid _ := hr
  have HS : Hid _ := hs
  clear hr hs
  have hnot : ∀ (b : Bool) (w : World), (Op.unary .not (.bool b)).run Try.prog w = .ok (.bool (!b)) w := fun _ _ => rfl
  go_enter Try.func6, Try.ntmps6
  go_wp2_with fail
  refine (wakes_any w).mono ?_
  rintro e w0 ⟨rfl, hb0⟩
  by_cases h0 : (2000 : Int) < (s.length : Int)
  · go_wp2_with fail
    go_ret
    exact ⟨rfl, hb0⟩
  by_cases h00 : (2000 : Int) < (r.length : Int)
  · go_wp2_with fail
    go_ret
    exact ⟨rfl, hb0⟩
  have hsl2 : s.length ≤ 2000 := by omega
  have hrl2 : r.length ≤ 2000 := by omega
  clear hrl hsl
  have N10 := new_open w0 61 (by decide) (by decide)
  go_wp2_with fail
  refine N10.mono ?_
  rintro e w1 ⟨X0, q, S0, rfl, hdr0, hpp0, hW0, hops0, har0, hdn0, hb1, hX0⟩
  have hb01 : Below w.heap.size w w1 := hb0.trans (hb1.mono hb0.size)
  have N12 := first_pa w w1 X0 q 61 S0 hdr0 hpp0 hW0 har0 hdn0 hb01 (fun k hk => Nat.le_trans hb0.size (hX0 k hk)) (by decide)
  clear N10 h0 h00
  go_wp2_with fail
  refine N12.mono ?_
  rintro e w2 ⟨v1, v2, p, t, rfl, ⟨sa6, sc6, rfl⟩, ⟨ra6, rc6, rfl⟩, hpa⟩
  clear N12 hb01 hdr0 hpp0 hW0 har0 hdn0 hX0 hb1 hb0
  have hB2 : w2.heap.size ≤ (w2.alloc (.cells #[] 5)).heap.size := by simp
  have hoA := Sl.own_empty w2 w2.heap.size (Nat.le_refl _)
  have hbA : Below w2.heap.size w2 (w2.alloc (.cells #[] 5)) := (Below.refl _ _).alloc (Nat.le_refl _) _
  generalize hwA : w2.alloc (.cells #[] 5) = wA at *
  have hrA : Sl.RdA wA (.slice sa s.length sc) s := Sl.RdA.on (Sl.RdA.on HS.out hpa.bel) hbA
  go_wp2_with (at_builtin; refine Sl.appB rfl (.tmp 40) (.tmp 41) rfl w2.heap.size _ _ [] s wA rfl hoA rfl hrA (by simp; omega) hB2 ?_)
  clear hwA
  intro v42 w42 ho42 hb42
  have hb242 : Below w2.heap.size w2 w42 := hbA.trans hb42
  go_wp2_with (at_builtin; refine Sl.appS rfl (.tmp 42) (.const (.string ⟨#[115, 112, 97, 114, 101]⟩)) rfl w2.heap.size _ s w42 ⟨#[115, 112, 97, 114, 101]⟩ rfl ho42 rfl (by show s.length + 5 ≤ _; omega) hb242.size ?_)
  intro v43 w43 ho43 hb43
  have hb243 : Below w2.heap.size w2 w43 := hb242.trans hb43
  have hoC := Sl.own_empty w43 w43.heap.size (Nat.le_refl _)
  have hbC : Below w43.heap.size w43 (w43.alloc (.cells #[] 5)) := (Below.refl _ _).alloc (Nat.le_refl _) _
  have hB43 : w43.heap.size ≤ (w43.alloc (.cells #[] 5)).heap.size := by simp
  generalize hwC : w43.alloc (.cells #[] 5) = wC at *
  have hrC : Sl.RdA wC (.slice ra r.length rc) r := Sl.RdA.on (Sl.RdA.on (Sl.RdA.on HR.out hpa.bel) hb243) hbC
  go_wp2_with (at_builtin; refine Sl.appB rfl (.tmp 44) (.tmp 45) rfl w43.heap.size _ _ [] r wC rfl hoC rfl hrC (by simp; omega) hB43 ?_)
  clear hwC
  intro v46 w46 ho46 hb46
  have hb4346 : Below w43.heap.size w43 w46 := hbC.trans hb46
  go_wp2_with (at_builtin; refine Sl.appS rfl (.tmp 46) (.const (.string ⟨#[115, 112, 97, 114, 101]⟩)) rfl w43.heap.size _ r w46 ⟨#[115, 112, 97, 114, 101]⟩ rfl ho46 rfl (by show r.length + 5 ≤ _; omega) hb4346.size ?_)
  intro v47 w47 ho47 hb47
  have hb4347 : Below w43.heap.size w43 w47 := hb4346.trans hb47
  have hb247 : Below w2.heap.size w2 w47 := hb243.trans (hb4347.mono hb243.size)
  have hpa47 : PA w w47 X0 p t q 61 S0 0 [] [] := hpa.on hb247
  have hx2 := hpa.ps.d.xlt
  have hpw2 := hpa.bel.size
  have hp2 := hpa.ps.pr.lt
  obtain ⟨gs, cs, curs, rfl, hgs2, hgs, hgsz, hgsc, hrs⟩ := own_blk ho43 (by simp)
  obtain ⟨gr, cr, curr, rfl, hgr2, hgr, hgrz, hgrc, hrr⟩ := own_blk ho47 (by simp)
  have hgsl : gs < w43.heap.size := (Array.getElem?_eq_some_iff.1 hgs).1
  have hgrl : gr < w47.heap.size := (Array.getElem?_eq_some_iff.1 hgr).1
  have hgs47 := (hb4347.block gs hgsl).trans hgs
  have hrs47 := range_on hrs (hb4347.block gs hgsl)
  have hsz47 := hb4347.size
  have hsz243 := hb243.size
  have els : (s ++ [115, 112, 97, 114, 101]).length = s.length + 5 := by simp
  have elr : (r ++ [115, 112, 97, 114, 101]).length = r.length + 5 := by simp
  have HX1 : Hid (w47.rangeAt gs 0 (byteCells (s ++ [115, 112, 97, 114, 101]))) := hrs47
  have HX2 : Hid (w47.rangeAt gr 0 (byteCells (r ++ [115, 112, 97, 114, 101]))) := hrr
  have hspn : spanN 61 = 30 := rfl
  have htks : takesN s.length ≤ 9 := by unfold takesN; omega
  have N16 := save_pa w w47 X0 p t q 61 S0 0 [] [] hpa47 (by omega) s (.slice (some ⟨gs, 0, none⟩) s.length cs) (sl_range (range_take hrs47) (by omega)) (by omega) (by omega)
  clear hrs hrr hrs47 ho42 hb42 hb242 hoC hbC hB43 hrC ho46 hb46 hb4346 ho47 hb47 ho43 hb43 hoA hbA hrA hB2 hgs hb4347 hb243 hpa47 hpa hb247
  rw [els] at hgsz hgsc ⊢
  rw [elr] at hgrz hgrc ⊢
  go_wp2_with fail
  refine N16.mono ?_
  rintro e w5 ⟨rfl, X5, S5, t5, hp5, ho5, _, hX5, ht5, hst5⟩
  have hks : gs < w47.heap.size := by omega
  have hns : ¬ (X0 gs ∨ gs = p) := fun h => by
    rcases h with h | h
    · have := hx2 gs h; omega
    · omega
  have hnr : ¬ (X0 gr ∨ gr = p) := fun h => by
    rcases h with h | h
    · have := hx2 gr h; omega
    · omega
  have hgs5 := (hst5.block gs hks hns).trans hgs47
  have hgr5 := (hst5.block gr hgrl hnr).trans hgr
  have hx5s : ¬ (X5 gs ∨ gs = t5) := fun h => by
    rcases h with h | h
    · rcases hX5 gs h with h | h
      · exact hns (.inl h)
      · omega
    · omega
  have hx5r : ¬ (X5 gr ∨ gr = t5) := fun h => by
    rcases h with h | h
    · rcases hX5 gr h with h | h
      · exact hnr (.inl h)
      · omega
    · omega
  have HY1 : Hid (w5.rangeAt gs 0 (byteCells (s ++ [115, 112, 97, 114, 101]))) := range_on HX1.out (hst5.block gs hks hns)
  have HY2 : Hid (w5.rangeAt gr 0 (byteCells (r ++ [115, 112, 97, 114, 101]))) := range_on HX2.out (hst5.block gr hgrl hnr)
  have hpl : tot ([] : List (List UInt8)) + (12 + r.length) ≤ (spanN 61 - takesN s.length) * 256 := by rw [hspn]; simp [tot]; omega
  have N14 := append_pa w w5 X5 p t5 q 61 S5 (1 - 0) s [] hp5 (by omega) (by decide) r (.slice (some ⟨gr, 0, none⟩) r.length cr) (sl_range (range_take HY2.out) (by omega)) (by omega) hpl
  have hl5s : gs < w5.heap.size := (Array.getElem?_eq_some_iff.1 hgs5).1
  have hl5r : gr < w5.heap.size := (Array.getElem?_eq_some_iff.1 hgr5).1
  clear N16 HX1 HX2 hst5 hgs47 hgr hpl hp5
  go_wp2_with fail
  refine N14.mono ?_
  rintro e w6 ⟨rfl, X6, S6, hp6, ho6, _, hX6, hst6⟩
  have hgs6 := (hst6.block gs hl5s hx5s).trans hgs5
  have hgr6 := (hst6.block gr hl5r hx5r).trans hgr5
  have hnz : ∀ g, g < w5.heap.size → g ≠ p → ¬ (X5 g ∨ g = t5) → ¬ ZP' X6 p t5 g := fun g h1 h2 h3 h4 => by
    rcases h4 with h4 | h4 | h4
    · rcases hX6 g h4 with h | h
      · exact h3 (.inl h)
      · omega
    · exact h2 h4
    · exact h3 (.inr h4)
  have hzs : ¬ ZP' X6 p t5 gs := hnz gs hl5s (by omega) hx5s
  have hzr : ¬ ZP' X6 p t5 gr := hnz gr hl5r (by omega) hx5r
  have c1 : (convert 30 9 (.slice (some ⟨gs, 0, none⟩) (s.length + 5) cs)).run Try.prog w6 = .ok (.string ⟨(s ++ [115, 112, 97, 114, 101]).toArray⟩) w6 := by
    have := convA (sl_range (c := cs) (range_on HY1.out (hst6.block gs hl5s hx5s)) (by rw [els]; omega))
    rwa [els] at this
  have c2 : (convert 30 9 (.slice (some ⟨gr, 0, none⟩) (r.length + 5) cr)).run Try.prog w6 = .ok (.string ⟨(r ++ [115, 112, 97, 114, 101]).toArray⟩) w6 := by
    have := convA (sl_range (c := cr) (range_on HY2.out (hst6.block gr hl5r hx5r)) (by rw [elr]; omega))
    rwa [elr] at this
  have c3 := convA (Sl.RdA.on HS.out hp6.bel)
  have c4 := convA (Sl.RdA.on HR.out hp6.bel)
  have hgnb : ∀ l : List UInt8, (⟨(l ++ [115, 112, 97, 114, 101]).toArray⟩ : ByteArray) = ⟨l.toArray⟩ ++ ⟨#[115, 112, 97, 114, 101]⟩ := fun l => by
    apply ByteArray.ext
    simp
  rw [hgnb] at c1 c2
  clear hgnb N14 HY1 HY2 hst6 hgs5 hgr5
  have zS : ¬ 9223372036854775807 < (⟨s.toArray⟩ : ByteArray).size + 5 := by
    have : (⟨s.toArray⟩ : ByteArray).size = s.length := rfl
    omega
  have zR : ¬ 9223372036854775807 < (⟨r.toArray⟩ : ByteArray).size + 5 := by
    have : (⟨r.toArray⟩ : ByteArray).size = r.length := rfl
    omega
  generalize (⟨s.toArray⟩ : ByteArray) = cS at *
  generalize (⟨r.toArray⟩ : ByteArray) = cR at *
  go_wp2_with fail
  clear zS zR c1 c2 c3 c4 hnz
  have hgsw : w.heap.size ≤ gs := Nat.le_trans hpw2 hgs2
  have hgrw : w.heap.size ≤ gr := by omega
  go_loopw [82] (fun i wr => ∃ (k : Nat) (cur : Array Value), k ≤ (s.length + 5) ∧ i = .int .i64 k ∧ wr.heap[gs]? = some (.cells cur 5 (0, 0)) ∧ (s.length + 5) ≤ cur.size ∧ Step (fun j => j = gs) (fun j => j = gs) w6 wr) (fun i _ => (s.length + 5) - (RowKit.intOf i).toNat)
  case atStart => exact ⟨0, _, by omega, rfl, hgs6, hgsz, Step.refl _ _⟩
  case round =>
    obtain ⟨k, cur, hk, rfl, hgk, hck, hsk⟩ := hrel
    by_cases hlk : k < (s.length + 5)
    · have hcl : wr.cell? ⟨gs, k, none⟩ = some cur[k] := by rw [cell_of_row _ _ _ _ _ _ hgk]; simp
      have hfz := frozen_of_row _ _ k _ _ hgk
      have hnew : (wr.setCell ⟨gs, k, none⟩ (.int .u8 0)).heap[gs]? = some (.cells (cur.setIfInBounds k (.int .u8 0)) 5 (0, 0)) := heap_setCell_same _ _ _ _ _ _ hgk
      have HST : Hid (Step (fun j => j = gs) (fun j => j = gs) w6 (wr.setCell ⟨gs, k, none⟩ (.int .u8 0))) := Step.set hsk (a := ⟨gs, k, none⟩) rfl _
      go_wp2_with fail
      exact ⟨⟨k + 1, _, by omega, by go_num, hnew, by simp; omega, HST.out⟩, by simp [RowKit.intOf]; omega⟩
    · skip
      have hzr7 : wr.heap[gr]? = some (.cells curr 5 (0, 0)) := (hsk.block gr (Array.getElem?_eq_some_iff.1 hgr6).1 (by omega)).trans hgr6
      have hp7 := PA.step hp6 hsk (fun j hj => by rw [hj]; exact hgsw) (fun j hj => by rw [hj]; exact hzs)
      generalize wr = w7 at *
      go_wp2_with fail
      go_loopw [91] (fun i wr => ∃ (k : Nat) (cur : Array Value), k ≤ (r.length + 5) ∧ i = .int .i64 k ∧ wr.heap[gr]? = some (.cells cur 5 (0, 0)) ∧ (r.length + 5) ≤ cur.size ∧ Step (fun j => j = gr) (fun j => j = gr) w7 wr) (fun i _ => (r.length + 5) - (RowKit.intOf i).toNat)
      case atStart => exact ⟨0, _, by omega, rfl, hzr7, hgrz, Step.refl _ _⟩
      case round =>
        obtain ⟨k, cur, hk, rfl, hgk, hck, hsk⟩ := hrel
        by_cases hlk : k < (r.length + 5)
        · have hcl : wr.cell? ⟨gr, k, none⟩ = some cur[k] := by rw [cell_of_row _ _ _ _ _ _ hgk]; simp
          have hfz := frozen_of_row _ _ k _ _ hgk
          have hnew : (wr.setCell ⟨gr, k, none⟩ (.int .u8 0)).heap[gr]? = some (.cells (cur.setIfInBounds k (.int .u8 0)) 5 (0, 0)) := heap_setCell_same _ _ _ _ _ _ hgk
          have HST : Hid (Step (fun j => j = gr) (fun j => j = gr) w7 (wr.setCell ⟨gr, k, none⟩ (.int .u8 0))) := Step.set hsk (a := ⟨gr, k, none⟩) rfl _
          go_wp2_with fail
          exact ⟨⟨k + 1, _, by omega, by go_num, hnew, by simp; omega, HST.out⟩, by simp [RowKit.intOf]; omega⟩
        · have hp8 : PA w wr X6 p t5 q 61 S6 (1 - 0) s [r] := PA.step hp7 hsk (fun j hj => by rw [hj]; exact hgrw) (fun j hj => by rw [hj]; exact hzr)
          clear hgk hck hsk hp7
          generalize wr = w8 at *
          have N31 := ops_pa w w8 X6 p t5 q 61 S6 (1 - 0) s [r] hp8
          have N12 := open_pa w w8 X6 p t5 q 61 S6 (1 - 0) s [r] hp8 (by decide) (by simp)
          go_wp2_with (first | (go_at_call 31; refine N31.mono ?_; rintro e w9 ⟨rfl, hw9⟩; have hw9 := hw9.symm; subst hw9))
          refine N12.mono ?_
          rintro e w9 ⟨vb, vl, p9, t9, rfl, hp9', ht9', hsv, hrec, hp9, _, hb89⟩
          obtain ⟨vals, hov, hbv, hrv⟩ := hrec
          obtain ⟨u, hu, gl, rfl, hglB, hglh⟩ := hrv 0 r rfl
          obtain ⟨gv, cv, hve, hcv⟩ := own_cell' hov hu (by simp)
          have hve : vl = .slice (some ⟨gv, 0, none⟩) 1 cv := hve
          subst hve
          have hgvB : w8.heap.size ≤ gv := hbv gv rfl
          obtain ⟨cgv, hgvh⟩ := own_ne hov (k := gv) rfl
          have hsr := hsv.rd
          obtain ⟨ba, bc, rfl⟩ := hsv.shape
          have hbw9 := hp9.bel
          have k1m : ∀ m, (convert 30 9 (.slice sa s.length sc)).run Try.prog (w9.drewN m) = .ok (.string ⟨s.toArray⟩) (w9.drewN m) := fun m => convA (Sl.RdA.on (Sl.RdA.on HS.out hbw9) ⟨rfl, rfl, rfl, Nat.le_refl _, fun _ _ => rfl⟩)
          have k2m : ∀ m, (convert 30 9 (.slice ra r.length rc)).run Try.prog (w9.drewN m) = .ok (.string ⟨r.toArray⟩) (w9.drewN m) := fun m => convA (Sl.RdA.on (Sl.RdA.on HR.out hbw9) ⟨rfl, rfl, rfl, Nat.le_refl _, fun _ _ => rfl⟩)
          have k3m : ∀ m, (convert 30 9 (.slice ba s.length bc)).run Try.prog (w9.drewN m) = .ok (.string ⟨s.toArray⟩) (w9.drewN m) := fun m => convA (Sl.RdA.on hsr ⟨rfl, rfl, rfl, Nat.le_refl _, fun _ _ => rfl⟩)
          have k4m : ∀ m, (convert 30 9 (.slice (some ⟨gl, 0, none⟩) r.length r.length)).run Try.prog (w9.drewN m) = .ok (.string ⟨r.toArray⟩) (w9.drewN m) := fun m => convA (sl_range (range_of_block (w := w9.drewN m) hglh) (Nat.le_refl _))
          have k5m : ∀ m, (w9.drewN m).cell? ⟨gv, 0, none⟩ = some (.slice (some ⟨gl, 0, none⟩) r.length r.length) := fun m => hcv
          have K1 : Hid (∀ m, (convert 30 9 (.slice sa s.length sc)).run Try.prog (w9.drewN m) = .ok (.string ⟨s.toArray⟩) (w9.drewN m)) := k1m
          have K2 : Hid (∀ m, (convert 30 9 (.slice ra r.length rc)).run Try.prog (w9.drewN m) = .ok (.string ⟨r.toArray⟩) (w9.drewN m)) := k2m
          have K3 : Hid (∀ m, (convert 30 9 (.slice ba s.length bc)).run Try.prog (w9.drewN m) = .ok (.string ⟨s.toArray⟩) (w9.drewN m)) := k3m
          have K4 : Hid (∀ m, (convert 30 9 (.slice (some ⟨gl, 0, none⟩) r.length r.length)).run Try.prog (w9.drewN m) = .ok (.string ⟨r.toArray⟩) (w9.drewN m)) := k4m
          have K5 : Hid (∀ m, (w9.drewN m).cell? ⟨gv, 0, none⟩ = some (.slice (some ⟨gl, 0, none⟩) r.length r.length)) := k5m
          have HSV : Hid _ := hsv
          have HOV : Hid _ := hov
          clear k1m k2m k3m k4m k5m hsr hsv hov hrv hbv hu hcv N31 N12
          obtain ⟨gb, hgbw, hgbz, hba, hfull⟩ : ∃ gb, w.heap.size ≤ gb ∧ ¬ ZP' X6 p t5 gb ∧ (0 < s.length → ba = some ⟨gb, 12, none⟩) ∧ (0 < s.length → ∃ cur, w9.heap[gb]? = some (.cells cur 5 (0, 0)) ∧ 12 + s.length ≤ cur.size) := by
            have hx8 := hp8.ps.d.xlt
            have hpl8 := hp8.ps.pr.lt
            have htl8 := hp8.ps.tp.lt
            have hw8s := hp8.bel.size
            rcases HSV.out with ⟨he, hs0⟩ | ⟨g, c, full, he, h1, h2, h3, h4⟩
            · exact ⟨gs, hgsw, hzs, fun h => by rw [hs0] at h; simp at h, fun h => by rw [hs0] at h; simp at h⟩
            · refine ⟨g, by omega, fun hz => ?_, fun _ => by cases he; rfl, fun hl => ⟨full, h3, ?_⟩⟩
              · rcases hz with hz | hz | hz
                · have := hx8 g hz; omega
                · omega
                · omega
              · have hlast := h4 (s.length - 1) (.int .u8 ((s.getD (s.length - 1) 0).toNat : Int)) (by simp [byteCells, List.getElem?_eq_getElem (show s.length - 1 < s.length by omega)])
                rw [cell_of_row _ _ _ _ _ _ h3] at hlast
                have := (Array.getElem?_eq_some_iff.1 hlast).1
                omega
          have hglz : ¬ ZP' X6 p t5 gl := fun hz => by
            rcases hz with hz | hz | hz
            · have := hp8.ps.d.xlt gl hz; omega
            · have := hp8.ps.pr.lt; omega
            · have := hp8.ps.tp.lt; omega
          have hglw : w.heap.size ≤ gl := Nat.le_trans hp8.bel.size hglB
          have HBA : Hid _ := hba
          have HFU : Hid _ := hfull
          clear hba hfull HSV
          go_upto_region 24 with fail
          have k1m := K1.out
          have k2m := K2.out
          have k3m := K3.out
          have k4m := K4.out
          have k5m := K5.out
          generalize (⟨s.toArray⟩ : ByteArray) = cS at *
          generalize (⟨r.toArray⟩ : ByteArray) = cR at *
          go_quiet (fail)
          have hbq : Below w9.heap.size w9 (w9.drewN nq) := ⟨rfl, rfl, rfl, Nat.le_refl _, fun _ _ => rfl⟩
          have hp10 := hp9.on hbq
          have hgl10 : (w9.drewN nq).heap[gl]? = some (.cells (byteCells r).toArray 5 (0, 0)) := hglh
          have hfu10 : 0 < s.length → ∃ cur, (w9.drewN nq).heap[gb]? = some (.cells cur 5 (0, 0)) ∧ 12 + s.length ≤ cur.size := HFU.out
          have hgv10 : (w9.drewN nq).heap[gv]? = some (.cells cgv 30 (0, 0)) := hgvh
          have hcv10 := k5m nq
          clear k1m k2m k3m k4m k5m K1 K2 K3 K4 K5 HFU hbq hglh hgvh hp9 hp8 HOV
          generalize w9.drewN nq = w10 at *
          go_wp2_with fail
          go_loopw [132] (fun i wr => ∃ (k : Nat) (curl : Array Value), k ≤ s.length ∧ i = .int .i64 k ∧ (0 < s.length → ∃ cur, wr.heap[gb]? = some (.cells cur 5 (0, 0)) ∧ 12 + s.length ≤ cur.size) ∧ wr.heap[gl]? = some (.cells curl 5 (0, 0)) ∧ r.length ≤ curl.size ∧ wr.heap[gv]? = some (.cells cgv 30 (0, 0)) ∧ Step (fun j => j = gb) (fun j => j = gb) w10 wr) (fun i _ => s.length - (RowKit.intOf i).toNat)
          case atStart => exact ⟨0, _, by omega, rfl, hfu10, hgl10, by simp [byteCells], hgv10, Step.refl _ _⟩
          case round =>
            obtain ⟨k, curl, hk, rfl, hfk, hlk, hlz, hvk, hsk⟩ := hrel
            by_cases hlt : k < s.length
            · have hbe := HBA.out (by omega)
              subst hbe
              obtain ⟨cur, hgk, hck⟩ := hfk (by omega)
              have hcl : wr.cell? ⟨gb, 12 + k, none⟩ = some cur[12 + k] := by rw [cell_of_row _ _ _ _ _ _ hgk]; simp
              have hfz := frozen_of_row _ _ (12 + k) _ _ hgk
              have hnew : (wr.setCell ⟨gb, 12 + k, none⟩ (.int .u8 9)).heap[gb]? = some (.cells (cur.setIfInBounds (12 + k) (.int .u8 9)) 5 (0, 0)) := heap_setCell_same _ _ _ _ _ _ hgk
              have hoth : ∀ g, g ≠ gb → (wr.setCell ⟨gb, 12 + k, none⟩ (.int .u8 9)).heap[g]? = wr.heap[g]? := fun g hg => heap_setCell_other _ _ _ _ hg
              have hgvb : gv ≠ gb := ne_type hvk hgk (by decide)
              have hv' := (hoth gv hgvb).trans hvk
              obtain ⟨curl', hl', hlz'⟩ : ∃ curl', (wr.setCell ⟨gb, 12 + k, none⟩ (.int .u8 9)).heap[gl]? = some (.cells curl' 5 (0, 0)) ∧ r.length ≤ curl'.size := by
                by_cases hgg : gl = gb
                · rw [hgg] at hlk ⊢
                  rw [hlk] at hgk
                  cases hgk
                  exact ⟨_, hnew, by simp; omega⟩
                · exact ⟨curl, (hoth gl hgg).trans hlk, hlz⟩
              have HST : Hid (Step (fun j => j = gb) (fun j => j = gb) w10 (wr.setCell ⟨gb, 12 + k, none⟩ (.int .u8 9))) := Step.set hsk (a := ⟨gb, 12 + k, none⟩) rfl _
              clear hoth hlk hvk hsk hgk hfk
              go_wp2_with fail
              exact ⟨⟨k + 1, curl', by omega, by go_num, fun _ => ⟨_, hnew, by simp; omega⟩, hl', hlz', hv', HST.out⟩, by simp [RowKit.intOf]; omega⟩
            · have hp11 := PA.step hp10 hsk (fun j hj => by rw [hj]; exact hgbw) (fun j hj => by rw [hj]; exact hgbz)
              have hcv11 : wr.cell? ⟨gv, 0, none⟩ = some (.slice (some ⟨gl, 0, none⟩) r.length r.length) := by
                have e1 := hcv10
                rw [cell_of_row _ _ _ _ _ _ hgv10] at e1
                rw [cell_of_row _ _ _ _ _ _ hvk]
                exact e1
              clear hsk hfk HBA
              generalize wr = w11 at *
              have hgvgl : gv ≠ gl := ne_type hvk hlk (by decide)
              go_wp2_with fail
              go_loopw [143] (fun i wr => ∃ (k : Nat) (curl : Array Value), k ≤ r.length ∧ i = .int .i64 k ∧ wr.heap[gl]? = some (.cells curl 5 (0, 0)) ∧ r.length ≤ curl.size ∧ wr.cell? ⟨gv, 0, none⟩ = some (.slice (some ⟨gl, 0, none⟩) r.length r.length) ∧ Step (fun j => j = gl) (fun j => j = gl) w11 wr) (fun i _ => r.length - (RowKit.intOf i).toNat)
              case atStart => exact ⟨0, _, by omega, rfl, hlk, hlz, hcv11, Step.refl _ _⟩
              case round =>
                clear hcv11 hlk hlz
                obtain ⟨k2, curl, hk2, rfl, hlk, hlz, hcv11, hsk⟩ := hrel
                by_cases hlt2 : k2 < r.length
                · have hcl : wr.cell? ⟨gl, k2, none⟩ = some curl[k2] := by rw [cell_of_row _ _ _ _ _ _ hlk]; simp
                  have hfz := frozen_of_row _ _ k2 _ _ hlk
                  have hnew : (wr.setCell ⟨gl, k2, none⟩ (.int .u8 9)).heap[gl]? = some (.cells (curl.setIfInBounds k2 (.int .u8 9)) 5 (0, 0)) := heap_setCell_same _ _ _ _ _ _ hlk
                  have hv' : (wr.setCell ⟨gl, k2, none⟩ (.int .u8 9)).cell? ⟨gv, 0, none⟩ = some (.slice (some ⟨gl, 0, none⟩) r.length r.length) := by
                    rw [World.cell?_setCell_other _ _ _ _ (by simp)]; exact hcv11
                  have HST : Hid (Step (fun j => j = gl) (fun j => j = gl) w11 (wr.setCell ⟨gl, k2, none⟩ (.int .u8 9))) := Step.set hsk (a := ⟨gl, k2, none⟩) rfl _
                  have HNV : Hid _ := hv'
                  clear hsk hlk hv'
                  go_wp2_with fail
                  exact ⟨⟨k2 + 1, _, by omega, by go_num, hnew, by simp; omega, HNV.out, HST.out⟩, by simp [RowKit.intOf]; omega⟩
                · have hp12 := PA.step hp11 hsk (fun j hj => by rw [hj]; exact hglw) (fun j hj => by rw [hj]; exact hglz)
                  clear hsk hlk hcv11
                  generalize wr = w12 at *
                  have N12 := open_pa w w12 X6 p t5 q 61 S6 (1 - 0) s [r] hp12 (by decide) (by simp)
                  go_wp2_with fail
                  refine N12.mono ?_
                  rintro e w13 ⟨vb, vl, p13, t13, rfl, _, _, hsv, hrec, hp13, _, hb1213⟩
                  obtain ⟨vals, hov, hbv, hrv⟩ := hrec
                  obtain ⟨u, hu, gl2, rfl, hglB2, hglh2⟩ := hrv 0 r rfl
                  obtain ⟨gv2, cv2, hve, hcv2⟩ := own_cell' hov hu (by simp)
                  have hve : vl = .slice (some ⟨gv2, 0, none⟩) 1 cv2 := hve
                  subst hve
                  have hsr := hsv.rd
                  obtain ⟨ba2, bc2, rfl⟩ := hsv.shape
                  have hbw13 := hp13.bel
                  have hdm : ∀ m, Below w13.heap.size w13 (w13.drewN m) := fun m => ⟨rfl, rfl, rfl, Nat.le_refl _, fun _ _ => rfl⟩
                  have K1 : Hid (∀ m, (convert 30 9 (.slice sa s.length sc)).run Try.prog (w13.drewN m) = .ok (.string ⟨s.toArray⟩) (w13.drewN m)) := fun m => convA (Sl.RdA.on (Sl.RdA.on HS.out hbw13) (hdm m))
                  have K2 : Hid (∀ m, (convert 30 9 (.slice ra r.length rc)).run Try.prog (w13.drewN m) = .ok (.string ⟨r.toArray⟩) (w13.drewN m)) := fun m => convA (Sl.RdA.on (Sl.RdA.on HR.out hbw13) (hdm m))
                  have K3 : Hid (∀ m, (convert 30 9 (.slice ba2 s.length bc2)).run Try.prog (w13.drewN m) = .ok (.string ⟨s.toArray⟩) (w13.drewN m)) := fun m => convA (Sl.RdA.on hsr (hdm m))
                  have K4 : Hid (∀ m, (convert 30 9 (.slice (some ⟨gl2, 0, none⟩) r.length r.length)).run Try.prog (w13.drewN m) = .ok (.string ⟨r.toArray⟩) (w13.drewN m)) := fun m => convA (sl_range (range_of_block (w := w13.drewN m) hglh2) (Nat.le_refl _))
                  have K5 : Hid (∀ m, (w13.drewN m).cell? ⟨gv2, 0, none⟩ = some (.slice (some ⟨gl2, 0, none⟩) r.length r.length)) := fun m => hcv2
                  have N31 : ∀ m, Calls Try.prog 31 #[.pointer (some ⟨q, 0, none⟩)] (w13.drewN m) fun e w' => e = .returned (.int .i64 (S6.ops : Int)) ∧ w' = w13.drewN m := fun m => ops_pa w (w13.drewN m) X6 p t5 q 61 S6 (1 - 0) s [r] (hp13.on (hdm m))
                  have HFIN : Hid (∀ m, Below w.heap.size w (w13.drewN m)) := fun m => hbw13.trans ((hdm m).mono hbw13.size)
                  have HN31 : Hid (∀ m, Calls Try.prog 31 #[.pointer (some ⟨q, 0, none⟩)] (w13.drewN m) fun e w' => e = .returned (.int .i64 (S6.ops : Int)) ∧ w' = w13.drewN m) := N31
                  clear hsr hsv hov hrv hbv hu hcv2 N12 hdm N31
                  go_upto_region 37 with fail
                  have k1m := K1.out
                  have k2m := K2.out
                  have k3m := K3.out
                  have k4m := K4.out
                  have k5m := K5.out
                  generalize (⟨s.toArray⟩ : ByteArray) = dS at *
                  generalize (⟨r.toArray⟩ : ByteArray) = dR at *
                  go_quiet ((go_at_call 31; exact Calls.quiet_of_same (HN31.out _)))
                  go_wp2
                  go_ret
                  exact ⟨rfl, HFIN.out _⟩
end Go.Proofs.Ythgkkmcpmhfehaa
