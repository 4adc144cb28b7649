/- What topic.isWord, split, Pattern, Good, Covers and Match answer of any texts. Conditions: Vars, what the library's tables hold when the call begins, and texts of a length that Go knows. -/
import Derived.Test.YtnpikgakpmkipabGreatDoorZ00
import Derived.Test.YtnpikgakpmkipabGreatDoorShelf
import Derived.Test.YtnpikgakpmkipabGreatDoorRows
import Derived.ProofKit
import Derived.Lib.LaidU8
import Derived.Lib.LaidTab
import Derived.PinnedBridge
import Derived.Lay
import Derived.MakeChecks
import Derived.HandedShaped
import Derived.Laws.Cover2
import Derived.Laws.FloatArith
import Derived.Test.YtnpikgakpmkipabGreatDoorProg
import Derived.WalkKit
import Derived.WalkLawsBesides
import Derived.Laws.Externs
import Derived.Laws.Bits64b
import Derived.OrdersHeld
import Derived.Deep.QuietTactic
import Derived.Deep.Cut
import Derived.Shelf.RegionOpen
import Derived.BigQuiet
namespace Go.Proofs.YtnpikgakpmkipabGreatDoor.To
open Go.RowKit Go.Lib
structure Vars (w : World) : Prop where
 max : ∃ m, w.cell? ⟨1, 0, none⟩ = some (.int .i64 m)
theorem Vars.below {w w' : World} (h : Vars w) (hb : Below w.heap.size w w') : Vars w' := by
 obtain ⟨m, hm⟩ := h.max
 exact ⟨⟨m, by rw [hb.cell (p := ⟨1, 0, none⟩) (World.block_lt_of_cell? w _ hm)]; exact hm⟩⟩
theorem nxt {a b c : World} (h1 : Below a.heap.size a b) (h2 : Below b.heap.size b c) : Below a.heap.size a c := h1.trans (h2.mono h1.size)
theorem pred_word (w : World) : PredGrows Tryz.prog 99 #[] (fun x => !inN (x : Int)) w := fun W x _ _ =>
 (notword_any W (x : Int)).mono fun _ _ ⟨he, hw⟩ => ⟨he, hw ▸ Below.refl _ _⟩
theorem e42 : ∀ args w, (callFunc 99 args).run Tryz.prog w = .ok (.enter 99 args) w := fun args w => by go_simp
set_option maxRecDepth 10000 in
theorem isWord_any (w : World) (l : List UInt8) : Calls Tryz.prog 40 #[str l] w fun e w' => e = .returned (.bool (isW l)) ∧ Below w.heap.size w w' := by
 by_cases h0 : l = []
 ·subst h0
  have e : isW [] = false := rfl
  rw [e]
  go_enter Tryz.func40, Tryz.ntmps40
  go_wp2
  go_ret
  exact ⟨rfl, Below.refl _ _⟩
 ·by_cases h1 : (l.length : Int) ≤ 16
  ·have e : Hid (isW l = !(l.any (fun c => !inW c))) := by
    show isW l = _
    unfold isW
    rw [decide_eq_true (by omega : l.length ≤ 16), List.not_any_eq_all_not]
    simp [h0]
   have hc := Tryz.strings_ContainsFunc_grows 99 #[] e42 _ ⟨l.toArray⟩ w (pred_word w)
   rw [idx_any, show bl ⟨l.toArray⟩ = l from rfl] at hc
   generalize isW l = r at *
   generalize (l.any (fun c => !inW c)) = q at *
   go_enter Tryz.func40, Tryz.ntmps40
   go_wp2_with (go_at_call 98; refine hc.mono ?_; rintro e w' ⟨rfl, hb⟩)
   go_ret
   refine ⟨ret_b ?_, hb⟩
   rw [e.out]
   simp [h0]
  ·have e : Hid (isW l = false) := by
    show isW l = _
    unfold isW
    rw [decide_eq_false (by omega : ¬ l.length ≤ 16)]
    simp
   generalize isW l = r at *
   go_enter Tryz.func40, Tryz.ntmps40
   go_wp2
   go_ret
   exact ⟨ret_b e.out.symm, Below.refl _ _⟩
theorem oddW_any (w : World) (l : List UInt8) : Calls Tryz.prog 39 #[str l] w fun e w' => e = .returned (.bool (!midW l)) ∧ Below w.heap.size w w' := by
 have hs := isWord_any w l
 cases h0 : (l == [42]) with
 | true =>
  have e : Hid ((!midW l) = false) := by show (!midW l) = false; unfold midW; rw [h0]; rfl
  clear hs
  generalize (!midW l) = r at *
  go_enter Tryz.func39, Tryz.ntmps39
  go_wp2
  go_ret
  exact ⟨ret_b e.out.symm, Below.refl _ _⟩
 | false =>
  have e : Hid ((!midW l) = !isW l) := by show (!midW l) = _; unfold midW; rw [h0]; rfl
  generalize (!midW l) = r at *
  generalize isW l = q at *
  go_enter Tryz.func39, Tryz.ntmps39
  go_wp2_with (go_at_call 40; refine hs.mono ?_; rintro e w' ⟨rfl, hb⟩)
  go_ret
  exact ⟨ret_b e.out.symm, hb⟩
theorem split_any (w : World) (hv : Vars w) (l : List UInt8) (hs : l.length < 4294967281) : Calls Tryz.prog 37 #[str l] w fun e w' =>
  ∃ b, e = .returned (.slice (some ⟨b, 0, none⟩) (wordsL l).length (wordsL l).length) ∧ RdS w' b 0 (wordsL l) ∧ Below w.heap.size w w' := by
 obtain ⟨m, hm⟩ := hv.max
 have hc := Tryz.strings_Split ⟨l.toArray⟩ dot m w hs hm (by decide)
 rw [split_vals, split_count, show bl ⟨l.toArray⟩ = l from rfl] at hc
 obtain ⟨ws, hws⟩ : ∃ ws, wordsL l = ws := ⟨_, rfl⟩
 rw [hws] at hc ⊢
 clear hws
 have hr : RdS (w.alloc (.cells (ws.map (fun l => Value.string ⟨l.toArray⟩)).toArray 9)) w.heap.size 0 ws := by
  refine ⟨by simp, fun j hj => ?_⟩
  have h1 := heap_alloc_new w (.cells (ws.map (fun l => Value.string ⟨l.toArray⟩)).toArray 9)
  unfold World.cell?
  rw [h1]
  simp [hj]
 have hb : Below w.heap.size w (w.alloc (.cells (ws.map (fun l => Value.string ⟨l.toArray⟩)).toArray 9)) := (Below.refl _ _).alloc (Nat.le_refl _) _
 generalize (w.alloc (.cells (ws.map (fun l => Value.string ⟨l.toArray⟩)).toArray 9)) = W at *
 have HR : Hid _ := hr
 clear hr
 obtain ⟨n, hn⟩ : ∃ n, ws.length = n := ⟨_, rfl⟩
 rw [hn] at hc ⊢
 clear hn
 go_enter Tryz.func37, Tryz.ntmps37
 go_wp2_with (go_at_call 97; refine hc.mono ?_; rintro e w' ⟨rfl, rfl⟩)
 go_ret
 exact ⟨_, rfl, HR.out, hb⟩
theorem pat_long (l : List UInt8) (h : (l.length : Int) > 64) : pat l = false := by
 unfold pat
 rw [decide_eq_false (by omega : ¬ l.length ≤ 64)]
 rfl
set_option maxRecDepth 10000 in
set_option maxHeartbeats 1000000 in
theorem pattern_any (w : World) (hv : Vars w) (l : List UInt8) : Calls Tryz.prog 13 #[str l] w fun e w' => e = .returned (.bool (pat l)) ∧ Below w.heap.size w w' := by
 by_cases h1 : (l.length : Int) > 64
 ·have e : Hid (pat l = false) := pat_long l h1
  generalize pat l = r at *
  go_enter Tryz.func13, Tryz.ntmps13
  go_wp2
  go_ret
  exact ⟨ret_b e.out.symm, Below.refl _ _⟩
 ·have hne := wordsL_ne l
  have e0 : Hid (pat l = (decide ((wordsL l).length ≤ 8) && (decide (oddZ (wordsL l) < 0) || (decide (oddZ (wordsL l) = ((wordsL l).length : Int) - 1) && (wordsL l).getLast hne == [35])))) := by
   show pat l = _
   unfold pat
   rw [decide_eq_true (by omega : l.length ≤ 64), okP_odd _ hne]
   rfl
  have hlen : (wordsL l).length ≤ 65 := by
   rw [words_len]
   have := List.count_le_length (a := (46 : UInt8)) (l := l)
   omega
  have hs := split_any w hv l (by omega)
  generalize pat l = r at *
  generalize wordsL l = ws at *
  obtain ⟨k, hk⟩ : ∃ k, ws.length = k + 1 := ⟨ws.length - 1, by have := List.length_pos_iff.2 hne; omega⟩
  have HK : Hid (ws.length = k + 1) := hk
  have hkl : k < ws.length := by omega
  have hz : -1 ≤ oddZ ws ∧ oddZ ws ≤ k := by unfold oddZ; split <;> omega
  obtain ⟨y, hy⟩ : ∃ y, ws[k] = y := ⟨_, rfl⟩
  have e : Hid (r = (decide (k + 1 ≤ 8) && (decide (oddZ ws < 0) || (decide (oddZ ws = (k : Int)) && y == [35])))) := by
   have := e0.out
   rw [List.getLast_eq_getElem hne] at this
   simp only [hk, Nat.add_sub_cancel, hy] at this
   rw [show ((k + 1 : Nat) : Int) - 1 = (k : Int) by omega] at this
   exact this
  have HY : Hid (ws[k] = y) := hy
  rw [hk] at hs
  have hk65 : k ≤ 64 := by omega
  clear e0 hy hlen hne hk
  go_enter Tryz.func13, Tryz.ntmps13
  go_wp2_with (go_at_call 37; refine hs.mono ?_; rintro e w' ⟨b, rfl, hr, hb⟩)
  have hI := indexFunc_any w' b (k + 1) ws hr (by have := HK.out; omega) (fun W l _ => oddW_any W l)
  rw [HK.out] at hI
  have HC : Hid (∀ w2, Below w'.heap.size w' w2 → w2.cell? ⟨b, k, none⟩ = some (str y)) := fun w2 hb2 => by
   rw [hb2.cell (p := ⟨b, k, none⟩) hr.1]
   have := hr.2 k hkl
   rw [Nat.zero_add, HY.out] at this
   exact this
  clear hr hs HY hkl HK
  generalize oddZ ws = z at *
  refine hI.mono ?_
  rintro e0 w2 ⟨rfl, hb2⟩
  have hcell := HC.out w2 hb2
  clear hI HC
  by_cases h8 : (k : Int) + 1 ≤ 8
  ·have e : Hid (r = (decide (z < 0) || (decide (z = (k : Int)) && y == [35]))) := by
    have := e.out
    rw [decide_eq_true (by omega : k + 1 ≤ 8), Bool.true_and] at this
    exact this
   by_cases hz0 : z < 0
   ·have e : Hid (r = true) := by
     have := e.out
     rw [decide_eq_true hz0, Bool.true_or] at this
     exact this
    clear hcell
    go_wp2
    go_ret
    exact ⟨ret_b e.out.symm, nxt hb hb2⟩
   ·by_cases hzk : z = (k : Int)
    ·have e : Hid (r = (y == [35])) := by
      have := e.out
      rw [decide_eq_false hz0, decide_eq_true hzk, Bool.false_or, Bool.true_and] at this
      exact this
     subst hzk
     go_wp2
     go_ret
     exact ⟨ret_b e.out.symm, nxt hb hb2⟩
    ·have e : Hid (r = false) := by
      have := e.out
      rw [decide_eq_false hz0, decide_eq_false hzk, Bool.false_or, Bool.false_and] at this
      exact this
     have hzk : (z == (k : Int)) = false := by rw [beq_eq_false_iff_ne]; exact hzk
     clear hcell
     go_wp2
     go_ret
     exact ⟨ret_b (by rw [e.out]; simp_all), nxt hb hb2⟩
  ·have e : Hid (r = false) := by
    have := e.out
    rw [decide_eq_false (by omega : ¬ k + 1 ≤ 8), Bool.false_and] at this
    exact this
   clear hcell
   go_wp2
   go_ret
   exact ⟨ret_b e.out.symm, nxt hb hb2⟩
theorem ascii_at {l : List UInt8} (h : ∀ c ∈ l, c.toNat < 128) : ∀ (j : Nat) b, l[j]? = some b → b.toNat < 128 := fun _ b hb => h b (List.mem_of_getElem? hb)
theorem good_any (w : World) (hv : Vars w) (l : List UInt8) : Calls Tryz.prog 151 #[str l] w fun e w' => e = .returned (.bool (good l)) ∧ Below w.heap.size w w' := by
 have hp := pattern_any w hv l
 cases h : pat l with
 | false =>
  have e : Hid (good l = false) := by show good l = false; rw [good_iff, h]; rfl
  rw [h] at hp
  generalize good l = r at *
  go_enter Tryz.func151, Tryz.ntmps151
  go_wp2_with (go_at_call 13; refine hp.mono ?_; rintro e w' ⟨rfl, hb⟩)
  go_ret
  exact ⟨ret_b e.out.symm, hb⟩
 | true =>
  have e : Hid (good l = !(l.any (fun c => c == 42 || c == 35))) := by show good l = _; rw [good_iff, h]; rfl
  rw [h] at hp
  have hlen := (pat_nums h).1
  have hc : ∀ W, Calls Tryz.prog 223 #[str l, .string ⟨#[42, 35]⟩] W _ := fun W => Tryz.strings_ContainsAny_laid ⟨l.toArray⟩ ⟨#[42, 35]⟩ W (by show l.length < _; omega) (by decide) (ascii_at (pat_ascii h)) (ascii_at (l := [42, 35]) (by decide))
  simp only [show Lib.containsAny (⟨l.toArray⟩ : ByteArray).data.toList (⟨#[42, 35]⟩ : ByteArray).data.toList = l.any (fun c => c == 42 || c == 35) from containsAny_two l] at hc
  clear hlen
  generalize good l = r at *
  generalize l.any (fun c => c == 42 || c == 35) = q at *
  go_enter Tryz.func151, Tryz.ntmps151
  go_wp2_with (first | (go_at_call 13; refine hp.mono ?_; rintro e w' ⟨rfl, hb⟩) | (go_at_call 223; refine (hc _).mono ?_; rintro e w' ⟨rfl, hb2⟩))
  go_ret
  exact ⟨ret_b e.out.symm, nxt hb hb2⟩
end Go.Proofs.YtnpikgakpmkipabGreatDoor.To
namespace Go.Proofs.YtnpikgakpmkipabGreatDoor
open Go.RowKit Go.Lib
set_option maxRecDepth 100000
theorem own : ownKnob Tryz.prog.godebug = none := by kernel_rfl
theorem laidOut : laidOutB Tryz.prog = true := by kernel_rfl
theorem trodAll_cons_mk {H : Type} {enc : TypeId × Value → H} {P : Program} {w : World} {base : Nat} {sp : Nat → Bool} {held : Bool} {t : TypeId} {ts : List TypeId} {v : Value} {vs : List Value} {d : DataW H} {ds : List (DataW H)} {p q : List MemPlace}
  (h : DataW.Trod enc P w base sp held t v d p) (hr : DataW.TrodAll enc P w base sp held ts vs ds q) : DataW.TrodAll enc P w base sp held (t :: ts) (v :: vs) (d :: ds) (p ++ q) := ⟨p, q, h, hr, rfl⟩
theorem trodAll_mk0 {H : Type} {enc : TypeId × Value → H} {P : Program} {w : World} {base : Nat} {sp : Nat → Bool} {held : Bool} : DataW.TrodAll enc P w base sp held [] [] [] [] := rfl
theorem vars_of_shape {W : World} (hsh : W.ShapedOpen Tryz.prog) : To.Vars W :=
 ⟨Go.Proofs.cell_of_shapedOpen_int (zero := #[.int .i64 0]) (t := 3) hsh (of_decide_eq_true (by kernel_rfl)) (by kernel_rfl) rfl (by kernel_rfl) (by kernel_rfl) Tryz.underlying3⟩
theorem returns_and_shaped {H : Type} {enc : TypeId × Value → H} {a : Assume} {C : Checked} {os : Os} {f : FuncId} {fn : Func} {s : ChangeSpec} {conds : List PathCond} {apart fresh handsOn again : Bool} {X : World → Array Value → Prop}
  (hX : ∀ (w w' : World) (args : Array Value), w.heap = w'.heap → X w args → X w' args)
  (own : ownKnob C.prog.godebug = none) (started : os.Started) (noInit : C.prog.inits.idxOf? f = none) (hfn : C.prog.funcs[f]? = some fn)
  (witness : ∃ (w : World) (tape : Tape) (i : Input), w.os = os ∧ (w.forCall tape i).Shaped C.prog ∧ i.vars = [] ∧ Input.okWide C.prog (w.forCall tape i) .any w.heap.size f i ∧
   ((s.pre enc C.prog fn conds apart (w.forCall tape i).memory i.args ∧ X (w.forCall tape i).memory i.args) ∧ sizedMet enc C.prog fn (OpenSpec.ofChange s) apart (w.forCall tape i).memory i.args) ∧ a.holds C.prog (lone (Frame.enter C.prog f i.args .normal) [] (w.forCall tape i)))
  (contract : ∀ (W : World) (base : Nat) (args : Array Value) (ds gs : List (DataW H)) (before : List MemPlace),
   (∀ (j : Nat) t v, fn.params[j]? = some t → args[j]? = some v → Value.okWide C.prog W .any base t v) →
   DataW.Whole enc C.prog fn.params.toList s.vars apart W args.toList ds gs before →
   (DataW.weightsEach C.prog (fn.params.toList ++ s.plain.varTypes C.prog) (ds ++ gs)).all (· ≤ reachBytes) = true → X W args → W.ShapedOpen C.prog →
   Calls C.prog f args W fun e W' => ∃ v, e = .returned v ∧ s.post enc C.prog fn apart fresh handsOn again W args v W') :
  ReturnsInHanded a C os f .any (fun w args => (s.pre enc C.prog fn conds apart w args ∧ X w args) ∧ sizedMet enc C.prog fn (OpenSpec.ofChange s) apart w args) (s.post enc C.prog fn apart fresh handsOn again) := by
 refine returnsInHanded_of_calls own started noInit witness ?_
 intro w tape i _ hsh _ hok hpre hholds
 obtain ⟨_, _, _, fn', hfn', _, _, _, _, hval⟩ := hok
 obtain rfl : fn' = fn := Option.some.inj (hfn'.symm.trans hfn)
 obtain ⟨⟨⟨ds, gs, before, hw, hc⟩, hx⟩, hz⟩ := hpre
 refine (contract (w.forCall tape i) w.heap.size i.args ds gs before hval (DataW.Whole.of_heap (w' := w.forCall tape i) (by rfl) hw) (hz.weights hw) (hX _ _ _ (by rfl) hx) hsh).mono fun e W' ⟨v, he, hp⟩ => ?_
 subst he
 exact ChangeSpec.post_blind hp
end Go.Proofs.YtnpikgakpmkipabGreatDoor
namespace Go.Proofs.YtnpikgakpmkipabGreatDoor
open Ieee
def valR (f : Format) (r : Nat) : Nat := if r < f.binade then r else (f.binade + r % f.binade) * 2 ^ (r / f.binade - 1)
theorem binade_pos (f : Format) : 0 < f.binade := Nat.two_pow_pos _
theorem valR_low {f : Format} {r : Nat} (h : r < f.binade) : valR f r = r := by simp [valR, h]
theorem valR_high {f : Format} {q t : Nat} (ht : t < f.binade) : valR f ((q + 1) * f.binade + t) = (f.binade + t) * 2 ^ q := by
 have hb := binade_pos f
 have h1 : ¬ ((q + 1) * f.binade + t < f.binade) := by
  have : f.binade ≤ (q + 1) * f.binade := Nat.le_mul_of_pos_left _ (by omega)
  omega
 have h2 : ((q + 1) * f.binade + t) % f.binade = t := by
  rw [Nat.mul_comm, Nat.mul_add_mod]; exact Nat.mod_eq_of_lt ht
 have h3 : ((q + 1) * f.binade + t) / f.binade = q + 1 := by
  rw [Nat.mul_comm, Nat.mul_add_div hb, Nat.div_eq_of_lt ht]
 simp [valR, h1, h2, h3]
theorem rung_cases (f : Format) (r : Nat) : r < f.binade ∨ ∃ q t, t < f.binade ∧ r = (q + 1) * f.binade + t := by
 by_cases h : r < f.binade
 ·exact .inl h
 ·right
  have hb := binade_pos f
  refine ⟨r / f.binade - 1, r % f.binade, Nat.mod_lt _ hb, ?_⟩
  have h1 : 1 ≤ r / f.binade := (Nat.le_div_iff_mul_le hb).2 (by omega)
  have h2 : r / f.binade - 1 + 1 = r / f.binade := by omega
  rw [h2]
  have := Nat.div_add_mod r f.binade
  rw [Nat.mul_comm] at this
  omega
theorem valR_lt {f : Format} {a b : Nat} (h : a < b) : valR f a < valR f b := by
 have hb := binade_pos f
 rcases rung_cases f a with ha | ⟨q, t, ht, rfl⟩
 ·rcases rung_cases f b with hb' | ⟨q', t', ht', rfl⟩
  ·rw [valR_low ha, valR_low hb']; exact h
  ·rw [valR_low ha, valR_high ht']
   have : 1 ≤ 2 ^ q' := Nat.two_pow_pos _
   have := Nat.mul_le_mul_left (f.binade + t') this
   omega
 ·rcases rung_cases f b with hb' | ⟨q', t', ht', rfl⟩
  ·have : f.binade ≤ (q + 1) * f.binade := Nat.le_mul_of_pos_left _ (by omega)
   omega
  ·rw [valR_high ht, valR_high ht']
   by_cases hq : q = q'
   ·subst hq
    exact Nat.mul_lt_mul_of_pos_right (by omega) (Nat.two_pow_pos _)
   ·have hlt : q < q' := by
     by_cases h2 : q < q'
     ·exact h2
     ·exfalso
      have h3 : (q' + 1 + 1) * f.binade ≤ (q + 1) * f.binade := Nat.mul_le_mul_right _ (by omega)
      rw [Nat.add_mul (q' + 1) 1] at h3
      omega
    have h4 : (f.binade + t) * 2 ^ q < (f.binade + f.binade) * 2 ^ q := Nat.mul_lt_mul_of_pos_right (by omega) (Nat.two_pow_pos _)
    have h5 : (f.binade + f.binade) * 2 ^ q = f.binade * 2 ^ (q + 1) := by rw [Nat.pow_succ, ← Nat.two_mul, Nat.mul_comm 2, Nat.mul_assoc, Nat.mul_comm 2]
    have h6 : f.binade * 2 ^ (q + 1) ≤ f.binade * 2 ^ q' := Nat.mul_le_mul_left _ (Nat.pow_le_pow_right (by omega) (by omega))
    have h7 : f.binade * 2 ^ q' ≤ (f.binade + t') * 2 ^ q' := Nat.mul_le_mul_right _ (by omega)
    omega
theorem valR_inj {f : Format} {a b : Nat} (h : valR f a = valR f b) : a = b := by
 rcases Nat.lt_trichotomy a b with h1 | h1 | h1
 ·have := valR_lt (f := f) h1; omega
 ·exact h1
 ·have := valR_lt (f := f) h1; omega
theorem valR_lt_iff {f : Format} {a b : Nat} : valR f a < valR f b ↔ a < b := by
 constructor
 ·intro h
  rcases Nat.lt_trichotomy a b with h1 | h1 | h1
  ·exact h1
  ·subst h1; omega
  ·have := valR_lt (f := f) h1; omega
 ·exact valR_lt
theorem valR_zero (f : Format) : valR f 0 = 0 := valR_low (binade_pos f)
theorem valR_eq_zero {f : Format} {r : Nat} : valR f r = 0 ↔ r = 0 := by
 constructor
 ·intro h; exact valR_inj (h.trans (valR_zero f).symm)
 ·rintro rfl; exact valR_zero f
def sgn (f : Format) (w : Nat) : Bool := w / f.signWeight % 2 == 1
def rng (f : Format) (w : Nat) : Nat := w % f.signWeight
def isN (f : Format) (w : Nat) : Prop := f.infRung < rng f w
instance (f : Format) (w : Nat) : Decidable (isN f w) := inferInstanceAs (Decidable (_ < _))
def sr (f : Format) (w : Nat) : Int := if sgn f w then -(rng f w : Int) else rng f w
def sv (s : Bool) (v : Nat) : Int := if s then -(v : Int) else v
theorem read_num {f : Format} {w : Nat} (h : rng f w < f.infRung) : ∃ m e : Nat, f.read w = .number (sgn f w) m (f.leastPlace + e) ∧ m * 2 ^ e = valR f (rng f w) := by
 unfold Format.read
 by_cases hl : rng f w < f.binade
 ·refine ⟨rng f w, 0, ?_, by rw [valR_low hl]; simp⟩
  have : w % f.signWeight < f.binade := hl
  simp [this, sgn, rng]
 ·refine ⟨f.binade + rng f w % f.binade, rng f w / f.binade - 1, ?_, by simp [valR, hl]⟩
  have h1 : ¬ (w % f.signWeight < f.binade) := hl
  have h2 : w % f.signWeight < f.infRung := h
  simp [h1, h2, sgn, rng]
theorem read_inf {f : Format} {w : Nat} (hb : f.binade ≤ f.infRung) (h : rng f w = f.infRung) : f.read w = .infinity (sgn f w) := by
 unfold Format.read
 have h0 : w % f.signWeight = f.infRung := h
 have h1 : ¬ (f.infRung < f.binade) := by omega
 simp [h0, h1, sgn]
theorem read_nan {f : Format} {w : Nat} (hb : f.binade ≤ f.infRung) (h : isN f w) : ∃ t, f.read w = .nan (sgn f w) t := by
 unfold Format.read
 have h0 : f.infRung < w % f.signWeight := h
 have h1 : ¬ (w % f.signWeight < f.binade) := by omega
 have h2 : ¬ (w % f.signWeight < f.infRung) := by omega
 have h3 : ¬ (w % f.signWeight = f.infRung) := by omega
 exact ⟨_, by simp only [h1, h2, h3, if_false]; rfl⟩
theorem signed_eq (s : Bool) (m k : Nat) : signed s m k = sv s (m * 2 ^ k) := by
 simp [signed, sv, Nat.shiftLeft_eq]
theorem sv_scale (s : Bool) (v k : Nat) : sv s (v * k) = sv s v * k := by
 cases s <;> simp [sv, Int.neg_mul]
theorem compare_scale (a b : Int) (k : Nat) (hk : 0 < k) : compare (a * k) (b * k) = compare a b := by
 have hk' : (0 : Int) < k := by omega
 rcases Int.lt_trichotomy a b with h | h | h
 ·rw [Int.compare_eq_lt.2 h, Int.compare_eq_lt.2 (Int.mul_lt_mul_of_pos_right h hk')]
 ·subst h; rw [Int.compare_eq_eq.2 rfl, Int.compare_eq_eq.2 rfl]
 ·rw [Int.compare_eq_gt.2 h, Int.compare_eq_gt.2 (Int.mul_lt_mul_of_pos_right h hk')]
theorem compare_sv (f : Format) (s t : Bool) (a b : Nat) : compare (sv s (valR f a)) (sv t (valR f b)) = compare (sv s a) (sv t b) := by
 have z := valR_zero f
 have za := @valR_eq_zero f a
 have zb := @valR_eq_zero f b
 have ab := @valR_lt_iff f a b
 have ba := @valR_lt_iff f b a
 have hab : valR f a = valR f b ↔ a = b := ⟨valR_inj, fun h => by rw [h]⟩
 rcases Int.lt_trichotomy (sv s a) (sv t b) with h | h | h
 ·rw [Int.compare_eq_lt.2 h, Int.compare_eq_lt.2]
  revert h; cases s <;> cases t <;> simp only [sv, if_true, if_false, Bool.false_eq_true] <;> omega
 ·rw [Int.compare_eq_eq.2 h, Int.compare_eq_eq.2]
  revert h; cases s <;> cases t <;> simp only [sv, if_true, if_false, Bool.false_eq_true] <;> omega
 ·rw [Int.compare_eq_gt.2 h, Int.compare_eq_gt.2]
  revert h; cases s <;> cases t <;> simp only [sv, if_true, if_false, Bool.false_eq_true] <;> omega
theorem order_nan {f : Format} {a b : Nat} (hb : f.binade ≤ f.infRung) (h : isN f a ∨ isN f b) : f.order a b = none := by
 unfold Format.order
 rcases h with h | h
 ·obtain ⟨t, e⟩ := read_nan hb h; rw [e]; rfl
 ·obtain ⟨t, e⟩ := read_nan hb h; rw [e]
  cases f.read a <;> rfl
theorem order_num {f : Format} {a b : Nat} (hb : f.binade ≤ f.infRung) (ha : ¬ isN f a) (hb' : ¬ isN f b) : f.order a b = some (compare (sr f a) (sr f b)) := by
 have hi : 0 < f.infRung := by have := binade_pos f; omega
 unfold Format.order
 have ha' : rng f a < f.infRung ∨ rng f a = f.infRung := by unfold isN at ha; omega
 have hb'' : rng f b < f.infRung ∨ rng f b = f.infRung := by unfold isN at hb'; omega
 rcases ha' with h1 | h1 <;> rcases hb'' with h2 | h2
 ·obtain ⟨m, e, r1, v1⟩ := read_num h1
  obtain ⟨n, e', r2, v2⟩ := read_num h2
  rw [r1, r2]
  simp only [Datum.order]
  have k1 : (f.leastPlace + (e : Int) - min (f.leastPlace + (e : Int)) (f.leastPlace + (e' : Int))).toNat = e - min e e' := by omega
  have k2 : (f.leastPlace + (e' : Int) - min (f.leastPlace + (e : Int)) (f.leastPlace + (e' : Int))).toNat = e' - min e e' := by omega
  rw [k1, k2, signed_eq, signed_eq]
  have w1 : m * 2 ^ (e - min e e') * 2 ^ (min e e') = valR f (rng f a) := by
   rw [Nat.mul_assoc, ← Nat.pow_add, Nat.sub_add_cancel (Nat.min_le_left ..), v1]
  have w2 : n * 2 ^ (e' - min e e') * 2 ^ (min e e') = valR f (rng f b) := by
   rw [Nat.mul_assoc, ← Nat.pow_add, Nat.sub_add_cancel (Nat.min_le_right ..), v2]
  rw [← compare_scale _ _ (2 ^ min e e') (Nat.two_pow_pos _), ← sv_scale, ← sv_scale, w1, w2, compare_sv]
  rfl
 ·obtain ⟨m, e, r1, v1⟩ := read_num h1
  rw [r1, read_inf hb h2]
  simp only [Datum.order, sr]
  cases sgn f b <;> simp only [if_true, if_false, Bool.false_eq_true, Option.some.injEq]
  ·rw [Int.compare_eq_lt.2]; cases sgn f a <;> simp only [if_true, if_false, Bool.false_eq_true] <;> omega
  ·rw [Int.compare_eq_gt.2]; cases sgn f a <;> simp only [if_true, if_false, Bool.false_eq_true] <;> omega
 ·obtain ⟨n, e', r2, v2⟩ := read_num h2
  rw [r2, read_inf hb h1]
  simp only [Datum.order, sr]
  cases sgn f a <;> simp only [if_true, if_false, Bool.false_eq_true, Option.some.injEq]
  ·rw [Int.compare_eq_gt.2]; cases sgn f b <;> simp only [if_true, if_false, Bool.false_eq_true] <;> omega
  ·rw [Int.compare_eq_lt.2]; cases sgn f b <;> simp only [if_true, if_false, Bool.false_eq_true] <;> omega
 ·rw [read_inf hb h1, read_inf hb h2]
  simp only [Datum.order, sr, h1, h2]
  cases sgn f a <;> cases sgn f b <;> simp only [if_true, if_false, Bool.false_eq_true, Option.some.injEq]
  ·rw [Int.compare_eq_eq.2 rfl]; rfl
  ·rw [Int.compare_eq_gt.2 (by omega)]; rfl
  ·rw [Int.compare_eq_lt.2 (by omega)]; rfl
  ·rw [Int.compare_eq_eq.2 rfl]; rfl
@[irreducible] def k925 : Nat := 925
theorem bi64 : double.binade ≤ double.infRung := by decide
theorem order_self {w : Nat} (h : ¬ isN double w) : double.order w w = some .eq := by
 rw [order_num bi64 h h, Int.compare_eq_eq.2 rfl]
end Go.Proofs.YtnpikgakpmkipabGreatDoor
namespace Go.Proofs.YtnpikgakpmkipabGreatDoor
open Go.RowKit Go.Lib Ieee
@[go_sem] theorem ext306 (n : Int) (w : World) : (callFunc 306 #[.int .u64 n]).run Tryz.prog w = .ok (.value (.float .f64 n.toNat)) w := by
 rw [run_callFunc_extern Tryz.func306 (by kernel_rfl) (by kernel_rfl) (by kernel_rfl) (e := Extern.MathFloatBits.float64frombits) (by kernel_rfl)]; rfl
@[go_sem] theorem ext242 (b : Nat) (w : World) : (callFunc 242 #[.float .f64 b]).run Tryz.prog w = .ok (.value (.int .u64 b)) w := by
 rw [run_callFunc_extern Tryz.func242 (by kernel_rfl) (by kernel_rfl) (by kernel_rfl) (e := Extern.MathFloatBits.float64bits) (by kernel_rfl)]; rfl
theorem isnan_any (w : World) (b : Nat) :
  Calls Tryz.prog 305 #[.float .f64 b] w fun e w' => e = .returned (.bool (decide (isN double b))) ∧ w' = w := by
 go_enter Tryz.func305, Tryz.ntmps305
 go_wp2
 go_ret
 refine ⟨?_, rfl⟩
 by_cases h : isN double b
 ·have : FloatKind.f64.format.order b b = none := order_nan bi64 (.inl h)
  simp [this, h]
 ·have : FloatKind.f64.format.order b b = some .eq := order_self h
  simp [this, h]
def canonB (b : Nat) : Nat := if isN double b then 9221120237041090561 else b
theorem ret_b {a b : Bool} (h : a = b) : Ending.returned (.bool a) = .returned (.bool b) := by rw [h]
theorem ret_f {k : FloatKind} {a b : Nat} (h : a = b) : Ending.returned (.float k a) = .returned (.float k b) := by rw [h]
theorem ret_i {k : IntKind} {a b : Int} (h : a = b) : Ending.returned (.int k a) = .returned (.int k b) := by rw [h]
theorem canon_any (w : World) (b : Nat) :
  Calls Tryz.prog 288 #[.float .f64 b] w fun e w' => e = .returned (.float .f64 (canonB b)) ∧ w' = w := by
 go_enter Tryz.func288, Tryz.ntmps288
 go_wp2_with fail
 refine (isnan_any w b).mono ?_
 rintro e w1 ⟨rfl, rfl⟩
 by_cases h : isN double b
 ·simp only [h, decide_true]
  go_wp2
  go_ret
  exact ⟨ret_f (by simp [canonB, h]), rfl⟩
 ·simp only [h, decide_false]
  go_wp2
  go_ret
  exact ⟨ret_f (by simp [canonB, h]), rfl⟩
theorem eql_dec (a b : Nat) : ((a : Int) == (b : Int)) = decide (a = b) := by
 by_cases h : a = b
 ·subst h; simp
 ·simp [h]; omega
theorem rsame_any (w : World) (a b : Nat) :
  Calls Tryz.prog 182 #[.float .f64 a, .float .f64 b] w fun e w' => e = .returned (.bool (decide (a = b))) ∧ w' = w := by
 rw [← eql_dec]
 go_enter Tryz.func182, Tryz.ntmps182
 go_wp2
 go_ret
 exact ⟨rfl, rfl⟩
theorem isnanI (w : World) (a : Int) : Calls Tryz.prog 205 #[.int .i64 a] w fun e w' => e = .returned (.bool false) ∧ w' = w := by
 go_enter Tryz.func205, Tryz.ntmps205
 go_wp2
 go_ret
 exact ⟨ret_b (by simp), rfl⟩
def cmpZ (a b : Int) : Int := if a < b then -1 else if b < a then 1 else 0
theorem cmpI_any (w : World) (a b : Int) :
  Calls Tryz.prog 131 #[.int .i64 a, .int .i64 b] w fun e w' => e = .returned (.int .i64 (cmpZ a b)) ∧ w' = w := by
 have h1 := isnanI w a
 have h2 := isnanI w b
 go_enter Tryz.func131, Tryz.ntmps131
 go_wp2_with fail
 refine h1.mono ?_
 rintro e w1 ⟨rfl, rfl⟩
 go_wp2_with fail
 refine h2.mono ?_
 rintro e w2 ⟨rfl, rfl⟩
 clear h1 h2
 go_wp2
 all_goals go_ret
 all_goals exact ⟨ret_i (by unfold cmpZ; (repeat' split) <;> first | rfl | (simp_all; done) | (simp_all; omega)), rfl⟩
theorem bl_irrefl : ∀ x : List UInt8, Op.bytesLess x x = false
 | [] => rfl
 | a :: x => by simp [Op.bytesLess, bl_irrefl x]
theorem bl_tri : ∀ x y : List UInt8, Op.bytesLess x y = false → Op.bytesLess y x = false → x = y
 | [], [], _, _ => rfl
 | [], _ :: _, h, _ => by simp [Op.bytesLess] at h
 | _ :: _, [], _, h => by simp [Op.bytesLess] at h
 | a :: x, b :: y, h, h' => by
  simp only [Op.bytesLess, Bool.or_eq_false_iff, Bool.and_eq_false_iff, decide_eq_false_iff_not, beq_eq_false_iff_ne] at h h'
  have e : a = b := UInt8.le_antisymm (UInt8.not_lt.1 h'.1) (UInt8.not_lt.1 h.1)
  subst e
  rw [bl_tri x y (h.2.resolve_left (by simp)) (h'.2.resolve_left (by simp))]
theorem bl_trans : ∀ x y z : List UInt8, Op.bytesLess x y = true → Op.bytesLess y z = true → Op.bytesLess x z = true
 | [], [], _, h, _ => by simp [Op.bytesLess] at h
 | [], _ :: _, [], _, h => by simp [Op.bytesLess] at h
 | [], _ :: _, _ :: _, _, _ => by simp [Op.bytesLess]
 | _ :: _, [], _, h, _ => by simp [Op.bytesLess] at h
 | _ :: _, _ :: _, [], _, h => by simp [Op.bytesLess] at h
 | a :: x, b :: y, c :: z, h, h' => by
  simp only [Op.bytesLess, Bool.or_eq_true, Bool.and_eq_true, decide_eq_true_eq, beq_iff_eq] at h h' ⊢
  rcases h with h | ⟨rfl, h⟩
  ·rcases h' with h' | ⟨rfl, h'⟩
   ·exact .inl (UInt8.lt_trans h h')
   ·exact .inl h
  ·rcases h' with h' | ⟨rfl, h'⟩
   ·exact .inl h'
   ·exact .inr ⟨rfl, bl_trans x y z h h'⟩
def cmpL (x y : List UInt8) : Int := if Op.bytesLess x y = true then -1 else if x = y then 0 else 1
theorem cmpL_lt {x y : List UInt8} (h : Op.bytesLess x y = true) : cmpL x y = -1 := by simp [cmpL, h]
theorem cmpL_self (x : List UInt8) : cmpL x x = 0 := by simp [cmpL, bl_irrefl]
theorem cmpL_gt {x y : List UInt8} (h : Op.bytesLess x y = false) (h' : x ≠ y) : cmpL x y = 1 := by simp [cmpL, h, h']
end Go.Proofs.YtnpikgakpmkipabGreatDoor
namespace Go.Proofs.YtnpikgakpmkipabGreatDoor
open Go
section
variable {P : Program} {ops : Array Oper} {Q : Exit → Act → World → Prop} {md : Region.Mode} {S : World → Prop}
def CallsIf (P : Program) (ops : Array Oper) (S : World → Prop) (o : Oper) (v : Value) (a : Act) : Prop :=
 Region.wanted o (yielded ops a.tmps) = true ∧ ∀ w, S w → ∃ f args, (execOp a.eval o).run P w = .ok (.enter f args) w ∧ Calls P f args w fun e w' => e = .returned v ∧ w' = w
theorem CallsIf.of_same {o : Oper} {v : Value} {a a' : Act} (hy : CallsIf P ops S o v a) (he : execOp a'.eval o = execOp a.eval o)
  (hw : Region.wanted o (yielded ops a'.tmps) = Region.wanted o (yielded ops a.tmps)) : CallsIf P ops S o v a' := by
 unfold CallsIf at *
 rw [he, hw]
 exact hy
theorem CallsIf.wpOp {i : Nat} {o : Oper} {v : Value} {a : Act} (hi : ops[i]? = some o) (hy : CallsIf P ops S o v a) {K : Act → World → Prop} {w : World} (hS : S w) (h : K (a.put o.dst v) w) : wpOp P ops Q i K a w := by
 obtain ⟨hw, hv⟩ := hy
 obtain ⟨f, args, hr, hc⟩ := hv w hS
 unfold Go.wpOp
 simp only [hi, hw, if_true, Oper.wp, hr, Oper.upon]
 refine .inl (hc.mono ?_)
 rintro e w' ⟨rfl, rfl⟩
 exact h
theorem wpOp_keep {j : Nat} {oi oj : Oper} (hj : ops[j]? = some oj) (hap : oi.apart ops oj = true) (hsi : ∀ cs b, oi.op ≠ .select cs b) {K : Act → World → Prop} {a : Act} {w : World} (h : wpOp P ops Q j K a w) :
  wpOp P ops Q j (fun a' w' => (execOp a'.eval oi = execOp a.eval oi ∧ Region.wanted oi (yielded ops a'.tmps) = Region.wanted oi (yielded ops a.tmps)) ∧ K a' w') a w := by
 obtain ⟨h1, h2, h3⟩ := Oper.apart_spec hap
 have keep : ∀ (a' : Act), a'.tmps = a.tmps → ∀ u, execOp (a'.put oj.dst u).eval oi = execOp a.eval oi ∧ Region.wanted oi (yielded ops (a'.put oj.dst u).tmps) = Region.wanted oi (yielded ops a.tmps) := fun a' e u => by
  rw [execOp_put oi hsi a' oj.dst u h3, wanted_put oi a' oj.dst u h3]
  have e2 : a'.eval = a.eval := by funext x; cases x <;> simp [Act.eval, e]
  rw [e2, e]
  exact ⟨rfl, rfl⟩
 unfold wpOp at *
 simp only [hj] at *
 split
 ·rename_i hw
  simp only [hw, if_true] at h
  rcases h with h | h
  case inr => exact .inr h
  refine .inl ?_
  unfold Oper.wp at *
  generalize (execOp a.eval oj).run P w = r at *
  cases r with
  | ok n w' =>
   cases n <;> simp only [Oper.upon] at h ⊢
   case value u => exact ⟨keep a rfl u, h⟩
   case skip => exact ⟨keep a rfl _, h⟩
   case defer d => exact ⟨keep { tmps := a.tmps, defers := d :: a.defers } rfl _, h⟩
   case enter f args =>
    refine Calls.mono h fun e w'' he => ?_
    cases e with
    | returned u => exact ⟨keep a rfl u, he⟩
    | panicked c => exact he
    | outgrown => exact he
   case row row args => exact Rows.mono h fun u w'' he => ⟨keep a rfl u, he⟩
  | halt x w' =>
   cases x <;> simp only [Oper.upon] at h ⊢
   case panic u => exact h
 ·rename_i hw
  simp only [hw] at h
  exact ⟨keep a rfl _, h⟩
theorem wpAnyH_firstC {i : Nat} {oi : Oper} {v : Value} (hi : ops[i]? = some oi) (hsel : ∀ (j : Nat) (o : Oper) cs b, ops[j]? = some o → o.op ≠ .select cs b)
  (hQ : ∀ c a w, Q (.panic c) (a.put oi.dst v) w → Q (.panic c) a w) :
  ∀ (fuel : Nat) (listed : Array Bool) (a : Act) (w : World),
   (∀ j oj, ops[j]? = some oj → j ≠ i → listed.getD j true = false → (∀ e ∈ oj.after, Region.binds md e = true → e.on ≠ i) → oi.apart ops oj = true) →
   i ∈ Region.ready md ops listed → CallsIf P ops S oi v a → S w →
   wpAnyH P md ops Q S fuel (listed.setIfInBounds i true) (a.put oi.dst v) w → wpAnyH P md ops Q S (fuel + 1) listed a w := by
 intro fuel
 induction fuel with
 | zero =>
  intro listed a w _ hr hy hS H
  refine ⟨fun h => (by rw [h] at hr; cases hr), fun j hj => ?_⟩
  by_cases hji : j = i
  ·subst hji; exact hy.wpOp hi hS ⟨hS, H⟩
  ·have := ready_mono hj hji
   rw [H.1] at this
   cases this
 | succ fuel ih =>
  intro listed a w hfree hr hy hS H
  refine ⟨fun h => (by rw [h] at hr; cases hr), fun j hj => ?_⟩
  by_cases hji : j = i
  ·subst hji; exact hy.wpOp hi hS ⟨hS, H⟩
  ·have h1 := H.2 j (ready_mono hj hji)
   obtain ⟨hjun, oj, hoj, hall⟩ := mem_ready.1 hj
   have hnot : ∀ e ∈ oj.after, Region.binds md e = true → e.on ≠ i := fun e he hb heq => by
    have h1 := hall e he hb
    have h0 := (mem_ready.1 hr).1
    rw [heq] at h1
    rcases Nat.lt_or_ge i listed.size with h' | h'
    ·simp [h'] at h0 h1; rw [h0] at h1; cases h1
    ·simp [Array.getElem?_eq_none h'] at h1
   have hap := hfree j oj hoj hji hjun hnot
   have h2 := wpOp_putIf (S := fun _ => False) hoj hap (fun cs b => hsel i oi cs b hi) (fun cs b => hsel j oj cs b hoj) hQ (.inl ⟨hy.1, fun _ h => h.elim⟩) h1
   have h3 := wpOp_keep hoj hap (fun cs b => hsel i oi cs b hi) h2
   refine wpOp_mono (fun a' w' h4 => ⟨h4.2.2.1, ih (listed.setIfInBounds j true) a' w' ?_ (ready_mono hr (Ne.symm hji)) (hy.of_same h4.1.1 h4.1.2) h4.2.2.1 ?_⟩) h3
   ·intro k ok hk hki hun hno
    refine hfree k ok hk hki ?_ hno
    by_cases hjk : j = k
    ·subst hjk; exact hjun
    ·rw [getD_set_ne true hjk] at hun; exact hun
   ·rw [Array.setIfInBounds_comm _ _ hji]
    exact h4.2.2.2
theorem wpAnyH_call {i : Nat} {oi : Oper} {v : Value} {fuel : Nat} {listed : Array Bool} {a : Act} {w : World} (hi : ops[i]? = some oi)
  (hs : Region.noSelect ops = true) (hf : Region.free md ops listed i = true) (hr : (Region.ready md ops listed).contains i = true)
  (hQ : ∀ c a w, Q (.panic c) (a.put oi.dst v) w → Q (.panic c) a w) (hy : CallsIf P ops S oi v a) (hS : S w)
  (h : wpAnyH P md ops Q S fuel (listed.setIfInBounds i true) (a.put oi.dst v) w) : wpAnyH P md ops Q S (fuel + 1) listed a w :=
 wpAnyH_firstC hi (Region.noSelect_spec hs) hQ fuel listed a w (Region.free_spec hi hf) (by simpa using hr) hy hS h
theorem wpAnyH_one {i : Nat} {o : Oper} {fuel : Nat} {listed : Array Bool} {a : Act} {w : World} (hr : Region.ready md ops listed = [i]) (ho : ops[i]? = some o) (hw : Region.wanted o (yielded ops a.tmps) = true)
  (h : ∀ K : Act → World → Prop, (∀ a' w', S w' → wpAnyH P md ops Q S fuel (listed.setIfInBounds i true) a' w' → K a' w') → o.wp P a w K Q) : wpAnyH P md ops Q S (fuel + 1) listed a w :=
 wpAnyH_all hr (by simp) (fun j hj => by
  simp only [List.mem_singleton] at hj
  subst hj
  unfold wpOp
  simp only [ho]
  rw [if_pos hw]
  exact .inl (h _ (fun _ _ h1 h2 => ⟨h1, h2⟩)))
end
end Go.Proofs.YtnpikgakpmkipabGreatDoor
namespace Go.Proofs.YtnpikgakpmkipabGreatDoor
open Go.RowKit Go.Lib Ieee
theorem hmix : Tryz.prog.follows .mixedOrders = true := by kernel_rfl
structure Val where
 kind : Int
 num : Int
 text : ByteArray
 real : Nat
def Val.v (x : Val) : Value := .agg #[.int .i64 x.kind, .int .i64 x.num, .string x.text, .float .f64 x.real]
theorem box1 (w : World) (C D : Array Value) (tc td j : Nat) (v : Value) (h : C[j]? = some v) : (((w.alloc (.cells C tc)).alloc (.cells D td)).drew).cell? ⟨w.heap.size, j, none⟩ = some v := by
 show ((w.alloc (.cells C tc)).alloc (.cells D td)).cell? ⟨w.heap.size, j, none⟩ = some v
 rw [((Below.refl _ (w.alloc (.cells C tc))).alloc (Nat.le_refl _) (.cells D td)).cell (by simp), World.cell?_alloc_new]
 exact h
theorem box2 (w : World) (C D : Array Value) (tc td j : Nat) (v : Value) (h : D[j]? = some v) : (((w.alloc (.cells C tc)).alloc (.cells D td)).drew).cell? ⟨w.heap.size + 1, j, none⟩ = some v := by
 show ((w.alloc (.cells C tc)).alloc (.cells D td)).cell? ⟨w.heap.size + 1, j, none⟩ = some v
 have e : (w.alloc (.cells C tc)).heap.size = w.heap.size + 1 := by simp
 rw [← e, World.cell?_alloc_new]
 exact h
abbrev vA (k n : Int) (t : ByteArray) (r : Nat) : Array Value := #[.int .i64 k, .int .i64 n, .string t, .float .f64 r]
theorem below_drewN {B : Nat} {a w : World} (h : Below B a w) (n : Nat) : Below B a (w.drewN n) := ⟨h.os, h.tape, h.output, h.size, h.block⟩
def sameV (a b : Val) : Bool := a.kind == b.kind && (a.num == b.num && (a.text.toList == b.text.toList && (a.real : Int) == (b.real : Int)))
theorem box1' (w : World) (C D : Array Value) (tc td j : Nat) (v : Value) (h : C[j]? = some v) : ((w.alloc (.cells C tc)).alloc (.cells D td)).cell? ⟨w.heap.size, j, none⟩ = some v := box1 w C D tc td j v h
theorem box2' (w : World) (C D : Array Value) (tc td j : Nat) (v : Value) (h : D[j]? = some v) : ((w.alloc (.cells C tc)).alloc (.cells D td)).cell? ⟨w.heap.size + 1, j, none⟩ = some v := box2 w C D tc td j v h
theorem same7 (w : World) (a b : Val) :
  Calls Tryz.prog 287 #[a.v, b.v] w fun e w' => e = .returned (.bool (sameV a b)) ∧ Below w.heap.size w w' := by
 obtain ⟨k, n, t, r⟩ := a
 obtain ⟨k', n', t', r'⟩ := b
 unfold sameV Val.v
 dsimp only at *
 have HS := fun W : World => rsame_any W r r'
 rw [← eql_dec] at HS
 go_enter Tryz.func287, Tryz.ntmps287
 go_upto_region 1 with fail
 have hb1 : Below w.heap.size w ((w.alloc (Obj.cells (vA k n t r) 64)).alloc (Obj.cells (vA k' n' t' r') 64)) := (Below.refl _ w).alloc (Nat.le_refl _) _ |>.alloc (by simp) _
 have c0 : ((w.alloc (Obj.cells (vA k n t r) 64)).alloc (Obj.cells (vA k' n' t' r') 64)).cell? ⟨w.heap.size, 0, none⟩ = some (.int .i64 k) := box1' w _ _ _ _ 0 _ rfl
 have c1 : ((w.alloc (Obj.cells (vA k n t r) 64)).alloc (Obj.cells (vA k' n' t' r') 64)).cell? ⟨w.heap.size, 1, none⟩ = some (.int .i64 n) := box1' w _ _ _ _ 1 _ rfl
 have c2 : ((w.alloc (Obj.cells (vA k n t r) 64)).alloc (Obj.cells (vA k' n' t' r') 64)).cell? ⟨w.heap.size, 2, none⟩ = some (.string t) := box1' w _ _ _ _ 2 _ rfl
 have c3 : ((w.alloc (Obj.cells (vA k n t r) 64)).alloc (Obj.cells (vA k' n' t' r') 64)).cell? ⟨w.heap.size, 3, none⟩ = some (.float .f64 r) := box1' w _ _ _ _ 3 _ rfl
 have d0 : ((w.alloc (Obj.cells (vA k n t r) 64)).alloc (Obj.cells (vA k' n' t' r') 64)).cell? ⟨w.heap.size + 1, 0, none⟩ = some (.int .i64 k') := box2' w _ _ _ _ 0 _ rfl
 have d1 : ((w.alloc (Obj.cells (vA k n t r) 64)).alloc (Obj.cells (vA k' n' t' r') 64)).cell? ⟨w.heap.size + 1, 1, none⟩ = some (.int .i64 n') := box2' w _ _ _ _ 1 _ rfl
 have d2 : ((w.alloc (Obj.cells (vA k n t r) 64)).alloc (Obj.cells (vA k' n' t' r') 64)).cell? ⟨w.heap.size + 1, 2, none⟩ = some (.string t') := box2' w _ _ _ _ 2 _ rfl
 have d3 : ((w.alloc (Obj.cells (vA k n t r) 64)).alloc (Obj.cells (vA k' n' t' r') 64)).cell? ⟨w.heap.size + 1, 3, none⟩ = some (.float .f64 r') := box2' w _ _ _ _ 3 _ rfl
 generalize ((w.alloc (Obj.cells (vA k n t r) 64)).alloc (Obj.cells (vA k' n' t' r') 64)) = w1 at *
 cases e1 : (k == k') with
 | false =>
  go_quiet (fail)
  go_wp2
  go_ret
  exact ⟨ret_b (by rw [e1]; rfl), below_drewN hb1 _⟩
 | true =>
 cases e2 : (n == n') with
 | false =>
  go_quiet (fail)
  go_wp2
  go_ret
  exact ⟨ret_b (by rw [e1, e2]; rfl), below_drewN hb1 _⟩
 | true =>
 cases e3 : (t.toList == t'.toList) with
 | false =>
  go_quiet (fail)
  go_wp2
  go_ret
  exact ⟨ret_b (by rw [e1, e2, e3]; rfl), below_drewN hb1 _⟩
 | true =>
  go_quiet (fail)
  go_wp2
  go_ret
  exact ⟨ret_b (by rw [e1, e2, e3]; rfl), below_drewN hb1 _⟩
theorem rsame7 (w : World) (a b : Val) :
  Calls Tryz.prog 109 #[a.v, b.v] w fun e w' => e = .returned (.bool (sameV a b)) ∧ Below w.heap.size w w' := by
 obtain ⟨k, n, t, r⟩ := a
 obtain ⟨k', n', t', r'⟩ := b
 unfold sameV Val.v
 dsimp only at *
 have HS := fun W : World => rsame_any W r r'
 rw [← eql_dec] at HS
 go_enter Tryz.func109, Tryz.ntmps109
 go_upto_region 1 with fail
 have hb1 : Below w.heap.size w ((w.alloc (Obj.cells (vA k n t r) 64)).alloc (Obj.cells (vA k' n' t' r') 64)) := (Below.refl _ w).alloc (Nat.le_refl _) _ |>.alloc (by simp) _
 have c0 : ((w.alloc (Obj.cells (vA k n t r) 64)).alloc (Obj.cells (vA k' n' t' r') 64)).cell? ⟨w.heap.size, 0, none⟩ = some (.int .i64 k) := box1' w _ _ _ _ 0 _ rfl
 have c1 : ((w.alloc (Obj.cells (vA k n t r) 64)).alloc (Obj.cells (vA k' n' t' r') 64)).cell? ⟨w.heap.size, 1, none⟩ = some (.int .i64 n) := box1' w _ _ _ _ 1 _ rfl
 have c2 : ((w.alloc (Obj.cells (vA k n t r) 64)).alloc (Obj.cells (vA k' n' t' r') 64)).cell? ⟨w.heap.size, 2, none⟩ = some (.string t) := box1' w _ _ _ _ 2 _ rfl
 have c3 : ((w.alloc (Obj.cells (vA k n t r) 64)).alloc (Obj.cells (vA k' n' t' r') 64)).cell? ⟨w.heap.size, 3, none⟩ = some (.float .f64 r) := box1' w _ _ _ _ 3 _ rfl
 have d0 : ((w.alloc (Obj.cells (vA k n t r) 64)).alloc (Obj.cells (vA k' n' t' r') 64)).cell? ⟨w.heap.size + 1, 0, none⟩ = some (.int .i64 k') := box2' w _ _ _ _ 0 _ rfl
 have d1 : ((w.alloc (Obj.cells (vA k n t r) 64)).alloc (Obj.cells (vA k' n' t' r') 64)).cell? ⟨w.heap.size + 1, 1, none⟩ = some (.int .i64 n') := box2' w _ _ _ _ 1 _ rfl
 have d2 : ((w.alloc (Obj.cells (vA k n t r) 64)).alloc (Obj.cells (vA k' n' t' r') 64)).cell? ⟨w.heap.size + 1, 2, none⟩ = some (.string t') := box2' w _ _ _ _ 2 _ rfl
 have d3 : ((w.alloc (Obj.cells (vA k n t r) 64)).alloc (Obj.cells (vA k' n' t' r') 64)).cell? ⟨w.heap.size + 1, 3, none⟩ = some (.float .f64 r') := box2' w _ _ _ _ 3 _ rfl
 generalize ((w.alloc (Obj.cells (vA k n t r) 64)).alloc (Obj.cells (vA k' n' t' r') 64)) = w1 at *
 cases e1 : (k == k') with
 | false =>
  go_wp2
  go_ret
  exact ⟨ret_b (by rw [e1]; rfl), hb1⟩
 | true =>
 cases e2 : (n == n') with
 | false =>
  go_wp2
  go_ret
  exact ⟨ret_b (by rw [e1, e2]; rfl), hb1⟩
 | true =>
 cases e3 : (t.toList == t'.toList) with
 | false =>
  go_wp2
  go_ret
  exact ⟨ret_b (by rw [e1, e2, e3]; rfl), hb1⟩
 | true =>
  go_wp2_with fail
  refine (HS _).mono ?_
  rintro e w2 ⟨rfl, rfl⟩
  go_wp2
  go_ret
  exact ⟨ret_b (by rw [e1, e2, e3]; rfl), hb1⟩
def goodV (x : Val) : Bool :=
  if x.kind = 1 then sameV x ⟨1, x.num, ⟨#[]⟩, 0⟩
  else if x.kind = 2 then (x.num == 0 || x.num == 1) && sameV x ⟨2, x.num, ⟨#[]⟩, 0⟩
  else if x.kind = 3 then decide ((x.text.size : Int) ≤ 256) && sameV x ⟨3, 0, x.text, 0⟩
  else if x.kind = 4 then sameV x ⟨4, 0, ⟨#[]⟩, canonB x.real⟩
  else false
set_option maxRecDepth 8000 in
set_option maxHeartbeats 400000 in
theorem good7 (w : World) (a : Val) :
    Calls Tryz.prog 261 #[a.v] w fun e w' => e = .returned (.bool (goodV a)) ∧ Below w.heap.size w w' := by
  obtain ⟨k, n, t, r⟩ := a
  unfold goodV
  dsimp only
  have H1 := fun W : World => same7 W ⟨1, n, t, r⟩ ⟨1, n, ⟨#[]⟩, 0⟩
  have H2 := fun W : World => same7 W ⟨2, n, t, r⟩ ⟨2, n, ⟨#[]⟩, 0⟩
  have H3 := fun W : World => same7 W ⟨3, n, t, r⟩ ⟨3, 0, t, 0⟩
  have H4 := fun W : World => same7 W ⟨4, n, t, r⟩ ⟨4, 0, ⟨#[]⟩, canonB r⟩
  have HC := fun W : World => canon_any W r
  have hb1 : Below w.heap.size w (w.alloc (Obj.cells #[Value.int IntKind.i64 k, Value.int IntKind.i64 n, Value.string t, Value.float FloatKind.f64 r] 64)) := (Below.refl _ w).alloc (Nat.le_refl _) _
  have c0 : (w.alloc (Obj.cells #[Value.int IntKind.i64 k, Value.int IntKind.i64 n, Value.string t, Value.float FloatKind.f64 r] 64)).cell? ⟨w.heap.size, 0, none⟩ = some (.int .i64 k) := World.cell?_alloc_new ..
  have c1 : (w.alloc (Obj.cells #[Value.int IntKind.i64 k, Value.int IntKind.i64 n, Value.string t, Value.float FloatKind.f64 r] 64)).cell? ⟨w.heap.size, 1, none⟩ = some (.int .i64 n) := World.cell?_alloc_new ..
  have c2 : (w.alloc (Obj.cells #[Value.int IntKind.i64 k, Value.int IntKind.i64 n, Value.string t, Value.float FloatKind.f64 r] 64)).cell? ⟨w.heap.size, 2, none⟩ = some (.string t) := World.cell?_alloc_new ..
  have c3 : (w.alloc (Obj.cells #[Value.int IntKind.i64 k, Value.int IntKind.i64 n, Value.string t, Value.float FloatKind.f64 r] 64)).cell? ⟨w.heap.size, 3, none⟩ = some (.float .f64 r) := World.cell?_alloc_new ..
  have hs1 : (w.alloc (Obj.cells #[Value.int IntKind.i64 k, Value.int IntKind.i64 n, Value.string t, Value.float FloatKind.f64 r] 64)).heap.size = w.heap.size + 1 := by simp
  unfold Val.v at *
  dsimp only at *
  go_enter Tryz.func261, Tryz.ntmps261
  go_upto_region 1 with fail
  generalize (w.alloc (Obj.cells #[Value.int IntKind.i64 k, Value.int IntKind.i64 n, Value.string t, Value.float FloatKind.f64 r] 64)) = w1 at *
  by_cases h1 : k = 1
  · subst h1
    obtain ⟨g, hg⟩ : ∃ g, g = sameV ⟨1, n, t, r⟩ ⟨1, n, ⟨#[]⟩, 0⟩ := ⟨_, rfl⟩
    simp only [← hg] at H1
    clear H2 H3 H4 HC
    go_wp2_with fail
    refine (H1 _).mono ?_
    rintro e w2 ⟨rfl, hb2⟩
    go_wp2
    go_ret
    exact ⟨ret_b (by first | rfl | (rw [decide_eq_false e0]; rfl) | simp [*]), hb1.trans (hb2.mono (by omega))⟩
  by_cases h2 : k = 2
  · subst h2
    obtain ⟨g, hg⟩ : ∃ g, g = sameV ⟨2, n, t, r⟩ ⟨2, n, ⟨#[]⟩, 0⟩ := ⟨_, rfl⟩
    simp only [← hg] at H2
    clear H1 H3 H4 HC
    cases e0 : (n == 0) with
    | true =>
      go_wp2_with fail
      refine (H2 _).mono ?_
      rintro e w2 ⟨rfl, hb2⟩
      go_wp2
      go_ret
      exact ⟨ret_b (by first | rfl | (rw [decide_eq_false e0]; rfl) | simp [*]), hb1.trans (hb2.mono (by omega))⟩
    | false =>
    cases e1 : (n == 1) with
    | true =>
      go_wp2_with fail
      refine (H2 _).mono ?_
      rintro e w2 ⟨rfl, hb2⟩
      go_wp2
      go_ret
      exact ⟨ret_b (by first | rfl | (rw [decide_eq_false e0]; rfl) | simp [*]), hb1.trans (hb2.mono (by omega))⟩
    | false =>
      go_wp2
      go_ret
      exact ⟨ret_b (by first | rfl | (simp; omega) | (simp; intro h; omega)), hb1⟩
  by_cases h3 : k = 3
  · subst h3
    obtain ⟨g, hg⟩ : ∃ g, g = sameV ⟨3, n, t, r⟩ ⟨3, 0, t, 0⟩ := ⟨_, rfl⟩
    simp only [← hg] at H3
    clear H1 H2 H4 HC
    by_cases e0 : (t.size : Int) ≤ 256
    · go_wp2_with fail
      refine (H3 _).mono ?_
      rintro e w2 ⟨rfl, hb2⟩
      go_wp2
      go_ret
      exact ⟨ret_b (by first | rfl | (rw [decide_eq_false e0]; rfl) | simp [*]), hb1.trans (hb2.mono (by omega))⟩
    · go_wp2
      go_ret
      exact ⟨ret_b (by first | rfl | (simp; omega) | (simp; intro h; omega)), hb1⟩
  by_cases h4 : k = 4
  · subst h4
    obtain ⟨g, hg⟩ : ∃ g, g = sameV ⟨4, n, t, r⟩ ⟨4, 0, ⟨#[]⟩, canonB r⟩ := ⟨_, rfl⟩
    simp only [← hg] at H4
    clear H1 H2 H3
    go_upto_region 9 with fail
    refine wp_region_held (S := fun W => W.cell? ⟨w.heap.size, 0, none⟩ = some (.int .i64 4) ∧ W.cell? ⟨w.heap.size, 1, none⟩ = some (.int .i64 n) ∧ W.cell? ⟨w.heap.size, 2, none⟩ = some (.string t) ∧ W.cell? ⟨w.heap.size, 3, none⟩ = some (.float .f64 r)) hmix ?_
    show wpAnyH _ _ _ _ _ _ _ _ w1.drew
    have hS : (fun W : World => W.cell? ⟨w.heap.size, 0, none⟩ = some (.int .i64 4) ∧ W.cell? ⟨w.heap.size, 1, none⟩ = some (.int .i64 n) ∧ W.cell? ⟨w.heap.size, 2, none⟩ = some (.string t) ∧ W.cell? ⟨w.heap.size, 3, none⟩ = some (.float .f64 r)) w1.drew := ⟨c0, c1, c2, c3⟩
    have hb2 : Below w.heap.size w w1.drew := hb1.drew
    have hs2 : w1.drew.heap.size = w.heap.size + 1 := hs1
    clear c0 c1 c2 c3 hb1 hs1
    generalize w1.drew = w2 at *
    refine wpAnyH_take (i := 0) (v := .agg #[.int .i64 4, .int .i64 n, .string t, .float .f64 r]) rfl (by kernel_rfl) (by kernel_rfl) (by kernel_rfl) (fun _ _ _ h => h) (.inl ⟨by rfl, fun W' hW' => ?_⟩) hS ?_
    · obtain ⟨d0, d1, d2, d3⟩ := hW'
      go_simp
    dsimp only [Act.put]
    refine wpAnyH_take (i := 1) (v := .pointer (some ⟨w.heap.size, 3, none⟩)) rfl (by kernel_rfl) (by kernel_rfl) (by kernel_rfl) (fun _ _ _ h => h) (.inl ⟨by rfl, fun W' hW' => ?_⟩) hS ?_
    · go_simp
    dsimp only [Act.put]
    refine wpAnyH_take (i := 2) (v := .float .f64 r) rfl (by kernel_rfl) (by kernel_rfl) (by kernel_rfl) (fun _ _ _ h => h) (.inl ⟨by rfl, fun W' hW' => ?_⟩) hS ?_
    · obtain ⟨d0, d1, d2, d3⟩ := hW'
      go_simp
    dsimp only [Act.put]
    refine wpAnyH_one (i := 3) (by kernel_rfl) rfl (by rfl) (fun K hK => ?_)
    go_simp
    refine (HC _).mono ?_
    rintro e w' ⟨rfl, rfl⟩
    show K _ _
    refine hK _ _ hS ?_
    clear hK K
    refine wpAnyH_take (i := 4) (v := .agg #[.int .i64 4, .int .i64 0, .string ⟨#[]⟩, .float .f64 (canonB r)]) rfl (by kernel_rfl) (by kernel_rfl) (by kernel_rfl) (fun _ _ _ h => h) (.inl ⟨by rfl, fun W' hW' => ?_⟩) hS ?_
    · go_simp
    dsimp only [Act.put]
    refine wpAnyH_one (i := 5) (by kernel_rfl) rfl (by rfl) (fun K hK => ?_)
    go_simp
    refine (H4 _).mono ?_
    rintro e w3 ⟨rfl, hb3⟩
    obtain ⟨d0, d1, d2, d3⟩ := hS
    have hS3 : (fun W : World => W.cell? ⟨w.heap.size, 0, none⟩ = some (.int .i64 4) ∧ W.cell? ⟨w.heap.size, 1, none⟩ = some (.int .i64 n) ∧ W.cell? ⟨w.heap.size, 2, none⟩ = some (.string t) ∧ W.cell? ⟨w.heap.size, 3, none⟩ = some (.float .f64 r)) w3 := ⟨by rw [hb3.cell (by dsimp only; omega)]; exact d0, by rw [hb3.cell (by dsimp only; omega)]; exact d1, by rw [hb3.cell (by dsimp only; omega)]; exact d2, by rw [hb3.cell (by dsimp only; omega)]; exact d3⟩
    show K _ _
    refine hK _ _ hS3 ?_
    clear hK K
    refine wpAnyH_take (i := 6) (v := .bool g) rfl (by kernel_rfl) (by kernel_rfl) (by kernel_rfl) (fun _ _ _ h => h) (.inl ⟨by rfl, fun W' hW' => ?_⟩) hS3 ?_
    · go_simp
    refine wpAnyH_done (by kernel_rfl) ?_ _
    simp only [Act.put, List.getElem_toArray, List.getElem_cons_succ, List.getElem_cons_zero, List.setIfInBounds_toArray, List.set_cons_succ, List.set_cons_zero]
    go_wp2
    go_ret
    exact ⟨ret_b (by first | rfl | (rw [decide_eq_false e0]; rfl) | simp [*]), hb2.trans (hb3.mono (by omega))⟩
  go_wp2
  go_ret
  exact ⟨ret_b (by first | rfl | (rw [decide_eq_false e0]; rfl) | simp [*]), hb1⟩
def inN (c : Int) : Bool := decide (97 ≤ c) && decide (c ≤ 122) || decide (48 ≤ c) && decide (c ≤ 57) || c == 45 || c == 95
theorem inname7 (w : World) (c : Int) : Calls Tryz.prog 201 #[.int .u8 c] w fun e w' => e = .returned (.bool (inN c)) ∧ w' = w := by
 by_cases h1 : 97 ≤ c
 ·by_cases h2 : c ≤ 122
  ·have e : inN c = true := by simp [inN, h1, h2]
   rw [e]
   go_enter Tryz.func201, Tryz.ntmps201
   go_wp2
   go_ret
   exact ⟨rfl, rfl⟩
  ·have h3 : 48 ≤ c := by omega
   have h4 : ¬ c ≤ 57 := by omega
   have h5 : (c == 45) = false := by simp; omega
   have h6 : (c == 95) = false := by simp; omega
   have e : inN c = false := by simp [inN, h2, h4, h5, h6]
   rw [e]
   go_enter Tryz.func201, Tryz.ntmps201
   go_wp2
   go_ret
   exact ⟨rfl, rfl⟩
 ·by_cases h2 : 48 ≤ c
  ·by_cases h3 : c ≤ 57
   ·have e : inN c = true := by simp [inN, h2, h3]
    rw [e]
    go_enter Tryz.func201, Tryz.ntmps201
    go_wp2
    go_ret
    exact ⟨rfl, rfl⟩
   ·have h5 : (c == 45) = false := by simp; omega
    have e : inN c = (c == 95) := by simp [inN, h1, h3, h5]
    rw [e]
    go_enter Tryz.func201, Tryz.ntmps201
    go_wp2
    go_ret
    exact ⟨rfl, rfl⟩
  ·cases h5 : (c == 45) with
   | true =>
    have e : inN c = true := by simp [inN, h5]
    rw [e]
    go_enter Tryz.func201, Tryz.ntmps201
    go_wp2
    go_ret
    exact ⟨rfl, rfl⟩
   | false =>
    have e : inN c = (c == 95) := by simp [inN, h1, h2, h5]
    rw [e]
    go_enter Tryz.func201, Tryz.ntmps201
    go_wp2
    go_ret
    exact ⟨rfl, rfl⟩
def nameL (s : List UInt8) : Bool := decide (1 ≤ s.length) && decide (s.length ≤ 16) && s.all fun c => inN (c.toNat : Int)
theorem all_take {p : UInt8 → Bool} {s : List UInt8} (k : Nat) (h : k < s.length) : (s.take (k + 1)).all p = ((s.take k).all p && p s[k]) := by
 rw [List.take_succ_eq_append_getElem h, List.all_append]
 simp
theorem toList_len (s : ByteArray) : s.toList.length = s.size := by rw [ByteArray.toList_eq]; rfl
theorem toList_at (s : ByteArray) (k : Nat) (h : k < s.size) (h' : k < s.toList.length) : s.toList[k] = s[k] := by
 simp only [ByteArray.toList_eq]
 rfl
set_option maxRecDepth 4000 in
theorem name7 (w : World) (s : ByteArray) : Calls Tryz.prog 128 #[.string s] w fun e w' => e = .returned (.bool (nameL s.toList)) ∧ w' = w := by
 have hsz := toList_len s
 by_cases h1 : (s.size : Int) < 1
 ·have e : nameL s.toList = false := by simp [nameL]; omega
  rw [e]
  go_enter Tryz.func128, Tryz.ntmps128
  go_wp2
  go_ret
  exact ⟨rfl, rfl⟩
 by_cases h2 : (s.size : Int) > 16
 ·have e : nameL s.toList = false := by simp [nameL]; omega
  rw [e]
  go_enter Tryz.func128, Tryz.ntmps128
  go_wp2
  go_ret
  exact ⟨rfl, rfl⟩
 have e : nameL s.toList = s.toList.all fun c => inN (c.toNat : Int) := by
  unfold nameL
  rw [decide_eq_true (by omega), decide_eq_true (by omega)]
  rfl
 rw [e]
 clear e
 have H : Hid (∀ (k : Nat) (h : k < s.size), (s.toList.take (k + 1)).all (fun c => inN (c.toNat : Int)) = ((s.toList.take k).all (fun c => inN (c.toNat : Int)) && inN ((s[k]'h).toNat : Int))) := fun k h => by
  rw [all_take k (by omega), toList_at s k h]
 have H2 : Hid (∀ k, s.size ≤ k → (s.toList.take k).all (fun c => inN (c.toNat : Int)) = s.toList.all fun c => inN (c.toNat : Int)) := fun k h => by
  rw [List.take_of_length_le (by omega)]
 have H3 : Hid (∀ k, (s.toList.take k).all (fun c => inN (c.toNat : Int)) = false → (s.toList.all fun c => inN (c.toNat : Int)) = false) := fun k h => by
  rw [← List.take_append_drop k s.toList, List.all_append, h]; rfl
 have H0 : (s.toList.take 0).all (fun c => inN (c.toNat : Int)) = true := rfl
 obtain ⟨g, hg⟩ : ∃ g : Nat → Bool, ∀ k, g k = (s.toList.take k).all (fun c => inN (c.toNat : Int)) := ⟨_, fun _ => rfl⟩
 simp only [← hg] at H H2 H3 H0
 have HI := fun (W : World) (c : Int) => inname7 W c
 clear hg hsz
 generalize (s.toList.all fun c => inN (c.toNat : Int)) = r at *
 go_enter Tryz.func128, Tryz.ntmps128
 go_wp2_with fail
 go_loopw [14] (fun i wr => ∃ k : Nat, k ≤ s.size ∧ i = .int .i64 k ∧ wr = w ∧ Hid (g k = true)) (fun i _ => s.size - (RowKit.intOf i).toNat)
 case atStart => exact ⟨0, by omega, rfl, rfl, H0⟩
 case round =>
  obtain ⟨k, hk, rfl, rfl, hz⟩ := hrel
  by_cases hlt : k < s.size
  ·have h3 := H.out k hlt
   rw [hz.out, Bool.true_and] at h3
   cases e : inN ((s[k]'hlt).toNat : Int) with
   | true =>
    have hI := HI wr ((s[k]'hlt).toNat : Int)
    rw [e] at hI h3
    go_wp2_with fail
    refine hI.mono ?_
    rintro e w2 ⟨rfl, rfl⟩
    go_wp2
    go_roundw
    case rel => exact ⟨k + 1, by omega, by go_num, trivial, h3⟩
    case measure => simp [RowKit.intOf]; omega
   | false =>
    have hI := HI wr ((s[k]'hlt).toNat : Int)
    rw [e] at hI h3
    have h4 := H3.out _ h3
    go_wp2_with fail
    refine hI.mono ?_
    rintro e w2 ⟨rfl, rfl⟩
    go_wp2
    go_ret
    exact ⟨ret_b h4.symm, rfl⟩
  ·have h4 := H2.out k (by omega)
   rw [hz.out] at h4
   go_wp2
   go_ret
   exact ⟨ret_b h4, rfl⟩
end Go.Proofs.YtnpikgakpmkipabGreatDoor
