/- Whatever a script of calls, trivetlaw09.TrieDoes answers true and leaves its argument as it was, where the listed tables of the library read as the program's text lays them (tied by the card). -/
import Derived.Test.YtcicnbbnkeellaaGreatDoorRows
import Derived.Test.YtcicnbbnkeellaaGreatDoorWb
import Derived.ProofKit
import Derived.Lib.LaidU8
import Derived.Lib.LaidTab
import Derived.PinnedBridge
import Derived.Lay
import Derived.MakeChecks
import Derived.HandedShaped
import Derived.Laws.Cover2
import Derived.Test.YtcicnbbnkeellaaGreatDoorGv
import Derived.Test.YtcicnbbnkeellaaGreatDoorWa
import Derived.SliceStrings
import Derived.Deep.Slices
import Derived.Test.YtcicnbbnkeellaaGreatDoorFc
import Derived.Test.YtcicnbbnkeellaaGreatDoorDw
import Derived.Test.YtcicnbbnkeellaaGreatDoorRte
import Derived.Test.YtcicnbbnkeellaaGreatDoorRtd
import Derived.Test.YtcicnbbnkeellaaGreatDoorAd
import Derived.Test.YtcicnbbnkeellaaGreatDoorTn
import Derived.Test.YtcicnbbnkeellaaGreatDoorRxa
import Derived.Deep.CutBlock
import Derived.Deep.DeepCutAuto
import Derived.BigQuiet
import Derived.Test.YtcicnbbnkeellaaGreatDoorCards
import Derived.Test.YtcicnbbnkeellaaGreatDoorTie
set_option maxRecDepth 100000
namespace Go.Proofs.YtcicnbbnkeellaaGreatDoor
open Go.RowKit Go.Lib

theorem own : ownKnob Tryz.prog.godebug = none := by kernel_rfl
theorem laidOut : laidOutB Tryz.prog = true := by kernel_rfl

theorem trodAll_cons_mk {H : Type} {enc : TypeId × Value → H} {P : Program} {w : World} {base : Nat} {sp : Nat → Bool} {held : Bool} {t : TypeId} {ts : List TypeId} {v : Value} {vs : List Value} {d : DataW H} {ds : List (DataW H)} {p q : List MemPlace}
    (h : DataW.Trod enc P w base sp held t v d p) (hr : DataW.TrodAll enc P w base sp held ts vs ds q) : DataW.TrodAll enc P w base sp held (t :: ts) (v :: vs) (d :: ds) (p ++ q) := ⟨p, q, h, hr, rfl⟩
theorem trodAll_mk0 {H : Type} {enc : TypeId × Value → H} {P : Program} {w : World} {base : Nat} {sp : Nat → Bool} {held : Bool} : DataW.TrodAll enc P w base sp held [] [] [] [] := rfl

theorem vars_of_shape {W : World} (hsh : W.ShapedOpen Tryz.prog) : To.Vars W :=
  ⟨Go.Proofs.cell_of_shapedOpen_int (zero := #[.int .i64 0]) (t := 3) hsh (of_decide_eq_true (by kernel_rfl)) (by kernel_rfl) rfl (by kernel_rfl) (by kernel_rfl) Tryz.underlying3⟩

/-- A statement over variables that are laid, in a world that has its shape. -/
theorem returns_and_shaped {H : Type} {enc : TypeId × Value → H} {a : Assume} {C : Checked} {os : Os} {f : FuncId} {fn : Func} {s : ChangeSpec} {conds : List PathCond} {apart fresh handsOn again : Bool} {X : World → Array Value → Prop}
    (hX : ∀ (w w' : World) (args : Array Value), w.heap = w'.heap → X w args → X w' args)
    (own : ownKnob C.prog.godebug = none) (started : os.Started) (noInit : C.prog.inits.idxOf? f = none) (hfn : C.prog.funcs[f]? = some fn)
    (witness : ∃ (w : World) (tape : Tape) (i : Input), w.os = os ∧ (w.forCall tape i).Shaped C.prog ∧ i.vars = [] ∧ Input.okWide C.prog (w.forCall tape i) .any w.heap.size f i ∧
      ((s.pre enc C.prog fn conds apart (w.forCall tape i).memory i.args ∧ X (w.forCall tape i).memory i.args) ∧ sizedMet enc C.prog fn (OpenSpec.ofChange s) apart (w.forCall tape i).memory i.args) ∧ a.holds C.prog (lone (Frame.enter C.prog f i.args .normal) [] (w.forCall tape i)))
    (contract : ∀ (W : World) (base : Nat) (args : Array Value) (ds gs : List (DataW H)) (before : List MemPlace),
      (∀ (j : Nat) t v, fn.params[j]? = some t → args[j]? = some v → Value.okWide C.prog W .any base t v) →
      DataW.Whole enc C.prog fn.params.toList s.vars apart W args.toList ds gs before →
      (DataW.weightsEach C.prog (fn.params.toList ++ s.plain.varTypes C.prog) (ds ++ gs)).all (· ≤ reachBytes) = true → X W args → W.ShapedOpen C.prog →
      Calls C.prog f args W fun e W' => ∃ v, e = .returned v ∧ s.post enc C.prog fn apart fresh handsOn again W args v W') :
    ReturnsInHanded a C os f .any (fun w args => (s.pre enc C.prog fn conds apart w args ∧ X w args) ∧ sizedMet enc C.prog fn (OpenSpec.ofChange s) apart w args) (s.post enc C.prog fn apart fresh handsOn again) := by
  refine returnsInHanded_of_calls own started noInit witness ?_
  intro w tape i _ hsh _ hok hpre hholds
  obtain ⟨_, _, _, fn', hfn', _, _, _, _, hval⟩ := hok
  obtain rfl : fn' = fn := Option.some.inj (hfn'.symm.trans hfn)
  obtain ⟨⟨⟨ds, gs, before, hw, hc⟩, hx⟩, hz⟩ := hpre
  refine (contract (w.forCall tape i) w.heap.size i.args ds gs before hval (DataW.Whole.of_heap (w' := w.forCall tape i) (by rfl) hw) (hz.weights hw) (hX _ _ _ (by rfl) hx) hsh).mono fun e W' ⟨v, he, hp⟩ => ?_
  subst he
  exact ChangeSpec.post_blind hp
end Go.Proofs.YtcicnbbnkeellaaGreatDoor

set_option maxRecDepth 100000
namespace Go.Proofs.YtcicnbbnkeellaaGreatDoor.To
open Go.RowKit Go.Lib

theorem cells9 : Tryz.prog.cellsOf 9 = 1 := by kernel_rfl
theorem rd_texts {H : Type} {enc : TypeId × Value → H} {W : World} {v : Value} {d : DataW H} {p : List MemPlace} (h : DataW.Trod enc Tryz.prog W 0 (fun _ => true) true 27 v d p) (hv : ∃ a n c, v = .slice a n c) :
    ∃ xs : List (List UInt8), RdV W v (xs.map str) ∧ ∀ x ∈ xs, x.length ≤ maxLen := by
  obtain ⟨a, n, c, rfl⟩ := hv
  obtain ⟨fuel, hf⟩ := h
  rcases Go.ChangeShapes.open_strings Tryz.underlying27 Tryz.underlying9 cells9 hf with ⟨e, _⟩ | ⟨ad, len, cap, ss, e, _, hl, _, hss, _, hc, hm⟩
  · simp [Value.cells] at e
    obtain ⟨rfl, rfl, rfl⟩ := e
    exact ⟨[], .inl ⟨rfl, rfl⟩, fun x hx => by cases hx⟩
  · simp [Value.cells] at e
    obtain ⟨rfl, rfl, rfl⟩ := e
    have hsl : ss.length = c := by simpa using hss
    refine ⟨(ss.take n).map bl, ?_, fun x hx => ?_⟩
    · rcases Nat.eq_zero_or_pos n with h0 | h0
      · subst h0
        exact .inr (.inl ⟨⟨ad, c, rfl⟩, by simp⟩)
      · obtain ⟨b, o, sp⟩ := ad
        have hsp : sp = none := by simpa [Addr.add] using World.cell?_spot (hc 0 (by omega))
        subst hsp
        have hlen : (((ss.take n).map bl).map str).length = n := by simp; omega
        refine .inr (.inr ⟨b, o, c, by rw [hlen], by omega, fun j hj => ?_⟩)
        have hjn : j < n := by omega
        have h1 := hc j (by omega)
        rw [Addr.add_lit] at h1
        rw [h1]
        have hjs : j < ss.length := by omega
        simp [hjs, bl]
    · obtain ⟨s, hs, rfl⟩ := List.mem_map.1 hx
      rw [bl_len]
      exact hm s (List.mem_of_mem_take hs)
end Go.Proofs.YtcicnbbnkeellaaGreatDoor.To

set_option maxRecDepth 100000
namespace Go.Proofs.YtcicnbbnkeellaaGreatDoor.To
open Go.RowKit Go.Lib Go.Deep

/-- A call: its kind, its number, its text. -/
structure Cl where
  kind : Int
  num : Int
  text : List UInt8
theorem cells3 : Tryz.prog.cellsOf 3 = 1 := by kernel_rfl
theorem cells32 : Tryz.prog.cellsOf 32 = 3 := by kernel_rfl
theorem i64w {z : Int} (h : (Lit.int .i64 z).wf = true) : -9223372036854775808 ≤ z ∧ z ≤ 9223372036854775807 := by
  simpa [Lit.wf, IntKind.min, IntKind.max, IntKind.signed, IntKind.bits] using h
def InC (y : Cl) : Prop := (-9223372036854775808 ≤ y.kind ∧ y.kind ≤ 9223372036854775807) ∧ (-9223372036854775808 ≤ y.num ∧ y.num ≤ 9223372036854775807) ∧ y.text.length ≤ maxLen
/-- A call that lies in memory. -/
def ClAt (W : World) (b o : Nat) (y : Cl) : Prop := W.cell? ⟨b, o, none⟩ = some (.int .i64 y.kind) ∧ W.cell? ⟨b, o + 1, none⟩ = some (.int .i64 y.num) ∧ W.cell? ⟨b, o + 2, none⟩ = some (str y.text)
def RdC (W : World) (v : Value) (l : List Cl) : Prop := ((∃ a c, v = .slice a 0 c) ∧ l = []) ∨ ∃ b o c, v = .slice (some ⟨b, o, none⟩) l.length c ∧ l.length ≤ c ∧ ∀ i (h : i < l.length), ClAt W b (o + i * 3) l[i]

theorem call_cells {H : Type} {enc : TypeId × Value → H} {W : World} {cs : List Value} {fuel : Nat} {x : DataW H × List MemPlace} (h : DataW.trod enc Tryz.prog W 0 (fun _ => true) true fuel 32 cs = some x) :
    ∃ y : Cl, cs = [.int .i64 y.kind, .int .i64 y.num, str y.text] ∧ InC y := by
  obtain ⟨xs, n, _, rfl, hl, hlen, hf⟩ := DataW.trod_struct Tryz.underlying32 h
  rw [cells32] at hl
  match xs, hlen with
  | [y0, y1, y2], _ =>
    have t0 : DataW.trod enc Tryz.prog W 0 (fun _ => true) true n 3 ((cs.drop 0).take (Tryz.prog.cellsOf 3)) = some y0 := by simpa using hf 0 _ rfl
    have t1 : DataW.trod enc Tryz.prog W 0 (fun _ => true) true n 3 ((cs.drop 1).take (Tryz.prog.cellsOf 3)) = some y1 := by simpa using hf 1 _ rfl
    have t2 : DataW.trod enc Tryz.prog W 0 (fun _ => true) true n 9 ((cs.drop 2).take (Tryz.prog.cellsOf 9)) = some y2 := by simpa using hf 2 _ rfl
    match cs, hl with
    | [c0, c1, c2], _ =>
      simp only [cells3, cells9, List.drop, List.take] at t0 t1 t2
      obtain ⟨k, e0, _, wk⟩ := DataW.trod_int Tryz.underlying3 t0
      obtain ⟨m, e1, _, wm⟩ := DataW.trod_int Tryz.underlying3 t1
      obtain ⟨s, e2, _, ws⟩ := DataW.trod_string Tryz.underlying9 t2
      simp only [List.cons.injEq, and_true] at e0 e1 e2
      subst e0 e1 e2
      exact ⟨⟨k, m, bl s⟩, rfl, i64w wk, i64w wm, by rw [bl_len]; exact ws⟩
theorem call_at {H : Type} {enc : TypeId × Value → H} {W : World} {a : Addr} {cs : List Value} {fuel : Nat} {x : DataW H × List MemPlace}
    (hc : W.cells? 0 a (Tryz.prog.cellsOf 32) = some cs) (h : DataW.trod enc Tryz.prog W 0 (fun _ => true) true fuel 32 cs = some x) :
    ∃ (b o : Nat) (y : Cl), a = ⟨b, o, none⟩ ∧ ClAt W b o y ∧ InC y := by
  obtain ⟨y, rfl, hy⟩ := call_cells h
  rw [cells32] at hc
  obtain ⟨b, o, sp⟩ := a
  obtain ⟨_, _, hh⟩ := World.cells?_some hc
  have h0 := hh 0 (by omega)
  have h1 := hh 1 (by omega)
  have h2 := hh 2 (by omega)
  simp only [Addr.add, List.getElem?_cons_zero, List.getElem?_cons_succ] at h0 h1 h2
  have hsp : sp = none := by simpa [Addr.add] using World.cell?_spot h0
  subst hsp
  exact ⟨b, o, y, rfl, ⟨h0, h1, h2⟩, hy⟩
theorem rd_calls {H : Type} {enc : TypeId × Value → H} {W : World} {a : Option Addr} {n c : Nat} {d : DataW H} {p : List MemPlace}
    (h : DataW.Trod enc Tryz.prog W 0 (fun _ => true) true 22 (.slice a n c) d p) : ∃ l : List Cl, RdC W (.slice a n c) l ∧ l.length = n ∧ ∀ q ∈ l, InC q := by
  obtain ⟨fuel, hf⟩ := h
  rcases open_slice Tryz.underlying22 hf with ⟨hcs, _⟩ | ⟨x, l, cp, m, f, D, Pl, hcs, _, hl, hm, hmm, hx, hel⟩
  · simp [Value.cells] at hcs
    obtain ⟨rfl, rfl, rfl⟩ := hcs
    exact ⟨[], .inl ⟨⟨_, _, rfl⟩, rfl⟩, rfl, fun q hq => by simp at hq⟩
  · simp [Value.cells] at hcs
    obtain ⟨rfl, rfl, rfl⟩ := hcs
    have hmc : m = c := by simpa using hmm
    subst hmc
    rcases Nat.eq_zero_or_pos n with h0 | h0
    · subst h0
      exact ⟨[], .inl ⟨⟨_, _, rfl⟩, rfl⟩, rfl, fun q hq => by simp at hq⟩
    · have key : ∀ i, i < n → ∃ (b o : Nat) (y : Cl), x.add (i * 3) = ⟨b, o, none⟩ ∧ ClAt W b o y ∧ InC y := fun i hi => by
        obtain ⟨cs', h1, h2⟩ := hel i (by omega)
        have := call_at h1 h2
        rwa [cells32] at this
      obtain ⟨b, o, _, e0, _⟩ := key 0 (by omega)
      have ex : x = ⟨b, o, none⟩ := by simpa [Addr.add] using e0
      subst ex
      have key2 : ∀ i, i < n → ∃ y : Cl, ClAt W b (o + i * 3) y ∧ InC y := fun i hi => by
        obtain ⟨b', o', y, e, g, hy⟩ := key i hi
        rw [Addr.add_lit] at e
        cases e
        exact ⟨y, g, hy⟩
      have hall : ∀ k, k ≤ n → ∃ l : List Cl, l.length = k ∧ ∀ i (h : i < l.length), ClAt W b (o + i * 3) l[i] ∧ InC l[i] := by
        intro k
        induction k with
        | zero => exact fun _ => ⟨[], rfl, fun i h => by simp at h⟩
        | succ k ih =>
          intro hk
          obtain ⟨l, hl, hh⟩ := ih (by omega)
          obtain ⟨y, hy⟩ := key2 k (by omega)
          refine ⟨l ++ [y], by simp [hl], fun i hi => ?_⟩
          by_cases e : i < l.length
          · rw [List.getElem_append_left e]; exact hh i e
          · have : i = k := by simp at hi; omega
            subst this
            rw [List.getElem_append_right (by omega)]
            simpa using hy
      obtain ⟨l, hl2, hh⟩ := hall n (Nat.le_refl _)
      refine ⟨l, .inr ⟨b, o, m, by rw [hl2], by omega, fun i hi => (hh i hi).1⟩, hl2, fun q hq => ?_⟩
      obtain ⟨i, hi, rfl⟩ := List.mem_iff_getElem.1 hq
      exact (hh i hi).2
end Go.Proofs.YtcicnbbnkeellaaGreatDoor.To

namespace Go.Proofs.YtcicnbbnkeellaaGreatDoor
open Go.RowKit
set_option maxRecDepth 100000

/-- All that the trie is made of is younger than the call, and is none of the blocks K. -/
structure St (w0 : World) (K : Nat → Prop) (W : World) (t N : Nat) (l : List Pr) : Prop where
  tr : ∃ X, PT W X t N l ∧ ∀ b, X b → w0.heap.size ≤ b ∧ ¬ K b
  below : Below w0.heap.size w0 W
  lt : ∀ b, K b → b < W.heap.size
/-- What stays: the blocks K. -/
structure Kp (K : Nat → Prop) (W w' : World) : Prop where
  size : W.heap.size ≤ w'.heap.size
  keep : ∀ b, K b → w'.heap[b]? = W.heap[b]?
theorem Kp.trans {K : Nat → Prop} {a b c : World} (h : Kp K a b) (k : Kp K b c) : Kp K a c := ⟨Nat.le_trans h.size k.size, fun x hx => (k.keep x hx).trans (h.keep x hx)⟩
theorem Kp.of_below {K : Nat → Prop} {W w' : World} (hl : ∀ b, K b → b < W.heap.size) (h : Below W.heap.size W w') : Kp K W w' := ⟨h.size, fun b hb => h.block b (hl b hb)⟩
theorem nxt {a b c : World} (h1 : Below a.heap.size a b) (h2 : Below b.heap.size b c) : Below a.heap.size a c := h1.trans (h2.mono h1.size)
theorem St.few {w0 W : World} {K : Nat → Prop} {t N : Nat} {l : List Pr} (h : St w0 K W t N l) : (∀ x ∈ l, pat x.1 = true) ∧ Rising l ∧ l.length ≤ 64 := by
  obtain ⟨X, h1, _⟩ := h.tr
  exact h1.facts
theorem St.on {w0 W w' : World} {K : Nat → Prop} {t N : Nat} {l : List Pr} (h : St w0 K W t N l) (hb : Below W.heap.size W w') : St w0 K w' t N l := by
  obtain ⟨X, h1, h2⟩ := h.tr
  exact ⟨⟨X, h1.below hb, h2⟩, h.below.trans (hb.mono h.below.size), fun b hk => Nat.lt_of_lt_of_le (h.lt b hk) hb.size⟩
theorem St.of_fr {w0 W w' : World} {K X X' : Nat → Prop} {t N : Nat} {l : List Pr} (h2 : ∀ b, X b → w0.heap.size ≤ b ∧ ¬ K b) (hb : Below w0.heap.size w0 W) (hk : ∀ b, K b → b < W.heap.size) (h1 : PT w' X' t N l) (hf : Fr X X' W w') : St w0 K w' t N l ∧ Kp K W w' := by
  refine ⟨⟨⟨X', h1, fun b hx => ?_⟩, hb.trans (hf.below (fun b hx => (h2 b hx).1) hb.size), fun b hkb => Nat.lt_of_lt_of_le (hk b hkb) hf.size⟩, hf.size, fun b hkb => hf.keep b (hk b hkb) (fun hx => (h2 b hx).2 hkb)⟩
  rcases hf.new b hx with h | h
  · exact h2 b h
  · exact ⟨Nat.le_trans hb.size h, fun hkb => by have := hk b hkb; omega⟩
theorem St.vars {w0 W : World} {K : Nat → Prop} {t N : Nat} {l : List Pr} (h : St w0 K W t N l) (hv : To.Vars w0) : To.Vars W := hv.below h.below

theorem new_st {w0 W : World} {K : Nat → Prop} (hb : Below w0.heap.size w0 W) (hk : ∀ b, K b → b < W.heap.size) : Calls Tryz.prog 9 #[] W fun e w' => e = .returned (.pointer (some ⟨W.heap.size + 2, 0, none⟩)) ∧ St w0 K w' (W.heap.size + 2) 0 [] ∧ Kp K W w' := by
  refine (new_any W).mono ?_
  rintro e w' ⟨rfl, X, h1, h2⟩
  refine ⟨rfl, St.of_fr (X := fun _ => False) (fun b h => h.elim) hb hk h1 h2⟩
theorem St.add {w0 W : World} {K : Nat → Prop} {t N : Nat} {l : List Pr} (h : St w0 K W t N l) (hv : To.Vars w0) (p : List UInt8) (hpl : p.length ≤ 9223372036854775807) (z : Int) (hN : N ≤ 1000000) :
    Calls Tryz.prog 10 #[.pointer (some ⟨t, 0, none⟩), str p, .int .i64 z] W fun e w' => e = .returned (.int .i64 (addC l p z)) ∧ St w0 K w' t (N + 8) (addR l p z) ∧ Kp K W w' := by
  obtain ⟨X, h1, h2⟩ := h.tr
  refine (add_any W X t N l h1 (h.vars hv) p hpl z hN).mono ?_
  rintro e w' ⟨rfl, X', h3, h4⟩
  exact ⟨rfl, St.of_fr h2 h.below h.lt h3 h4⟩
theorem St.drop {w0 W : World} {K : Nat → Prop} {t N : Nat} {l : List Pr} (h : St w0 K W t N l) (p : List UInt8) (hpl : p.length ≤ 9223372036854775807) (z : Int) :
    Calls Tryz.prog 12 #[.pointer (some ⟨t, 0, none⟩), str p, .int .i64 z] W fun e w' => e = .returned (.int .i64 (if (p, z) ∈ l then 0 else 33)) ∧ St w0 K w' t N (l.erase (p, z)) ∧ Kp K W w' := by
  obtain ⟨X, h1, h2⟩ := h.tr
  refine (drop_any W X t N l h1 p hpl z).mono ?_
  rintro e w' ⟨rfl, X', h3, h4⟩
  exact ⟨rfl, St.of_fr h2 h.below h.lt h3 h4⟩
theorem St.find {w0 W : World} {K : Nat → Prop} {t N : Nat} {l : List Pr} (h : St w0 K W t N l) (hv : To.Vars w0) (s : List UInt8) :
    Calls Tryz.prog 15 #[.pointer (some ⟨t, 0, none⟩), str s] W fun e w' => ∃ v, e = .returned v ∧ To.OwnV 3 w' W.heap.size v (ints (findP l s)) ∧ Below W.heap.size W w' := by
  obtain ⟨X, h1, h2⟩ := h.tr
  exact find_any W X t N l h1 (h.vars hv) s
theorem St.len {w0 W : World} {K : Nat → Prop} {t N : Nat} {l : List Pr} (h : St w0 K W t N l) : Calls Tryz.prog 17 #[.pointer (some ⟨t, 0, none⟩)] W fun e w' => e = .returned (.int .i64 l.length) ∧ Below W.heap.size W w' := by
  obtain ⟨X, h1, h2⟩ := h.tr
  exact len_any W X t N l h1
theorem St.all {w0 W : World} {K : Nat → Prop} {t N : Nat} {l : List Pr} (h : St w0 K W t N l) : Calls Tryz.prog 18 #[.pointer (some ⟨t, 0, none⟩)] W fun e w' => ∃ v, e = .returned v ∧ OwnPr w' W.heap.size v l ∧ Below W.heap.size W w' := by
  obtain ⟨X, h1, h2⟩ := h.tr
  exact all_any W X t N l h1

def wA : List Pr := [([97, 46, 42], 3)]
def wB : List Pr := [([35], 1), ([97, 46, 42], 3)]
def wC : List Pr := [([35], 1), ([97, 46, 42], 3), ([97, 46, 98], 3)]
theorem wk1 : addC [] [97, 46, 42] 3 = 0 ∧ addR [] [97, 46, 42] 3 = wA := by decide
theorem wk2 : addC wA [35] 1 = 0 ∧ addR wA [35] 1 = wB := by decide
theorem wk3 : addC wB [97, 46, 98] 3 = 0 ∧ addR wB [97, 46, 98] 3 = wC := by decide
theorem wk4 : findP wC [97, 46, 98] = [1, 3] := by decide
theorem wk5 : findP wC [97] = [1] := by decide

set_option maxHeartbeats 2000000 in
theorem wakes_any (w : World) (hv : To.Vars w) : Calls Tryz.prog 8 #[] w fun e w' => e = .returned (.bool true) ∧ Below w.heap.size w w' := by
  have hn := new_st (K := fun _ => False) (Below.refl w.heap.size w) (fun b h => h.elim)
  go_enter Tryz.func8, Tryz.ntmps8
  go_wp2_with fail
  refine hn.mono ?_
  rintro e w1 ⟨rfl, h1, _⟩
  have a1 := h1.add hv [97, 46, 42] (by decide) 3 (by decide)
  rw [wk1.1, wk1.2] at a1
  simp only [str] at a1
  clear hn
  go_wp2_with fail
  refine a1.mono ?_
  rintro e w2 ⟨rfl, h2, _⟩
  have a2 := h2.add hv [35] (by decide) 1 (by decide)
  rw [wk2.1, wk2.2] at a2
  simp only [str] at a2
  clear h1 a1
  go_wp2_with fail
  refine a2.mono ?_
  rintro e w3 ⟨rfl, h3, _⟩
  have a3 := h3.add hv [97, 46, 98] (by decide) 3 (by decide)
  rw [wk3.1, wk3.2] at a3
  simp only [str] at a3
  clear h2 a2
  go_wp2_with fail
  refine a3.mono ?_
  rintro e w4 ⟨rfl, h4, _⟩
  have a4 := h4.find hv [97, 46, 98]
  rw [wk4] at a4
  simp only [str] at a4
  clear h3 a3
  go_wp2_with fail
  refine a4.mono ?_
  rintro e w5 ⟨v, rfl, hO, hb5⟩
  obtain ⟨g, c, rfl⟩ := To.OwnV.some_of hO (by decide)
  obtain ⟨_, hlc, hcl⟩ := To.OwnV.cells hO
  have c0 := hcl 0 (by decide)
  have c1 := hcl 1 (by decide)
  have h5 := h4.on hb5
  have a5 := h5.find hv [97]
  rw [wk5] at a5
  simp only [str] at a5
  simp only [ints, List.map, List.length, List.getElem_cons_zero, List.getElem_cons_succ] at c0 c1 hlc ⊢
  clear h4 a4 hO hb5 hcl
  go_wp2_with fail
  refine a5.mono ?_
  rintro e w6 ⟨v, rfl, hO, hb6⟩
  obtain ⟨a6, c6, rfl, _⟩ := To.OwnV.len hO
  have h6 := h5.on hb6
  have HB : Hid (Below w.heap.size w w6) := h6.below
  simp only [ints, List.map, List.length]
  clear h5 a5 hO h6
  go_wp2
  go_ret
  exact ⟨rfl, HB.out⟩
end Go.Proofs.YtcicnbbnkeellaaGreatDoor

namespace Go.Proofs.YtcicnbbnkeellaaGreatDoor

def adds (ps : List (List UInt8)) (f : Nat → Int) : Nat → List Pr
  | 0 => []
  | k + 1 => addR (adds ps f k) (ps.getD k []) (f k)
theorem addP_len (l : List Pr) (x : Pr) : (addP l x).length = l.length + 1 := by
  have h := take_while (fun y => plt y x) l
  unfold addP
  rw [← h.1, ← h.2]
  have h3 : l.length = (l.take (l.takeWhile (fun y => plt y x)).length).length + (l.drop (l.takeWhile (fun y => plt y x)).length).length := by
    rw [← List.length_append, List.take_append_drop]
  rw [List.length_append, List.length_cons]
  omega
theorem addR_len (l : List Pr) (p : List UInt8) (z : Int) : (addR l p z).length ≤ l.length + 1 := by
  unfold addR
  split
  · rw [addP_len]; exact Nat.le_refl _
  · omega
theorem adds_len (ps : List (List UInt8)) (f : Nat → Int) (k : Nat) : (adds ps f k).length ≤ k := by
  induction k with
  | zero => exact Nat.le_refl _
  | succ k ih => exact Nat.le_trans (addR_len _ _ _) (by omega)
/-- What is there after an Add for which there is room. -/
theorem addR_mem (l : List Pr) (p : List UInt8) (z : Int) (hl : l.length < 64) (x : Pr) : x ∈ addR l p z ↔ x ∈ l ∨ (x = (p, z) ∧ pat p = true) := by
  unfold addR
  cases hp : pat p with
  | false =>
    have : addC l p z = 30 := by unfold addC; rw [if_pos hp]
    rw [if_neg (by rw [this]; decide)]
    simp
  | true =>
    by_cases hm : (p, z) ∈ l
    · have : addC l p z = 32 := by unfold addC; rw [if_neg (by rw [hp]; simp), if_pos hm]
      rw [if_neg (by rw [this]; decide)]
      constructor
      · exact fun h => .inl h
      · rintro (h | ⟨rfl, _⟩)
        · exact h
        · exact hm
    · have : addC l p z = 0 := by unfold addC; rw [if_neg (by rw [hp]; simp), if_neg hm, if_neg (by omega)]
      rw [if_pos this, add_mem]
      simp only [and_true]
      exact Or.comm
theorem adds_mem (ps : List (List UInt8)) (f : Nat → Int) (k : Nat) (hk : k ≤ 64) (x : Pr) : x ∈ adds ps f k ↔ ∃ i, i < k ∧ x = (ps.getD i [], f i) ∧ pat (ps.getD i []) = true := by
  induction k with
  | zero => simp [adds]
  | succ k ih =>
    have := adds_len ps f k
    rw [adds, addR_mem _ _ _ (by omega), ih (by omega)]
    constructor
    · rintro (⟨i, h1, h2⟩ | h)
      · exact ⟨i, by omega, h2⟩
      · exact ⟨k, by omega, h⟩
    · rintro ⟨i, h1, h2⟩
      by_cases e : i = k
      · subst e; exact .inr h2
      · exact .inl ⟨i, by omega, h2⟩
def idx (i : Nat) : Int := (i : Int)
def want (ps : List (List UInt8)) (s : List UInt8) (k : Nat) : List Int := ((List.range k).filter (fun i => mat (ps.getD i []) s)).map idx
theorem want_succ (ps : List (List UInt8)) (s : List UInt8) (k : Nat) : want ps s (k + 1) = if mat (ps.getD k []) s = true then want ps s k ++ [(k : Int)] else want ps s k := by
  unfold want
  rw [List.range_succ, List.filter_append, List.map_append]
  split
  · rename_i h
    simp only [List.filter, h]
    rfl
  · rename_i h
    have h : mat (ps.getD k []) s = false := by simpa using h
    simp only [List.filter, h]
    simp
theorem want_len (ps : List (List UInt8)) (s : List UInt8) (k : Nat) : (want ps s k).length ≤ k := by
  unfold want
  rw [List.length_map]
  exact Nat.le_trans (List.length_filter_le _ _) (by rw [List.length_range]; exact Nat.le_refl _)
theorem want_mem (ps : List (List UInt8)) (s : List UInt8) (k : Nat) (z : Int) : z ∈ want ps s k ↔ ∃ i, i < k ∧ mat (ps.getD i []) s = true ∧ idx i = z := by
  unfold want
  simp only [List.mem_map, List.mem_filter, List.mem_range]
  constructor
  · rintro ⟨i, ⟨h1, h2⟩, h3⟩; exact ⟨i, h1, h2, h3⟩
  · rintro ⟨i, h1, h2, h3⟩; exact ⟨i, ⟨h1, h2⟩, h3⟩
theorem want_rising (ps : List (List UInt8)) (s : List UInt8) (k : Nat) : RisI (want ps s k) := by
  induction k with
  | zero => exact List.Pairwise.nil
  | succ k ih =>
    rw [want_succ]
    split
    · unfold RisI
      rw [List.pairwise_append]
      refine ⟨ih, List.pairwise_singleton _ _, fun a ha b hb => ?_⟩
      obtain ⟨i, h1, _, rfl⟩ := (want_mem ps s k a).1 ha
      simp only [List.mem_singleton] at hb
      subst hb
      unfold idx
      omega
    · exact ih
theorem mat_pat {p s : List UInt8} (h : mat p s = true) : pat p = true := by
  unfold mat covers at h
  cases hp : pat p with
  | true => rfl
  | false => rw [hp] at h; simp at h
theorem find_want (ps : List (List UInt8)) (s : List UInt8) (k : Nat) (hk : k ≤ 64) : findP (adds ps idx k) s = want ps s k := by
  refine risI_ext _ _ (find_rising _ _) (want_rising _ _ _) (fun z => ?_)
  rw [find_mem, want_mem]
  constructor
  · rintro ⟨p, h1, h2, h3⟩
    obtain ⟨i, hi, rfl, _⟩ := (adds_mem ps idx k hk p).1 h1
    exact ⟨i, hi, h2, h3⟩
  · rintro ⟨i, hi, h2, h3⟩
    exact ⟨_, (adds_mem ps idx k hk _).2 ⟨i, hi, rfl, mat_pat h2⟩, h2, h3⟩
end Go.Proofs.YtcicnbbnkeellaaGreatDoor

namespace Go.Proofs.YtcicnbbnkeellaaGreatDoor
open Go.RowKit Go.Lib
set_option maxRecDepth 100000

theorem txt_at {w wr : World} {a : Option Addr} {n c : Nat} {ps : List (List UInt8)} (h : To.RdV w (.slice a n c) (ps.map str)) (hb : Below w.heap.size w wr) {k : Nat} (hk : k < ps.length) :
    ∃ b o, a = some ⟨b, o, none⟩ ∧ wr.cell? ⟨b, o + k, none⟩ = some (.string ⟨(ps.getD k []).toArray⟩) := by
  obtain ⟨b, o, h1, h2⟩ := To.RdV.at (h.on hb) (j := k) (by rw [List.length_map]; exact hk)
  refine ⟨b, o, h1, ?_⟩
  rw [h2]
  simp [str, hk]
theorem getD_len {ps : List (List UInt8)} {B : Nat} (h : ∀ x ∈ ps, x.length ≤ B) (k : Nat) : (ps.getD k []).length ≤ B := by
  by_cases hk : k < ps.length
  · have := h _ (List.getElem_mem hk)
    simpa [hk] using this
  · simp [hk]

set_option maxHeartbeats 4000000 in
theorem matches_law (w : World) (hv : To.Vars w) (vp vn : Value) (ps ns : List (List UInt8)) (hp : To.RdV w vp (ps.map str)) (hn : To.RdV w vn (ns.map str)) (hpl : ∀ x ∈ ps, x.length ≤ maxLen) :
    Calls Tryz.prog 6 #[vp, vn] w fun e w' => e = .returned (.bool true) ∧ Below w.heap.size w w' := by
  have hwk := wakes_any w hv
  obtain ⟨ap, cp, rfl⟩ := hp.len
  obtain ⟨an, cn, rfl⟩ := hn.len
  rw [List.length_map] at hp hn ⊢
  rw [List.length_map]
  obtain ⟨n, hnn⟩ : ∃ n, ps.length = n := ⟨_, rfl⟩
  obtain ⟨m, hmm⟩ : ∃ m, ns.length = m := ⟨_, rfl⟩
  rw [hnn] at hp ⊢
  rw [hmm] at hn ⊢
  have HN : Hid (ps.length = n) := hnn
  have HM : Hid (ns.length = m) := hmm
  have HP : Hid (To.RdV w (.slice ap n cp) (ps.map str)) := hp
  have HNS : Hid (To.RdV w (.slice an m cn) (ns.map str)) := hn
  have HL : Hid (∀ k, (ps.getD k []).length ≤ 9223372036854775807) := fun k => getD_len hpl k
  have HV : Hid (To.Vars w) := hv
  clear hp hn hpl hnn hmm hv
  by_cases hA : 60 < n
  · have hAz : (60 : Int) < (n : Int) := by omega
    go_enter Tryz.func6, Tryz.ntmps6
    go_wp2_with (go_at_call 8; refine hwk.mono ?_; rintro e w1 ⟨rfl, hb1⟩)
    go_ret
    exact ⟨rfl, hb1⟩
  have hAz : ¬ (60 : Int) < (n : Int) := by omega
  by_cases hB : 40 < m
  · have hBz : (40 : Int) < (m : Int) := by omega
    go_enter Tryz.func6, Tryz.ntmps6
    go_wp2_with (go_at_call 8; refine hwk.mono ?_; rintro e w1 ⟨rfl, hb1⟩)
    go_ret
    exact ⟨rfl, hb1⟩
  have hBz : ¬ (40 : Int) < (m : Int) := by omega
  go_enter Tryz.func6, Tryz.ntmps6
  go_wp2_with fail
  refine hwk.mono ?_
  rintro e w1 ⟨rfl, hb1⟩
  have hnew := new_st (K := fun _ => False) hb1 (fun b h => h.elim)
  clear hwk
  go_wp2_with fail
  refine hnew.mono ?_
  rintro e w2 ⟨rfl, h2, _⟩
  obtain ⟨t, ht⟩ : ∃ t, w1.heap.size + 2 = t := ⟨_, rfl⟩
  rw [ht] at h2 ⊢
  have H2 : Hid (St w (fun _ => False) w2 t 0 []) := h2
  clear h2 hnew hb1 ht
  go_wp2_with fail
  go_loopg [6, 7, 26] n (fun gg _ _ s26 wr => ∃ kk : Nat, kk ≤ n ∧ n - kk ≤ gg ∧ s26 = .int .i64 kk ∧ Hid (St w (fun _ => False) wr t (8 * kk) (adds ps idx kk)))
  case atStart => exact ⟨0, Nat.zero_le _, by omega, rfl, H2.out⟩
  case round =>
    obtain ⟨kk, hkk, hg, rfl, HS⟩ := hrel
    clear H2
    by_cases hlt : kk < n
    · have hltz : (kk : Int) < (n : Int) := by omega
      obtain ⟨b, o, rfl, hc⟩ := txt_at HP.out HS.out.below (k := kk) (by rw [HN.out]; exact hlt)
      have ha := HS.out.add HV.out (ps.getD kk []) (HL.out kk) (idx kk) (by omega)
      simp only [str, idx] at ha
      generalize hx : (⟨(ps.getD kk []).toArray⟩ : ByteArray) = x at hc ha
      clear hx
      go_wp2_with fail
      refine ha.mono ?_
      rintro e w3 ⟨rfl, h3, _⟩
      have H3 : Hid (St w (fun _ => False) w3 t (8 * (kk + 1)) (adds ps idx (kk + 1))) := h3
      clear h3 ha hc HS
      go_wp2
      go_roundg (n - (kk + 1))
      case measure => omega
      case rel => exact ⟨kk + 1, by omega, by omega, by go_num, H3.out⟩
    · have hltz : ¬ (kk : Int) < (n : Int) := by omega
      obtain rfl : kk = n := by omega
      clear hg hkk
      go_wp2_with fail
      go_loopg [9, 10, 11, 12, 38] m (fun gg _ _ _ _ s38 wy => ∃ jj : Nat, jj ≤ m ∧ m - jj ≤ gg ∧ s38 = .int .i64 jj ∧ Hid (St w (fun _ => False) wy t (8 * kk) (adds ps idx kk)))
      case atStart => exact ⟨0, Nat.zero_le _, by omega, rfl, HS.out⟩
      case round =>
        obtain ⟨jj, hjj, hg, rfl, HS2⟩ := hrel
        clear HS
        by_cases hlj : jj < m
        · have hljz : (jj : Int) < (m : Int) := by omega
          obtain ⟨b2, o2, rfl, hc2⟩ := txt_at HNS.out HS2.out.below (k := jj) (by rw [HM.out]; exact hlj)
          obtain ⟨s, hs⟩ : ∃ s, ns.getD jj [] = s := ⟨_, rfl⟩
          rw [hs] at hc2
          obtain ⟨wy, hwy⟩ : ∃ wy, wy = wr := ⟨_, rfl⟩
          subst hwy
          clear hs
          go_wp2_with fail
          go_loopg [10, 11, 12, 44] kk (fun gg s10 _ _ s44 wz => ∃ (i : Nat) (a : Option Addr) (q c : Nat), i ≤ kk ∧ kk - i ≤ gg ∧ s44 = .int .i64 i ∧ s10 = .slice a q c ∧ Hid (To.OwnV 3 wz wy.heap.size (.slice a q c) (ints (want ps s i))) ∧ Hid (Below wy.heap.size wy wz))
          case atStart => exact ⟨0, none, 0, 0, Nat.zero_le _, by omega, rfl, rfl, To.OwnV.nil _ _ _, Below.refl _ _⟩
          case round =>
            obtain ⟨i, av, qv, cv, hik, hgi, rfl, rfl, HO, HB⟩ := hrel
            have HSz : Hid (St w (fun _ => False) wr t (8 * kk) (adds ps idx kk)) := HS2.out.on HB.out
            by_cases hli : i < kk
            · have hliz : (i : Int) < (kk : Int) := by omega
              obtain ⟨b, o, rfl, hc⟩ := txt_at HP.out HSz.out.below (k := i) (by rw [HN.out]; exact hli)
              have hma := To.match_any wr (HSz.out.vars HV.out) (ps.getD i []) s
              have hws := want_succ ps s i
              have hwl := want_len ps s i
              generalize mat (ps.getD i []) s = r at hma hws
              simp only [To.str] at hma
              generalize hx : (⟨(ps.getD i []).toArray⟩ : ByteArray) = x at hc hma
              clear hx
              cases r with
              | false =>
                rw [if_neg (by simp)] at hws
                have HW : Hid (want ps s (i + 1) = want ps s i) := hws
                clear hws
                go_wp2_with fail
                refine hma.mono ?_
                rintro e w5 ⟨rfl, hb5⟩
                have HO5 : Hid (To.OwnV 3 w5 wy.heap.size (.slice av qv cv) (ints (want ps s (i + 1)))) := by
                  show To.OwnV _ _ _ _ _
                  rw [HW.out]
                  exact HO.out.on hb5
                have HB5 : Hid (Below wy.heap.size wy w5) := nxt HB.out hb5
                clear hma hb5 HO HB HSz hc hc2
                go_wp2
                go_roundg (kk - (i + 1))
                case measure => omega
                case rel => exact ⟨i + 1, av, qv, cv, by omega, by omega, by go_num, rfl, HO5.out, HB5.out⟩
              | true =>
                rw [if_pos rfl] at hws
                have HW : Hid (want ps s (i + 1) = want ps s i ++ [(i : Int)]) := hws
                clear hws
                go_wp2_with fail
                refine hma.mono ?_
                rintro e w5 ⟨rfl, hb5⟩
                have ho5 := HO.out.on hb5
                have hb6 : Below wy.heap.size wy w5 := nxt HB.out hb5
                have HO5 : Hid (To.OwnV 3 (w5.alloc (.cells #[.int .i64 (i : Int)] 3)) wy.heap.size (.slice av qv cv) (ints (want ps s i))) := ho5.on ((Below.refl _ _).alloc (Nat.le_refl _) _)
                have HB5 : Hid (Below wy.heap.size wy w5) := hb6
                have hsz5 := hb6.size
                have hll : (ints (want ps s i)).length + [Value.int .i64 (i : Int)].length ≤ 1000000 := by simp [ints]; omega
                clear hma hb5 HO HB HSz hc hc2 ho5 hb6
                go_wp2_with (at_builtin; refine To.wpl_appV cI rfl _ _ rfl wy.heap.size (.slice av qv cv) (.slice (some ⟨w5.heap.size, 0, none⟩) 1 1) (ints (want ps s i)) [.int .i64 (i : Int)] _ rfl HO5.out rfl (To.new_x3 _ _) (fun u hu => by simp at hu; subst hu; rfl) hll (by simp; omega) ?_; intro v' w' hO3 hB3 hK3)
                obtain ⟨a3, c3, rfl, _⟩ := hO3.out.len
                have HO6 : Hid (To.OwnV 3 w' wy.heap.size (.slice a3 (ints (want ps s i) ++ [Value.int .i64 (i : Int)]).length c3) (ints (want ps s (i + 1)))) := by
                  show To.OwnV _ _ _ _ _
                  rw [HW.out]
                  have h9 := hO3.out
                  unfold ints at h9 ⊢
                  rw [List.map_append]
                  exact h9
                have HB6 : Hid (Below wy.heap.size wy w') := (HB5.out.alloc hsz5 _).trans hB3.out
                generalize (ints (want ps s i) ++ [Value.int .i64 (i : Int)]).length = q3 at *
                clear hO3 hB3 hK3 HO5 HB5 hll
                go_wp2
                go_roundg (kk - (i + 1))
                case measure => omega
                case rel => exact ⟨i + 1, a3, q3, c3, by omega, by omega, by go_num, rfl, HO6.out, HB6.out⟩
            · have hliz : ¬ (i : Int) < (kk : Int) := by omega
              obtain rfl : i = kk := by omega
              have hf := HSz.out.find HV.out s
              rw [find_want ps s i (by omega)] at hf
              simp only [str] at hf
              clear hc2
              go_wp2_with fail
              refine hf.mono ?_
              rintro e w6 ⟨v6, rfl, ho6, hb6⟩
              have hsa := To.same_any w6 v6 (.slice av qv cv) (want ps s i) (want ps s i) ho6.rd (HO.out.rd.on hb6) (by have := want_len ps s i; omega)
              have HS6 : Hid (St w (fun _ => False) w6 t (8 * i) (adds ps idx i)) := HSz.out.on hb6
              rw [decide_eq_true rfl] at hsa
              clear hf HO HB HSz ho6 hb6
              go_wp2_with fail
              refine hsa.mono ?_
              rintro e w7 ⟨rfl, d7, rfl⟩
              have HS7 : Hid (St w (fun _ => False) (w6.drewN d7) t (8 * i) (adds ps idx i)) := HS6.out.on (To.below_drawn _ _)
              clear hsa HS6
              go_wp2
              go_roundg (m - (jj + 1))
              case measure => omega
              case rel => exact ⟨jj + 1, by omega, by omega, by go_num, HS7.out⟩
        · have hljz : ¬ (jj : Int) < (m : Int) := by omega
          have HB : Hid (Below w.heap.size w wr) := HS2.out.below
          go_wp2
          go_ret
          exact ⟨rfl, HB.out⟩
end Go.Proofs.YtcicnbbnkeellaaGreatDoor

namespace Go.Proofs.YtcicnbbnkeellaaGreatDoor
open Go.RowKit Go.Lib
set_option maxRecDepth 100000

theorem pr_at {w : World} {a : Option Addr} {n c : Nat} {l : List Pr} (h : RdPr w (.slice a n c) l) {k : Nat} (hk : k < l.length) :
    ∃ b o, a = some ⟨b, o, none⟩ ∧ w.cell? ⟨b, o + k * 2, none⟩ = some (.string ⟨l[k].1.toArray⟩) ∧ w.cell? ⟨b, o + k * 2 + 1, none⟩ = some (.int .i64 l[k].2) := by
  rcases h with ⟨⟨a', c', _⟩, rfl⟩ | ⟨b, o, c', h1, h2, h3⟩
  · simp at hk
  · injection h1 with h1 _ _
    refine ⟨b, o, h1, ?_, ?_⟩
    · have := h3 (k * 2 + 0) _ (prs_at l k hk 0 (by omega))
      simpa [str] using this
    · have := h3 (k * 2 + 1) _ (prs_at l k hk 1 (by omega))
      rw [← Nat.add_assoc] at this
      exact this
theorem OwnPr.kept {w w' : World} {B : Nat} {v : Value} {l : List Pr} (h : OwnPr w B v l) (hk : Kp (fun b => v.ownBlock = some b) w w') : OwnPr w' B v l := by
  obtain ⟨hl, h⟩ := h
  refine ⟨hl, ?_⟩
  rcases h with h | ⟨g, cap, cur, rfl, hg, hc, h⟩
  · exact .inl h
  · exact .inr ⟨g, cap, cur, rfl, hg, by rw [hk.keep g rfl]; exact hc, h⟩
theorem OwnPr.blk {w : World} {B : Nat} {v : Value} {l : List Pr} (h : OwnPr w B v l) {b : Nat} (hb : v.ownBlock = some b) : B ≤ b ∧ b < w.heap.size := by
  obtain ⟨hl, h⟩ := h
  rcases h with ⟨rfl, _⟩ | ⟨g, cap, cur, rfl, hg, hc, h⟩
  · cases hb
  · injection hb with hb
    subst hb
    exact ⟨hg, lt_of_some hc⟩
/-- Blocks that a call has laid are none of the trie's. -/
theorem St.watch {w0 W w' : World} {K : Nat → Prop} {t N : Nat} {l : List Pr} (h : St w0 (fun _ => False) W t N l) (hb : Below W.heap.size W w') (hK : ∀ b, K b → W.heap.size ≤ b ∧ b < w'.heap.size) : St w0 K w' t N l := by
  obtain ⟨X, h1, h2⟩ := h.tr
  exact ⟨⟨X, h1.below hb, fun b hx => ⟨(h2 b hx).1, fun hk => by have := (hK b hk).1; have := h1.lt hx; omega⟩⟩, nxt h.below hb, fun b hk => (hK b hk).2⟩
theorem addC_why {l : List Pr} {p : List UInt8} {z : Int} (hl : l.length < 64) (hp : ∀ x ∈ l, pat x.1 = true) : (addC l p z = 32 ↔ (p, z) ∈ l) ∧ (addC l p z = 0 → pat p = true ∧ (p, z) ∉ l) := by
  unfold addC
  cases hpp : pat p with
  | false =>
    rw [if_pos rfl]
    refine ⟨⟨fun h => absurd h (by decide), fun h => ?_⟩, fun h => absurd h (by decide)⟩
    have := hp _ h
    rw [hpp] at this
    cases this
  | true =>
    rw [if_neg (by simp)]
    by_cases hm : (p, z) ∈ l
    · rw [if_pos hm]
      exact ⟨⟨fun _ => hm, fun _ => rfl⟩, fun h => absurd h (by decide)⟩
    · rw [if_neg hm, if_neg (by omega)]
      exact ⟨⟨fun h => absurd h (by decide), fun h => absurd h hm⟩, fun _ => ⟨rfl, hm⟩⟩
theorem undo_facts {l : List Pr} {p : List UInt8} {z : Int} (hr : Rising l) (hp : pat p = true) (hm : (p, z) ∉ l) : addC (addP l (p, z)) p z = 32 ∧ addR (addP l (p, z)) p z = addP l (p, z) ∧ (p, z) ∈ addP l (p, z) ∧ (addP l (p, z)).erase (p, z) = l ∧ l.erase (p, z) = l := by
  have h1 : (p, z) ∈ addP l (p, z) := (add_mem _ _ _).2 (.inl rfl)
  have h2 : addC (addP l (p, z)) p z = 32 := by unfold addC; rw [if_neg (by rw [hp]; simp), if_pos h1]
  refine ⟨h2, addR_eq h2 (by decide), h1, ?_, List.erase_of_not_mem hm⟩
  have h3 := add_rising l (p, z) hr hm
  refine rising_ext _ _ (drop_rising _ _ h3) hr (fun y => ?_)
  rw [drop_mem _ _ _ h3, add_mem]
  constructor
  · rintro ⟨e, h | h⟩
    · exact absurd h e
    · exact h
  · intro h
    exact ⟨fun e => hm (e ▸ h), .inr h⟩
end Go.Proofs.YtcicnbbnkeellaaGreatDoor

namespace Go.Proofs.YtcicnbbnkeellaaGreatDoor
open Go.RowKit Go.Lib
set_option maxRecDepth 100000

theorem addC_To : To.addC = addC := rfl
theorem addR_To : To.addR = addR := rfl
/-- The blocks of the document's trie. -/
def ZR (q : Nat) (vp vi : Value) (b : Nat) : Prop := b = q ∨ vp.ownBlock = some b ∨ vi.ownBlock = some b
theorem own_lt {e : TypeId} {w : World} {B : Nat} {v : Value} {xs : List Value} (h : To.OwnV e w B v xs) {b : Nat} (hb : v.ownBlock = some b) : b < w.heap.size := by
  obtain ⟨_, ⟨rfl, _⟩ | ⟨g, cap, cur, rfl, _, h2, _⟩⟩ := h
  · cases hb
  · injection hb with hb
    subst hb
    exact lt_of_some h2
theorem own_same {e : TypeId} {w w' : World} {B : Nat} {v : Value} {xs : List Value} (h : To.OwnV e w B v xs) (hk : ∀ b, v.ownBlock = some b → w'.heap[b]? = w.heap[b]?) : To.OwnV e w' B v xs := by
  obtain ⟨h1, h2 | ⟨g, cap, cur, rfl, h3, h4, h5⟩⟩ := h
  · exact ⟨h1, .inl h2⟩
  · exact ⟨h1, .inr ⟨g, cap, cur, rfl, h3, by rw [hk g rfl]; exact h4, h5⟩⟩
theorem rt_lt {w : World} {B q : Nat} {T : TypeId} {vp vi : Value} {l : List Pr} (h : To.RTr w B q T vp vi l) {b : Nat} (hb : ZR q vp vi b) : b < w.heap.size := by
  rcases hb with rfl | hb | hb
  · exact h.lt
  · exact own_lt h.ps hb
  · exact own_lt h.is hb
theorem rt_on {w w' : World} {B q : Nat} {T : TypeId} {vp vi : Value} {l : List Pr} (h : To.RTr w B q T vp vi l) (hk : ∀ b, ZR q vp vi b → w'.heap[b]? = w.heap[b]?) : To.RTr w' B q T vp vi l :=
  ⟨(hk q (.inl rfl)).trans h.blk, h.up, own_same h.ps (fun b hb => hk b (.inr (.inl hb))), own_same h.is (fun b hb => hk b (.inr (.inr hb))), h.ty⟩

/-- Both tries, made by the law, none of whose blocks is in K. -/
structure StR (w0 : World) (K : Nat → Prop) (W : World) (t N : Nat) (lt : List Pr) (q : Nat) (T : TypeId) (lu : List Pr) : Prop where
  tr : ∃ X vp vi, PT W X t N lt ∧ To.RTr W w0.heap.size q T vp vi lu ∧ (∀ b, X b → w0.heap.size ≤ b ∧ ¬ K b ∧ ¬ ZR q vp vi b) ∧ (∀ b, ZR q vp vi b → ¬ K b)
  below : Below w0.heap.size w0 W
  lt : ∀ b, K b → b < W.heap.size
theorem StR.on {w0 W w' : World} {K : Nat → Prop} {t N q : Nat} {lt lu : List Pr} {T : TypeId} (h : StR w0 K W t N lt q T lu) (hb : Below W.heap.size W w') : StR w0 K w' t N lt q T lu := by
  obtain ⟨X, vp, vi, h1, h2, h3, h4⟩ := h.tr
  exact ⟨⟨X, vp, vi, h1.below hb, h2.on hb, h3, h4⟩, nxt h.below hb, fun b hk => Nat.lt_of_lt_of_le (h.lt b hk) hb.size⟩
theorem StR.facts {w0 W : World} {K : Nat → Prop} {t N q : Nat} {lt lu : List Pr} {T : TypeId} (h : StR w0 K W t N lt q T lu) : (∀ x ∈ lt, pat x.1 = true) ∧ Rising lt ∧ lt.length ≤ 64 := by
  obtain ⟨X, vp, vi, h1, h2, h3, h4⟩ := h.tr
  exact h1.facts
theorem StR.one {w0 W : World} {K : Nat → Prop} {t N q : Nat} {lt lu : List Pr} {T : TypeId} (h : StR w0 K W t N lt q T lu) : St w0 K W t N lt := by
  obtain ⟨X, vp, vi, h1, h2, h3, h4⟩ := h.tr
  exact ⟨⟨X, h1, fun b hx => ⟨(h3 b hx).1, (h3 b hx).2.1⟩⟩, h.below, h.lt⟩
theorem StR.of_fr {w0 W w' : World} {K X X' : Nat → Prop} {t N' q : Nat} {lt' lu : List Pr} {T : TypeId} {vp vi : Value} (h2 : To.RTr W w0.heap.size q T vp vi lu) (h3 : ∀ b, X b → w0.heap.size ≤ b ∧ ¬ K b ∧ ¬ ZR q vp vi b) (h4 : ∀ b, ZR q vp vi b → ¬ K b)
    (hb : Below w0.heap.size w0 W) (hk : ∀ b, K b → b < W.heap.size) (h5 : PT w' X' t N' lt') (h6 : Fr X X' W w') : StR w0 K w' t N' lt' q T lu ∧ Kp K W w' := by
  refine ⟨⟨⟨X', vp, vi, h5, rt_on h2 (fun b hz => h6.keep b (rt_lt h2 hz) (fun hx => (h3 b hx).2.2 hz)), fun b hx => ?_, h4⟩, hb.trans (h6.below (fun b hx => (h3 b hx).1) hb.size), fun b hkb => Nat.lt_of_lt_of_le (hk b hkb) h6.size⟩, h6.size, fun b hkb => h6.keep b (hk b hkb) (fun hx => (h3 b hx).2.1 hkb)⟩
  rcases h6.new b hx with h | h
  · exact h3 b h
  · exact ⟨Nat.le_trans hb.size h, fun hkb => by have := hk b hkb; omega, fun hz => by have := rt_lt h2 hz; omega⟩
theorem StR.add {w0 W : World} {K : Nat → Prop} {t N q : Nat} {lt lu : List Pr} {T : TypeId} (h : StR w0 K W t N lt q T lu) (hv : To.Vars w0) (p : List UInt8) (hpl : p.length ≤ 9223372036854775807) (z : Int) (hN : N ≤ 1000000) :
    Calls Tryz.prog 10 #[.pointer (some ⟨t, 0, none⟩), str p, .int .i64 z] W fun e w' => e = .returned (.int .i64 (addC lt p z)) ∧ StR w0 K w' t (N + 8) (addR lt p z) q T lu ∧ Kp K W w' := by
  obtain ⟨X, vp, vi, h1, h2, h3, h4⟩ := h.tr
  refine (add_any W X t N lt h1 (hv.below h.below) p hpl z hN).mono ?_
  rintro e w' ⟨rfl, X', h6, h7⟩
  exact ⟨rfl, StR.of_fr h2 h3 h4 h.below h.lt h6 h7⟩
theorem StR.drop {w0 W : World} {K : Nat → Prop} {t N q : Nat} {lt lu : List Pr} {T : TypeId} (h : StR w0 K W t N lt q T lu) (p : List UInt8) (hpl : p.length ≤ 9223372036854775807) (z : Int) :
    Calls Tryz.prog 12 #[.pointer (some ⟨t, 0, none⟩), str p, .int .i64 z] W fun e w' => e = .returned (.int .i64 (if (p, z) ∈ lt then 0 else 33)) ∧ StR w0 K w' t N (lt.erase (p, z)) q T lu ∧ Kp K W w' := by
  obtain ⟨X, vp, vi, h1, h2, h3, h4⟩ := h.tr
  refine (drop_any W X t N lt h1 p hpl z).mono ?_
  rintro e w' ⟨rfl, X', h6, h7⟩
  exact ⟨rfl, StR.of_fr h2 h3 h4 h.below h.lt h6 h7⟩
theorem StR.of_fq {w0 W w' : World} {K X : Nat → Prop} {t N q : Nat} {lt lu' : List Pr} {T : TypeId} {vp vi v1 v2 : Value} (h1 : PT W X t N lt) (hup : w0.heap.size ≤ q) (h3 : ∀ b, X b → w0.heap.size ≤ b ∧ ¬ K b ∧ ¬ ZR q vp vi b) (h4 : ∀ b, ZR q vp vi b → ¬ K b)
    (hb : Below w0.heap.size w0 W) (hk : ∀ b, K b → b < W.heap.size) (h5 : To.RTr w' w0.heap.size q T v1 v2 lu') (h6 : To.Fq q W w')
    (n1 : ∀ b, v1.ownBlock = some b → vp.ownBlock = some b ∨ W.heap.size ≤ b) (n2 : ∀ b, v2.ownBlock = some b → vi.ownBlock = some b ∨ W.heap.size ≤ b) : StR w0 K w' t N lt q T lu' ∧ Kp K W w' := by
  have hz : ∀ b, ZR q v1 v2 b → ZR q vp vi b ∨ W.heap.size ≤ b := fun b hb => by
    rcases hb with h | h | h
    · exact .inl (.inl h)
    · rcases n1 b h with h | h
      · exact .inl (.inr (.inl h))
      · exact .inr h
    · rcases n2 b h with h | h
      · exact .inl (.inr (.inr h))
      · exact .inr h
  refine ⟨⟨⟨X, v1, v2, h1.on (fun b hx => h6.block b (h1.lt hx) (fun e => (h3 b hx).2.2 (.inl e))), h5, fun b hx => ⟨(h3 b hx).1, (h3 b hx).2.1, fun hz1 => ?_⟩, fun b hz1 hkb => ?_⟩, ?_, fun b hkb => Nat.lt_of_lt_of_le (hk b hkb) h6.size⟩, h6.size, fun b hkb => h6.block b (hk b hkb) (fun e => h4 b (.inl e) hkb)⟩
  · rcases hz b hz1 with h | h
    · exact (h3 b hx).2.2 h
    · have := h1.lt hx
      omega
  · rcases hz b hz1 with h | h
    · exact h4 b h hkb
    · have := hk b hkb
      omega
  · refine hb.trans ⟨h6.os, h6.tape, h6.output, h6.size, fun k hk => h6.block k (Nat.lt_of_lt_of_le hk hb.size) (by omega)⟩
theorem StR.radd {w0 W : World} {K : Nat → Prop} {t N q : Nat} {lt lu : List Pr} {T : TypeId} (h : StR w0 K W t N lt q T lu) (hl : lu.length ≤ 64) (p : List UInt8) (z : Int) :
    Calls Tryz.prog 11 #[.pointer (some ⟨q, 0, none⟩), str p, .int .i64 z] W fun e w' => e = .returned (.int .i64 (addC lu p z)) ∧ StR w0 K w' t N lt q T (addR lu p z) ∧ Kp K W w' := by
  obtain ⟨X, vp, vi, h1, h2, h3, h4⟩ := h.tr
  refine (To.radd_new W w0.heap.size q T vp vi lu h2 hl p z).mono ?_
  rintro e w' ⟨⟨v1, v2, h5, n1, n2⟩, h6, rfl⟩
  exact ⟨rfl, StR.of_fq h1 h2.up h3 h4 h.below h.lt h5 h6 n1 n2⟩
theorem StR.rdrop {w0 W : World} {K : Nat → Prop} {t N q : Nat} {lt lu : List Pr} {T : TypeId} (h : StR w0 K W t N lt q T lu) (hl : lu.length ≤ 64) (p : List UInt8) (z : Int) :
    Calls Tryz.prog 13 #[.pointer (some ⟨q, 0, none⟩), str p, .int .i64 z] W fun e w' => e = .returned (.int .i64 (if (p, z) ∈ lu then 0 else 33)) ∧ StR w0 K w' t N lt q T (lu.erase (p, z)) ∧ Kp K W w' := by
  obtain ⟨X, vp, vi, h1, h2, h3, h4⟩ := h.tr
  refine (To.rdrop_new W w0.heap.size q T vp vi lu h2 h.below.size (by omega) p z).mono ?_
  rintro e w' ⟨⟨v1, v2, h5, n1, n2⟩, h6, rfl⟩
  exact ⟨rfl, StR.of_fq h1 h2.up h3 h4 h.below h.lt h5 h6 n1 n2⟩
theorem StR.rfind {w0 W : World} {K : Nat → Prop} {t N q : Nat} {lt lu : List Pr} {T : TypeId} (h : StR w0 K W t N lt q T lu) (hl : lu.length ≤ 64) (hp : ∀ x ∈ lu, pat x.1 = true) (s : List UInt8) :
    Calls Tryz.prog 16 #[.pointer (some ⟨q, 0, none⟩), str s] W fun e w' => ∃ v, e = .returned v ∧ To.OwnV 3 w' W.heap.size v (ints (findP lu s)) ∧ Below W.heap.size W w' := by
  obtain ⟨X, vp, vi, h1, h2, h3, h4⟩ := h.tr
  refine (To.rfind_any W w0.heap.size q T vp vi lu h2 (by omega) (fun x hx => (pat_nums (hp x hx)).1) s).mono ?_
  rintro e w' ⟨⟨v, rfl, h5⟩, h6⟩
  exact ⟨v, rfl, h5, h6⟩
end Go.Proofs.YtcicnbbnkeellaaGreatDoor

namespace Go.Proofs.YtcicnbbnkeellaaGreatDoor
open Go.RowKit Go.Lib
set_option maxRecDepth 100000

theorem St.boxed {w0 W : World} {t N : Nat} {l : List Pr} (h : St w0 (fun _ => False) W t N l) : StR w0 (fun _ => False) (W.alloc (.cells #[.slice none 0 0, .slice none 0 0] 30)) t N l W.heap.size 30 [] := by
  obtain ⟨X, h1, h2⟩ := h.tr
  have hb : Below W.heap.size W (W.alloc (.cells #[.slice none 0 0, .slice none 0 0] 30)) := (Below.refl _ _).alloc (Nat.le_refl _) _
  refine ⟨⟨X, .slice none 0 0, .slice none 0 0, h1.below hb, ⟨?_, h.below.size, To.OwnV.nil _ _ _, To.OwnV.nil _ _ _, by decide⟩, fun b hx => ⟨(h2 b hx).1, fun h => h, fun hz => ?_⟩, fun b _ h => h⟩, nxt h.below hb, fun b h => h.elim⟩
  · rw [alloc_at', if_pos rfl]
  · have := h1.lt hx
    rcases hz with rfl | hz | hz
    · omega
    · cases hz
    · cases hz
theorem StR.new {w0 W : World} {t N q : Nat} {lt lu : List Pr} {T : TypeId} (h : StR w0 (fun _ => False) W t N lt q T lu) : Calls Tryz.prog 9 #[] W fun e w' => e = .returned (.pointer (some ⟨W.heap.size + 2, 0, none⟩)) ∧ ∃ Y, PT w' Y (W.heap.size + 2) 0 [] ∧ StR w0 Y w' t N lt q T lu := by
  obtain ⟨X, vp, vi, h1, h2, h3, h4⟩ := h.tr
  refine (new_any W).mono ?_
  rintro e w' ⟨rfl, Y, h5, h6⟩
  have hb : Below W.heap.size W w' := h6.below (fun b h => h.elim) (Nat.le_refl _)
  have hY : ∀ b, Y b → W.heap.size ≤ b := fun b hy => by
    rcases h6.new b hy with h | h
    · exact h.elim
    · exact h
  exact ⟨rfl, Y, h5, ⟨⟨X, vp, vi, h1.below hb, h2.on hb, fun b hx => ⟨(h3 b hx).1, fun hy => by have := hY b hy; have := h1.lt hx; omega, (h3 b hx).2.2⟩, fun b hz hy => by have := hY b hy; have := rt_lt h2 hz; omega⟩, nxt h.below hb, fun b hy => h5.lt hy⟩⟩
/-- A row that may be written over. -/
def Wr (e B : Nat) (w : World) (a : Option Addr) (n k : Nat) : Prop := 0 < n → ∃ g cur, a = some ⟨g, 0, none⟩ ∧ B ≤ g ∧ w.heap[g]? = some (.cells cur e (0, 0)) ∧ n * k ≤ cur.size
theorem wr_of {e B k n c : Nat} {w : World} {a : Option Addr} {m : Nat} {xs : List Value} (h : w.ownsRow B e k (.slice a n c) m xs) : Wr e B w a n k := by
  obtain ⟨h1, ⟨h2, h3⟩ | ⟨g, cap, cur, h2, h3, h4, h5, h6, h7, h8⟩⟩ := h
  · injection h2 with h2 h2' _
    intro h; omega
  · injection h2 with h2 h2' _
    intro _
    refine ⟨g, cur, h2, h3, h4, ?_⟩
    have h9 := congrArg List.length h8
    rw [List.length_take] at h9
    subst h2'
    have : xs.length ≤ cur.size := by simp at h9; omega
    omega
theorem Wr.set {e B n k : Nat} {w : World} {g i : Nat} {u : Value} (h : Wr e B w (some ⟨g, 0, none⟩) n k) : Wr e B (w.setCell ⟨g, i, none⟩ u) (some ⟨g, 0, none⟩) n k := fun hn => by
  obtain ⟨g', cur, e1, h2, h3, h4⟩ := h hn
  injection e1 with e1
  injection e1 with e1
  subst e1
  refine ⟨g, cur.setIfInBounds i u, rfl, h2, ?_, by simpa using h4⟩
  simp only [World.setCell, Array.getElem?_modify, if_pos, h3]
  simp
theorem Wr.cell {e B n k : Nat} {w : World} {a : Option Addr} (h : Wr e B w a n k) {i : Nat} (hn : 0 < n) (hi : i < n * k) : ∃ g u, a = some ⟨g, 0, none⟩ ∧ B ≤ g ∧ w.cell? ⟨g, i, none⟩ = some u ∧ w.frozen? ⟨g, i, none⟩ = false := by
  obtain ⟨g, cur, e1, h2, h3, h4⟩ := h hn
  refine ⟨g, cur[i]'(by omega), e1, h2, ?_, ?_⟩
  · unfold World.cell?
    rw [h3]
    simp [show i < cur.size by omega]
  · unfold World.frozen?
    rw [h3]
    simp
end Go.Proofs.YtcicnbbnkeellaaGreatDoor

namespace Go.Proofs.YtcicnbbnkeellaaGreatDoor
open Go.RowKit Go.Lib
set_option maxRecDepth 100000

theorem add_nil (w : World) (p : ByteArray) (z : Int) : Calls Tryz.prog 10 #[.pointer none, .string p, .int .i64 z] w fun e w' => e = .returned (.int .i64 2) ∧ Below w.heap.size w w' := by
  go_enter Tryz.func10, Tryz.ntmps10
  go_wp2
  go_ret
  exact ⟨rfl, Below.refl _ _⟩
theorem drop_nil (w : World) (p : ByteArray) (z : Int) : Calls Tryz.prog 12 #[.pointer none, .string p, .int .i64 z] w fun e w' => e = .returned (.int .i64 2) ∧ Below w.heap.size w w' := by
  go_enter Tryz.func12, Tryz.ntmps12
  go_wp2
  go_ret
  exact ⟨rfl, Below.refl _ _⟩
theorem all_nil (w : World) : Calls Tryz.prog 18 #[.pointer none] w fun e w' => e = .returned (.slice none 0 0) ∧ Below w.heap.size w w' := by
  go_enter Tryz.func18, Tryz.ntmps18
  go_wp2
  go_ret
  exact ⟨rfl, Below.refl _ _⟩
theorem len_nil (w : World) : Calls Tryz.prog 17 #[.pointer none] w fun e w' => e = .returned (.int .i64 0) ∧ Below w.heap.size w w' := by
  have ha := all_nil w
  go_enter Tryz.func17, Tryz.ntmps17
  go_wp2_with fail
  refine ha.mono ?_
  rintro e w1 ⟨rfl, hb⟩
  go_wp2
  go_ret
  exact ⟨rfl, hb⟩
theorem find_nil (w : World) (p : ByteArray) : Calls Tryz.prog 15 #[.pointer none, .string p] w fun e w' => e = .returned (.slice none 0 0) ∧ Below w.heap.size w w' := by
  go_enter Tryz.func15, Tryz.ntmps15
  go_wp2
  go_ret
  exact ⟨rfl, Below.refl _ _⟩
end Go.Proofs.YtcicnbbnkeellaaGreatDoor

namespace Go.Proofs.YtcicnbbnkeellaaGreatDoor
open Go.RowKit Go.Lib
set_option maxRecDepth 100000
set_option linter.unusedSimpArgs false

theorem StR.watch {w0 W w' : World} {K : Nat → Prop} {t N q : Nat} {lt lu : List Pr} {T : TypeId} (h : StR w0 (fun _ => False) W t N lt q T lu) (hb : Below W.heap.size W w') (hK : ∀ b, K b → W.heap.size ≤ b ∧ b < w'.heap.size) : StR w0 K w' t N lt q T lu := by
  obtain ⟨X, vp, vi, h1, h2, h3, h4⟩ := h.tr
  exact ⟨⟨X, vp, vi, h1.below hb, h2.on hb, fun b hx => ⟨(h3 b hx).1, fun hk => by have := (hK b hk).1; have := h1.lt hx; omega, (h3 b hx).2.2⟩, fun b hz hk => by have := (hK b hk).1; have := rt_lt h2 hz; omega⟩, nxt h.below hb, fun b hk => (hK b hk).2⟩
theorem StR.free {w0 W : World} {K : Nat → Prop} {t N q : Nat} {lt lu : List Pr} {T : TypeId} (h : StR w0 K W t N lt q T lu) : StR w0 (fun _ => False) W t N lt q T lu := by
  obtain ⟨X, vp, vi, h1, h2, h3, h4⟩ := h.tr
  exact ⟨⟨X, vp, vi, h1, h2, fun b hx => ⟨(h3 b hx).1, fun h => h, (h3 b hx).2.2⟩, fun _ _ h => h⟩, h.below, fun _ h => h.elim⟩
theorem cl_at {w W : World} {a : Option Addr} {n c : Nat} {l : List To.Cl} (h : To.RdC w (.slice a n c) l) (hb : Below w.heap.size w W) {k : Nat} (hk : k < l.length) :
    ∃ b o, a = some ⟨b, o, none⟩ ∧ W.cell? ⟨b, o + k * 3, none⟩ = some (.int .i64 l[k].kind) ∧ W.cell? ⟨b, o + k * 3 + 1, none⟩ = some (.int .i64 l[k].num) ∧ W.cell? ⟨b, o + k * 3 + 2, none⟩ = some (.string ⟨l[k].text.toArray⟩) := by
  rcases h with ⟨_, rfl⟩ | ⟨b, o, c', e, _, h⟩
  · simp at hk
  · injection e with e1 e2 e3
    obtain ⟨h1, h2, h3⟩ := h k hk
    exact ⟨b, o, e1, (hb.cell (World.block_lt_of_cell? w _ h1)).trans h1, (hb.cell (World.block_lt_of_cell? w _ h2)).trans h2, (hb.cell (World.block_lt_of_cell? w _ h3)).trans h3⟩
theorem vcells {W : World} {V : Nat} {a b c : Value} (h : W.heap[V]? = some (.cells #[a, b, c] 32 (0, 0))) : W.cell? ⟨V, 1, none⟩ = some b ∧ W.cell? ⟨V, 2, none⟩ = some c := ⟨cell_of_row W V 1 _ _ _ h, cell_of_row W V 2 _ _ _ h⟩

set_option maxHeartbeats 4000000 in
theorem does_law (w : World) (hv : To.Vars w) (a : Option Addr) (n c : Nat) (l : List To.Cl) (hp : To.RdC w (.slice a n c) l) (hn : l.length = n) (hl : ∀ y ∈ l, To.InC y) :
    Calls Tryz.prog 3 #[.slice a n c] w fun e w' => e = .returned (.bool true) ∧ Below w.heap.size w w' := by
  have hwk := wakes_any w hv
  have hmix : Tryz.prog.follows .mixedOrders = true := by kernel_rfl
  have HN : Hid (l.length = n) := hn
  have HP : Hid (To.RdC w (.slice a n c) l) := hp
  have HL : Hid (∀ y ∈ l, To.InC y) := hl
  have HV : Hid (To.Vars w) := hv
  clear hp hl hn hv
  by_cases hA : 300 < n
  · have hAz : (300 : Int) < (n : Int) := by omega
    go_enter Tryz.func3, Tryz.ntmps3
    go_wp2_with (go_at_call 8; refine hwk.mono ?_; rintro e w1 ⟨rfl, hb1⟩)
    go_ret
    exact ⟨rfl, hb1⟩
  have hAz : ¬ (300 : Int) < (n : Int) := by omega
  go_enter Tryz.func3, Tryz.ntmps3
  go_wp2_with fail
  refine hwk.mono ?_
  rintro e w1 ⟨rfl, hb1⟩
  have hnew := new_st (K := fun _ => False) hb1 (fun b h => h.elim)
  clear hwk
  go_wp2_with fail
  refine hnew.mono ?_
  rintro e w2 ⟨rfl, h2, _⟩
  obtain ⟨t, ht⟩ : ∃ t, w1.heap.size + 2 = t := ⟨_, rfl⟩
  rw [ht] at h2 ⊢
  have h3 := h2.boxed
  obtain ⟨q, hq⟩ : ∃ q, w2.heap.size = q := ⟨_, rfl⟩
  rw [hq] at h3
  have H3 : Hid (StR w (fun _ => False) (w2.alloc (.cells #[.slice none 0 0, .slice none 0 0] 30)) t 0 [] q 30 []) := h3
  clear hnew hb1 ht h2 h3
  go_wp2_with fail
  go_loopg [21] n (fun gg s21 wr => ∃ (kk : Nat) (lp : List Pr) (N0 : Nat), kk ≤ n ∧ n - kk ≤ gg ∧ s21 = .int .i64 kk ∧ N0 ≤ 8 * kk ∧ Hid (StR w (fun _ => False) wr t N0 lp q 30 lp))
  case atStart => exact ⟨0, [], 0, Nat.zero_le _, by omega, rfl, by omega, H3.out⟩
  case round =>
    obtain ⟨kk, lp, N0, hkk, hg, rfl, hN0, HS⟩ := hrel
    clear H3 hq
    obtain ⟨wr, hwr⟩ : ∃ W, W = wr := ⟨_, rfl⟩
    subst hwr
    by_cases hlt : kk < n
    · have hltz : (kk : Int) < (n : Int) := by omega
      obtain ⟨b, o, rfl, c0, c1, c2⟩ := cl_at HP.out HS.out.below (k := kk) (by rw [HN.out]; exact hlt)
      have HT : Hid ((l[kk]'(by rw [HN.out]; exact hlt)).text.length ≤ 9223372036854775807) := by
        have := (HL.out _ (List.getElem_mem (l := l) (n := kk) (by rw [HN.out]; exact hlt))).2.2
        exact this
      generalize (l[kk]'(by rw [HN.out]; exact hlt)).text = tx at *
      generalize (l[kk]'(by rw [HN.out]; exact hlt)).num = nm at *
      generalize (l[kk]'(by rw [HN.out]; exact hlt)).kind = kd at *
      go_upto_region 9 with fail
      have HSV : Hid (StR w (fun b => b = wr.heap.size) (wr.alloc (.cells #[.int .i64 kd, .int .i64 nm, .string ⟨tx.toArray⟩] 32)) t N0 lp q 30 lp) := HS.out.watch ((Below.refl _ wr).alloc (Nat.le_refl _) _) (fun b hb => by subst hb; exact ⟨Nat.le_refl _, by simp⟩)
      have HV0 : Hid ((wr.alloc (.cells #[.int .i64 kd, .int .i64 nm, .string ⟨tx.toArray⟩] 32)).heap[wr.heap.size]? = some (.cells #[.int .i64 kd, .int .i64 nm, .string ⟨tx.toArray⟩] 32 (0, 0))) := heap_alloc_new wr _
      clear HS c0 c1 c2
      generalize wr.heap.size = V at *
      generalize wr.alloc (.cells #[.int .i64 kd, .int .i64 nm, .string ⟨tx.toArray⟩] 32) = wA at *
      have d0 : wA.cell? ⟨V, 0, none⟩ = some (.int .i64 kd) := cell_of_row wA V 0 _ _ _ HV0.out
      have hNk : N0 ≤ 8 * (kk + 1) := by omega
      have hN1 : N0 + 8 ≤ 8 * (kk + 1) := by omega
      go_upto_block 2 with fail
      go_cut [27] (fun _ wq => ∃ (l1 : List Pr) (N1 : Nat), N1 ≤ 8 * (kk + 1) ∧ Hid (StR w (fun _ => False) wq t N1 l1 q 30 l1))
      case first =>
        clear d0
        by_cases h0 : kd = 0
        · subst h0
          obtain ⟨cd, hcd⟩ : ∃ c : Int, addC lp tx nm = c := ⟨_, rfl⟩
          have HCD : Hid (addC lp tx nm = cd) := hcd
          clear hcd
          go_upto_region 11 with fail
          refine wp_region_held (S := fun W' => W'.heap[V]? = some (.cells #[.int .i64 0, .int .i64 nm, .string ⟨tx.toArray⟩] 32 (0, 0))) hmix ?_
          show wpAnyH _ _ _ _ _ _ _ _ wA.drew
          have hS : wA.drew.heap[V]? = some (.cells #[.int .i64 0, .int .i64 nm, .string ⟨tx.toArray⟩] 32 (0, 0)) := HV0.out
          have HSA : Hid (StR w (fun b => b = V) wA.drew t N0 lp q 30 lp) := HSV.out.on (Below.refl _ _).drew
          clear HSV HV0
          refine wpAnyH_take (i := 0) (v := .pointer (some ⟨t, 0, none⟩)) rfl (by kernel_rfl) (by kernel_rfl) (by kernel_rfl) (fun _ _ _ h => h) (.inl ⟨by rfl, fun W' hW' => ?_⟩) hS ?_
          · go_simp
          simp only [Act.put, List.getElem_toArray, List.getElem_cons_zero, List.setIfInBounds_toArray, List.set_cons_succ, List.set_cons_zero]
          refine wpAnyH_take (i := 1) (v := .pointer (some ⟨V, 2, none⟩)) rfl (by kernel_rfl) (by kernel_rfl) (by kernel_rfl) (fun _ _ _ h => h) (.inl ⟨by rfl, fun W' hW' => ?_⟩) hS ?_
          · obtain ⟨f1, f2⟩ := vcells hW'; go_simp
          simp only [Act.put, List.getElem_toArray, List.getElem_cons_succ, List.getElem_cons_zero, List.setIfInBounds_toArray, List.set_cons_succ, List.set_cons_zero]
          refine wpAnyH_take (i := 2) (v := .string ⟨tx.toArray⟩) rfl (by kernel_rfl) (by kernel_rfl) (by kernel_rfl) (fun _ _ _ h => h) (.inl ⟨by rfl, fun W' hW' => ?_⟩) hS ?_
          · obtain ⟨f1, f2⟩ := vcells hW'; go_simp
          simp only [Act.put, List.getElem_toArray, List.getElem_cons_succ, List.getElem_cons_zero, List.setIfInBounds_toArray, List.set_cons_succ, List.set_cons_zero]
          refine wpAnyH_take (i := 3) (v := .pointer (some ⟨V, 1, none⟩)) rfl (by kernel_rfl) (by kernel_rfl) (by kernel_rfl) (fun _ _ _ h => h) (.inl ⟨by rfl, fun W' hW' => ?_⟩) hS ?_
          · obtain ⟨f1, f2⟩ := vcells hW'; go_simp
          simp only [Act.put, List.getElem_toArray, List.getElem_cons_succ, List.getElem_cons_zero, List.setIfInBounds_toArray, List.set_cons_succ, List.set_cons_zero]
          refine wpAnyH_take (i := 4) (v := .int .i64 nm) rfl (by kernel_rfl) (by kernel_rfl) (by kernel_rfl) (fun _ _ _ h => h) (.inl ⟨by rfl, fun W' hW' => ?_⟩) hS ?_
          · obtain ⟨f1, f2⟩ := vcells hW'; go_simp
          simp only [Act.put, List.getElem_toArray, List.getElem_cons_succ, List.getElem_cons_zero, List.setIfInBounds_toArray, List.set_cons_succ, List.set_cons_zero]
          refine wpAnyH_take (i := 6) (v := .pointer (some ⟨q, 0, none⟩)) rfl (by kernel_rfl) (by kernel_rfl) (by kernel_rfl) (fun _ _ _ h => h) (.inl ⟨by rfl, fun W' hW' => ?_⟩) hS ?_
          · go_simp
          simp only [Act.put, List.getElem_toArray, List.getElem_cons_succ, List.getElem_cons_zero, List.setIfInBounds_toArray, List.set_cons_succ, List.set_cons_zero]
          refine wpAnyH_take (i := 7) (v := .pointer (some ⟨V, 2, none⟩)) rfl (by kernel_rfl) (by kernel_rfl) (by kernel_rfl) (fun _ _ _ h => h) (.inl ⟨by rfl, fun W' hW' => ?_⟩) hS ?_
          · obtain ⟨f1, f2⟩ := vcells hW'; go_simp
          simp only [Act.put, List.getElem_toArray, List.getElem_cons_succ, List.getElem_cons_zero, List.setIfInBounds_toArray, List.set_cons_succ, List.set_cons_zero]
          refine wpAnyH_take (i := 8) (v := .string ⟨tx.toArray⟩) rfl (by kernel_rfl) (by kernel_rfl) (by kernel_rfl) (fun _ _ _ h => h) (.inl ⟨by rfl, fun W' hW' => ?_⟩) hS ?_
          · obtain ⟨f1, f2⟩ := vcells hW'; go_simp
          simp only [Act.put, List.getElem_toArray, List.getElem_cons_succ, List.getElem_cons_zero, List.setIfInBounds_toArray, List.set_cons_succ, List.set_cons_zero]
          refine wpAnyH_take (i := 9) (v := .pointer (some ⟨V, 1, none⟩)) rfl (by kernel_rfl) (by kernel_rfl) (by kernel_rfl) (fun _ _ _ h => h) (.inl ⟨by rfl, fun W' hW' => ?_⟩) hS ?_
          · obtain ⟨f1, f2⟩ := vcells hW'; go_simp
          simp only [Act.put, List.getElem_toArray, List.getElem_cons_succ, List.getElem_cons_zero, List.setIfInBounds_toArray, List.set_cons_succ, List.set_cons_zero]
          refine wpAnyH_take (i := 10) (v := .int .i64 nm) rfl (by kernel_rfl) (by kernel_rfl) (by kernel_rfl) (fun _ _ _ h => h) (.inl ⟨by rfl, fun W' hW' => ?_⟩) hS ?_
          · obtain ⟨f1, f2⟩ := vcells hW'; go_simp
          simp only [Act.put, List.getElem_toArray, List.getElem_cons_succ, List.getElem_cons_zero, List.setIfInBounds_toArray, List.set_cons_succ, List.set_cons_zero]
          have hf := HSA.out.add HV.out tx HT.out nm (by omega)
          rw [HCD.out] at hf
          simp only [str] at hf
          refine wpAnyH_one (i := 5) (by kernel_rfl) rfl (by rfl) (fun K hK => ?_)
          go_simp
          refine hf.mono ?_
          rintro e wB ⟨rfl, hB, kB⟩
          have hS2 : wB.heap[V]? = some (.cells #[.int .i64 0, .int .i64 nm, .string ⟨tx.toArray⟩] 32 (0, 0)) := (kB.keep V rfl).trans hS
          refine hK _ _ hS2 ?_
          clear hK K hS
          have HSB : Hid (StR w (fun b => b = V) wB t (N0 + 8) (addR lp tx nm) q 30 lp) := hB
          clear hf hB kB
          have hS := hS2
          clear hS2
          try simp only [Act.put, List.getElem_toArray, List.getElem_cons_succ, List.getElem_cons_zero, List.setIfInBounds_toArray, List.set_cons_succ, List.set_cons_zero]
          have hf := HSB.out.radd HSA.out.facts.2.2 tx nm
          rw [HCD.out] at hf
          simp only [str] at hf
          refine wpAnyH_one (i := 11) (by kernel_rfl) rfl (by rfl) (fun K hK => ?_)
          go_simp
          refine hf.mono ?_
          rintro e wC ⟨rfl, hC, kC⟩
          have hS2 : wC.heap[V]? = some (.cells #[.int .i64 0, .int .i64 nm, .string ⟨tx.toArray⟩] 32 (0, 0)) := (kC.keep V rfl).trans hS
          refine hK _ _ hS2 ?_
          clear hK K hS
          have HSC : Hid (StR w (fun b => b = V) wC t (N0 + 8) (addR lp tx nm) q 30 (addR lp tx nm)) := hC
          clear hf hC kC HSB HSA
          have hS := hS2
          clear hS2
          try simp only [Act.put, List.getElem_toArray, List.getElem_cons_succ, List.getElem_cons_zero, List.setIfInBounds_toArray, List.set_cons_succ, List.set_cons_zero]
          refine wpAnyH_take (i := 12) (v := .bool false) rfl (by kernel_rfl) (by kernel_rfl) (by kernel_rfl) (fun _ _ _ h => h) (.inl ⟨by rfl, fun W' hW' => ?_⟩) hS ?_
          · go_simp
          simp only [Act.put, List.getElem_toArray, List.getElem_cons_succ, List.getElem_cons_zero, List.setIfInBounds_toArray, List.set_cons_succ, List.set_cons_zero]
          refine wpAnyH_done (by kernel_rfl) ?_ _
          clear hS
          go_wp2_with fail
          go_meet
          exact ⟨_, _, hN1, HSC.out.free⟩
        by_cases h1 : kd = 1
        · subst h1
          obtain ⟨cd, hcd⟩ : ∃ c : Int, (if (tx, nm) ∈ lp then (0 : Int) else 33) = c := ⟨_, rfl⟩
          have HCD : Hid ((if (tx, nm) ∈ lp then (0 : Int) else 33) = cd) := hcd
          clear hcd
          go_upto_region 14 with fail
          refine wp_region_held (S := fun W' => W'.heap[V]? = some (.cells #[.int .i64 1, .int .i64 nm, .string ⟨tx.toArray⟩] 32 (0, 0))) hmix ?_
          show wpAnyH _ _ _ _ _ _ _ _ wA.drew
          have hS : wA.drew.heap[V]? = some (.cells #[.int .i64 1, .int .i64 nm, .string ⟨tx.toArray⟩] 32 (0, 0)) := HV0.out
          have HSA : Hid (StR w (fun b => b = V) wA.drew t N0 lp q 30 lp) := HSV.out.on (Below.refl _ _).drew
          clear HSV HV0
          refine wpAnyH_take (i := 0) (v := .pointer (some ⟨t, 0, none⟩)) rfl (by kernel_rfl) (by kernel_rfl) (by kernel_rfl) (fun _ _ _ h => h) (.inl ⟨by rfl, fun W' hW' => ?_⟩) hS ?_
          · go_simp
          simp only [Act.put, List.getElem_toArray, List.getElem_cons_zero, List.setIfInBounds_toArray, List.set_cons_succ, List.set_cons_zero]
          refine wpAnyH_take (i := 1) (v := .pointer (some ⟨V, 2, none⟩)) rfl (by kernel_rfl) (by kernel_rfl) (by kernel_rfl) (fun _ _ _ h => h) (.inl ⟨by rfl, fun W' hW' => ?_⟩) hS ?_
          · obtain ⟨f1, f2⟩ := vcells hW'; go_simp
          simp only [Act.put, List.getElem_toArray, List.getElem_cons_succ, List.getElem_cons_zero, List.setIfInBounds_toArray, List.set_cons_succ, List.set_cons_zero]
          refine wpAnyH_take (i := 2) (v := .string ⟨tx.toArray⟩) rfl (by kernel_rfl) (by kernel_rfl) (by kernel_rfl) (fun _ _ _ h => h) (.inl ⟨by rfl, fun W' hW' => ?_⟩) hS ?_
          · obtain ⟨f1, f2⟩ := vcells hW'; go_simp
          simp only [Act.put, List.getElem_toArray, List.getElem_cons_succ, List.getElem_cons_zero, List.setIfInBounds_toArray, List.set_cons_succ, List.set_cons_zero]
          refine wpAnyH_take (i := 3) (v := .pointer (some ⟨V, 1, none⟩)) rfl (by kernel_rfl) (by kernel_rfl) (by kernel_rfl) (fun _ _ _ h => h) (.inl ⟨by rfl, fun W' hW' => ?_⟩) hS ?_
          · obtain ⟨f1, f2⟩ := vcells hW'; go_simp
          simp only [Act.put, List.getElem_toArray, List.getElem_cons_succ, List.getElem_cons_zero, List.setIfInBounds_toArray, List.set_cons_succ, List.set_cons_zero]
          refine wpAnyH_take (i := 4) (v := .int .i64 nm) rfl (by kernel_rfl) (by kernel_rfl) (by kernel_rfl) (fun _ _ _ h => h) (.inl ⟨by rfl, fun W' hW' => ?_⟩) hS ?_
          · obtain ⟨f1, f2⟩ := vcells hW'; go_simp
          simp only [Act.put, List.getElem_toArray, List.getElem_cons_succ, List.getElem_cons_zero, List.setIfInBounds_toArray, List.set_cons_succ, List.set_cons_zero]
          refine wpAnyH_take (i := 6) (v := .pointer (some ⟨q, 0, none⟩)) rfl (by kernel_rfl) (by kernel_rfl) (by kernel_rfl) (fun _ _ _ h => h) (.inl ⟨by rfl, fun W' hW' => ?_⟩) hS ?_
          · go_simp
          simp only [Act.put, List.getElem_toArray, List.getElem_cons_succ, List.getElem_cons_zero, List.setIfInBounds_toArray, List.set_cons_succ, List.set_cons_zero]
          refine wpAnyH_take (i := 7) (v := .pointer (some ⟨V, 2, none⟩)) rfl (by kernel_rfl) (by kernel_rfl) (by kernel_rfl) (fun _ _ _ h => h) (.inl ⟨by rfl, fun W' hW' => ?_⟩) hS ?_
          · obtain ⟨f1, f2⟩ := vcells hW'; go_simp
          simp only [Act.put, List.getElem_toArray, List.getElem_cons_succ, List.getElem_cons_zero, List.setIfInBounds_toArray, List.set_cons_succ, List.set_cons_zero]
          refine wpAnyH_take (i := 8) (v := .string ⟨tx.toArray⟩) rfl (by kernel_rfl) (by kernel_rfl) (by kernel_rfl) (fun _ _ _ h => h) (.inl ⟨by rfl, fun W' hW' => ?_⟩) hS ?_
          · obtain ⟨f1, f2⟩ := vcells hW'; go_simp
          simp only [Act.put, List.getElem_toArray, List.getElem_cons_succ, List.getElem_cons_zero, List.setIfInBounds_toArray, List.set_cons_succ, List.set_cons_zero]
          refine wpAnyH_take (i := 9) (v := .pointer (some ⟨V, 1, none⟩)) rfl (by kernel_rfl) (by kernel_rfl) (by kernel_rfl) (fun _ _ _ h => h) (.inl ⟨by rfl, fun W' hW' => ?_⟩) hS ?_
          · obtain ⟨f1, f2⟩ := vcells hW'; go_simp
          simp only [Act.put, List.getElem_toArray, List.getElem_cons_succ, List.getElem_cons_zero, List.setIfInBounds_toArray, List.set_cons_succ, List.set_cons_zero]
          refine wpAnyH_take (i := 10) (v := .int .i64 nm) rfl (by kernel_rfl) (by kernel_rfl) (by kernel_rfl) (fun _ _ _ h => h) (.inl ⟨by rfl, fun W' hW' => ?_⟩) hS ?_
          · obtain ⟨f1, f2⟩ := vcells hW'; go_simp
          simp only [Act.put, List.getElem_toArray, List.getElem_cons_succ, List.getElem_cons_zero, List.setIfInBounds_toArray, List.set_cons_succ, List.set_cons_zero]
          have hf := HSA.out.drop tx HT.out nm
          rw [HCD.out] at hf
          simp only [str] at hf
          refine wpAnyH_one (i := 5) (by kernel_rfl) rfl (by rfl) (fun K hK => ?_)
          go_simp
          refine hf.mono ?_
          rintro e wB ⟨rfl, hB, kB⟩
          have hS2 : wB.heap[V]? = some (.cells #[.int .i64 1, .int .i64 nm, .string ⟨tx.toArray⟩] 32 (0, 0)) := (kB.keep V rfl).trans hS
          refine hK _ _ hS2 ?_
          clear hK K hS
          have HSB : Hid (StR w (fun b => b = V) wB t N0 (lp.erase (tx, nm)) q 30 lp) := hB
          clear hf hB kB
          have hS := hS2
          clear hS2
          try simp only [Act.put, List.getElem_toArray, List.getElem_cons_succ, List.getElem_cons_zero, List.setIfInBounds_toArray, List.set_cons_succ, List.set_cons_zero]
          have hf := HSB.out.rdrop HSA.out.facts.2.2 tx nm
          rw [HCD.out] at hf
          simp only [str] at hf
          refine wpAnyH_one (i := 11) (by kernel_rfl) rfl (by rfl) (fun K hK => ?_)
          go_simp
          refine hf.mono ?_
          rintro e wC ⟨rfl, hC, kC⟩
          have hS2 : wC.heap[V]? = some (.cells #[.int .i64 1, .int .i64 nm, .string ⟨tx.toArray⟩] 32 (0, 0)) := (kC.keep V rfl).trans hS
          refine hK _ _ hS2 ?_
          clear hK K hS
          have HSC : Hid (StR w (fun b => b = V) wC t N0 (lp.erase (tx, nm)) q 30 (lp.erase (tx, nm))) := hC
          clear hf hC kC HSB HSA
          have hS := hS2
          clear hS2
          try simp only [Act.put, List.getElem_toArray, List.getElem_cons_succ, List.getElem_cons_zero, List.setIfInBounds_toArray, List.set_cons_succ, List.set_cons_zero]
          refine wpAnyH_take (i := 12) (v := .bool false) rfl (by kernel_rfl) (by kernel_rfl) (by kernel_rfl) (fun _ _ _ h => h) (.inl ⟨by rfl, fun W' hW' => ?_⟩) hS ?_
          · go_simp
          simp only [Act.put, List.getElem_toArray, List.getElem_cons_succ, List.getElem_cons_zero, List.setIfInBounds_toArray, List.set_cons_succ, List.set_cons_zero]
          refine wpAnyH_done (by kernel_rfl) ?_ _
          clear hS
          go_wp2_with fail
          go_meet
          exact ⟨_, _, hNk, HSC.out.free⟩
        by_cases h2 : kd = 2
        · subst h2
          go_upto_region 17 with fail
          refine wp_region_held (S := fun W' => W'.heap[V]? = some (.cells #[.int .i64 2, .int .i64 nm, .string ⟨tx.toArray⟩] 32 (0, 0))) hmix ?_
          show wpAnyH _ _ _ _ _ _ _ _ wA.drew
          have hS : wA.drew.heap[V]? = some (.cells #[.int .i64 2, .int .i64 nm, .string ⟨tx.toArray⟩] 32 (0, 0)) := HV0.out
          have HSA : Hid (StR w (fun b => b = V) wA.drew t N0 lp q 30 lp) := HSV.out.on (Below.refl _ _).drew
          clear HSV HV0
          refine wpAnyH_take (i := 0) (v := .pointer (some ⟨t, 0, none⟩)) rfl (by kernel_rfl) (by kernel_rfl) (by kernel_rfl) (fun _ _ _ h => h) (.inl ⟨by rfl, fun W' hW' => ?_⟩) hS ?_
          · go_simp
          simp only [Act.put, List.getElem_toArray, List.getElem_cons_zero, List.setIfInBounds_toArray, List.set_cons_succ, List.set_cons_zero]
          refine wpAnyH_take (i := 1) (v := .pointer (some ⟨V, 2, none⟩)) rfl (by kernel_rfl) (by kernel_rfl) (by kernel_rfl) (fun _ _ _ h => h) (.inl ⟨by rfl, fun W' hW' => ?_⟩) hS ?_
          · obtain ⟨f1, f2⟩ := vcells hW'; go_simp
          simp only [Act.put, List.getElem_toArray, List.getElem_cons_succ, List.getElem_cons_zero, List.setIfInBounds_toArray, List.set_cons_succ, List.set_cons_zero]
          refine wpAnyH_take (i := 2) (v := .string ⟨tx.toArray⟩) rfl (by kernel_rfl) (by kernel_rfl) (by kernel_rfl) (fun _ _ _ h => h) (.inl ⟨by rfl, fun W' hW' => ?_⟩) hS ?_
          · obtain ⟨f1, f2⟩ := vcells hW'; go_simp
          simp only [Act.put, List.getElem_toArray, List.getElem_cons_succ, List.getElem_cons_zero, List.setIfInBounds_toArray, List.set_cons_succ, List.set_cons_zero]
          refine wpAnyH_take (i := 4) (v := .pointer (some ⟨q, 0, none⟩)) rfl (by kernel_rfl) (by kernel_rfl) (by kernel_rfl) (fun _ _ _ h => h) (.inl ⟨by rfl, fun W' hW' => ?_⟩) hS ?_
          · go_simp
          simp only [Act.put, List.getElem_toArray, List.getElem_cons_succ, List.getElem_cons_zero, List.setIfInBounds_toArray, List.set_cons_succ, List.set_cons_zero]
          refine wpAnyH_take (i := 5) (v := .pointer (some ⟨V, 2, none⟩)) rfl (by kernel_rfl) (by kernel_rfl) (by kernel_rfl) (fun _ _ _ h => h) (.inl ⟨by rfl, fun W' hW' => ?_⟩) hS ?_
          · obtain ⟨f1, f2⟩ := vcells hW'; go_simp
          simp only [Act.put, List.getElem_toArray, List.getElem_cons_succ, List.getElem_cons_zero, List.setIfInBounds_toArray, List.set_cons_succ, List.set_cons_zero]
          refine wpAnyH_take (i := 6) (v := .string ⟨tx.toArray⟩) rfl (by kernel_rfl) (by kernel_rfl) (by kernel_rfl) (fun _ _ _ h => h) (.inl ⟨by rfl, fun W' hW' => ?_⟩) hS ?_
          · obtain ⟨f1, f2⟩ := vcells hW'; go_simp
          simp only [Act.put, List.getElem_toArray, List.getElem_cons_succ, List.getElem_cons_zero, List.setIfInBounds_toArray, List.set_cons_succ, List.set_cons_zero]
          have hf := HSA.out.one.find HV.out tx
          simp only [str] at hf
          refine wpAnyH_one (i := 3) (by kernel_rfl) rfl (by rfl) (fun K hK => ?_)
          go_simp
          refine hf.mono ?_
          rintro e wB ⟨vB, rfl, hoB, hbB⟩
          have hS2 : wB.heap[V]? = some (.cells #[.int .i64 2, .int .i64 nm, .string ⟨tx.toArray⟩] 32 (0, 0)) := (hbB.block V (lt_of_some hS)).trans hS
          refine hK _ _ hS2 ?_
          clear hK K hS
          have HSB : Hid (StR w (fun b => b = V) wB t N0 lp q 30 lp) := HSA.out.on hbB
          have HRB : Hid (To.RdV wB vB (ints (findP lp tx))) := hoB.rd
          clear hf hoB hbB HSA
          have hS := hS2
          clear hS2
          try simp only [Act.put, List.getElem_toArray, List.getElem_cons_succ, List.getElem_cons_zero, List.setIfInBounds_toArray, List.set_cons_succ, List.set_cons_zero]
          have hf := HSB.out.rfind HSB.out.facts.2.2 HSB.out.facts.1 tx
          simp only [str] at hf
          refine wpAnyH_one (i := 7) (by kernel_rfl) rfl (by rfl) (fun K hK => ?_)
          go_simp
          refine hf.mono ?_
          rintro e wC ⟨vC, rfl, hoC, hbC⟩
          have hS2 : wC.heap[V]? = some (.cells #[.int .i64 2, .int .i64 nm, .string ⟨tx.toArray⟩] 32 (0, 0)) := (hbC.block V (lt_of_some hS)).trans hS
          refine hK _ _ hS2 ?_
          clear hK K hS
          have HSC : Hid (StR w (fun b => b = V) wC t N0 lp q 30 lp) := HSB.out.on hbC
          have HRC : Hid (To.RdV wC vC (ints (findP lp tx)) ∧ To.RdV wC vB (ints (findP lp tx))) := ⟨hoC.rd, HRB.out.on hbC⟩
          clear hf hoC hbC HSB HRB
          have hS := hS2
          clear hS2
          try simp only [Act.put, List.getElem_toArray, List.getElem_cons_succ, List.getElem_cons_zero, List.setIfInBounds_toArray, List.set_cons_succ, List.set_cons_zero]
          have hfl : (findP lp tx).length ≤ 1000 := by
            have h9 := To.fold_len lp tx lp.length
            rw [List.take_length] at h9
            have h8 := HSC.out.facts.2.2
            unfold findP
            omega
          have hsa := To.same_any wC vB vC (findP lp tx) (findP lp tx) HRC.out.2 HRC.out.1 hfl
          rw [decide_eq_true rfl] at hsa
          refine wpAnyH_one (i := 8) (by kernel_rfl) rfl (by rfl) (fun K hK => ?_)
          go_simp
          refine hsa.mono ?_
          rintro e wD ⟨rfl, dd, rfl⟩
          have hS2 : (wC.drewN dd).heap[V]? = some (.cells #[.int .i64 2, .int .i64 nm, .string ⟨tx.toArray⟩] 32 (0, 0)) := hS
          refine hK _ _ hS2 ?_
          clear hK K hS
          have HSD : Hid (StR w (fun b => b = V) (wC.drewN dd) t N0 lp q 30 lp) := HSC.out.on (To.below_drawn _ _)
          clear HSC HRC hsa hfl
          have hS := hS2
          clear hS2
          try simp only [Act.put, List.getElem_toArray, List.getElem_cons_succ, List.getElem_cons_zero, List.setIfInBounds_toArray, List.set_cons_succ, List.set_cons_zero]
          refine wpAnyH_take (i := 9) (v := .bool false) rfl (by kernel_rfl) (by kernel_rfl) (by kernel_rfl) (fun _ _ _ h => h) (.inl ⟨by rfl, fun W' hW' => ?_⟩) hS ?_
          · go_simp
          simp only [Act.put, List.getElem_toArray, List.getElem_cons_succ, List.getElem_cons_zero, List.setIfInBounds_toArray, List.set_cons_succ, List.set_cons_zero]
          refine wpAnyH_done (by kernel_rfl) ?_ _
          clear hS
          go_wp2_with fail
          go_meet
          exact ⟨_, _, hNk, HSD.out.free⟩
        · go_wp2_with fail
          go_meet
          exact ⟨_, _, hNk, HSV.out.free⟩
      case rest =>
        obtain ⟨l1, N1, hN1, HS1⟩ := hcut
        clear HSV HV0 d0 HT hNk
        obtain ⟨m, hm⟩ : ∃ m, l1.length = m := ⟨_, rfl⟩
        have HM : Hid (l1.length = m) := hm
        clear hm
        have HX : ∃ ai ci, wc.cell? ⟨q, 1, none⟩ = some (.slice ai m ci) := by
          obtain ⟨X, v1, v2, h1, h2, _⟩ := HS1.out.tr
          obtain ⟨ai, ci, e1, _⟩ := h2.is.len
          refine ⟨ai, ci, ?_⟩
          rw [h2.c1, e1]
          unfold To.ints
          rw [List.length_map, HM.out]
        obtain ⟨ai, ci, hx⟩ := HX
        have hql : q < wc.heap.size := World.block_lt_of_cell? wc _ hx
        go_upto_region 19 with fail
        refine wp_region_held (S := fun W' => W'.cell? ⟨q, 1, none⟩ = some (.slice ai m ci)) hmix ?_
        show wpAnyH _ _ _ _ _ _ _ _ wc.drew
        have hS : wc.drew.cell? ⟨q, 1, none⟩ = some (.slice ai m ci) := hx
        have HSA : Hid (StR w (fun _ => False) wc.drew t N1 l1 q 30 l1) := HS1.out.on (Below.refl _ _).drew
        have hqA : q < wc.drew.heap.size := hql
        clear hx HS1 hql
        refine wpAnyH_take (i := 0) (v := .pointer (some ⟨t, 0, none⟩)) rfl (by kernel_rfl) (by kernel_rfl) (by kernel_rfl) (fun _ _ _ h => h) (.inl ⟨by rfl, fun W' hW' => ?_⟩) hS ?_
        · go_simp
        simp only [Act.put, List.getElem_toArray, List.getElem_cons_zero, List.setIfInBounds_toArray, List.set_cons_succ, List.set_cons_zero]
        refine wpAnyH_take (i := 2) (v := .pointer (some ⟨q, 0, none⟩)) rfl (by kernel_rfl) (by kernel_rfl) (by kernel_rfl) (fun _ _ _ h => h) (.inl ⟨by rfl, fun W' hW' => ?_⟩) hS ?_
        · go_simp
        simp only [Act.put, List.getElem_toArray, List.getElem_cons_succ, List.getElem_cons_zero, List.setIfInBounds_toArray, List.set_cons_succ, List.set_cons_zero]
        refine wpAnyH_take (i := 3) (v := .pointer (some ⟨q, 0, none⟩)) rfl (by kernel_rfl) (by kernel_rfl) (by kernel_rfl) (fun _ _ _ h => h) (.inl ⟨by rfl, fun W' hW' => ?_⟩) hS ?_
        · go_simp
        simp only [Act.put, List.getElem_toArray, List.getElem_cons_succ, List.getElem_cons_zero, List.setIfInBounds_toArray, List.set_cons_succ, List.set_cons_zero]
        refine wpAnyH_take (i := 4) (v := .pointer (some ⟨q, 1, none⟩)) rfl (by kernel_rfl) (by kernel_rfl) (by kernel_rfl) (fun _ _ _ h => h) (.inl ⟨by rfl, fun W' hW' => ?_⟩) hS ?_
        · go_simp
        simp only [Act.put, List.getElem_toArray, List.getElem_cons_succ, List.getElem_cons_zero, List.setIfInBounds_toArray, List.set_cons_succ, List.set_cons_zero]
        refine wpAnyH_take (i := 5) (v := .slice ai m ci) rfl (by kernel_rfl) (by kernel_rfl) (by kernel_rfl) (fun _ _ _ h => h) (.inl ⟨by rfl, fun W' hW' => ?_⟩) hS ?_
        · go_simp
        simp only [Act.put, List.getElem_toArray, List.getElem_cons_succ, List.getElem_cons_zero, List.setIfInBounds_toArray, List.set_cons_succ, List.set_cons_zero]
        refine wpAnyH_take (i := 6) (v := .int .i64 m) rfl (by kernel_rfl) (by kernel_rfl) (by kernel_rfl) (fun _ _ _ h => h) (.inl ⟨by rfl, fun W' hW' => ?_⟩) hS ?_
        · go_simp
        simp only [Act.put, List.getElem_toArray, List.getElem_cons_succ, List.getElem_cons_zero, List.setIfInBounds_toArray, List.set_cons_succ, List.set_cons_zero]
        have hle := HSA.out.one.len
        rw [HM.out] at hle
        refine wpAnyH_one (i := 1) (by kernel_rfl) rfl (by rfl) (fun K hK => ?_)
        go_simp
        refine hle.mono ?_
        rintro e wB ⟨rfl, hbB⟩
        have hS2 : wB.cell? ⟨q, 1, none⟩ = some (.slice ai m ci) := ((hbB).cell (p := ⟨q, 1, none⟩) hqA).trans hS
        refine hK _ _ hS2 ?_
        clear hK K hS
        have HSB : Hid (StR w (fun _ => False) wB t N1 l1 q 30 l1) := HSA.out.on hbB
        clear hle hbB HSA hqA
        have hS := hS2
        clear hS2
        try simp only [Act.put, List.getElem_toArray, List.getElem_cons_succ, List.getElem_cons_zero, List.setIfInBounds_toArray, List.set_cons_succ, List.set_cons_zero]
        refine wpAnyH_take (i := 7) (v := .bool false) rfl (by kernel_rfl) (by kernel_rfl) (by kernel_rfl) (fun _ _ _ h => h) (.inl ⟨by rfl, fun W' hW' => ?_⟩) hS ?_
        · go_simp
        simp only [Act.put, List.getElem_toArray, List.getElem_cons_succ, List.getElem_cons_zero, List.setIfInBounds_toArray, List.set_cons_succ, List.set_cons_zero]
        refine wpAnyH_done (by kernel_rfl) ?_ _
        clear hS
        go_wp2_with fail
        go_roundg (n - (kk + 1))
        case measure => omega
        case rel => exact ⟨kk + 1, l1, N1, by omega, by omega, by go_num, hN1, HSB.out⟩
    · have hltz : ¬ (kk : Int) < (n : Int) := by omega
      have hal := HS.out.one.all
      obtain ⟨m, hm⟩ : ∃ m, lp.length = m := ⟨_, rfl⟩
      have hm64 : m ≤ 64 := by rw [← hm]; exact HS.out.facts.2.2
      have HM : Hid (lp.length = m) := hm
      clear hm
      go_wp2_with fail
      refine hal.mono ?_
      rintro e w8 ⟨v8, rfl, ho8, hb8⟩
      obtain ⟨a8, c8, rfl⟩ := ho8.len
      rw [HM.out] at ho8 ⊢
      have HS8 := HS.out.on hb8
      have HO8 : Hid (OwnPr w8 wr.heap.size (.slice a8 m c8) lp) := ho8
      have HX : ∃ ap cp ai ci, To.RTr w8 w.heap.size q 30 (.slice ap m cp) (.slice ai m ci) lp := by
        obtain ⟨X, v1, v2, h1, h2, _⟩ := HS8.tr
        obtain ⟨ap, cp, e1, _⟩ := h2.ps.len
        obtain ⟨ai, ci, e2, _⟩ := h2.is.len
        have l1 : (To.strs lp).length = m := by unfold To.strs; rw [List.length_map, HM.out]
        have l2 : (To.ints lp).length = m := by unfold To.ints; rw [List.length_map, HM.out]
        rw [l1] at e1
        rw [l2] at e2
        subst e1 e2
        exact ⟨ap, cp, ai, ci, h2⟩
      obtain ⟨ap, cp, ai, ci, hr⟩ := HX
      have x0 : w8.cell? ⟨q, 0, none⟩ = some (.slice ap m cp) := hr.c0
      have x1 : w8.cell? ⟨q, 1, none⟩ = some (.slice ai m ci) := hr.c1
      have HR : Hid (To.RTr w8 w.heap.size q 30 (.slice ap m cp) (.slice ai m ci) lp) := hr
      have HB8 : Hid (Below w.heap.size w w8) := HS8.below
      clear hal ho8 hb8 HS8 hr HS HP HL HV HN
      go_wp2_with fail
      go_loopg [90] m (fun gg s90 wx => ∃ j : Nat, j ≤ m ∧ m - j ≤ gg ∧ s90 = .int .i64 j ∧ Hid (Below w8.heap.size w8 wx))
      case atStart => exact ⟨0, Nat.zero_le _, by omega, rfl, Below.refl _ w8⟩
      case round =>
        obtain ⟨j, hj, hgj, rfl, HB⟩ := hrel
        clear x0 x1
        obtain ⟨wx, hwx⟩ : ∃ W, W = wr := ⟨_, rfl⟩
        subst hwx
        by_cases hlj : j < m
        · have hljz : (j : Int) < (m : Int) := by omega
          have hjL : j < lp.length := by rw [HM.out]; exact hlj
          obtain ⟨b1, o1, rfl, y1, y2⟩ := pr_at (HO8.out.up HB.out).rd hjL
          obtain ⟨g0, p0, g1, p1, rfl, z0, rfl, z1⟩ := (HR.out.on HB.out).at hjL
          have x0 := (HR.out.on HB.out).c0
          have x1 := (HR.out.on HB.out).c1
          simp only [To.str] at z0
          generalize (⟨lp[j].1.toArray⟩ : ByteArray) = xs at *
          generalize lp[j].2 = xz at *
          have hb1 := (Below.refl _ wx).alloc (Nat.le_refl _) (.cells #[.string xs, .int .i64 xz] 41)
          have k0 := heap_alloc_new wx (.cells #[.string xs, .int .i64 xz] 41)
          go_upto_region 28 with fail
          have f1 : ∀ d, ((wx.alloc (.cells #[.string xs, .int .i64 xz] 41)).drewN d).cell? ⟨wx.heap.size, 0, none⟩ = some (.string xs) := fun d => cell_of_row _ wx.heap.size 0 _ _ _ k0
          have f2 : ∀ d, ((wx.alloc (.cells #[.string xs, .int .i64 xz] 41)).drewN d).cell? ⟨wx.heap.size, 1, none⟩ = some (.int .i64 xz) := fun d => cell_of_row _ wx.heap.size 1 _ _ _ k0
          have f3 : ∀ d, ((wx.alloc (.cells #[.string xs, .int .i64 xz] 41)).drewN d).cell? ⟨q, 0, none⟩ = some (.slice (some ⟨g0, p0, none⟩) m cp) := fun d => (hb1.cell (World.block_lt_of_cell? wx _ x0)).trans x0
          have f4 : ∀ d, ((wx.alloc (.cells #[.string xs, .int .i64 xz] 41)).drewN d).cell? ⟨q, 1, none⟩ = some (.slice (some ⟨g1, p1, none⟩) m ci) := fun d => (hb1.cell (World.block_lt_of_cell? wx _ x1)).trans x1
          have f5 : ∀ d, ((wx.alloc (.cells #[.string xs, .int .i64 xz] 41)).drewN d).cell? ⟨g0, p0 + j, none⟩ = some (.string xs) := fun d => (hb1.cell (World.block_lt_of_cell? wx _ z0)).trans z0
          have f6 : ∀ d, ((wx.alloc (.cells #[.string xs, .int .i64 xz] 41)).drewN d).cell? ⟨g1, p1 + j, none⟩ = some (.int .i64 xz) := fun d => (hb1.cell (World.block_lt_of_cell? wx _ z1)).trans z1
          have HB1 : Hid (∀ d, Below w8.heap.size w8 ((wx.alloc (.cells #[.string xs, .int .i64 xz] 41)).drewN d)) := fun d => nxt (nxt HB.out hb1) (To.below_drawn _ d)
          clear hb1 k0 y1 y2 z0 z1 x0 x1 HB
          have hge : decide ((m : Int) ≤ (j : Int)) = false := by simp; omega
          generalize wx.alloc (.cells #[.string xs, .int .i64 xz] 41) = wE at *
          generalize wx.heap.size = gE at *
          go_quiet (fail)
          go_wp2_with fail
          go_roundg (m - (j + 1))
          case measure => omega
          case rel => exact ⟨j + 1, by omega, by omega, by go_num, HB1.out _⟩
        · have hljz : ¬ (j : Int) < (m : Int) := by omega
          have BE := nxt HB8.out HB.out
          clear HB HR HO8 HB8
          go_wp2_with fail
          refine (add_nil wx ⟨#[97]⟩ 1).mono ?_
          rintro e u1 ⟨rfl, n1⟩
          go_wp2_with fail
          refine (drop_nil u1 ⟨#[97]⟩ 1).mono ?_
          rintro e u2 ⟨rfl, n2⟩
          go_wp2_with fail
          refine (find_nil u2 ⟨#[97]⟩).mono ?_
          rintro e u3 ⟨rfl, n3⟩
          go_wp2_with fail
          refine (len_nil u3).mono ?_
          rintro e u4 ⟨rfl, n4⟩
          go_wp2_with fail
          refine (all_nil u4).mono ?_
          rintro e u5 ⟨rfl, n5⟩
          go_wp2
          go_ret
          exact ⟨rfl, nxt (nxt (nxt (nxt (nxt BE n1) n2) n3) n4) n5⟩
end Go.Proofs.YtcicnbbnkeellaaGreatDoor

set_option maxRecDepth 100000
namespace Go.Proofs.YtcicnbbnkeellaaGreatDoor
open Go.ChangeShapes Go.WideShapes Go.ChangeAt Go.RowKit Go.Lib
open Go.ChangeMaps (open_string shut_string)

theorem does_contract (H : Type) (enc : TypeId × Value → H) (W : World) (base : Nat) (args : Array Value) (ds gs : List (DataW H)) (before : List MemPlace)
    (hval : ∀ (j : Nat) t v, Tryz.f3.params[j]? = some t → args[j]? = some v → Value.okWide Tryz.prog W .any base t v)
    (hW : DataW.Whole enc Tryz.prog Tryz.f3.params.toList Rows.trieDoesSpec.vars false W args.toList ds gs before)
    (hsz0 : (DataW.weightsEach Tryz.prog (Tryz.f3.params.toList ++ Rows.trieDoesSpec.plain.varTypes Tryz.prog) (ds ++ gs)).all (· ≤ reachBytes) = true)
    (_hL : laidMetH Tryz.prog Rows.trieDoesRow.laid W) (hsh : W.ShapedOpen Tryz.prog) :
    Calls Tryz.prog 3 args W fun e W' => ∃ v, e = .returned v ∧ Rows.trieDoesSpec.post enc Tryz.prog Tryz.f3 false true false false W args v W' := by
  have hv : To.Vars W := by
    exact vars_of_shape hsh
  have hW' := hW
  obtain ⟨p, q, hA0, hV, rfl, hfz, hnd⟩ := hW
  have hA : DataW.TrodAll enc Tryz.prog W 0 (fun _ => true) true Tryz.f3.params.toList args.toList ds p := hA0
  have hsz := hsz0
  rw [Tryz.params3] at hA hval hsz
  obtain ⟨v0, vs0, d0, ds0, p0, q0, hargs, rfl, rfl, h0, r0⟩ := trodAll_cons hA
  obtain ⟨rfl, rfl, rfl⟩ := trodAll_nil r0
  obtain rfl : args = #[v0] := by cases args; simp_all
  obtain ⟨rfl, rfl⟩ := trodVars_none hV
  have lt0 : ∀ x ∈ p0, x.block < W.heap.size := by obtain ⟨m, hm⟩ := h0; exact DataW.trod_lt m _ _ _ hm
  obtain ⟨a0, len0, cap0, rfl⟩ := okWide_slice Tryz.underlying22 (hval 0 22 v0 rfl rfl)
  obtain ⟨x0, hx0, lx0, wx0⟩ := To.rd_calls h0
  refine (does_law W hv _ _ _ x0 hx0 lx0 wx0).mono fun e W' ⟨he, bel⟩ => ?_
  subst he
  exact ⟨_, rfl, _, _, _, [], _, [], hW', trodAll_mk1 (shut_bool Tryz.underlying4 _), (trodAll_cons_mk (Below.trod laidOut (by kernel_rfl) (of_decide_eq_true (by kernel_rfl)) h0 bel lt0) trodAll_mk0), rfl, bel.frame _, fun h => by cases h⟩

theorem does_lifted (os : Os) (started : os.Started) (H : Type) (enc : TypeId × Value → H) :
    ReturnsInHanded {} Tryz.checked os 3 .any (fun w args => (Rows.trieDoesSpec.pre enc Tryz.prog Tryz.f3 [] false w args ∧ laidMetH Tryz.prog Rows.trieDoesRow.laid w) ∧ sizedMet enc Tryz.prog Tryz.f3 (OpenSpec.ofChange Rows.trieDoesSpec) false w args)
      (Rows.trieDoesSpec.post enc Tryz.prog Tryz.f3 false true false false) := by
  refine returns_and_shaped (C := Tryz.checked) (X := fun w _ => laidMetH Tryz.prog Rows.trieDoesRow.laid w) (fun _ _ _ hh h => h.of_heap hh) own started (by kernel_rfl) Tryz.func3
    (ChangeSpec.witness_shaped (enc := enc) (C := Tryz.checked) (os := os) (X := fun w _ => laidMetH Tryz.prog Rows.trieDoesRow.laid w) false (World.laidAll Tryz.prog os Rows.trieDoesRow.laid) #[.slice none 0 0] 8 (World.laidAll_os _ _ _)
      (World.shaped_of_ZipB (by kernel_rfl) (by kernel_rfl)) (by kernel_rfl) (by kernel_rfl) (by kernel_rfl)
      (by rw [MakeChecks.laidMetH_plain _ _ _ (by kernel_rfl)]; exact laidMet_laidAll _ (by kernel_rfl) (by kernel_rfl))) ?_
  intro W base args ds gs before hval hW hsz hL hsh
  exact does_contract H enc W base args ds gs before hval hW hsz hL hsh

theorem does_said : Rows.TrieDoesSaid :=
  OpenClaim.holds_of_wide 3 Tryz.f3 rfl rfl rfl rfl rfl rfl rfl ⟨rfl, rfl, rfl, rfl, rfl⟩ rfl rfl rfl rfl rfl (by kernel_rfl) Tryz.func3 (by kernel_rfl)
    (of_decide_eq_true (by kernel_rfl)) (by unfold Func.isWrapper; first | (rw [if_pos (by decide +kernel)]; kernel_rfl) | (rw [if_neg (by decide +kernel)]; exact ⟨rfl, rfl⟩))
    (fun os started H enc _ => does_lifted os started H enc)

theorem does_plain (f : FuncId) (fn : Func) (hf : Tryz.pinned.checked.prog.funcNamed "trivet/trivetlaw09.TrieDoes" = some f) (hfn : Tryz.pinned.checked.prog.funcs[f]? = some fn) :
    false = Tryz.pinned.checked.prog.looks [] ∧ ∀ (j : Nat) t, fn.params[j]? = some t → Tryz.pinned.checked.prog.wantsStandIn t = false := by
  obtain rfl : f = 3 := Option.some.inj ((show Tryz.prog.funcNamed "trivet/trivetlaw09.TrieDoes" = some 3 by kernel_rfl).symm.trans hf) |>.symm
  obtain rfl : fn = Tryz.f3 := (Option.some.inj (Tryz.func3.symm.trans hfn)).symm
  refine ⟨by kernel_rfl, fun j t ht => ?_⟩
  rw [Tryz.params3] at ht
  have hm : t ∈ [22] := by simpa using Array.mem_of_getElem? ht
  have hall : ([22].all fun u => !Tryz.prog.wantsStandIn u) = true := by kernel_rfl
  exact (show Tryz.prog.wantsStandIn t = false by simpa using List.all_eq_true.1 hall t hm)

theorem trieDoes_card : Rows.TrieDoesCardSaid :=
  Claim7.holds_tied_plain_at .later [] _ _ _ _ does_said (fun _ h => by cases h) (by kernel_rfl) (fun _ h => by cases h) trieDoes_row_tie rfl ⟨rfl, rfl⟩ (by kernel_rfl) rfl does_plain (by kernel_rfl)
#print axioms trieDoes_card
end Go.Proofs.YtcicnbbnkeellaaGreatDoor
