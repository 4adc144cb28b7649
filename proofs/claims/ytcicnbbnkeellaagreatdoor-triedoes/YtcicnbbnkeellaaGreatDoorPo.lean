/- (*node).prune, its closure, maps.DeleteFunc over it. Conditions: those that each row states. -/
import Derived.Test.YtcicnbbnkeellaaGreatDoorPn
import Derived.LoopTactic
import Derived.LoopN
namespace Go.Proofs.YtcicnbbnkeellaaGreatDoor
open Go.RowKit Go.Maps
set_option maxRecDepth 100000

theorem row_len {w : World} {v : Value} {n : Nat} {xs : List Value} (h : w.ownsRow 0 3 1 v n xs) : ∃ a c, v = .slice a n c := by
  obtain ⟨_, ⟨rfl, h0⟩ | ⟨g, cap, cur, rfl, _⟩⟩ := h
  · exact ⟨none, 0, by rw [h0]⟩
  · exact ⟨_, cap, rfl⟩
/-- The closure: the child is pruned; whether nothing stands there then. -/
theorem prune1_any (w : World) {N : Nat} {T : Tr} {p : List Wd} {c : Nd} (hc : T p = some c) (k : Wd)
    (hI : Calls Tryz.prog 29 #[ptrO (some c.q)] w fun e w' => e = .returned (.tuple #[]) ∧ PruW N p T w w') :
    Calls Tryz.prog 56 #[str k, ptrO (some c.q)] w fun e w' => ∃ b, e = .returned (.bool b) ∧ ∃ T', TrW w' N T' ∧ Pru p T T' ∧ FrP p T w w' ∧ (b = true → c.ids = [] ∧ ∀ y, T' (p ++ [y]) = none) := by
  have e0 : T p = T p := rfl
  clear e0
  simp only [ptrO, str] at hI ⊢
  generalize hRR : (fun e w' => ∃ b, e = Ending.returned (.bool b) ∧ ∃ T', TrW w' N T' ∧ Pru p T T' ∧ FrP p T w w' ∧ (b = true → c.ids = [] ∧ ∀ y, T' (p ++ [y]) = none)) = RR
  have HR : Hid ((fun e w' => ∃ b, e = Ending.returned (.bool b) ∧ ∃ T', TrW w' N T' ∧ Pru p T T' ∧ FrP p T w w' ∧ (b = true → c.ids = [] ∧ ∀ y, T' (p ++ [y]) = none)) = RR) := hRR
  clear hRR
  go_enter Tryz.func56, Tryz.ntmps56
  go_wp2_with fail
  refine hI.mono ?_
  rintro e w1 ⟨rfl, T', hT, hP, hF⟩
  have hc1 : T' p = some c := (hP.out p (fun ⟨j, s, e⟩ => by have := congrArg List.length e; simp at this)).trans hc
  have hat := hT.at' p c hc1
  obtain ⟨c0, c1, _, _⟩ := cell_q hat.cells
  obtain ⟨a, cp, hv⟩ := row_len hat.ids
  rw [hv] at c1
  obtain ⟨z, hlen, _, hz⟩ := hat.map.len 3
  have HZ : Hid (z = 0 → ∀ y, T' (p ++ [y]) = none) := fun h0 y => by
    cases e : T' (p ++ [y]) with
    | none => rfl
    | some ny =>
      have h1 := hz h0 y (by have := (hT.word p y (by rw [e]; simp)).1; unfold maxLen; omega)
      rw [e] at h1
      cases h1
  have HT : Hid (TrW w1 N T') := hT
  clear hz hT hat hI hv
  by_cases h0 : c.ids = []
  · have e0 : c.ids.length = 0 := by rw [h0]; rfl
    rw [e0] at c1
    have H0 : Hid (c.ids = []) := h0
    clear h0 e0
    go_wp2
    rw [← HR.out]
    exact ⟨_, rfl, T', HT.out, hP, hF, fun hb => ⟨H0.out, HZ.out (by simpa using hb)⟩⟩
  · obtain ⟨n, hn⟩ : ∃ n, c.ids.length = n + 1 := ⟨c.ids.length - 1, by have := List.length_pos_iff.2 h0; omega⟩
    rw [hn] at c1
    clear h0 hn hlen c0
    go_wp2
    rw [← HR.out]
    exact ⟨_, rfl, T', HT.out, hP, hF, fun hb => by cases hb⟩

def Clos (N : Nat) (p : List Wd) : Prop := ∀ (T : Tr) (w : World) (k : Wd) (c : Nd), TrW w N T → T (p ++ [k]) = some c →
  Calls Tryz.prog 56 #[str k, ptrO (some c.q)] w fun e w' => ∃ b, e = .returned (.bool b) ∧ ∃ T', TrW w' N T' ∧ Pru (p ++ [k]) T T' ∧ FrP (p ++ [k]) T w w' ∧ (b = true → c.ids = [] ∧ ∀ y, T' (p ++ [k] ++ [y]) = none)
theorem child_m {w : World} {N : Nat} {T : Tr} (h : TrW w N T) {p : List Wd} {nd : Nd} (hp : T p = some nd) (k : Wd) : ∀ s ns, T (p ++ [k] ++ s) = some ns → nd.m ≠ ns.m := fun s ns e he => by
  have := congrArg List.length (h.injm _ _ _ _ hp e he)
  simp at this
set_option maxHeartbeats 1000000 in
theorem del_any (w : World) {N : Nat} {T : Tr} (h : TrW w N T) {p : List Wd} {nd : Nd} (hp : T p = some nd) (hcl : Clos N p) :
    Calls Tryz.prog 55 #[.map (some nd.m), .func (.func 56) #[] #[]] w fun e w' => e = .returned (.tuple #[]) ∧ PruW N p T w w' := by
  obtain ⟨w0, cnt0, hrun, hR0, hg0, hs0⟩ := (h.at' p nd hp).map.range
  have hbel : Below w.heap.size w w0 := ⟨hg0.os, hg0.tape, hg0.output, hg0.size, fun k hk => hg0.block k hk (by simp)⟩
  have hT0 := h.below hbel
  have H0 : Hid (RngF w0 nd.m w.heap.size N (fun k => (T (p ++ [k])).map Nd.q) (fun k => ((T (p ++ [k])).map Nd.q).isSome) cnt0 ∧ TrW w0 N T ∧ Below w.heap.size w w0) := ⟨hR0, hT0, hbel⟩
  clear hR0 hg0 hT0 hbel
  go_enter Tryz.func55, Tryz.ntmps55
  go_wp2
  go_loopw [4] (fun _ wr => ∃ T' left cnt, RngF wr nd.m w.heap.size N (fun k => (T' (p ++ [k])).map Nd.q) left cnt ∧ TrW wr N T' ∧ Pru p T T' ∧ FrP p T w wr) (fun _ wr => wr.rangeLeft nd.m w.heap.size)
  case atStart =>
    obtain ⟨h1, h2, h3⟩ := H0.out
    exact ⟨T, _, _, h1, h2, Pru.refl p T, ⟨h3.os, h3.tape, h3.output, h3.size, fun b hb _ => h3.block b hb⟩⟩
  case round =>
    obtain ⟨T', left, cnt, hR, hT, hP, hF⟩ := hrel
    have hp' : T' p = some nd := (hP.out p (fun ⟨j, s, e⟩ => by have := congrArg List.length e; simp at this)).trans hp
    rcases hR.next 0 with ⟨h0, hl, hrn⟩ | ⟨k, q, w1, cnt1, hk, hlk, hfk, hrn, hR1, hlt, hg1, hs1, hen⟩
    · have HE : Hid (PruW N p T w wr) := ⟨T', hT, hP, hF⟩
      clear hR hT hP hF hl
      go_wp2
      go_end0
      exact ⟨rfl, HE.out⟩
    · obtain ⟨c, hc, hq⟩ : ∃ c, T' (p ++ [k]) = some c ∧ c.q = q := by
        cases e : T' (p ++ [k]) with
        | none => rw [e] at hfk; cases hfk
        | some c => rw [e] at hfk; exact ⟨c, rfl, by simpa using hfk⟩
      subst hq
      have hrX : ¬ XT T' w.heap.size := fun hx => by
        have := h.lt (hP.X hx)
        omega
      have hT1 : TrW w1 N T' := hT.on (fun b hb => hg1.block b (hT.lt hb) (fun e => by injection e with e; exact hrX (e ▸ hb)))
      have hC := hcl T' w1 k c hT1 hc
      have hML : Hid (wr.rangeLeft nd.m w.heap.size = cnt) := hR.left_eq
      simp only [ptrO, str] at hrn hen hC
      go_wp2_with fail
      refine hC.mono ?_
      rintro e w2 ⟨b, rfl, T2, hT2, hP2, hF2, hb⟩
      have hp2 : T2 p = some nd := (hP2.deep.out p (fun ⟨j, s, e⟩ => by have := congrArg List.length e; simp at this)).trans hp'
      have hmk : w2.heap[nd.m]? = w1.heap[nd.m]? := hF2.keep _ (hT1.lt ⟨p, nd, hp', .inr (.inl rfl)⟩) (child_m hT1 hp' k)
      have hrk : w2.heap[w.heap.size]? = w1.heap[w.heap.size]? := hF2.keep _ hR1.lt (fun s ns e he => hrX ⟨_, ns, e, .inr (.inl he)⟩)
      have hR2 : RngF w2 nd.m w.heap.size N (fun x => (T2 (p ++ [x])).map Nd.q) (fun x => left x && x != k) cnt1 := by
        have := hR1.on hmk hrk
        have e2 : (fun x => (T2 (p ++ [x])).map Nd.q) = (fun x => (T' (p ++ [x])).map Nd.q) := by
          funext x
          rw [hP2.out (p ++ [x]) (fun ⟨j, s, e⟩ => by have := congrArg List.length e; simp at this)]
        rw [e2]
        exact this
      have hFF : FrP p T w w2 := by
        refine ⟨hF2.os.trans (hg1.os.trans hF.os), hF2.tape.trans (hg1.tape.trans hF.tape), hF2.output.trans (hg1.output.trans hF.output), Nat.le_trans hF.size (Nat.le_trans hg1.size hF2.size), fun x hx hn => ?_⟩
        have hx1 : x < wr.heap.size := Nat.lt_of_lt_of_le hx hF.size
        rw [hF2.keep x (by omega) (fun s ns e => hn (k :: s) ns (hP.some (by simpa using e))), hg1.block x hx1 (fun e => by injection e with e; omega)]
        exact hF.keep x hx hn
      cases b with
      | false =>
        have HR2 : Hid (RngF w2 nd.m w.heap.size N (fun x => (T2 (p ++ [x])).map Nd.q) (fun x => left x && x != k) cnt1) := hR2
        have HE : Hid (TrW w2 N T2 ∧ Pru p T T2 ∧ FrP p T w w2) := ⟨hT2, hP.trans hP2.deep, hFF⟩
        clear hR hT hP hF hR1 hT1 hT2 hP2 hF2 hFF hR2 hcl hC hmk hrk hb hen hrn hg1
        go_wp2
        go_roundw
        case rel => exact ⟨T2, _, _, HR2.out, HE.out⟩
        case measure => rw [HR2.out.left_eq, hML.out]; exact hlt
      | true =>
        obtain ⟨hi, hnn⟩ := hb rfl
        obtain ⟨w3, cnt3, hrd, hR3, hle, htn⟩ := hR2.drop hk 0
        have hg3 := htn.grown
        have hT3 : TrW w3 N (remN T2 (p ++ [k])) := hT2.rem hp2 hnn hR3.map (fun b hb hne => hg3.block b (hT2.lt hb) (fun e => by injection e with e; exact hne e))
        have hc2 : T2 (p ++ [k]) = some c := (hP2.out _ (fun ⟨j, s, e⟩ => by have := congrArg List.length e; simp at this)).trans hc
        have hP3 := hP.trans (hP2.deep.trans (remN_pru hc2 hi))
        have hF3 : FrP p T w w3 := ⟨hg3.os.trans hFF.os, hg3.tape.trans hFF.tape, hg3.output.trans hFF.output, Nat.le_trans hFF.size hg3.size, fun x hx hn => (hg3.block x (Nat.lt_of_lt_of_le hx hFF.size) (fun e => by injection e with e; exact hn [] nd (by simpa using hp) e)).trans (hFF.keep x hx hn)⟩
        have HR3 : Hid (RngF w3 nd.m w.heap.size N (fun x => (remN T2 (p ++ [k]) (p ++ [x])).map Nd.q) (fun x => (left x && x != k) && x != k) cnt3) := by
          have e3 : (fun x => (remN T2 (p ++ [k]) (p ++ [x])).map Nd.q) = updF (fun x => (T2 (p ++ [x])).map Nd.q) k none := by
            funext x
            unfold updF
            by_cases hx : x = k
            · rw [if_pos hx, hx, remN_same]; rfl
            · rw [if_neg hx, remN_other _ _ (fun e => hx (snoc_inj e).2)]
          show RngF _ _ _ _ _ _ _
          rw [e3]
          exact hR3
        have HE : Hid (TrW w3 N (remN T2 (p ++ [k])) ∧ Pru p T (remN T2 (p ++ [k])) ∧ FrP p T w w3) := ⟨hT3, hP3, hF3⟩
        clear hR hT hP hF hR1 hT1 hT2 hP2 hF2 hFF hR2 hcl hC hmk hrk hb hen hrn hg1 hR3 hT3 hP3 hF3 hg3 htn hnn hi hc2
        simp only [str] at hrd
        go_wp2
        go_roundw
        case rel => exact ⟨_, _, _, HR3.out, HE.out⟩
        case measure => rw [HR3.out.left_eq, hML.out]; omega
theorem prune_any (N : Nat) : ∀ (d : Nat) (p : List Wd) (T : Tr) (w : World) (nd : Nd), 9 ≤ p.length + d → TrW w N T → T p = some nd →
    Calls Tryz.prog 29 #[ptrO (some nd.q)] w fun e w' => e = .returned (.tuple #[]) ∧ PruW N p T w w'
  | 0, p, T, w, nd, hd, h, hp => by
    have := h.deep p (by rw [hp]; simp)
    omega
  | d + 1, p, T, w, nd, hd, h, hp => by
    have hcl : Clos N p := fun T1 w1 k c h1 hc => prune1_any w1 hc k (prune_any N d (p ++ [k]) T1 w1 c (by simp; omega) h1 hc)
    have hdel := del_any w h hp hcl
    obtain ⟨c0, c1, _, _⟩ := cell_q (h.at' p nd hp).cells
    clear hcl c1
    simp only [ptrO]
    generalize PruW N p T w = PW at *
    go_enter Tryz.func29, Tryz.ntmps29
    go_wp2_with (go_at_call 55; refine hdel.mono ?_; rintro e w1 ⟨rfl, hP⟩)
    go_end0
    exact ⟨rfl, hP⟩
end Go.Proofs.YtcicnbbnkeellaaGreatDoor
