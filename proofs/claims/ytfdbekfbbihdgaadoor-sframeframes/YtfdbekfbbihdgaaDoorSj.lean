
/- A frame that is read of bytes. Conditions: those that each row states. -/
import Derived.Test.YtfdbekfbbihdgaaDoorSg
namespace Go.Proofs.YtfdbekfbbihdgaaDoor
open Go.RowKit Go.Lib
set_option maxRecDepth 100000
set_option linter.unusedSimpArgs false

theorem headA_lens : ∀ (s : Bs) (out : List Bs) (cur : Bs) {L : List Bs} {r : Bs}, headA out cur s = some (L, r) → ∀ l ∈ L, l ∈ out ∨ l.length ≤ cur.length + s.length
  | [], _, _, _, _, h => by cases h
  | c :: s, out, cur, L, r, h => by
    intro l hl
    rw [headA_cons] at h
    rw [List.length_cons]
    split at h
    · split at h
      · simp only [Option.some.injEq, Prod.mk.injEq] at h
        rw [h.1]; exact .inl hl
      · rcases headA_lens s _ _ h l hl with h1 | h1
        · rcases List.mem_append.1 h1 with h2 | h2
          · exact .inl h2
          · simp at h2
            subst h2
            have := trimR_len cur
            exact .inr (by omega)
        · simp at h1; exact .inr (by omega)
    · rcases headA_lens s _ _ h l hl with h1 | h1
      · exact .inl h1
      · simp at h1; exact .inr (by omega)
theorem letter_any : ∀ (s : Bs) {t : Bs}, unm s = some t → t.length ≤ s.length
  | [], _, h => by simp [unm] at h; subst h; simp
  | [c], _, h => by
    rw [unm] at h
    split at h
    · cases h
    · injection h with h; subst h; simp
  | c :: d :: s, t, h => by
    rw [unm] at h
    split at h
    · cases hl : letter d with
      | none => rw [hl] at h; cases h
      | some x =>
        rw [hl] at h
        cases hu : unm s with
        | none => rw [hu] at h; cases h
        | some u =>
          rw [hu] at h
          simp at h
          subst h
          have := letter_any s hu
          simp; omega
    · cases hu : unm (d :: s) with
      | none => rw [hu] at h; cases h
      | some u =>
        rw [hu] at h
        simp at h
        subst h
        have := letter_any (d :: s) hu
        simp at this ⊢; omega
theorem hdrL_len {b : Bool} {l : Bs} {h : Hd} (e : hdrL b l = some h) : h.2.length ≤ l.length ∧ h.1.length ≤ l.length := by
  unfold hdrL at e
  cases hc : cutN 58 l with
  | none => rw [hc] at e; cases e
  | some p =>
    obtain ⟨n, t⟩ := p
    obtain ⟨h1, _⟩ := cutN_some hc
    have hl : l.length = n.length + t.length + 1 := by rw [h1]; simp; omega
    rw [hc] at e
    simp only [] at e
    split at e
    · cases e
    · split at e
      · injection e with e; subst e; exact ⟨by simp; omega, by simp; omega⟩
      · cases hn : unm n with
        | none => rw [hn] at e; cases e
        | some n' =>
          rw [hn] at e
          cases ht : unm t with
          | none => rw [ht] at e; cases e
          | some t' =>
            rw [ht] at e
            simp at e
            subst e
            have := letter_any _ ht
            have := letter_any _ hn
            exact ⟨by simp; omega, by simp; omega⟩
theorem hdrsL_mem {b : Bool} : ∀ {ls : List Bs} {H : List Hd}, hdrsL b ls = some H → H.length = ls.length ∧ ∀ h ∈ H, ∃ l ∈ ls, hdrL b l = some h
  | [], H, h => by simp [hdrsL] at h; subst h; simp
  | l :: ls, H, h => by
    rw [hdrsL] at h
    cases h1 : hdrL b l with
    | none => rw [h1] at h; cases h
    | some x =>
      rw [h1] at h
      cases h2 : hdrsL b ls with
      | none => rw [h2] at h; cases h
      | some X =>
        rw [h2] at h
        simp at h
        subst h
        obtain ⟨h3, h4⟩ := hdrsL_mem h2
        refine ⟨by simp [h3], fun y hy => ?_⟩
        simp at hy
        rcases hy with rfl | hy
        · exact ⟨l, by simp, h1⟩
        · obtain ⟨l', h5, h6⟩ := h4 y hy
          exact ⟨l', by simp [h5], h6⟩
abbrev uponH (out : List Hd) (o : Option (List Hd)) : Option (List Hd) := o.map (out ++ ·)
theorem hdrs_no {b : Bool} {ls : List Bs} {k : Nat} {out : List Hd} (h : k < ls.length) (h2 : hdrsL b ls = uponH out (hdrsL b (ls.drop k))) (h3 : hdrL b ls[k] = none) : hdrsL b ls = none := by
  rw [h2, List.drop_eq_getElem_cons h, hdrsL, h3]; rfl
theorem hdrs_step {b : Bool} {ls : List Bs} {k : Nat} {out : List Hd} {x : Hd} (h : k < ls.length) (h2 : hdrsL b ls = uponH out (hdrsL b (ls.drop k))) (h3 : hdrL b ls[k] = some x) : hdrsL b ls = uponH (out ++ [x]) (hdrsL b (ls.drop (k + 1))) := by
  rw [h2, List.drop_eq_getElem_cons h, hdrsL, h3]
  cases hdrsL b (ls.drop (k + 1)) <;> simp [uponH]
theorem OwnH.shape {w : World} {B : Nat} {v : Value} {l : List Hd} (h : OwnH w B v l) : ∃ a n c, v = .slice a n c := by
  obtain ⟨_, h⟩ := h
  rcases h with ⟨rfl, _⟩ | ⟨g, cap, cur, rfl, _⟩
  · exact ⟨_, _, _, rfl⟩
  · exact ⟨_, _, _, rfl⟩
theorem ret24 {fn : Func} {p : Tmp} {tmps : Array Value} {W : World} {g : Nat} {cs : Array Value} {R : Ending → World → Prop} (hf : fn.results = #[.cell p 24]) (h : Blk W g cs 24) (hs : cs.size = 3) (hp : tmps.getD p undef = .pointer (some ⟨g, 0, none⟩)) (hR : R (.returned (.agg cs)) W) :
    bodyPost Tryd.prog fn R .ret { tmps := tmps, defers := [] } W :=
  bodyPost_ret (results_cell_row hf tmps W g 24 cs (0, 0) _ hp h.h Tryd.underlying24 rfl (by rw [hs]; kernel_rfl)) rfl hR
theorem wpAnyH_two {P : Program} {md : Region.Mode} {ops : Array Oper} {Q : Exit → Act → World → Prop} {S : World → Prop} {i j : Nat} {o o' : Oper} {fuel : Nat} {listed : Array Bool} {a : Act} {w : World} (hr : Region.ready md ops listed = [i, j]) (ho : ops[i]? = some o) (hw : Region.wanted o (yielded ops a.tmps) = true) (ho' : ops[j]? = some o') (hw' : Region.wanted o' (yielded ops a.tmps) = true)
    (h : ∀ K : Act → World → Prop, (∀ a' w', S w' → wpAnyH P md ops Q S fuel (listed.setIfInBounds i true) a' w' → K a' w') → o.wp P a w K Q)
    (h' : ∀ K : Act → World → Prop, (∀ a' w', S w' → wpAnyH P md ops Q S fuel (listed.setIfInBounds j true) a' w' → K a' w') → o'.wp P a w K Q) : wpAnyH P md ops Q S (fuel + 1) listed a w :=
  wpAnyH_all hr (by simp) (fun k hk => by
    simp only [List.mem_cons, List.not_mem_nil, or_false] at hk
    rcases hk with rfl | rfl
    · unfold wpOp
      simp only [ho]
      rw [if_pos hw]
      exact .inl (h _ (fun _ _ h1 h2 => ⟨h1, h2⟩))
    · unfold wpOp
      simp only [ho']
      rw [if_pos hw']
      exact .inl (h' _ (fun _ _ h1 h2 => ⟨h1, h2⟩)))

/-- What frame answers and leaves. -/
def FrameP (w : World) (b : Nat) (R : Except Int (Fr × Bs)) (e : Ending) (w' : World) : Prop :=
  Alb w.heap.size w w' b ∧ ((∃ f r hv, R = .ok (f, r) ∧ e = .returned (frV f.cmd hv f.body) ∧ OwnH w' w.heap.size hv f.hs ∧ Cr w' b r) ∨ (∃ g, R = .error g ∧ e = .panicked (gup g)))
abbrev FR : Array Value := #[str [], .slice none 0 0, str []]
set_option maxHeartbeats 2000000 in
theorem frame_none (w : World) (b : Nat) (s : Bs) (hr : Cr w b s) (hb : b < w.heap.size) (hs : s.length ≤ 100000000) (hh : headA [] [] s = none) :
    Calls Tryd.prog 37 #[.pointer (some ⟨b, 0, none⟩)] w fun e w' => FrameP w b (readL s) e w' := by
  have hR : readL s = .error 41 := by unfold readL; rw [hh]
  rw [hR]
  have kB := Blk.new w FR 24
  have hb0 := below_new w (.cells FR 24)
  have HD := head_any (w.alloc (.cells FR 24)) b s (hr.on hb0 hb) (by simp; omega) hs
  rw [hh] at HD
  go_enter Tryd.func37, Tryd.ntmps37
  go_wp2_with fail
  refine HD.mono ?_
  rintro e w1 ⟨hA, ⟨L, r, v, h1, _⟩ | ⟨_, rfl⟩⟩
  · cases h1
  · exact ⟨rfl, (Alb.below hb0).trans ⟨hA.os, hA.tape, hA.output, hA.size, fun k hk => hA.block k (by simp; omega)⟩, .inr ⟨41, rfl, rfl⟩⟩
set_option maxHeartbeats 2000000 in
theorem frame_bad (w : World) (b : Nat) (s : Bs) (hr : Cr w b s) (hb : b < w.heap.size) (hs : s.length ≤ 100000000) (L : List Bs) (r : Bs) (hh : headA [] [] s = some (L, r)) (hbad : ∀ c ls, L = c :: ls → ¬ (isCmd c = true ∧ ls.length ≤ 32)) :
    Calls Tryd.prog 37 #[.pointer (some ⟨b, 0, none⟩)] w fun e w' => FrameP w b (readL s) e w' := by
  have hR : readL s = .error 40 := by
    unfold readL
    rw [hh]
    cases L with
    | nil => rfl
    | cons c ls =>
      simp only []
      rw [if_neg (hbad c ls rfl)]
  have HI := fun w => insist_no w 40
  obtain ⟨g, hg⟩ : ∃ g, gup 40 = g := ⟨_, rfl⟩
  have hE : ∃ x, (Except.error 40 : Except Int (Fr × Bs)) = .error x ∧ g = gup x := ⟨40, rfl, hg.symm⟩
  rw [hg] at HI
  clear hg
  rw [hR]
  clear hR
  have hb0 := below_new w (.cells FR 24)
  have HD := head_any (w.alloc (.cells FR 24)) b s (hr.on hb0 hb) (by simp; omega) hs
  have hll := headA_lens _ _ _ hh
  rw [hh] at HD
  go_enter Tryd.func37, Tryd.ntmps37
  go_wp2_with fail
  refine HD.mono ?_
  rintro e w1 ⟨hA, ⟨L', r', v, h1, rfl, ho, hc, hlen⟩ | ⟨h1, rfl⟩⟩
  · injection h1 with h1
    injection h1 with h1 h2
    subst h1 h2
    have hA1 : Alb w.heap.size w w1 b := (Alb.below hb0).trans ⟨hA.os, hA.tape, hA.output, hA.size, fun k hk => hA.block k (by simp; omega)⟩
    have hw1 := hA1.size
    have hrl := ho.rd
    clear HD hA ho hh hr hc
    rcases hrl with ⟨⟨a, cp, rfl⟩, rfl⟩ | ⟨g1, o, cp, rfl, _, hcell⟩
    · go_wp2_with fail
      refine (HI _).mono ?_
      rintro e w' ⟨rfl, rfl⟩
      obtain ⟨x, h3, h4⟩ := hE
      exact ⟨rfl, hA1, .inr ⟨x, h3, by rw [h4]⟩⟩
    · cases L with
      | nil =>
        go_wp2_with fail
        refine (HI _).mono ?_
        rintro e w' ⟨rfl, rfl⟩
        obtain ⟨x, h3, h4⟩ := hE
        exact ⟨rfl, hA1, .inr ⟨x, h3, by rw [h4]⟩⟩
      | cons c ls =>
        have hwz : wrap64 (ls.length : Int) = (ls.length : Int) := by
          have h5 : (ls.length : Int) ≤ 100000000 := by simp at hlen; omega
          unfold wrap64; omega
        have c0 := hcell 0 (by simp)
        simp only [Nat.add_zero, List.getElem_cons_zero] at c0
        have hbad := hbad c ls rfl
        have hcl : c.length ≤ 140737488355328 := by
          rcases hll c (by simp) with h | h
          · cases h
          · simp at h; omega
        have HC := fun w => iscmd_any w c hcl
        clear hcell hll
        cases hic : isCmd c with
        | false =>
          rw [hic] at HC
          go_wp2_with fail
          refine (HC _).mono ?_
          rintro e w2 ⟨rfl, b2⟩
          go_wp2_with fail
          refine (HI _).mono ?_
          rintro e w' ⟨rfl, rfl⟩
          obtain ⟨x, h3, h4⟩ := hE
          exact ⟨rfl, hA1.trans (.below (b2.mono hw1)), .inr ⟨x, h3, by rw [h4]⟩⟩
        | true =>
          rw [hic] at HC hbad
          have hz : decide ((ls.length : Int) ≤ 32) = false := decide_eq_false (fun h => hbad ⟨rfl, by omega⟩)
          go_wp2_with fail
          refine (HC _).mono ?_
          rintro e w2 ⟨rfl, b2⟩
          go_wp2_with fail
          refine (HI _).mono ?_
          rintro e w' ⟨rfl, rfl⟩
          obtain ⟨x, h3, h4⟩ := hE
          exact ⟨rfl, hA1.trans (.below (b2.mono hw1)), .inr ⟨x, h3, by rw [h4]⟩⟩
  · cases h1
end Go.Proofs.YtfdbekfbbihdgaaDoor
