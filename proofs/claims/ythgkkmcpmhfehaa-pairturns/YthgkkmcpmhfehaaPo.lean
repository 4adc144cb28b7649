/- A pair's calls, said of what its pages hold. -/
import Derived.Test.YthgkkmcpmhfehaaPn
namespace Go.Proofs.Ythgkkmcpmhfehaa
open Go.RowKit Go.Lib Go.Shelf
set_option maxRecDepth 100000

theorem PS.on {w w' : World} {X Y Y' : Nat → Prop} {p t q n : Nat} {S : DS} {half : Nat} {b : List UInt8} {rs : List (List UInt8)} (h : PS w X p t q n S half b rs) (hs : Step Y Y' w w') (hd : ∀ k, X k → ¬ Y k) (hp : ¬ Y p) (ht : ¬ Y t) : PS w' X p t q n S half b rs :=
  ⟨h.d.on hs hd, h.pr.on (hs.block p h.pr.lt hp), h.tp.on (hs.block t h.tp.lt ht), h.np, h.nt, h.pp, h.dn, h.wz⟩
theorem PS.below {w w' : World} {X : Nat → Prop} {p t q n : Nat} {S : DS} {half : Nat} {b : List UInt8} {rs : List (List UInt8)} (h : PS w X p t q n S half b rs) (hb : Below w.heap.size w w') : PS w' X p t q n S half b rs :=
  h.on (Y := fun _ => False) (Y' := fun _ => False) (Step.of_below hb) (fun _ _ h => h) id id

/-- What a Save leaves. -/
structure SaveEnd (S : DS) (n half : Nat) (b : List UInt8) (rs : List (List UInt8)) (b' : List UInt8) (L R : DS × Int) : Prop where
  l0 : L.2 = 0 → L.1.down = false ∧ L.1.W = [] ∧ L.1.ops ≤ S.ops + (takesN b'.length + 2)
  w : R.1.W = []
  ops : R.1.ops ≤ S.ops + (takesN b'.length + 4)
  c : (R.2 = 0 ∧ R.1.down = false ∧ R.1.ops = S.ops + (takesN b'.length + 4) ∧ (S.armed = 0 → R.1.armed = 0) ∧ PP R.1.P n (1 - half) b' [] ∧ (∀ j, 256 ≤ j → j < firstN n (1 - half) * 256 ∨ (firstN n (1 - half) + spanN n) * 256 ≤ j → R.1.P[j]? = S.P[j]?)) ∨
    (R.2 = 20 ∧ S.armed ≠ 0 ∧ R.1.armed = 0 ∧ R.1.down = true ∧ (PP R.1.P n half b rs ∨ PP R.1.P n (1 - half) b' []))

theorem save_end (S : DS) (n half : Nat) (b : List UInt8) (rs : List (List UInt8)) (hpp : PP S.P n half b rs) (hP : S.P.length = n * 256) (hn : 1 ≤ n) (hd : S.down = false) (hW : S.W = []) (b' : List UInt8) (hl : b'.length ≤ 1048576) (htk : takesN b'.length < spanN n) :
    SaveEnd S n half b rs b' (layP S (firstN n (1 - half)) (snI b') (takesN b'.length + 1)) (if (layP S (firstN n (1 - half)) (snI b') (takesN b'.length + 1)).2 ≠ 0 then layP S (firstN n (1 - half)) (snI b') (takesN b'.length + 1) else tellD (layP S (firstN n (1 - half)) (snI b') (takesN b'.length + 1)).1 (1 - half)) := by
  have hmk := S.is_mk hW hd
  have hh1 := hpp.h1
  obtain ⟨h1, h2, _⟩ := halves n half hpp.h1 hn
  obtain ⟨a1, a2, a3⟩ := halves n (1 - half) (by omega) hn
  rw [show 1 - (1 - half) = half by omega] at a3
  have hI := snI_length b'
  have hf : firstN n (1 - half) * 256 + (snI b').length ≤ S.P.length := by rw [hI, hP]; omega
  have hP1 : (splice S.P (firstN n (1 - half) * 256) (snI b')).length = n * 256 := by rw [length_splice _ _ _ hf, hP]
  have hg1 : ∀ j, j < firstN n (1 - half) * 256 ∨ (firstN n (1 - half) + spanN n) * 256 ≤ j → (splice S.P (firstN n (1 - half) * 256) (snI b'))[j]? = S.P[j]? := fun j hj => by
    rw [splice_get _ _ _ hf, if_neg (by rw [hI]; omega)]
  rcases layP_mk S.P S.ops S.armed S.keep (firstN n (1 - half)) n (takesN b'.length + 1) (snI b') hP hI (by omega) with ⟨e1, e2⟩ | ⟨e1, e2, P', e3, e4, e5⟩
  · rw [hmk, e2, ← hmk, if_neg (by simp)]
    simp only
    have hl0 : ((mkS (splice S.P (firstN n (1 - half) * 256) (snI b')) [] (S.ops + (takesN b'.length + 1) + 1) false (S.armed - (takesN b'.length + 1 + 1)) S.keep, (0 : Int)) : DS × Int).2 = 0 → (mkS (splice S.P (firstN n (1 - half) * 256) (snI b')) [] (S.ops + (takesN b'.length + 1) + 1) false (S.armed - (takesN b'.length + 1 + 1)) S.keep).down = false ∧ (mkS (splice S.P (firstN n (1 - half) * 256) (snI b')) [] (S.ops + (takesN b'.length + 1) + 1) false (S.armed - (takesN b'.length + 1 + 1)) S.keep).W = [] ∧ (mkS (splice S.P (firstN n (1 - half) * 256) (snI b')) [] (S.ops + (takesN b'.length + 1) + 1) false (S.armed - (takesN b'.length + 1 + 1)) S.keep).ops ≤ S.ops + (takesN b'.length + 2) := fun _ => ⟨rfl, rfl, by show S.ops + (takesN b'.length + 1) + 1 ≤ _; omega⟩
    have hfT : 0 + (pgT (1 - half)).length ≤ (splice S.P (firstN n (1 - half) * 256) (snI b')).length := by rw [pgT_length, hP1]; omega
    rcases tellD_mk (splice S.P (firstN n (1 - half) * 256) (snI b')) (S.ops + (takesN b'.length + 1) + 1) (S.armed - (takesN b'.length + 1 + 1)) S.keep n (1 - half) hP1 hn with ⟨f1, f2⟩ | ⟨f1, f2, P', f3, f4, f5⟩
    · rw [f2]
      have hg2 : ∀ j, 256 ≤ j → (splice (splice S.P (firstN n (1 - half) * 256) (snI b')) 0 (pgT (1 - half)))[j]? = (splice S.P (firstN n (1 - half) * 256) (snI b'))[j]? := fun j hj => by
        rw [splice_get _ _ _ hfT, if_neg (by rw [pgT_length]; omega)]
      refine ⟨hl0, rfl, by show S.ops + (takesN b'.length + 1) + 1 + 2 ≤ _; omega, .inl ⟨rfl, rfl, by show S.ops + (takesN b'.length + 1) + 1 + 2 = _; omega, fun h0 => by show S.armed - (takesN b'.length + 1 + 1) - 2 = 0; omega, ?_, fun j hj hj2 => ?_⟩⟩
      · refine PP.saved (P := S.P) (by omega) hn hl htk (by show (splice _ 0 _).length = _; rw [length_splice _ _ _ hfT, hP1]) ?_ (fun j hj hj2 => hg2 j (by omega)) hP
        show (splice _ 0 (pgT (1 - half)))[0]? = _
        rw [splice_get _ _ _ hfT, if_pos (by rw [pgT_length]; omega)]
        rfl
      · show (splice (splice S.P (firstN n (1 - half) * 256) (snI b')) 0 (pgT (1 - half)))[j]? = _
        rw [hg2 j hj, hg1 j hj2]
    · rw [f3]
      refine ⟨hl0, rfl, by show S.ops + (takesN b'.length + 1) + 1 + (S.armed - (takesN b'.length + 1 + 1)) ≤ _; omega, .inr ⟨rfl, by omega, rfl, rfl, ?_⟩⟩
      show PP P' n half b rs ∨ PP P' n (1 - half) b' []
      have hl' : P'.length = n * 256 := by rw [f4, hP1]
      have h256 : ∀ j, 256 ≤ j → P'[j]? = (splice S.P (firstN n (1 - half) * 256) (snI b'))[j]? := fun j hj => by
        rcases f5 j with h' | ⟨h', _⟩
        · exact h'
        · omega
      rcases f5 0 with h0 | ⟨_, h0⟩
      · left
        refine hpp.other (by rw [hl', hP]) (by rw [h0, hg1 0 (by omega)]) (fun j hj hj2 => ?_)
        rw [h256 j (by omega), hg1 j (by omega)]
      · right
        exact PP.saved (P := S.P) (by omega) hn hl htk hl' (by rw [h0]; rfl) (fun j hj _ => h256 j (by omega)) hP
  · rw [hmk, e3, ← hmk, if_pos (by simp)]
    refine ⟨(fun h => by cases h), rfl, by show S.ops + S.armed ≤ _; omega, .inr ⟨rfl, by omega, rfl, rfl, .inl ?_⟩⟩
    show PP P' n half b rs
    have hout : ∀ j, j < firstN n (1 - half) * 256 ∨ (firstN n (1 - half) + (takesN b'.length + 1)) * 256 ≤ j → P'[j]? = S.P[j]? := fun j hj => by
      rcases e5 j with h' | ⟨h3, h4⟩
      · exact h'
      · omega
    exact hpp.other e4 (hout 0 (by omega)) (fun j hj hj2 => hout j (by omega))

theorem save_ps (w : World) (X : Nat → Prop) (p t q n : Nat) (S : DS) (half : Nat) (b : List UInt8) (rs : List (List UInt8)) (h : PS w X p t q n S half b rs) (hops : S.ops ≤ 80000) (b' : List UInt8) (v : Value) (hb : Sl.RdA w v b') (hl : b'.length ≤ 1048576) (htk : takesN b'.length < spanN n) :
    Calls Try.prog 16 #[.pointer (some ⟨p, 0, none⟩), v] w fun e w' => ∃ X' S', Drum w' X' q n S' ∧ Step (fun k => X k ∨ k = p) (fun k => X' k ∨ k = p) w w' ∧ (∀ k, X' k → X k ∨ w.heap.size ≤ k) ∧ S'.W = [] ∧ S'.ops ≤ S.ops + (takesN b'.length + 4) ∧
      ((e = .returned (.int .i64 0) ∧ (∃ t', w.heap.size ≤ t' ∧ PS w' X' p t' q n S' (1 - half) b' []) ∧ S'.ops = S.ops + (takesN b'.length + 4) ∧ (S.armed = 0 → S'.armed = 0) ∧ (∀ j, 256 ≤ j → j < firstN n (1 - half) * 256 ∨ (firstN n (1 - half) + spanN n) * 256 ≤ j → S'.P[j]? = S.P[j]?)) ∨
       (e = .returned (.int .i64 20) ∧ S.armed ≠ 0 ∧ S'.armed = 0 ∧ S'.down = true ∧ (PP S'.P n half b rs ∨ PP S'.P n (1 - half) b' []))) := by
  have hn1 : 1 ≤ n := by unfold spanN at htk; omega
  have hh1 := h.pp.h1
  have htop := h.d.top
  have htk4 : takesN b'.length ≤ 4096 := by unfold spanN at htk; omega
  have he := save_end S n half b rs h.pp h.d.len hn1 h.dn h.wz b' hl htk
  obtain ⟨L, hL⟩ : ∃ L, L = layP S (firstN n (1 - half)) (snI b') (takesN b'.length + 1) := ⟨_, rfl⟩
  rw [← hL] at he
  obtain ⟨R, hR⟩ : ∃ R, R = if L.2 ≠ 0 then L else tellD L.1 (1 - half) := ⟨_, rfl⟩
  rw [← hR] at he
  refine (psave_any w X p t q n S half (1 - half) h.dn h.wz h.d h.pr h.np hops (by omega) b' v hb hl htk L R hL hR (fun h0 => by obtain ⟨z1, z2, z3⟩ := he.l0 h0; exact ⟨z1, z2, by omega⟩) (by rcases he.c with h' | h'; exact .inl h'.1; exact .inr h'.1) (fun h0 => by
    rcases he.c with ⟨_, z1, _, _, z2, _⟩ | ⟨z1, _⟩
    · exact ⟨z1, he.w, z2.la⟩
    · rw [h0] at z1; cases z1)).mono ?_
  rintro e w' ⟨X', rfl, k1, k2, k3, k4⟩
  refine ⟨X', R.1, k1, k3, k2, he.w, he.ops, ?_⟩
  have hxp : ¬ X' p := fun hxx => by
    rcases k2 p hxx with h' | h'
    · exact h.np h'
    · have := h.pr.lt; omega
  rcases he.c with ⟨z0, z1, z2, z3, z4, z5⟩ | ⟨z0, z1, z2, z3, z4⟩
  · left
    rcases k4 with ⟨_, t', j1, j2, j3, j4⟩ | ⟨j0, _⟩
    · exact ⟨by rw [z0], ⟨t', j1, ⟨k1, j3, j4, hxp, j2, z4, z1, he.w⟩⟩, z2, z3, z5⟩
    · rw [z0] at j0; cases j0
  · right
    exact ⟨by rw [z0], z1, z2, z3, z4⟩

theorem save_long (w : World) (X : Nat → Prop) (p q n : Nat) (S : DS) (half : Nat) (tv : Value) (met : Nat) (h : Drum w X q n S) (hp : Pr w p q half tv met) (hn1 : 1 ≤ n) (b' : List UInt8) (va : Option Addr) (vc : Nat) (hl : b'.length ≤ 1099511627776) (htk : ¬ takesN b'.length < spanN n) :
    Calls Try.prog 16 #[.pointer (some ⟨p, 0, none⟩), .slice va b'.length vc] w fun e w' => e = .returned (.int .i64 3) ∧ Below w.heap.size w w' := by
  have hb2 : Below w.heap.size w ((w.alloc (.cells #[.pointer (some ⟨p, 0, none⟩)] 29)).alloc (.cells #[.slice va b'.length vc] 30)) := ((Below.refl _ w).alloc (Nat.le_refl _) _).alloc (by simp only [World.size_alloc]; omega) _
  have N46 := leaves_any _ X p q n S half _ met b'.length (by omega) (h.below hb2) (hp.below hb2) hn1
  rw [decide_eq_false htk] at N46
  go_enter Try.func16, Try.ntmps16
  go_wp2_with (go_at_call 46; refine N46.mono ?_; rintro e w1 ⟨rfl, he⟩; have he := he.symm; subst he)
  go_ret
  exact ⟨rfl, hb2⟩

theorem PP.appended {P P' : List UInt8} {n half : Nat} {b : List UInt8} {rs rs' : List (List UInt8)} (h : PP P n half b rs) (hn : 1 ≤ n) (hs : ∀ k, k < (firstN n half + takesN b.length) * 256 → P'[k]? = P[k]?) (hla : Laid P' (firstN n half + takesN b.length) ((firstN n half + spanN n - (firstN n half + takesN b.length)) * 256) rs') : PP P' n half b rs' := by
  obtain ⟨h1, _, _⟩ := halves n half h.h1 hn
  exact ⟨h.h1, (hs 0 (by omega)).trans h.t, h.sn.same (fun j _ hj => hs j hj), h.tk, hla, h.bl⟩

theorem append_ps (w : World) (X : Nat → Prop) (p t q n : Nat) (S : DS) (half : Nat) (b : List UInt8) (rs : List (List UInt8)) (h : PS w X p t q n S half b rs) (hops : S.ops ≤ 100000) (hn : rs.length ≤ 5000) (r : List UInt8) (v : Value) (hr : Sl.RdA w v r) (hrl : r.length ≤ 65536) (hpl : tot rs + (12 + r.length) ≤ (spanN n - takesN b.length) * 256) :
    Calls Try.prog 14 #[.pointer (some ⟨p, 0, none⟩), v] w fun e w' => ∃ X' S', Drum w' X' q n S' ∧ Step (fun k => X k ∨ k = t) (fun k => X' k ∨ k = t) w w' ∧ (∀ k, X' k → X k ∨ w.heap.size ≤ k) ∧ S'.W = [] ∧ S'.ops ≤ S.ops + (r.length / 256 + 6) ∧ (∀ k, k < (firstN n half + takesN b.length) * 256 + tot rs ∨ (firstN n half + spanN n) * 256 ≤ k → S'.P[k]? = S.P[k]?) ∧
      ((e = .returned (.int .i64 0) ∧ PS w' X' p t q n S' half b (rs ++ [r]) ∧ (S.armed = 0 → S'.armed = 0)) ∨
       (e = .returned (.int .i64 20) ∧ S.armed ≠ 0 ∧ S'.armed = 0 ∧ S'.down = true ∧ (PP S'.P n half b rs ∨ PP S'.P n half b (rs ++ [r])))) := by
  have htk := h.pp.tk
  have hn1 : 1 ≤ n := by unfold spanN at htk; omega
  obtain ⟨h1, h2, _⟩ := halves n half h.pp.h1 hn1
  have N44 := append_ta w X t q n S (firstN n half + takesN b.length) (firstN n half + spanN n) rs ⟨h.d, h.tp, h.nt, h.pp.la, h.dn, h.wz⟩ (by omega) (by omega) hops hn r v hr hrl (by omega)
  obtain ⟨a, c, rfl⟩ := hr.len
  obtain ⟨t0, t1, t2, t3, tf⟩ := h.pr.cells
  have lp := h.pr.lt
  have npt : p ≠ t := ne_type h.pr.b h.tp.b (by decide)
  clear hr
  go_enter Try.func14, Try.ntmps14
  go_wp2_with fail
  refine N44.mono ?_
  rintro e w1 ⟨X1, S1, k1, k2, k3, k4, k5, k6, k7, k8⟩
  have hp1 := h.pr.on (k2.block p lp (fun hxx => by rcases hxx with hxx | hxx; exact h.np hxx; exact npt hxx))
  have hxp : ¬ X1 p := fun hxx => by
    rcases k3 p hxx with h' | h'
    · exact h.np h'
    · omega
  have hfin : ∀ e, ((e = Ending.returned (.int .i64 0) ∧ TA w1 X1 t q n S1 (firstN n half + takesN b.length) (firstN n half + spanN n) (rs ++ [r]) ∧ (S.armed = 0 → S1.armed = 0)) ∨
       (e = .returned (.int .i64 20) ∧ S.armed ≠ 0 ∧ S1.armed = 0 ∧ S1.down = true ∧ Tp w1 t q (firstN n half + takesN b.length) (firstN n half + spanN n) (tot rs) rs.length 20 ∧ (Laid S1.P (firstN n half + takesN b.length) ((firstN n half + spanN n - (firstN n half + takesN b.length)) * 256) rs ∨ Laid S1.P (firstN n half + takesN b.length) ((firstN n half + spanN n - (firstN n half + takesN b.length)) * 256) (rs ++ [r])))) →
      ((e = .returned (.int .i64 0) ∧ PS w1 X1 p t q n S1 half b (rs ++ [r]) ∧ (S.armed = 0 → S1.armed = 0)) ∨
       (e = .returned (.int .i64 20) ∧ S.armed ≠ 0 ∧ S1.armed = 0 ∧ S1.down = true ∧ (PP S1.P n half b rs ∨ PP S1.P n half b (rs ++ [r])))) := fun e he => by
    have hs : ∀ k, k < (firstN n half + takesN b.length) * 256 → S1.P[k]? = S.P[k]? := fun k hk => k7 k (by omega)
    rcases he with ⟨e1, e2, e3⟩ | ⟨e1, e2, e3, e4, _, e5⟩
    · exact .inl ⟨e1, ⟨e2.d, hp1, e2.tp, hxp, e2.nx, h.pp.appended hn1 hs e2.la, e2.dn, e2.wz⟩, e3⟩
    · exact .inr ⟨e1, e2, e3, e4, e5.imp (h.pp.appended hn1 hs) (h.pp.appended hn1 hs)⟩
  have HF : Hid _ := hfin
  have hb8 : Hid _ := k8
  have hcode : ∃ c : Int, e = .returned (.int .i64 c) := by
    rcases k8 with h' | h'
    · exact ⟨_, h'.1⟩
    · exact ⟨_, h'.1⟩
  obtain ⟨c0, rfl⟩ := hcode
  have HK : Hid _ := And.intro k1 (And.intro k2 (And.intro k3 (And.intro k5 (And.intro k6 k7))))
  clear hfin k8 k1 k2 k3 k5 k6 k7 k4 N44
  go_wp2
  go_ret
  obtain ⟨k1, k2, k3, k5, k6, k7⟩ := HK.out
  exact ⟨X1, S1, k1, k2, k3, k5, k6, k7, HF.out _ hb8.out⟩

theorem append_psfull (w : World) (X : Nat → Prop) (p t q n : Nat) (S : DS) (half : Nat) (b : List UInt8) (rs : List (List UInt8)) (h : PS w X p t q n S half b rs) (r : List UInt8) (a : Option Addr) (fc : Nat) (hrl : r.length ≤ 65536) (hpl : (spanN n - takesN b.length) * 256 < tot rs + (12 + r.length)) :
    Calls Try.prog 14 #[.pointer (some ⟨p, 0, none⟩), .slice a r.length fc] w fun e w' => e = .returned (.int .i64 22) ∧ Below w.heap.size w w' := by
  have htk := h.pp.tk
  have hn1 : 1 ≤ n := by unfold spanN at htk; omega
  have htop := h.d.top
  obtain ⟨h1, h2, _⟩ := halves n half h.pp.h1 hn1
  have hfit := h.pp.la.fit
  have N44 := append_full w t q _ _ _ _ h.tp (by omega) (by omega) hfit r a fc hrl (by omega)
  obtain ⟨t0, t1, t2, t3, tf⟩ := h.pr.cells
  go_enter Try.func14, Try.ntmps14
  go_wp2_with (go_at_call 44; refine N44.mono ?_; rintro e w1 ⟨rfl, hb⟩)
  go_ret
  exact ⟨rfl, hb⟩
end Go.Proofs.Ythgkkmcpmhfehaa
