/- pair.Save. -/
import Derived.Test.YthgkkmcpmhfehaaPm
namespace Go.Proofs.Ythgkkmcpmhfehaa
open Go.RowKit Go.Lib Go.Shelf
set_option maxRecDepth 100000

/-- What a Save does to a drum. -/
def savD (S : DS) (n a : Nat) (b : List UInt8) : DS × Int :=
  if (layP S (firstN n a) (snI b) (takesN b.length + 1)).2 ≠ 0 then layP S (firstN n a) (snI b) (takesN b.length + 1) else tellD (layP S (firstN n a) (snI b) (takesN b.length + 1)).1 a

theorem oper_le (S : DS) : S.oper.1.W.length ≤ S.W.length ∧ S.oper.1.ops = S.ops + 1 := by
  unfold DS.oper
  split
  · exact ⟨Nat.le_refl _, rfl⟩
  · split
    · unfold DS.off
      split
      · exact ⟨Nat.le_refl _, rfl⟩
      · exact ⟨Nat.zero_le _, rfl⟩
    · exact ⟨Nat.le_refl _, rfl⟩

set_option maxHeartbeats 2000000 in
theorem psave1_any (w : World) (X : Nat → Prop) (p q n : Nat) (S : DS) (half0 : Nat) (tv : Value) (met : Nat) (hd : S.down = false) (hw : S.W = []) (h : Drum w X q n S) (hp : Pr w p q half0 tv met) (hx : ¬ X p) (hops : S.ops ≤ 80000) (a : Nat) (ha : a ≤ 1) (b : List UInt8) (va : Option Addr) (vc : Nat) (hb : Sl.RdA w (.slice va b.length vc) b) (hl : b.length ≤ 1048576) (htk : takesN b.length < spanN n)
    (pb ob bb : Nat) (hpb : w.heap[pb]? = some (.cells #[.pointer (some ⟨p, 0, none⟩)] 29 (0, 0))) (hob : w.heap[ob]? = some (.cells #[.int .i64 (a : Int)] 3 (0, 0))) (hbb : w.heap[bb]? = some (.cells #[.slice va b.length vc] 30 (0, 0))) (hxp : ¬ X pb) (hxo : ¬ X ob) (hxb : ¬ X bb)
    (L R : DS × Int) (hL : L = layP S (firstN n a) (snI b) (takesN b.length + 1)) (hR : R = if L.2 ≠ 0 then L else tellD L.1 a) (hL0 : L.2 = 0 → L.1.down = false ∧ L.1.W = [] ∧ L.1.ops ≤ 90000)
    (hR0 : R.2 = 0 → R.1.down = false ∧ R.1.W = [] ∧ Laid R.1.P (firstN n a + takesN b.length) ((firstN n a + spanN n - (firstN n a + takesN b.length)) * 256) []) :
    Calls Try.prog 47 #[.pointer (some ⟨pb, 0, none⟩), .pointer (some ⟨ob, 0, none⟩), .pointer (some ⟨bb, 0, none⟩)] w fun e w' => ∃ X', Drum w' X' q n R.1 ∧ (∀ k, X' k → X k ∨ w.heap.size ≤ k) ∧ Step (fun k => X k ∨ k = p) (fun k => X' k ∨ k = p) w w' ∧
      ((R.2 = 0 ∧ e = .returned (.tuple #[]) ∧ ∃ t, w.heap.size ≤ t ∧ ¬ X' t ∧ Pr w' p q a (.pointer (some ⟨t, 0, none⟩)) met ∧ Tp w' t q (firstN n a + takesN b.length) (firstN n a + spanN n) 0 0 0) ∨ (R.2 ≠ 0 ∧ e = .panicked (gup R.2) ∧ Pr w' p q half0 tv met)) := by
  have hn1 : 1 ≤ n := by unfold spanN at htk; omega
  have c1 : w.cell? ⟨pb, 0, none⟩ = some (.pointer (some ⟨p, 0, none⟩)) := by rw [cell_of_row _ _ _ _ _ _ hpb]; rfl
  have c2 : w.cell? ⟨ob, 0, none⟩ = some (.int .i64 (a : Int)) := by rw [cell_of_row _ _ _ _ _ _ hob]; rfl
  have c3 : w.cell? ⟨bb, 0, none⟩ = some (.slice va b.length vc) := by rw [cell_of_row _ _ _ _ _ _ hbb]; rfl
  have lpb := (Array.getElem?_eq_some_iff.1 hpb).1
  have lob := (Array.getElem?_eq_some_iff.1 hob).1
  have lbb := (Array.getElem?_eq_some_iff.1 hbb).1
  have lp := hp.lt
  have N48 := play_any w X p q n S half0 tv met hd h hp hx (by rw [hw]; decide) (by omega) a ha b _ hb hl htk
  rw [← hL] at N48
  have HR : Hid _ := hR
  have HL0 : Hid _ := hL0
  have HR0 : Hid _ := hR0
  clear hL hR hb hL0 hR0
  go_enter Try.func47, Try.ntmps47
  go_wp2_with fail
  refine N48.mono ?_
  rintro e w1 ⟨X1, hd1, hs1, ⟨hc1, rfl⟩ | ⟨hc1, rfl⟩⟩
  rotate_left
  · have hRL : R = L := by have := HR.out; rw [if_pos hc1] at this; exact this
    refine ⟨rfl, X1, by rw [hRL]; exact hd1, hs1.grow, ?_, .inr ⟨by rw [hRL]; exact hc1, by rw [hRL], hp.on (hs1.block p lp hx)⟩⟩
    exact ⟨hs1.os, hs1.tape, hs1.output, hs1.size, fun k hk hn => hs1.block k hk (fun hk' => hn (.inl hk')), fun k hk => by rcases hk with hk | hk; exact (hs1.grow k hk).imp .inl id; exact .inl (.inr hk)⟩
  have hRL : R = tellD L.1 a := by have := HR.out; rw [if_neg (by simp [hc1])] at this; exact this
  obtain ⟨z1, z2, z3⟩ := HL0.out hc1
  have hp1 := hp.on (hs1.block p lp hx)
  have hpb1 := (hs1.block pb lpb hxp).trans hpb
  have hob1 := (hs1.block ob lob hxo).trans hob
  have hbb1 := (hs1.block bb lbb hxb).trans hbb
  have nx1 : ∀ k, ¬ X k → k < w.heap.size → ¬ X1 k := fun k h1 h2 h3 => by
    rcases hs1.grow k h3 with h' | h'
    · exact h1 h'
    · omega
  have d1 : w1.cell? ⟨pb, 0, none⟩ = some (.pointer (some ⟨p, 0, none⟩)) := by rw [cell_of_row _ _ _ _ _ _ hpb1]; rfl
  have d2 : w1.cell? ⟨ob, 0, none⟩ = some (.int .i64 (a : Int)) := by rw [cell_of_row _ _ _ _ _ _ hob1]; rfl
  obtain ⟨o1, o2⟩ := oper_le (L.1.put 0 (pgT a))
  have o3 : (L.1.put 0 (pgT a)).W.length = L.1.W.length + 1 := by show (_ ++ [_]).length = _; rw [List.length_append]; rfl
  have o4 : (L.1.put 0 (pgT a)).ops = L.1.ops := rfl
  have N49 := tell_any w1 X1 p q n L.1 half0 tv met z1 hd1 hp1 (nx1 p hx lp) hn1 (by rw [z2]; decide) (by omega) a ha (by rw [z2] at o3; simp only [List.length_nil] at o3; omega) (by omega)
  rw [← hRL] at N49
  clear hRL o1 o2 o3 o4 N48
  go_wp2_with fail
  refine N49.mono ?_
  rintro e w2 ⟨X2, hd2, hs2, ⟨hc2, rfl⟩ | ⟨hc2, rfl⟩⟩
  rotate_left
  · have hs12 := hs1.trans hs2
    refine ⟨rfl, X2, hd2, hs12.grow, ?_, .inr ⟨hc2, rfl, hp.on (hs12.block p lp hx)⟩⟩
    exact ⟨hs12.os, hs12.tape, hs12.output, hs12.size, fun k hk hn => hs12.block k hk (fun hk' => hn (.inl hk')), fun k hk => by rcases hk with hk | hk; exact (hs12.grow k hk).imp .inl id; exact .inl (.inr hk)⟩
  have hs12 := hs1.trans hs2
  obtain ⟨y1, y2, y3⟩ := HR0.out hc2
  have hp2 := hp.on (hs12.block p lp hx)
  have hpb2 := (hs12.block pb lpb hxp).trans hpb
  have hob2 := (hs12.block ob lob hxo).trans hob
  have hbb2 := (hs12.block bb lbb hxb).trans hbb
  have f1 : w2.cell? ⟨pb, 0, none⟩ = some (.pointer (some ⟨p, 0, none⟩)) := by rw [cell_of_row _ _ _ _ _ _ hpb2]; rfl
  have f2 : w2.cell? ⟨ob, 0, none⟩ = some (.int .i64 (a : Int)) := by rw [cell_of_row _ _ _ _ _ _ hob2]; rfl
  have f3 : w2.cell? ⟨bb, 0, none⟩ = some (.slice va b.length vc) := by rw [cell_of_row _ _ _ _ _ _ hbb2]; rfl
  have N39 := turn_any w2 X2 p q n R.1 half0 tv met y1 y2 hd2 hp2 a ha b.length hl htk [] (by decide) y3
  clear N49
  go_wp2_with fail
  refine N39.mono ?_
  rintro e w3 ⟨v, t, rfl, hrec, ht, hp3, htp3, hs3⟩
  go_wp2
  go_end0
  have hx2p : ¬ X2 p := fun hxx => by
    rcases hs12.grow p hxx with h' | h'
    · exact hx h'
    · omega
  refine ⟨X2, hd2.on hs3 (fun k hk e => hx2p (e ▸ hk)), hs12.grow, ?_, .inl ⟨hc2, rfl, t, Nat.le_trans hs12.size ht, fun hxx => by have := hd2.xlt t hxx; omega, hp3, htp3⟩⟩
  refine ⟨hs3.os.trans hs12.os, hs3.tape.trans hs12.tape, hs3.output.trans hs12.output, Nat.le_trans hs12.size hs3.size, fun k hk hn => ?_, fun k hk => ?_⟩
  · rw [hs3.block k (Nat.lt_of_lt_of_le hk hs12.size) (fun e => hn (.inr e)), hs12.block k hk (fun e => hn (.inl e))]
  · rcases hk with hk | hk
    · exact (hs12.grow k hk).imp .inl id
    · exact .inl (.inr hk)

/-- What Save lays ahead of the guarded call. -/
def psW (w : World) (p a : Nat) (v : Value) : World := ((w.alloc (.cells #[.pointer (some ⟨p, 0, none⟩)] 29)).alloc (.cells #[v] 30)).alloc (.cells #[.int .i64 (a : Int)] 3)
theorem psW_facts (w : World) (p a : Nat) (v : Value) : Below w.heap.size w (psW w p a v) ∧ (psW w p a v).heap.size = w.heap.size + 3 ∧ (psW w p a v).heap[w.heap.size]? = some (.cells #[.pointer (some ⟨p, 0, none⟩)] 29 (0, 0)) ∧ (psW w p a v).heap[w.heap.size + 1]? = some (.cells #[v] 30 (0, 0)) ∧ (psW w p a v).heap[w.heap.size + 2]? = some (.cells #[.int .i64 (a : Int)] 3 (0, 0)) := by
  unfold psW
  refine ⟨(((Below.refl _ w).alloc (Nat.le_refl _) _).alloc (by simp only [World.size_alloc]; omega) _).alloc (by simp only [World.size_alloc]; omega) _, by simp only [World.size_alloc], ?_, ?_, ?_⟩
  all_goals
    simp only [alloc_at', World.size_alloc]
    repeat (first | rw [if_pos (by omega)] | rw [if_neg (by omega)])
    try rfl

set_option maxHeartbeats 4000000 in
theorem psave_any (w : World) (X : Nat → Prop) (p t q n : Nat) (S : DS) (half a : Nat) (hd : S.down = false) (hw : S.W = []) (h : Drum w X q n S) (hp : Pr w p q half (.pointer (some ⟨t, 0, none⟩)) 0) (hx : ¬ X p) (hops : S.ops ≤ 80000) (hh : half + a = 1) (b : List UInt8) (v : Value) (hb : Sl.RdA w v b) (hl : b.length ≤ 1048576) (htk : takesN b.length < spanN n)
    (L R : DS × Int) (hL : L = layP S (firstN n a) (snI b) (takesN b.length + 1)) (hR : R = if L.2 ≠ 0 then L else tellD L.1 a) (hL0 : L.2 = 0 → L.1.down = false ∧ L.1.W = [] ∧ L.1.ops ≤ 90000) (hRc : R.2 = 0 ∨ R.2 = 20)
    (hR0 : R.2 = 0 → R.1.down = false ∧ R.1.W = [] ∧ Laid R.1.P (firstN n a + takesN b.length) ((firstN n a + spanN n - (firstN n a + takesN b.length)) * 256) []) :
    Calls Try.prog 16 #[.pointer (some ⟨p, 0, none⟩), v] w fun e w' => ∃ X', e = .returned (.int .i64 R.2) ∧ Drum w' X' q n R.1 ∧ (∀ k, X' k → X k ∨ w.heap.size ≤ k) ∧ Step (fun k => X k ∨ k = p) (fun k => X' k ∨ k = p) w w' ∧
      ((R.2 = 0 ∧ ∃ t', w.heap.size ≤ t' ∧ ¬ X' t' ∧ Pr w' p q a (.pointer (some ⟨t', 0, none⟩)) 0 ∧ Tp w' t' q (firstN n a + takesN b.length) (firstN n a + spanN n) 0 0 0) ∨ (R.2 = 20 ∧ Pr w' p q half (.pointer (some ⟨t, 0, none⟩)) 20)) := by
  have hmix : Try.prog.follows .mixedOrders = true := by kernel_rfl
  have hn1 : 1 ≤ n := by unfold spanN at htk; omega
  obtain ⟨va, vc, rfl⟩ := hb.len
  have lp := hp.lt
  have hxl := h.xlt
  have hh2 : (1 : Int) - (half : Int) = (a : Int) := by omega
  have hb2 : Below w.heap.size w ((w.alloc (.cells #[.pointer (some ⟨p, 0, none⟩)] 29)).alloc (.cells #[.slice va b.length vc] 30)) := ((Below.refl _ w).alloc (Nat.le_refl _) _).alloc (by simp only [World.size_alloc]; omega) _
  have N46 := leaves_any _ X p q n S half _ 0 b.length (by omega) (h.below hb2) (hp.below hb2) hn1
  rw [decide_eq_true htk] at N46
  obtain ⟨t0, t1, t2, t3, tf⟩ := (hp.below hb2).cells
  obtain ⟨g0, g1, g2, g3, g4⟩ := psW_facts w p a (.slice va b.length vc)
  have hW0 : psW w p a (.slice va b.length vc) = ((w.alloc (.cells #[.pointer (some ⟨p, 0, none⟩)] 29)).alloc (.cells #[.slice va b.length vc] 30)).alloc (.cells #[.int .i64 (a : Int)] 3) := rfl
  have HW0 : Hid _ := hW0
  clear hW0
  generalize psW w p a (.slice va b.length vc) = W at *
  go_enter Try.func16, Try.ntmps16
  go_upto_region 8 with (go_at_call 46; refine N46.mono ?_; rintro e w1 ⟨rfl, he⟩; have he := he.symm; subst he)
  rw [← HW0.out]
  simp only [Nat.add_assoc, Nat.reduceAdd]
  clear HW0 N46 t0 t1 t2 t3 tf hb2
  have hS : W.drew.cell? ⟨w.heap.size, 0, none⟩ = some (.pointer (some ⟨p, 0, none⟩)) := by
    show W.cell? ⟨w.heap.size, 0, none⟩ = _
    rw [cell_of_row _ _ _ _ _ _ g2]; rfl
  refine wp_region_held (S := fun W' => W'.cell? ⟨w.heap.size, 0, none⟩ = some (.pointer (some ⟨p, 0, none⟩))) hmix ?_
  show wpAnyH _ _ _ _ _ _ _ _ W.drew
  refine wpAnyH_take (i := 0) (v := .pointer (some ⟨p, 0, none⟩)) rfl (by kernel_rfl) (by kernel_rfl) (by kernel_rfl) (fun _ _ _ h => h) (.inl ⟨by rfl, fun W' hW' => ?_⟩) hS ?_
  · have hW' : W'.cell? ⟨w.heap.size, 0, none⟩ = some (.pointer (some ⟨p, 0, none⟩)) := hW'
    go_simp
  dsimp only [Act.put]
  refine wpAnyH_take (i := 1) (v := .func (.func 47) #[] #[.pointer (some ⟨w.heap.size, 0, none⟩), .pointer (some ⟨w.heap.size + 2, 0, none⟩), .pointer (some ⟨w.heap.size + 1, 0, none⟩)]) rfl (by kernel_rfl) (by kernel_rfl) (by kernel_rfl) (fun _ _ _ h => h) (.inl ⟨by rfl, fun W' hW' => ?_⟩) hS ?_
  · have hW' : W'.cell? ⟨w.heap.size, 0, none⟩ = some (.pointer (some ⟨p, 0, none⟩)) := hW'
    go_simp
  dsimp only [Act.put]
  obtain ⟨Wd, hWd⟩ : ∃ Wd, Wd = W.drew := ⟨_, rfl⟩
  rw [← hWd] at hS ⊢
  have gd : Below w.heap.size w Wd := by rw [hWd]; exact g0.trans ⟨rfl, rfl, rfl, Nat.le_refl _, fun _ _ => rfl⟩
  have gs : Wd.heap.size = w.heap.size + 3 := by rw [hWd]; exact g1
  have gp : Wd.heap[w.heap.size]? = some (.cells #[.pointer (some ⟨p, 0, none⟩)] 29 (0, 0)) := by rw [hWd]; exact g2
  have gb : Wd.heap[w.heap.size + 1]? = some (.cells #[.slice va b.length vc] 30 (0, 0)) := by rw [hWd]; exact g3
  have go : Wd.heap[w.heap.size + 2]? = some (.cells #[.int .i64 (a : Int)] 3 (0, 0)) := by rw [hWd]; exact g4
  clear hWd g0 g1 g2 g3 g4
  have hb4 : Below Wd.heap.size Wd (Wd.alloc (.cells #[.int .i64 0] 32)) := (Below.refl _ _).alloc (Nat.le_refl _) _
  have hE4 : (Wd.alloc (.cells #[.int .i64 0] 32)).heap[Wd.heap.size]? = some (.cells #[.int .i64 0] 32 (0, 0)) := heap_alloc_new Wd _
  obtain ⟨W4, hW4⟩ : ∃ W4, W4 = Wd.alloc (.cells #[.int .i64 0] 32) := ⟨_, rfl⟩
  have hs4 : W4.heap.size = Wd.heap.size + 1 := by rw [hW4]; simp
  rw [← hW4] at hb4 hE4
  have hb04 : Below w.heap.size w W4 := gd.trans (hb4.mono gd.size)
  have N47 := psave1_any W4 X p q n S half (.pointer (some ⟨t, 0, none⟩)) 0 hd hw (h.below hb04) (hp.below hb04) hx hops a (by omega) b va vc (Sl.RdA.on hb hb04) hl htk w.heap.size (w.heap.size + 2) (w.heap.size + 1) ((hb4.block _ (by omega)).trans gp) ((hb4.block _ (by omega)).trans go) ((hb4.block _ (by omega)).trans gb) (fun hxx => by have := hxl _ hxx; omega) (fun hxx => by have := hxl _ hxx; omega) (fun hxx => by have := hxl _ hxx; omega) L R hL hR hL0 hR0
  have N35 := p_guarded_any 47 (enters_of Try.func47 (by kernel_rfl) rfl) #[.pointer (some ⟨w.heap.size, 0, none⟩), .pointer (some ⟨w.heap.size + 2, 0, none⟩), .pointer (some ⟨w.heap.size + 1, 0, none⟩)] Wd
    (fun w2 => R.2 = 0 ∧ ∃ X', Drum w2 X' q n R.1 ∧ (∀ k, X' k → X k ∨ W4.heap.size ≤ k) ∧ Step (fun k => X k ∨ k = p) (fun k => X' k ∨ k = p) W4 w2 ∧ ∃ t', W4.heap.size ≤ t' ∧ ¬ X' t' ∧ Pr w2 p q a (.pointer (some ⟨t', 0, none⟩)) 0 ∧ Tp w2 t' q (firstN n a + takesN b.length) (firstN n a + spanN n) 0 0 0)
    (fun m w2 => m = R.2 ∧ R.2 ≠ 0 ∧ ∃ X', Drum w2 X' q n R.1 ∧ (∀ k, X' k → X k ∨ W4.heap.size ≤ k) ∧ Step (fun k => X k ∨ k = p) (fun k => X' k ∨ k = p) W4 w2 ∧ Pr w2 p q half (.pointer (some ⟨t, 0, none⟩)) 0) (by
      rw [← hW4]
      refine N47.mono ?_
      rintro e w2 ⟨X', j1, j2, j3, j4⟩
      have e1 : w2.heap[Wd.heap.size]? = some (.cells #[.int .i64 0] 32 (0, 0)) := by
        rw [j3.block _ (by omega) (fun hxx => by rcases hxx with hxx | hxx; (have := hxl _ hxx; omega); omega)]; exact hE4
      refine ⟨⟨by rw [cell_of_row _ _ _ _ _ _ e1]; rfl, frozen_of_row _ _ 0 _ _ e1⟩, ?_⟩
      rcases j4 with ⟨j4, rfl, t', j5, j6, j7, j8⟩ | ⟨j4, rfl, j5⟩
      · exact .inl ⟨rfl, j4, X', j1, j2, j3, t', j5, j6, j7, j8⟩
      · exact .inr ⟨_, rfl, rfl, j4, X', j1, j2, j3, j5⟩)
  have N35' : Calls Try.prog 35 #[.func (.func 47) #[] #[.pointer (some ⟨w.heap.size, 0, none⟩), .pointer (some ⟨w.heap.size + 2, 0, none⟩), .pointer (some ⟨w.heap.size + 1, 0, none⟩)]] Wd fun e w5 => e = .returned (.int .i64 R.2) ∧ ∃ X', Drum w5 X' q n R.1 ∧ (∀ k, X' k → X k ∨ w.heap.size ≤ k) ∧ Step (fun k => X k ∨ k = p) (fun k => X' k ∨ k = p) w w5 ∧ w5.heap[w.heap.size]? = some (.cells #[.pointer (some ⟨p, 0, none⟩)] 29 (0, 0)) ∧
      ((R.2 = 0 ∧ ∃ t', w.heap.size ≤ t' ∧ ¬ X' t' ∧ Pr w5 p q a (.pointer (some ⟨t', 0, none⟩)) 0 ∧ Tp w5 t' q (firstN n a + takesN b.length) (firstN n a + spanN n) 0 0 0) ∨ (R.2 = 20 ∧ Pr w5 p q half (.pointer (some ⟨t, 0, none⟩)) 0)) := by
    have key : ∀ (w2 : World) (X' : Nat → Prop) (z : Int), Drum w2 X' q n R.1 → (∀ k, X' k → X k ∨ W4.heap.size ≤ k) → Step (fun k => X k ∨ k = p) (fun k => X' k ∨ k = p) W4 w2 → (∀ k, k ≠ Wd.heap.size → (w2.setCell ⟨Wd.heap.size, 0, none⟩ (.int .i64 z)).heap[k]? = w2.heap[k]?) ∧ Drum (w2.setCell ⟨Wd.heap.size, 0, none⟩ (.int .i64 z)) X' q n R.1 ∧ Step (fun k => X k ∨ k = p) (fun k => X' k ∨ k = p) w (w2.setCell ⟨Wd.heap.size, 0, none⟩ (.int .i64 z)) ∧ (w2.setCell ⟨Wd.heap.size, 0, none⟩ (.int .i64 z)).heap[w.heap.size]? = some (.cells #[.pointer (some ⟨p, 0, none⟩)] 29 (0, 0)) := fun w2 X' z j1 j2 j3 => by
      have ho : ∀ k, k ≠ Wd.heap.size → (w2.setCell ⟨Wd.heap.size, 0, none⟩ (.int .i64 z)).heap[k]? = w2.heap[k]? := fun k hk => heap_setCell_other _ _ _ _ hk
      refine ⟨ho, ?_, ?_, ?_⟩
      · refine j1.on (Y := fun k => k = Wd.heap.size) (Y' := fun k => k = Wd.heap.size) ⟨rfl, rfl, rfl, by simp, fun k _ hk => ho k hk, fun _ h => .inl h⟩ (fun k hk e => ?_)
        rcases j2 k hk with h' | h'
        · have := hxl k h'; omega
        · omega
      · refine ⟨j3.os.trans hb04.os, j3.tape.trans hb04.tape, j3.output.trans hb04.output, by simp; have := j3.size; omega, fun k hk hn => ?_, fun k hk => ?_⟩
        · rw [ho k (by omega), j3.block k (by omega) hn]; exact hb04.block k hk
        · rcases hk with hk | hk
          · exact (j2 k hk).imp .inl (fun h => by omega)
          · exact .inl (.inr hk)
      · rw [ho _ (by omega), j3.block _ (by omega) (fun hxx => by rcases hxx with hxx | hxx; (have := hxl _ hxx; omega); omega), hb4.block _ (by omega)]; exact gp
    refine N35.mono ?_
    rintro e w5 (⟨rfl, w2, ⟨j0, X', j1, j2, j3, t', j5, j6, j7, j8⟩, rfl⟩ | ⟨m, rfl, w2, ⟨rfl, j0, X', j1, j2, j3, j4⟩, rfl⟩)
    · obtain ⟨k1, k2, k3, k4⟩ := key w2 X' 0 j1 j2 j3
      exact ⟨by rw [j0], X', k2, fun k hk => (j2 k hk).imp id (fun h => by omega), k3, k4, .inl ⟨j0, t', by omega, j6, j7.on (k1 p (by omega)), j8.on (k1 t' (by omega))⟩⟩
    · obtain ⟨k1, k2, k3, k4⟩ := key w2 X' R.2 j1 j2 j3
      exact ⟨rfl, X', k2, fun k hk => (j2 k hk).imp id (fun h => by omega), k3, k4, .inr ⟨by rcases hRc with h | h; exact absurd h j0; exact h, j4.on (k1 p (by omega))⟩⟩
  clear N35 N47 hW4 hb04 hE4 hb4 hs4 gp gb go gd hL hR hL0 hR0
  refine wpAnyH_one (i := 2) (by kernel_rfl) rfl (by rfl) (fun K hK => ?_)
  go_simp
  refine N35'.mono ?_
  rintro e w5 ⟨rfl, X', k1, k2, k3, k4, k5⟩
  obtain ⟨half', tv', hp5⟩ : ∃ half' tv', Pr w5 p q half' tv' 0 := by
    rcases k5 with ⟨_, t', _, _, h', _⟩ | ⟨_, h'⟩
    · exact ⟨_, _, h'⟩
    · exact ⟨_, _, h'⟩
  obtain ⟨u0, u1, u2, u3, uf⟩ := hp5.cells
  have hS5 : w5.cell? ⟨w.heap.size, 0, none⟩ = some (.pointer (some ⟨p, 0, none⟩)) := by rw [cell_of_row _ _ _ _ _ _ k4]; rfl
  show K _ _
  refine hK _ _ hS5 ?_
  clear hK K
  refine wpAnyH_take (i := 3) (v := .pointer (some ⟨p, 0, none⟩)) rfl (by kernel_rfl) (by kernel_rfl) (by kernel_rfl) (fun _ _ _ h => h) (.inl ⟨by rfl, fun W' hW' => ?_⟩) hS5 ?_
  · have hW' : W'.cell? ⟨w.heap.size, 0, none⟩ = some (.pointer (some ⟨p, 0, none⟩)) := hW'
    go_simp
  dsimp only [Act.put]
  refine wpAnyH_take (i := 4) (v := .pointer (some ⟨p, 3, none⟩)) rfl (by kernel_rfl) (by kernel_rfl) (by kernel_rfl) (fun _ _ _ h => h) (.inl ⟨by rfl, fun W' hW' => ?_⟩) hS5 ?_
  · have hW' : W'.cell? ⟨w.heap.size, 0, none⟩ = some (.pointer (some ⟨p, 0, none⟩)) := hW'
    go_simp
  dsimp only [Act.put]
  have uf3 := uf 3
  refine wpAnyH_one (i := 5) (by kernel_rfl) rfl (by rfl) (fun K hK => ?_)
  go_simp
  have hS6 : (w5.setCell ⟨p, 3, none⟩ (.int .i64 R.2)).cell? ⟨w.heap.size, 0, none⟩ = some (.pointer (some ⟨p, 0, none⟩)) := by
    rw [World.cell?_setCell_other _ _ _ _ (by simp)]; exact hS5
  refine hK _ _ hS6 ?_
  clear hK K
  refine wpAnyH_done (by kernel_rfl) ?_ _
  have hp6 : ∀ half' tv', Pr w5 p q half' tv' 0 → ∀ c : Nat, R.2 = (c : Int) → Pr (w5.setCell ⟨p, 3, none⟩ (.int .i64 R.2)) p q half' tv' c := fun half' tv' h' c hc => ⟨by
    rw [heap_setCell_same _ _ _ _ _ _ h'.b, hc]; simp⟩
  have ho6 : ∀ k, k ≠ p → (w5.setCell ⟨p, 3, none⟩ (.int .i64 R.2)).heap[k]? = w5.heap[k]? := fun k hk => heap_setCell_other _ _ _ _ hk
  have hst6 : Step (fun k => X k ∨ k = p) (fun k => X' k ∨ k = p) w (w5.setCell ⟨p, 3, none⟩ (.int .i64 R.2)) := Step.set k3 (a := ⟨p, 3, none⟩) (.inr rfl) _
  have hxp : ¬ X' p := fun hxx => by
    rcases k2 p hxx with h' | h'
    · exact hx h'
    · omega
  have hd6 : Drum (w5.setCell ⟨p, 3, none⟩ (.int .i64 R.2)) X' q n R.1 := k1.on (Y := fun k => k = p) (Y' := fun k => k = p) ⟨rfl, rfl, rfl, by simp, fun k _ hk => ho6 k hk, fun _ h => .inl h⟩ (fun k hk e => hxp (e ▸ hk))
  have hfin : (R.2 = 0 ∧ ∃ t', w.heap.size ≤ t' ∧ ¬ X' t' ∧ Pr (w5.setCell ⟨p, 3, none⟩ (.int .i64 R.2)) p q a (.pointer (some ⟨t', 0, none⟩)) 0 ∧ Tp (w5.setCell ⟨p, 3, none⟩ (.int .i64 R.2)) t' q (firstN n a + takesN b.length) (firstN n a + spanN n) 0 0 0) ∨ (R.2 = 20 ∧ Pr (w5.setCell ⟨p, 3, none⟩ (.int .i64 R.2)) p q half (.pointer (some ⟨t, 0, none⟩)) 20) := by
    rcases k5 with ⟨q0, t', q1, q2, q3, q4⟩ | ⟨q0, q1⟩
    · exact .inl ⟨q0, t', q1, q2, hp6 _ _ q3 0 q0, q4.on (ho6 t' (by omega))⟩
    · exact .inr ⟨q0, hp6 _ _ q1 20 q0⟩
  have hc6 : (w5.setCell ⟨p, 3, none⟩ (.int .i64 R.2)).cell? ⟨p, 3, none⟩ = some (.int .i64 R.2) := World.cell?_setCell_same _ _ _ u3
  clear k5 hp6 k3 k1 ho6 N35'
  have HF : Hid _ := hfin
  clear hfin
  generalize w5.setCell ⟨p, 3, none⟩ (.int .i64 R.2) = w6 at *
  go_wp2
  go_ret
  exact ⟨X', rfl, hd6, k2, hst6, HF.out⟩
end Go.Proofs.Ythgkkmcpmhfehaa
