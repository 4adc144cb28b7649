/- pair.Open. -/
import Derived.Test.YthgkkmcpmhfehaaPc
import Derived.Test.YthgkkmcpmhfehaaPe
namespace Go.Proofs.Ythgkkmcpmhfehaa
open Go.RowKit Go.Lib Go.Shelf
set_option maxRecDepth 100000

theorem results_tmp4 {fn : Func} {t u v x : Tmp} (h : fn.results = #[.tmp t, .tmp u, .tmp v, .tmp x]) (tmps : Array Value) (P : Program) (w : World) :
    (results fn tmps).run P w = .ok (.tuple #[tmps.getD t undef, tmps.getD u undef, tmps.getD v undef, tmps.getD x undef]) w := by
  simp [results, h]

/-- What the pages hold: which half counts, its snapshot, the records behind it. -/
structure PP (P : List UInt8) (n half : Nat) (b : List UInt8) (rs : List (List UInt8)) : Prop where
  h1 : half ≤ 1
  t : P[0]? = some (UInt8.ofNat half)
  sn : SnapAt P (firstN n half) b
  tk : takesN b.length < spanN n
  la : Laid P (firstN n half + takesN b.length) ((firstN n half + spanN n - (firstN n half + takesN b.length)) * 256) rs
  bl : b.length ≤ 1048576

set_option maxHeartbeats 2000000 in
theorem popen1_any (w : World) (X : Nat → Prop) (p q n : Nat) (S : DS) (half0 : Nat) (tv : Value) (met : Nat) (hd : S.down = false) (hw : S.W = []) (h : Drum w X q n S) (hp : Pr w p q half0 tv met) (half : Nat) (b : List UInt8) (rs : List (List UInt8)) (hrs : rs.length ≤ 5000) (hpp : PP S.P n half b rs)
    (pb sb rb : Nat) (hpb : w.heap[pb]? = some (.cells #[.pointer (some ⟨p, 0, none⟩)] 29 (0, 0))) (hsb : w.heap[sb]? = some (.cells #[.slice none 0 0] 30 (0, 0))) (hrb : w.heap[rb]? = some (.cells #[.slice none 0 0] 31 (0, 0))) (hxs : ¬ X sb) :
    Calls Try.prog 36 #[.pointer (some ⟨pb, 0, none⟩), .pointer (some ⟨sb, 0, none⟩), .pointer (some ⟨rb, 0, none⟩)] w fun e w' => e = .returned (.tuple #[]) ∧ ∃ v1 v2 t, SnV w' w.heap.size v1 b ∧ Recs w' w.heap.size v2 rs ∧ w.heap.size ≤ t ∧ Pr w' p q half (.pointer (some ⟨t, 0, none⟩)) met ∧
      Tp w' t q (firstN n half + takesN b.length) (firstN n half + spanN n) (tot rs) rs.length 0 ∧ w'.heap[sb]? = some (.cells #[v1] 30 (0, 0)) ∧ w'.heap[rb]? = some (.cells #[v2] 31 (0, 0)) ∧ Step (fun k => k = p ∨ k = sb ∨ k = rb) (fun k => k = p ∨ k = sb ∨ k = rb) w w' := by
  have hn1 : 1 ≤ n := by have := hpp.tk; unfold spanN at this; omega
  have c1 : w.cell? ⟨pb, 0, none⟩ = some (.pointer (some ⟨p, 0, none⟩)) := by rw [cell_of_row _ _ _ _ _ _ hpb]; rfl
  have N37 := told_any w X p q n S half0 tv met hn1 hd h hp half hpp.h1 hpp.t
  have npp : pb ≠ p := ne_type hpb hp.b (by decide)
  have nps : pb ≠ sb := ne_type hpb hsb (by decide)
  have nsp : sb ≠ p := ne_type hsb hp.b (by decide)
  have nrp : rb ≠ p := ne_type hrb hp.b (by decide)
  have nrs : rb ≠ sb := ne_type hrb hsb (by decide)
  go_enter Try.func36, Try.ntmps36
  go_wp2_with fail
  refine N37.mono ?_
  rintro e w1 ⟨rfl, hb1⟩
  have hpb1 := (hb1.block pb (Array.getElem?_eq_some_iff.1 hpb).1).trans hpb
  have hsb1 := (hb1.block sb (Array.getElem?_eq_some_iff.1 hsb).1).trans hsb
  have hrb1 := (hb1.block rb (Array.getElem?_eq_some_iff.1 hrb).1).trans hrb
  have c2 : w1.cell? ⟨pb, 0, none⟩ = some (.pointer (some ⟨p, 0, none⟩)) := by rw [cell_of_row _ _ _ _ _ _ hpb1]; rfl
  have N38 := snapshot_any w1 X p q n S half0 tv met hd (h.below hb1) (hp.below hb1) half hpp.h1 b hpp.bl hpp.sn hpp.tk
  go_wp2_with fail
  refine N38.mono ?_
  rintro e w2 ⟨v1, rfl, hsv, hb2⟩
  have hb02 : Below w.heap.size w w2 := hb1.trans (hb2.mono hb1.size)
  have hpb2 := (hb02.block pb (Array.getElem?_eq_some_iff.1 hpb).1).trans hpb
  have hsb2 := (hb02.block sb (Array.getElem?_eq_some_iff.1 hsb).1).trans hsb
  have hrb2 := (hb02.block rb (Array.getElem?_eq_some_iff.1 hrb).1).trans hrb
  obtain ⟨sa, sc, rfl⟩ := hsv.shape
  have c3 : w2.cell? ⟨sb, 0, none⟩ = some (.slice none 0 0) := by rw [cell_of_row _ _ _ _ _ _ hsb2]; rfl
  have f3 : w2.frozen? ⟨sb, 0, none⟩ = false := frozen_of_row _ _ 0 _ _ hsb2
  have ho3 : ∀ k, k ≠ sb → (w2.setCell ⟨sb, 0, none⟩ (.slice sa b.length sc)).heap[k]? = w2.heap[k]? := fun k hk => heap_setCell_other _ _ _ _ hk
  have hs3 : Step (fun k => k = sb) (fun k => k = sb) w (w2.setCell ⟨sb, 0, none⟩ (.slice sa b.length sc)) := Step.set (Step.of_below (X := fun k => k = sb) hb02) (a := ⟨sb, 0, none⟩) rfl _
  have hsb3 : (w2.setCell ⟨sb, 0, none⟩ (.slice sa b.length sc)).heap[sb]? = some (.cells #[.slice sa b.length sc] 30 (0, 0)) := by
    rw [heap_setCell_same _ _ _ _ _ _ hsb2]; simp
  have hsv3 : SnV (w2.setCell ⟨sb, 0, none⟩ (.slice sa b.length sc)) w.heap.size (.slice sa b.length sc) b := by
    rcases hsv with hsv | ⟨g, c, full, e1, e2, e3, e4, e5⟩
    · exact .inl hsv
    · have hne : g ≠ sb := ne_type e4 hsb2 (by decide)
      refine .inr ⟨g, c, full, e1, Nat.le_trans hb1.size e2, e3, (ho3 g hne).trans e4, fun j u hj => ?_⟩
      rw [World.cell?_setCell_other _ _ _ _ (by simp)]
      exact e5 j u hj
  generalize hw3 : w2.setCell ⟨sb, 0, none⟩ (.slice sa b.length sc) = w3 at *
  have hd3 : Drum w3 X q n S := h.on hs3 (fun k hk e => hxs (e ▸ hk))
  have hp3 : Pr w3 p q half0 tv met := hp.on (hs3.block p hp.lt (Ne.symm nsp))
  have hpb3 : w3.heap[pb]? = some (.cells #[.pointer (some ⟨p, 0, none⟩)] 29 (0, 0)) := (hs3.block pb (Array.getElem?_eq_some_iff.1 hpb).1 nps).trans hpb
  have hrb3 : w3.heap[rb]? = some (.cells #[.slice none 0 0] 31 (0, 0)) := (hs3.block rb (Array.getElem?_eq_some_iff.1 hrb).1 nrs).trans hrb
  have c4 : w3.cell? ⟨pb, 0, none⟩ = some (.pointer (some ⟨p, 0, none⟩)) := by rw [cell_of_row _ _ _ _ _ _ hpb3]; rfl
  have c5 : w3.cell? ⟨sb, 0, none⟩ = some (.slice sa b.length sc) := by rw [cell_of_row _ _ _ _ _ _ hsb3]; rfl
  have N39 := turn_any w3 X p q n S half0 tv met hd hw hd3 hp3 half hpp.h1 b.length hpp.bl hpp.tk rs hrs hpp.la
  clear N37 N38 c1 c2
  go_wp2_with fail
  clear hw3
  refine N39.mono ?_
  rintro e w4 ⟨v2, t, rfl, hrec, ht, hp4, htp4, hs4⟩
  obtain ⟨ra, rc, rfl⟩ := hrec.shape
  have hrb4 := (hs4.block rb (Array.getElem?_eq_some_iff.1 hrb3).1 nrp).trans hrb3
  have hsb4 := (hs4.block sb (Array.getElem?_eq_some_iff.1 hsb3).1 nsp).trans hsb3
  have c6 : w4.cell? ⟨rb, 0, none⟩ = some (.slice none 0 0) := by rw [cell_of_row _ _ _ _ _ _ hrb4]; rfl
  have f6 : w4.frozen? ⟨rb, 0, none⟩ = false := frozen_of_row _ _ 0 _ _ hrb4
  have hfin : Hid _ := And.intro hrec hsv3
  clear hrec hsv3 hsv
  go_wp2_with fail
  go_end0
  obtain ⟨hrec, hsv3⟩ := hfin.out
  have ho5 : ∀ k, k ≠ rb → (w4.setCell ⟨rb, 0, none⟩ (.slice ra rs.length rc)).heap[k]? = w4.heap[k]? := fun k hk => heap_setCell_other _ _ _ _ hk
  refine ⟨rfl, .slice sa b.length sc, .slice ra rs.length rc, t, ?_, ?_, ?_, ?_, ?_, ?_, ?_, ?_⟩
  · rcases hsv3 with hsv | ⟨g, c, full, e1, e2, e3, e4, e5⟩
    · exact .inl hsv
    · have hne : g ≠ p := ne_type e4 hp3.b (by decide)
      have hgl := (Array.getElem?_eq_some_iff.1 e4).1
      have e4' := (hs4.block g hgl hne).trans e4
      have hne2 : g ≠ rb := ne_type e4' hrb4 (by decide)
      refine .inr ⟨g, c, full, e1, e2, e3, (ho5 g hne2).trans e4', fun j u hj => ?_⟩
      rw [World.cell?_setCell_other _ _ _ _ (by simp), ← e5 j u hj]
      simp only [World.cell?, hs4.block g hgl hne]
  · have hrec' : Recs w4 w.heap.size (.slice ra rs.length rc) rs := by
      obtain ⟨vals, o1, o2, o3⟩ := hrec
      exact ⟨vals, o1, fun k hk => Nat.le_trans hs3.size (o2 k hk), fun i r hi => by
        obtain ⟨u, i1, g, i2, i3, i4⟩ := o3 i r hi
        exact ⟨u, i1, g, i2, Nat.le_trans hs3.size i3, i4⟩⟩
    refine hrec'.on fun k c e he hc => ho5 k ?_
    rcases he with rfl | rfl
    · exact ne_type hc hrb4 (by decide)
    · exact ne_type hc hrb4 (by decide)
  · exact Nat.le_trans hs3.size ht
  · exact hp4.on (ho5 p (Ne.symm nrp))
  · exact htp4.on (ho5 t (ne_type htp4.b hrb4 (by decide)))
  · exact (ho5 sb (Ne.symm nrs)).trans hsb4
  · rw [heap_setCell_same _ _ _ _ _ _ hrb4]; simp
  · refine ⟨hs4.os.trans hs3.os, hs4.tape.trans hs3.tape, hs4.output.trans hs3.output, by simpa using Nat.le_trans hs3.size hs4.size, fun k hk hne => ?_, fun k hk => .inl hk⟩
    have n1 : k ≠ p := fun e => hne (.inl e)
    have n2 : k ≠ sb := fun e => hne (.inr (.inl e))
    have n3 : k ≠ rb := fun e => hne (.inr (.inr e))
    rw [ho5 k n3, hs4.block k (Nat.lt_of_lt_of_le hk hs3.size) n1, hs3.block k hk n2]

/-- A pair in memory, nothing under way; something may be armed. -/
structure PS (w : World) (X : Nat → Prop) (p t q n : Nat) (S : DS) (half : Nat) (b : List UInt8) (rs : List (List UInt8)) : Prop where
  d : Drum w X q n S
  pr : Pr w p q half (.pointer (some ⟨t, 0, none⟩)) 0
  tp : Tp w t q (firstN n half + takesN b.length) (firstN n half + spanN n) (tot rs) rs.length 0
  np : ¬ X p
  nt : ¬ X t
  pp : PP S.P n half b rs
  dn : S.down = false
  wz : S.W = []

/-- What Open lays ahead of the guarded call. -/
def poW (w : World) (q : Nat) : World := (((w.alloc (.cells #[.pointer (some ⟨q, 0, none⟩), .int .i64 0, .pointer none, .int .i64 0] 74)).alloc (.cells #[.pointer (some ⟨w.heap.size, 0, none⟩)] 29)).alloc (.cells #[.slice none 0 0] 30)).alloc (.cells #[.slice none 0 0] 31)
theorem poW_facts (w : World) (q : Nat) : Below w.heap.size w (poW w q) ∧ (poW w q).heap.size = w.heap.size + 4 ∧ Pr (poW w q) w.heap.size q 0 (.pointer none) 0 ∧
    (poW w q).heap[w.heap.size + 1]? = some (.cells #[.pointer (some ⟨w.heap.size, 0, none⟩)] 29 (0, 0)) ∧ (poW w q).heap[w.heap.size + 2]? = some (.cells #[.slice none 0 0] 30 (0, 0)) ∧ (poW w q).heap[w.heap.size + 3]? = some (.cells #[.slice none 0 0] 31 (0, 0)) := by
  unfold poW
  refine ⟨((((Below.refl _ w).alloc (Nat.le_refl _) _).alloc (by simp only [World.size_alloc]; omega) _).alloc (by simp only [World.size_alloc]; omega) _).alloc (by simp only [World.size_alloc]; omega) _, by simp only [World.size_alloc], ⟨?_⟩, ?_, ?_, ?_⟩
  all_goals
    simp only [alloc_at', World.size_alloc]
    repeat (first | rw [if_pos (by omega)] | rw [if_neg (by omega)])
    try rfl

set_option maxHeartbeats 4000000 in
theorem popen_any (w : World) (X : Nat → Prop) (q n : Nat) (S : DS) (hd : S.down = false) (hw : S.W = []) (h : Drum w X q n S) (hn : 5 ≤ n) (half : Nat) (b : List UInt8) (rs : List (List UInt8)) (hrs : rs.length ≤ 5000) (hpp : PP S.P n half b rs) :
    Calls Try.prog 12 #[.pointer (some ⟨q, 0, none⟩)] w fun e w' => Below w.heap.size w w' ∧ ∃ v1 v2 p t, e = .returned (.tuple #[.pointer (some ⟨p, 0, none⟩), v1, v2, .int .i64 0]) ∧ w.heap.size ≤ p ∧ w.heap.size ≤ t ∧ SnV w' w.heap.size v1 b ∧ Recs w' w.heap.size v2 rs ∧ PS w' X p t q n S half b rs := by
  have htop := h.top
  have hmf : ∀ (fn : Fn) (first cap : Array Value) (w : World), (Instr.makeFunc fn first cap).run Try.prog w = .ok (.func fn first cap) w := fun _ _ _ _ => rfl
  have N34 := pages_any w X q n S h
  have i1 : ¬ (n : Int) < 5 := by omega
  go_enter Try.func12, Try.ntmps12
  go_wp2_with (go_at_call 34; refine N34.mono ?_; rintro e w' ⟨rfl, he⟩; have he := he.symm; subst he)
  simp only [Nat.add_assoc, Nat.reduceAdd]
  show Calls Try.prog 35 _ (poW w q) _
  obtain ⟨hb0, hs0, hP0, hB1, hB2, hB3⟩ := poW_facts w q
  generalize poW w q = W at *
  have hb4 : Below W.heap.size W (W.alloc (.cells #[.int .i64 0] 32)) := (Below.refl _ _).alloc (Nat.le_refl _) _
  have hE4 : (W.alloc (.cells #[.int .i64 0] 32)).heap[W.heap.size]? = some (.cells #[.int .i64 0] 32 (0, 0)) := heap_alloc_new W _
  have hxs := h.xlt
  obtain ⟨W4, hW4⟩ : ∃ W4, W4 = W.alloc (.cells #[.int .i64 0] 32) := ⟨_, rfl⟩
  have hs4 : W4.heap.size = W.heap.size + 1 := by rw [hW4]; simp
  rw [← hW4] at hb4 hE4
  have hb04 : Below w.heap.size w W4 := hb0.trans (hb4.mono hb0.size)
  have N36 := popen1_any W4 X w.heap.size q n S 0 (.pointer none) 0 hd hw (h.below hb04) (hP0.below hb4) half b rs hrs hpp (w.heap.size + 1) (w.heap.size + 2) (w.heap.size + 3) ((hb4.block _ (by omega)).trans hB1) ((hb4.block _ (by omega)).trans hB2) ((hb4.block _ (by omega)).trans hB3) (fun hx => by have := hxs _ hx; omega)
  refine (p_guarded_any 36 (enters_of Try.func36 (by kernel_rfl) rfl) _ W
    (fun w2 => ∃ v1 v2 t, SnV w2 W4.heap.size v1 b ∧ Recs w2 W4.heap.size v2 rs ∧ W4.heap.size ≤ t ∧ Pr w2 w.heap.size q half (.pointer (some ⟨t, 0, none⟩)) 0 ∧ Tp w2 t q (firstN n half + takesN b.length) (firstN n half + spanN n) (tot rs) rs.length 0 ∧ w2.heap[w.heap.size + 2]? = some (.cells #[v1] 30 (0, 0)) ∧ w2.heap[w.heap.size + 3]? = some (.cells #[v2] 31 (0, 0)) ∧ w2.heap[W.heap.size]? = some (.cells #[.int .i64 0] 32 (0, 0)) ∧ Step (fun k => k = w.heap.size ∨ k = w.heap.size + 2 ∨ k = w.heap.size + 3) (fun k => k = w.heap.size ∨ k = w.heap.size + 2 ∨ k = w.heap.size + 3) W4 w2)
    (fun _ _ => False) ?_).mono ?_
  · rw [← hW4]
    refine N36.mono ?_
    rintro e w2 ⟨rfl, v1, v2, t, g1, g2, g3, g4, g5, g6, g7, g8⟩
    have e1 : w2.heap[W.heap.size]? = some (.cells #[.int .i64 0] 32 (0, 0)) := by
      rw [g8.block _ (by omega) (by omega)]; exact hE4
    exact ⟨⟨by rw [cell_of_row _ _ _ _ _ _ e1]; rfl, frozen_of_row _ _ 0 _ _ e1⟩, .inl ⟨rfl, v1, v2, t, g1, g2, g3, g4, g5, g6, g7, e1, g8⟩⟩
  rintro e w3 (⟨rfl, w2, ⟨v1, v2, t, g1, g2, g3, g4, g5, g6, g7, g9, g8⟩, rfl⟩ | ⟨m, rfl, w2, hf, _⟩)
  rotate_left
  · exact hf.elim
  have ho5 : ∀ k, k ≠ W.heap.size → (w2.setCell ⟨W.heap.size, 0, none⟩ (.int .i64 0)).heap[k]? = w2.heap[k]? := fun k hk => heap_setCell_other _ _ _ _ hk
  obtain ⟨W5, hW5⟩ : ∃ W5, W5 = w2.setCell ⟨W.heap.size, 0, none⟩ (.int .i64 0) := ⟨_, rfl⟩
  have hB : Below w.heap.size w W5 := by
    rw [hW5]
    refine ⟨g8.os.trans hb04.os, g8.tape.trans hb04.tape, g8.output.trans hb04.output, by simp; have := g8.size; omega, fun j hj => ?_⟩
    rw [ho5 j (by omega), g8.block j (by omega) (by omega)]
    exact hb04.block j hj
  rw [← hW5] at ho5 ⊢
  clear hW5
  have k1 : W5.heap[w.heap.size + 1]? = some (.cells #[.pointer (some ⟨w.heap.size, 0, none⟩)] 29 (0, 0)) := by
    rw [ho5 _ (by omega), g8.block _ (by omega) (by omega), hb4.block _ (by omega)]; exact hB1
  have k2 : W5.heap[w.heap.size + 2]? = some (.cells #[v1] 30 (0, 0)) := (ho5 _ (by omega)).trans g6
  have k3 : W5.heap[w.heap.size + 3]? = some (.cells #[v2] 31 (0, 0)) := (ho5 _ (by omega)).trans g7
  have hS5 : SnV W5 w.heap.size v1 b := by
    rcases g1 with hsv | ⟨g, c, full, e1, e2, e3, e4, e5⟩
    · exact .inl hsv
    · have hne : g ≠ W.heap.size := by omega
      refine .inr ⟨g, c, full, e1, by omega, e3, (ho5 g hne).trans e4, fun j u hj => ?_⟩
      rw [← e5 j u hj]
      simp only [World.cell?, ho5 g hne]
  have hR5 : Recs W5 w.heap.size v2 rs := by
    have : Recs W5 W4.heap.size v2 rs := g2.on fun k c e he hc => ho5 k (by
      rcases he with rfl | rfl
      · exact ne_type hc g9 (by decide)
      · exact ne_type hc g9 (by decide))
    obtain ⟨vals, o1, o2, o3⟩ := this
    exact ⟨vals, o1, fun k hk => by have := o2 k hk; omega, fun i r hi => by
      obtain ⟨u, i1, g, i2, i3, i4⟩ := o3 i r hi
      exact ⟨u, i1, g, i2, by omega, i4⟩⟩
  have hPS : PS W5 X w.heap.size t q n S half b rs := ⟨h.below hB, g4.on (ho5 _ (by omega)), g5.on (ho5 _ (ne_type g5.b g9 (by decide))), fun hx => by have := hxs _ hx; omega, fun hx => by have := hxs _ hx; omega, hpp, hd, hw⟩
  obtain ⟨sa, sc, rfl⟩ := hS5.shape
  obtain ⟨ra, rc, rfl⟩ := hR5.shape
  have d1 : W5.cell? ⟨w.heap.size + 1, 0, none⟩ = some (.pointer (some ⟨w.heap.size, 0, none⟩)) := by rw [cell_of_row _ _ _ _ _ _ k1]; rfl
  have d2 : W5.cell? ⟨w.heap.size + 2, 0, none⟩ = some (.slice sa b.length sc) := by rw [cell_of_row _ _ _ _ _ _ k2]; rfl
  have d3 : W5.cell? ⟨w.heap.size + 3, 0, none⟩ = some (.slice ra rs.length rc) := by rw [cell_of_row _ _ _ _ _ _ k3]; rfl
  have ht : w.heap.size ≤ t := by omega
  have hfin : ∀ m, Hid (Below w.heap.size w (W5.drewN m) ∧ ∃ v1 v2 p t', Ending.returned (.tuple #[.pointer (some ⟨w.heap.size, 0, none⟩), .slice sa b.length sc, .slice ra rs.length rc, .int .i64 0]) = .returned (.tuple #[.pointer (some ⟨p, 0, none⟩), v1, v2, .int .i64 0]) ∧ w.heap.size ≤ p ∧ w.heap.size ≤ t' ∧ SnV (W5.drewN m) w.heap.size v1 b ∧ Recs (W5.drewN m) w.heap.size v2 rs ∧ PS (W5.drewN m) X p t' q n S half b rs) := fun m => by
    have hbd : Below W5.heap.size W5 (W5.drewN m) := ⟨rfl, rfl, rfl, Nat.le_refl _, fun _ _ => rfl⟩
    have : Below w.heap.size w (W5.drewN m) ∧ ∃ v1 v2 p t', Ending.returned (.tuple #[.pointer (some ⟨w.heap.size, 0, none⟩), .slice sa b.length sc, .slice ra rs.length rc, .int .i64 0]) = .returned (.tuple #[.pointer (some ⟨p, 0, none⟩), v1, v2, .int .i64 0]) ∧ w.heap.size ≤ p ∧ w.heap.size ≤ t' ∧ SnV (W5.drewN m) w.heap.size v1 b ∧ Recs (W5.drewN m) w.heap.size v2 rs ∧ PS (W5.drewN m) X p t' q n S half b rs :=
      ⟨hB.trans (hbd.mono hB.size), _, _, w.heap.size, t, rfl, Nat.le_refl _, ht, hS5, hR5.below hbd, ⟨hPS.d.below hbd, hPS.pr.on rfl, hPS.tp.on rfl, hPS.np, hPS.nt, hPS.pp, hPS.dn, hPS.wz⟩⟩
    exact this
  clear k1 k2 k3 hS5 hR5 hPS g1 g2 g4 g5 g6 g7 g8 g9 ho5 N36 N34 hpp h hmf hE4 hW4 hB1 hB2 hB3
  go_wp2_with fail
  go_quiet (fail)
  go_wp2
  (try simp only [Exit.inBlock, Exit.then])
  refine bodyPost_ret (results_tmp4 rfl _ _ _) rfl ?_
  exact (hfin _).out
end Go.Proofs.Ythgkkmcpmhfehaa
