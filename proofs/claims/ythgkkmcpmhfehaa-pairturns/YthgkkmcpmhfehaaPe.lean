/- A tape whose drum may lose its power; pair.turn. -/
import Derived.Test.YthgkkmcpmhfehaaPd
import Derived.Test.YthgkkmcpmhfehaaSt
import Derived.BigQuiet
namespace Go.Proofs.Ythgkkmcpmhfehaa
open Go.RowKit Go.Lib Go.Shelf
set_option maxRecDepth 100000

theorem opsN_le2 (p l size : Nat) : opsN p l size ≤ l / 256 + 6 := by unfold opsN tillOf; omega

/-- A tape with its records laid, all of them safe; something may be armed. -/
structure TA (w : World) (X : Nat → Prop) (t q n : Nat) (S : DS) (lo hi : Nat) (rs : List (List UInt8)) : Prop where
  d : Drum w X q n S
  tp : Tp w t q lo hi (tot rs) rs.length 0
  nx : ¬ X t
  la : Laid S.P lo ((hi - lo) * 256) rs
  dn : S.down = false
  wz : S.W = []
theorem TA.on {w w' : World} {X Y Y' : Nat → Prop} {t q n : Nat} {S : DS} {lo hi : Nat} {rs : List (List UInt8)} (h : TA w X t q n S lo hi rs) (hs : Step Y Y' w w') (hd : ∀ k, X k → ¬ Y k) (ht : ¬ Y t) : TA w' X t q n S lo hi rs :=
  ⟨h.d.on hs hd, h.tp.on (hs.block t h.tp.lt ht), h.nx, h.la, h.dn, h.wz⟩

theorem append_ta (w : World) (X : Nat → Prop) (t q n : Nat) (S : DS) (lo hi : Nat) (rs : List (List UInt8)) (h : TA w X t q n S lo hi rs) (hlh : lo ≤ hi) (hh : hi ≤ n) (hops : S.ops ≤ 100000) (hn : rs.length ≤ 5000) (r : List UInt8) (v : Value) (hr : Sl.RdA w v r) (hrl : r.length ≤ 65536) (hpl : tot rs + (12 + r.length) ≤ (hi - lo) * 256) :
    Calls Try.prog 44 #[.pointer (some ⟨t, 0, none⟩), v] w fun e w' => ∃ X' S', Drum w' X' q n S' ∧ Step (fun k => X k ∨ k = t) (fun k => X' k ∨ k = t) w w' ∧ (∀ k, X' k → X k ∨ w.heap.size ≤ k) ∧ ¬ X' t ∧ S'.W = [] ∧ S'.ops ≤ S.ops + (r.length / 256 + 6) ∧ (∀ k, k < lo * 256 + tot rs ∨ hi * 256 ≤ k → S'.P[k]? = S.P[k]?) ∧
      ((e = .returned (.int .i64 0) ∧ TA w' X' t q n S' lo hi (rs ++ [r]) ∧ (S.armed = 0 → S'.armed = 0)) ∨
       (e = .returned (.int .i64 20) ∧ S.armed ≠ 0 ∧ S'.armed = 0 ∧ S'.down = true ∧ Tp w' t q lo hi (tot rs) rs.length 20 ∧ (Laid S'.P lo ((hi - lo) * 256) rs ∨ Laid S'.P lo ((hi - lo) * 256) (rs ++ [r])))) := by
  obtain ⟨a, c, rfl⟩ := hr.len
  obtain ⟨g1, g2, g3, g4⟩ := lay_torn S n lo hi rs h.la h.d.len hlh hh r hrl hpl h.dn h.wz
  have hopl := opsN_le2 (tot rs) r.length ((hi - lo) * 256)
  generalize hR : layD S lo (tot rs) (frB 0 rs.length r) ((hi - lo) * 256) = R at *
  refine (append_any w X t q n S lo hi (tot rs) rs.length h.d h.tp h.nx hlh hh h.dn (by rw [h.wz]; decide) hops (by omega) r a c hr hrl hpl R hR.symm (by rcases g4 with g | g; exact .inl g.1; exact .inr g.1)).mono ?_
  rintro e w' ⟨X', k1, k2, k3, rfl, k4⟩
  have hnx : ¬ X' t := fun hxx => by
    rcases k3 t hxx with h' | h'
    · exact h.nx h'
    · have := h.tp.lt; omega
  refine ⟨X', R.1, k1, k2, k3, hnx, g1, by omega, g3, ?_⟩
  rcases g4 with ⟨e1, e2, e3, e4⟩ | ⟨e1, e2, e3, e4, e5⟩
  · left
    rcases k4 with ⟨_, k4⟩ | ⟨k4, _⟩
    · exact ⟨by rw [e1], ⟨k1, by rw [tot_snoc, List.length_append]; exact k4, hnx, e4, e2, g1⟩, e3⟩
    · omega
  · right
    rcases k4 with ⟨k4, _⟩ | ⟨_, k4⟩
    · omega
    · exact ⟨by rw [e1], e3, e4, e2, k4, e5⟩

theorem open_ta (w : World) (X : Nat → Prop) (q n : Nat) (S : DS) (lo hi : Nat) (rs : List (List UInt8)) (h : Drum w X q n S) (hla : Laid S.P lo ((hi - lo) * 256) rs) (hd : S.down = false) (hw : S.W = []) (hlh : lo < hi) (hh : hi ≤ n) (hrs : rs.length ≤ 5000) :
    Calls Try.prog 66 #[.pointer (some ⟨q, 0, none⟩), .int .i64 lo, .int .i64 hi] w fun e w' => Below w.heap.size w w' ∧ ∃ v t, e = .returned (.tuple #[.pointer (some ⟨t, 0, none⟩), v, .int .i64 0]) ∧ w.heap.size ≤ t ∧ Recs w' w.heap.size v rs ∧ TA w' X t q n S lo hi rs := by
  refine (open_any w X q n S lo hi h hlh hh hd rs 0 hla.chain hrs).mono ?_
  rintro e w' ⟨hb, ⟨_, v, t, rfl, h1, h2, h3⟩ | ⟨hk, _⟩⟩
  · exact ⟨hb, v, t, rfl, h1, h2, ⟨h.below hb, h3, fun hx => by have := h.xlt t hx; omega, hla, hd, hw⟩⟩
  · omega


set_option maxHeartbeats 2000000 in
theorem turn_any (w : World) (X : Nat → Prop) (p q n : Nat) (S : DS) (half : Nat) (tv : Value) (met : Nat) (hd : S.down = false) (hw : S.W = []) (h : Drum w X q n S) (hp : Pr w p q half tv met) (a : Nat) (ha : a ≤ 1) (l : Nat) (hl : l ≤ 1048576) (htk : takesN l < spanN n) (rs : List (List UInt8)) (hrs : rs.length ≤ 5000)
    (hla : Laid S.P (firstN n a + takesN l) ((firstN n a + spanN n - (firstN n a + takesN l)) * 256) rs) :
    Calls Try.prog 39 #[.pointer (some ⟨p, 0, none⟩), .int .i64 (a : Int), .int .i64 (l : Int)] w fun e w' => ∃ v t, e = .returned v ∧ Recs w' w.heap.size v rs ∧ w.heap.size ≤ t ∧ Pr w' p q a (.pointer (some ⟨t, 0, none⟩)) met ∧ Tp w' t q (firstN n a + takesN l) (firstN n a + spanN n) (tot rs) rs.length 0 ∧ Step (fun k => k = p) (fun k => k = p) w w' := by
  have hn1 : 1 ≤ n := by unfold spanN at htk; omega
  have htop := h.top
  have N60 := first_any w X p q n S half tv met a ha h hp hn1
  have hlo : firstN n a + spanN n ≤ n := by
    unfold firstN spanN
    rcases (show a = 0 ∨ a = 1 by omega) with rfl | rfl <;> omega
  have N63 : ∀ m, Calls Try.prog 63 #[.int .i64 (l : Int)] (w.drewN m) fun e w' => e = .returned (.int .i64 (takesN l : Nat)) ∧ w' = w.drewN m := fun m => pagesOf_any (w.drewN m) l (by omega)
  have hbd : ∀ m, Below w.heap.size w (w.drewN m) := fun m => ⟨rfl, rfl, rfl, Nat.le_refl _, fun _ _ => rfl⟩
  have N67 : ∀ m, Calls Try.prog 67 #[.pointer (some ⟨p, 0, none⟩)] (w.drewN m) fun e w' => e = .returned (.int .i64 (spanN n : Nat)) ∧ w' = w.drewN m := fun m => span_any (w.drewN m) X p q n S half tv met (h.below (hbd m)) (hp.below (hbd m)) hn1
  obtain ⟨t0, t1, t2, t3, tf⟩ := hp.cells
  have c0 : ∀ m, (w.drewN m).cell? ⟨p, 0, none⟩ = some (.pointer (some ⟨q, 0, none⟩)) := fun m => t0
  have N66 : ∀ m, _ := fun m => open_ta (w.drewN m) X q n S _ _ rs (h.below (hbd m)) hla hd hw (by omega) hlo hrs
  generalize firstN n a = lo at *
  generalize takesN l = tk at *
  generalize spanN n = sp at *
  have HN63 : Hid (∀ m, Calls Try.prog 63 #[.int .i64 (l : Int)] (w.drewN m) fun e w' => e = .returned (.int .i64 (tk : Nat)) ∧ w' = w.drewN m) := N63
  have HN67 : Hid (∀ m, Calls Try.prog 67 #[.pointer (some ⟨p, 0, none⟩)] (w.drewN m) fun e w' => e = .returned (.int .i64 (sp : Nat)) ∧ w' = w.drewN m) := N67
  have hpb := hp.b
  have HP : Hid _ := hpb
  have HL : Hid _ := hla
  clear N63 N67 hla t1 t2 t3
  have hmix : Try.prog.follows .mixedOrders = true := by kernel_rfl
  have hS : w.drew.cell? ⟨p, 0, none⟩ = some (.pointer (some ⟨q, 0, none⟩)) := t0
  have hwr1 : IntKind.i64.wrap ((lo : Int) + (tk : Int)) = ((lo + tk : Nat) : Int) := by rw [wrapI _ (by omega) (by omega)]; omega
  have hwr2 : IntKind.i64.wrap ((lo : Int) + (sp : Int)) = ((lo + sp : Nat) : Int) := by rw [wrapI _ (by omega) (by omega)]; omega
  have hmix : Try.prog.follows .mixedOrders = true := by kernel_rfl
  have hS : w.drew.cell? ⟨p, 0, none⟩ = some (.pointer (some ⟨q, 0, none⟩)) := t0
  have hwr1 : IntKind.i64.wrap ((lo : Int) + (tk : Int)) = ((lo + tk : Nat) : Int) := by rw [wrapI _ (by omega) (by omega)]; omega
  have hwr2 : IntKind.i64.wrap ((lo : Int) + (sp : Int)) = ((lo + sp : Nat) : Int) := by rw [wrapI _ (by omega) (by omega)]; omega
  have hmix : Try.prog.follows .mixedOrders = true := by kernel_rfl
  have hS : w.drew.cell? ⟨p, 0, none⟩ = some (.pointer (some ⟨q, 0, none⟩)) := t0
  have hwr1 : IntKind.i64.wrap ((lo : Int) + (tk : Int)) = ((lo + tk : Nat) : Int) := by rw [wrapI _ (by omega) (by omega)]; omega
  have hwr2 : IntKind.i64.wrap ((lo : Int) + (sp : Int)) = ((lo + sp : Nat) : Int) := by rw [wrapI _ (by omega) (by omega)]; omega
  have hmix : Try.prog.follows .mixedOrders = true := by kernel_rfl
  have hS : w.drew.cell? ⟨p, 0, none⟩ = some (.pointer (some ⟨q, 0, none⟩)) := t0
  have hwr1 : IntKind.i64.wrap ((lo : Int) + (tk : Int)) = ((lo + tk : Nat) : Int) := by rw [wrapI _ (by omega) (by omega)]; omega
  have hwr2 : IntKind.i64.wrap ((lo : Int) + (sp : Int)) = ((lo + sp : Nat) : Int) := by rw [wrapI _ (by omega) (by omega)]; omega
  go_enter Try.func39, Try.ntmps39
  go_upto_region 2 with (go_at_call 60; refine N60.mono ?_; rintro e w1 ⟨rfl, he⟩; have he := he.symm; subst he)
  refine wp_region_held (S := fun W' => W'.cell? ⟨p, 0, none⟩ = some (.pointer (some ⟨q, 0, none⟩))) hmix ?_
  show wpAnyH _ _ _ _ _ _ _ _ w.drew
  refine wpAnyH_take (i := 0) (v := .pointer (some ⟨p, 0, none⟩)) rfl (by kernel_rfl) (by kernel_rfl) (by kernel_rfl) (fun _ _ _ h => h) (.inl ⟨by rfl, fun W' hW' => ?_⟩) hS ?_
  · have hW' : W'.cell? ⟨p, 0, none⟩ = some (.pointer (some ⟨q, 0, none⟩)) := hW'
    go_simp
  dsimp only [Act.put]
  refine wpAnyH_take (i := 1) (v := .pointer (some ⟨p, 0, none⟩)) rfl (by kernel_rfl) (by kernel_rfl) (by kernel_rfl) (fun _ _ _ h => h) (.inl ⟨by rfl, fun W' hW' => ?_⟩) hS ?_
  · have hW' : W'.cell? ⟨p, 0, none⟩ = some (.pointer (some ⟨q, 0, none⟩)) := hW'
    go_simp
  dsimp only [Act.put]
  refine wpAnyH_take (i := 2) (v := .pointer (some ⟨p, 0, none⟩)) rfl (by kernel_rfl) (by kernel_rfl) (by kernel_rfl) (fun _ _ _ h => h) (.inl ⟨by rfl, fun W' hW' => ?_⟩) hS ?_
  · have hW' : W'.cell? ⟨p, 0, none⟩ = some (.pointer (some ⟨q, 0, none⟩)) := hW'
    go_simp
  dsimp only [Act.put]
  refine wpAnyH_take (i := 3) (v := .pointer (some ⟨q, 0, none⟩)) rfl (by kernel_rfl) (by kernel_rfl) (by kernel_rfl) (fun _ _ _ h => h) (.inl ⟨by rfl, fun W' hW' => ?_⟩) hS ?_
  · have hW' : W'.cell? ⟨p, 0, none⟩ = some (.pointer (some ⟨q, 0, none⟩)) := hW'
    go_simp
  dsimp only [Act.put]
  refine wpAnyH_take (i := 4) (v := .int .i64 (lo : Int)) rfl (by kernel_rfl) (by kernel_rfl) (by kernel_rfl) (fun _ _ _ h => h) (.inl ⟨by rfl, fun W' hW' => ?_⟩) hS ?_
  · have hW' : W'.cell? ⟨p, 0, none⟩ = some (.pointer (some ⟨q, 0, none⟩)) := hW'
    go_simp
  dsimp only [Act.put]
  refine wpAnyH_take (i := 5) (v := .int .i64 (l : Int)) rfl (by kernel_rfl) (by kernel_rfl) (by kernel_rfl) (fun _ _ _ h => h) (.inl ⟨by rfl, fun W' hW' => ?_⟩) hS ?_
  · have hW' : W'.cell? ⟨p, 0, none⟩ = some (.pointer (some ⟨q, 0, none⟩)) := hW'
    go_simp
  dsimp only [Act.put]
  refine wpAnyH_take (i := 8) (v := .int .i64 (lo : Int)) rfl (by kernel_rfl) (by kernel_rfl) (by kernel_rfl) (fun _ _ _ h => h) (.inl ⟨by rfl, fun W' hW' => ?_⟩) hS ?_
  · have hW' : W'.cell? ⟨p, 0, none⟩ = some (.pointer (some ⟨q, 0, none⟩)) := hW'
    go_simp
  dsimp only [Act.put]
  refine wpAnyH_take (i := 9) (v := .pointer (some ⟨p, 0, none⟩)) rfl (by kernel_rfl) (by kernel_rfl) (by kernel_rfl) (fun _ _ _ h => h) (.inl ⟨by rfl, fun W' hW' => ?_⟩) hS ?_
  · have hW' : W'.cell? ⟨p, 0, none⟩ = some (.pointer (some ⟨q, 0, none⟩)) := hW'
    go_simp
  dsimp only [Act.put]
  refine wpAnyH_one (i := 6) (by kernel_rfl) rfl (by rfl) (fun K hK => ?_)
  go_simp
  refine (HN63.out 1).mono ?_
  rintro e w2 ⟨rfl, he⟩
  have he := he.symm
  subst he
  show K _ _
  refine hK _ _ hS ?_
  clear hK K
  refine wpAnyH_take (i := 7) (v := .int .i64 ((lo + tk : Nat) : Int)) rfl (by kernel_rfl) (by kernel_rfl) (by kernel_rfl) (fun _ _ _ h => h) (.inl ⟨by rfl, fun W' hW' => ?_⟩) hS ?_
  · have hW' : W'.cell? ⟨p, 0, none⟩ = some (.pointer (some ⟨q, 0, none⟩)) := hW'
    go_simp
  dsimp only [Act.put]
  refine wpAnyH_one (i := 10) (by kernel_rfl) rfl (by rfl) (fun K hK => ?_)
  go_simp
  refine (HN67.out 1).mono ?_
  rintro e w2 ⟨rfl, he⟩
  have he := he.symm
  subst he
  show K _ _
  refine hK _ _ hS ?_
  clear hK K
  refine wpAnyH_take (i := 11) (v := .int .i64 ((lo + sp : Nat) : Int)) rfl (by kernel_rfl) (by kernel_rfl) (by kernel_rfl) (fun _ _ _ h => h) (.inl ⟨by rfl, fun W' hW' => ?_⟩) hS ?_
  · have hW' : W'.cell? ⟨p, 0, none⟩ = some (.pointer (some ⟨q, 0, none⟩)) := hW'
    go_simp
  dsimp only [Act.put]
  refine wpAnyH_one (i := 12) (by kernel_rfl) rfl (by rfl) (fun K hK => ?_)
  go_simp
  refine (N66 1).mono ?_
  rintro e w2 ⟨hb2, v, t, rfl, ht, hrec, hta⟩
  obtain ⟨va, vc, rfl⟩ := hrec.shape
  have hpr2 : Pr w2 p q half tv met := (hp.below (hbd 1)).below hb2
  obtain ⟨u0, u1, u2, u3, uf⟩ := hpr2.cells
  have hS2 : w2.cell? ⟨p, 0, none⟩ = some (.pointer (some ⟨q, 0, none⟩)) := u0
  show K _ _
  refine hK _ _ hS2 ?_
  clear hK K
  refine wpAnyH_take (i := 13) (v := .tuple #[.pointer (some ⟨t, 0, none⟩), .slice va rs.length vc, .int .i64 0]) rfl (by kernel_rfl) (by kernel_rfl) (by kernel_rfl) (fun _ _ _ h => h) (.inl ⟨by rfl, fun W' hW' => ?_⟩) hS2 ?_
  · have hW' : W'.cell? ⟨p, 0, none⟩ = some (.pointer (some ⟨q, 0, none⟩)) := hW'
    go_simp
  dsimp only [Act.put]
  refine wpAnyH_take (i := 14) (v := .pointer (some ⟨t, 0, none⟩)) rfl (by kernel_rfl) (by kernel_rfl) (by kernel_rfl) (fun _ _ _ h => h) (.inl ⟨by rfl, fun W' hW' => ?_⟩) hS2 ?_
  · have hW' : W'.cell? ⟨p, 0, none⟩ = some (.pointer (some ⟨q, 0, none⟩)) := hW'
    go_simp
  dsimp only [Act.put]
  refine wpAnyH_take (i := 15) (v := .slice va rs.length vc) rfl (by kernel_rfl) (by kernel_rfl) (by kernel_rfl) (fun _ _ _ h => h) (.inl ⟨by rfl, fun W' hW' => ?_⟩) hS2 ?_
  · have hW' : W'.cell? ⟨p, 0, none⟩ = some (.pointer (some ⟨q, 0, none⟩)) := hW'
    go_simp
  dsimp only [Act.put]
  refine wpAnyH_take (i := 16) (v := .int .i64 0) rfl (by kernel_rfl) (by kernel_rfl) (by kernel_rfl) (fun _ _ _ h => h) (.inl ⟨by rfl, fun W' hW' => ?_⟩) hS2 ?_
  · have hW' : W'.cell? ⟨p, 0, none⟩ = some (.pointer (some ⟨q, 0, none⟩)) := hW'
    go_simp
  dsimp only [Act.put]
  refine wpAnyH_take (i := 17) (v := .pointer (some ⟨t, 0, none⟩)) rfl (by kernel_rfl) (by kernel_rfl) (by kernel_rfl) (fun _ _ _ h => h) (.inl ⟨by rfl, fun W' hW' => ?_⟩) hS2 ?_
  · have hW' : W'.cell? ⟨p, 0, none⟩ = some (.pointer (some ⟨q, 0, none⟩)) := hW'
    go_simp
  dsimp only [Act.put]
  refine wpAnyH_take (i := 18) (v := .slice va rs.length vc) rfl (by kernel_rfl) (by kernel_rfl) (by kernel_rfl) (fun _ _ _ h => h) (.inl ⟨by rfl, fun W' hW' => ?_⟩) hS2 ?_
  · have hW' : W'.cell? ⟨p, 0, none⟩ = some (.pointer (some ⟨q, 0, none⟩)) := hW'
    go_simp
  dsimp only [Act.put]
  refine wpAnyH_take (i := 19) (v := .int .i64 0) rfl (by kernel_rfl) (by kernel_rfl) (by kernel_rfl) (fun _ _ _ h => h) (.inl ⟨by rfl, fun W' hW' => ?_⟩) hS2 ?_
  · have hW' : W'.cell? ⟨p, 0, none⟩ = some (.pointer (some ⟨q, 0, none⟩)) := hW'
    go_simp
  dsimp only [Act.put]
  refine wpAnyH_done (by kernel_rfl) ?_ _
  clear hS hS2 HN63 HN67 N66 t0 c0 hwr1 hwr2 N60
  go_wp2_with (go_at_call 68; refine (p_insist_ok _).mono ?_; rintro e w3 ⟨rfl, he⟩; have he := he.symm; subst he)
  go_ret
  have hb02 : Below w.heap.size w w2 := (hbd 1).trans hb2
  have hoth : ∀ k, k ≠ p → ((w2.setCell ⟨p, 1, none⟩ (.int .i64 (a : Int))).setCell ⟨p, 2, none⟩ (.pointer (some ⟨t, 0, none⟩))).heap[k]? = w2.heap[k]? := fun k hk => by
    rw [heap_setCell_other _ _ _ _ hk, heap_setCell_other _ _ _ _ hk]
  refine ⟨_, t, rfl, ?_, ht, ⟨?_⟩, ?_, Step.set (Step.set (Step.of_below (X := fun k => k = p) hb02) (a := ⟨p, 1, none⟩) rfl _) (a := ⟨p, 2, none⟩) rfl _⟩
  · refine hrec.on fun k c e he hc => hoth k ?_
    rcases he with rfl | rfl
    · exact ne_type hc hpr2.b (by decide)
    · exact ne_type hc hpr2.b (by decide)
  · rw [heap_setCell_same _ _ _ _ _ _ (heap_setCell_same _ _ _ _ _ _ hpr2.b)]
    simp
  · exact hta.tp.on (hoth t (ne_type hta.tp.b hpr2.b (by decide)))
end Go.Proofs.Ythgkkmcpmhfehaa
