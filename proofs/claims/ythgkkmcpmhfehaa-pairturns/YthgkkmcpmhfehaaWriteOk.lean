/- What Write does where it writes. -/
import Derived.Test.YthgkkmcpmhfehaaWrite
import Derived.Deep.RegionLaw
namespace Go.Proofs.Ythgkkmcpmhfehaa
open Go.RowKit Go.Lib
set_option maxRecDepth 100000

/-- 257 cells, one by one: a name, so that nobody reckons them. -/
def bigZ (f : Nat → Value) : Array Value := (Array.range (1 * 257)).map f
theorem bigZ_eq (f : Nat → Value) : Array.map f (Array.range (1 * 257)) = bigZ f := rfl
theorem bigZ_size (f : Nat → Value) : (bigZ f).size = 257 := by simp [bigZ]
theorem bigZ_eq' (f : Nat → Value) : Array.map f (Array.range 257) = bigZ f := rfl
theorem bigZ_fold (f : Nat → Value) (E : Array Value) (hE : E.size = 257) : Array.foldl (fun (c : Array Value) (x : Value × Nat) => c.setIfInBounds x.snd x.fst) (bigZ f) E.zipIdx 0 257 = E := by
  obtain ⟨h1, h2⟩ := Great.foldl_set 0 E.toList 0 (bigZ f)
  have e : Array.foldl (fun (c : Array Value) (x : Value × Nat) => c.setIfInBounds x.snd x.fst) (bigZ f) E.zipIdx 0 257 = (E.toList.zipIdx 0).foldl (fun cs (x : Value × Nat) => cs.setIfInBounds (0 + x.2) x.1) (bigZ f) := by
    have : (257 : Nat) = E.zipIdx.size := by simp [hE]
    rw [this, ← Array.foldl_toList, Array.toList_zipIdx]
    simp
  rw [e]
  apply Array.ext_getElem?
  intro k
  rw [h2 k, bigZ_size]
  simp only [Array.length_toList, hE, Nat.zero_add, Nat.zero_le, true_and, Nat.add_zero, Nat.sub_zero, Array.getElem?_toList]
  by_cases hk : k < 257
  · rw [if_pos ⟨hk, hk⟩]
  · rw [if_neg (by omega), Array.getElem?_eq_none (by rw [bigZ_size]; omega), Array.getElem?_eq_none (by omega)]
/-- A page is loaded: a name, so that nobody opens it cell by cell. -/
def ld60 (p : Value) : Sem Value := Instr.loadAt 85 p
theorem ld60_eq (p : Value) : Instr.loadAt 85 p = ld60 p := rfl
attribute [local go_sem ↓] Go.wp_at_zero Go.wp_at_succ bigZ_eq bigZ_eq' ld60_eq
attribute [local go_sem] bigZ_size bigZ_fold

/-- The state with a write that waits. -/
def DS.put (S : DS) (i : Nat) (l : List UInt8) : DS := { S with P := splice S.P (i * 256) l, W := S.W ++ [(i, pageOf S.P i)] }

theorem DS.Ok.put {S : DS} {n : Nat} (h : S.Ok n) {i : Nat} (hi : i < n) {l : List UInt8} (hl : l.length = 256) : (S.put i l).Ok n := by
  refine ⟨?_, h.pos, h.top, ?_, h.arm, h.lo, h.hi⟩
  · show (splice S.P (i * 256) l).length = _
    rw [length_splice _ _ _ (by rw [hl, h.len]; omega), h.len]
  · intro x hx
    rcases List.mem_append.1 hx with hx | hx
    · exact h.wait x hx
    · obtain rfl := List.mem_singleton.1 hx
      exact ⟨hi, pageOf_length _ n _ h.len hi⟩
theorem fold62 (Z : Array Value) (hZ : Z.size = 257) (i : Int) (cs : List Value) (hcs : cs.length = 256) :
    List.foldl (fun (c : Array Value) (x : Value × Nat) => c.setIfInBounds (1 + x.snd) x.fst) (Z.setIfInBounds 0 (.int .i64 i)) cs.zipIdx = (Value.int .i64 i :: cs).toArray := by
  obtain ⟨h1, h2⟩ := Great.foldl_set 1 cs 0 (Z.setIfInBounds 0 (.int .i64 i))
  apply Array.ext_getElem?
  intro k
  rw [h2 k]
  simp only [Array.size_setIfInBounds, hZ, hcs]
  cases k with
  | zero => rw [if_neg (by omega)]; simp [hZ]
  | succ k =>
    by_cases hk : k < 256
    · rw [if_pos (by omega)]; simp
    · rw [if_neg (by omega), Array.getElem?_setIfInBounds_ne (by omega), Array.getElem?_eq_none (by omega)]
      simp only [List.getElem?_toArray, List.getElem?_cons_succ]
      rw [List.getElem?_eq_none (by omega)]
theorem zero62 : ∃ Z : Array Value, Z.size = 257 ∧ ∀ w, (zeroValue 87).run Try.prog w = .ok (.agg Z) w := by
  obtain ⟨i0, hi, hz0, hz1, hz2⟩ := info_parts info62
  exact ⟨(Array.replicate 257 (.int .u8 0) |>.set! 0 (.int .i64 0)), (by simp), fun w => by simp [zeroValue, typeInfo, hi, hz0]⟩

theorem waitCells_append (W V : List (Nat × List UInt8)) : waitCells (W ++ V) = waitCells W ++ waitCells V := by simp [waitCells]
/-- The append of a write that waits, as a step of a region that draws. -/
theorem step_push {ops : Array Oper} {o : Oper} {a : Act} {K : Act → World → Prop} {Q : Exit → Act → World → Prop} {Ex : Prop} (hgd : o.guard = none) (s x : Operand)
    (ho : o.op = .call { callee := .builtin .append, args := #[s, x], argTypes := #[69, 69] })
    (w : World) (X : Nat → Prop) (q g : Nat) (C : Array Value) (P : List UInt8) (v : Value) (W : List (Nat × List UInt8)) (hr : Raw w X q g C P v W) (i : Nat) (l : List UInt8) (hl : l.length = 256) (E : Array Value) (hE : (Value.int .i64 (i : Int) :: byteCells l).toArray = E)
    (hs : a.eval s = v) (hx : a.eval x = .slice (some ⟨w.heap.size, 0, none⟩) 1 1) (hW : W.length < 100000)
    (h : ∀ g1 cap w1 X1, Raw w1 X1 q g C P (.slice (some ⟨g1, 0, none⟩) (W.length + 1) cap) (W ++ [(i, l)]) → Step X X1 w w1 → K (a.put o.dst (.slice (some ⟨g1, 0, none⟩) (W.length + 1) cap)) w1) :
    if Region.wanted o (yielded ops a.tmps) = true then Oper.wp Try.prog o a (w.alloc (.cells E 87)).drew K Q else Ex := by
  obtain ⟨i0, hi, hz0, hz1, hz2⟩ := info_parts info62
  have hst : Step X X w (w.alloc (.cells E 87)).drew := (Step.of_below ((Below.refl w.heap.size w).alloc (Nat.le_refl _) _)).drew
  have hr0 : Raw (w.alloc (.cells E 87)).drew X q g C P v W := (hr.on (Step.of_below (X := fun _ => False) ((Below.refl w.heap.size w).alloc (Nat.le_refl _) (.cells E 87))) (fun _ _ h => h)).drew
  have hEl : E.toList.length = 1 * 257 := by rw [← hE]; simp [byteCells_length, hl]
  refine step_append_lies _ hgd s x 69 ho 0 87 i0 _ 257 264 Try.underlying69 hi hz0 hz1 hz2 (by simp [Value.cells]) (by omega) v W.length (waitCells W) hs hr0.b3 ⟨w.heap.size, 0, none⟩ 1 1 E.toList hx hEl
    (World.news_of_block (fr := (0, 0)) (t := 87) (heap_alloc_new w _)) ?_ (by omega) (by unfold maxLen; omega) (by omega) (Nat.zero_le _) _ rfl ?_
  · intro u hu
    rw [← hE] at hu
    rcases List.mem_cons.1 (by simpa using hu) with rfl | hu
    · rfl
    · obtain ⟨y, _, rfl⟩ := List.mem_map.1 hu
      rfl
  · intro g1 cap w1 hown hgrow hat hlt
    have hsz : w.heap.size ≤ (w.alloc (.cells E 87)).drew.heap.size := hst.size
    refine h g1 cap w1 (fun k => X k ∨ k = g1) ?_ ?_
    · have hne : ∀ k, k = q ∨ k = g → w1.heap[k]? = (w.alloc (.cells E 87)).drew.heap[k]? := by
        intro k hk
        refine hgrow.block k ?_ ?_
        · rcases hk with rfl | rfl
          · exact hr0.lt _ hr0.hq
          · exact hr0.lt _ hr0.hg
        · intro e
          obtain ⟨c, hc⟩ := own_ne hr0.b3 e.symm
          rcases hk with rfl | rfl
          · exact ne_type hc hr0.b1 (by decide) rfl
          · exact ne_type hc hr0.b2 (by decide) rfl
      refine ⟨.inl hr0.hq, .inl hr0.hg, fun k hk => by cases hk; exact .inr rfl, ?_, (hne q (.inl rfl)).trans hr0.b1, (hne g (.inr rfl)).trans hr0.b2, ?_⟩
      · rintro k (hk | rfl)
        · exact Nat.lt_of_lt_of_le (hr0.lt k hk) hgrow.size
        · exact hlt
      · rw [List.length_append, waitCells_append]
        have e : waitCells [(i, l)] = E.toList := by rw [← hE]; simp [waitCells]
        rw [e]
        exact hown
    · refine hst.trans ⟨hgrow.os, hgrow.tape, hgrow.output, hgrow.size, fun k hk hx => hgrow.block k hk (fun e => hx (hr0.hv k e.symm)), ?_⟩
      rintro k (hk | rfl)
      · exact .inl hk
      · rcases hat with hat | hat
        · exact .inl (hr0.hv _ hat)
        · exact .inr (Nat.le_of_eq hat.symm)

set_option maxRecDepth 100000 in
set_option maxHeartbeats 2000000 in
theorem write_ok (w : World) (X : Nat → Prop) (q n : Nat) (S : DS) (i : Nat) (b : Value) (l : List UInt8) (hi : i < n) (hd : S.down = false) (hW : S.W.length < 100000) (hops : S.ops ≤ 1000000) (h : Drum w X q n S) (hl : l.length = 256) (hb : RdB w b l) (hout : ∀ k, b.ownBlock = some k → ¬ X k) :
    Calls Try.prog 24 #[.pointer (some ⟨q, 0, none⟩), .int .i64 i, b] w fun e w' => ∃ X', e = .returned (.int .i64 (S.put i l).oper.2) ∧ Drum w' X' q n (S.put i l).oper.1 ∧ Step X X' w w' := by
  have N27 := has_any w X q n S i h
  rw [decide_eq_true (by omega : 0 ≤ (i : Int) ∧ (i : Int) < n)] at N27
  obtain ⟨g, v, hr, ok⟩ := h
  obtain ⟨c0, c1, c2, c3, c4, c5, fz⟩ := hr.cells
  rw [hd] at c3
  obtain ⟨ba, bc, rfl, hba⟩ := hb
  rw [hl]
  have i0 : (0 : Int) ≤ (i : Int) := by omega
  have i1 : (i : Int) < (n : Int) := by omega
  have hR : w.rangeAt g (i * 256) (byteCells (pageOf S.P i)) := hr.range i
  have hcl : (byteCells (pageOf S.P i)).length = 256 := by rw [byteCells_length, pageOf_length _ n _ ok.len hi]
  have hu := Try.underlying85
  have hinf : (Try.prog.info? 85).map (·.size) = some (byteCells (pageOf S.P i)).length := by rw [hcl]; exact info60s
  have h1 : ∀ u ∈ byteCells (pageOf S.P i), u.oneCell' = true := by
    intro u hu
    obtain ⟨x, _, rfl⟩ := List.mem_map.1 hu
    rfl
  obtain ⟨Z, hZ, hz62⟩ := zero62
  have hfold := fold62 Z hZ i (byteCells (pageOf S.P i)) hcl
  have hZ0 : ¬ Z = #[] := by intro h; rw [h] at hZ; cases hZ
  have hEs : (Value.int .i64 (i : Int) :: byteCells (pageOf S.P i)).toArray.size = 257 := by simp [hcl]
  have HR : Hid (Raw w X q g (S.cells g n v) S.P v S.W) := hr
  obtain ⟨bb, bo, rfl, hrb⟩ := hba (by omega)
  have HB : Hid (w.rangeAt bb bo (byteCells l)) := hrb
  have HBX : Hid (¬ X bb) := hout bb rfl
  have hq1 : ∀ o, (w.alloc o).cell? ⟨q, 1, none⟩ = some v := fun o => by rw [World.cell?_alloc_lt _ _ _ (hr.lt _ hr.hq)]; exact c1
  have hld : (ld60 (.pointer (some ⟨g, i * 256, none⟩))).run Try.prog w.drew = .ok (.agg (byteCells (pageOf S.P i)).toArray) w.drew := run_loadAt_mid w.drew g (i * 256) 85 _ _ hR Try.underlying85 rfl hinf
  have hLl := pageOf_length _ n _ ok.len hi
  have HO : Hid (S.Ok n) := ok
  clear hr hba hR hinf h1 hu hrb hout
  generalize hpg : pageOf S.P i = pg at *
  have HPG : Hid (pageOf S.P i = pg) := hpg
  clear hpg
  generalize hE : (Value.int .i64 (i : Int) :: byteCells pg).toArray = E at *
  have HE : Hid (∀ p, p = pg → (Value.int .i64 (i : Int) :: byteCells p).toArray = E) := by rintro p rfl; exact hE
  clear hE
  generalize byteCells pg = cs at *
  go_enter Try.func24, Try.ntmps24
  go_upto_region 7 with (go_at_call 52; refine N27.mono ?_; rintro e w' ⟨rfl, rfl⟩)
  go_cut [40] (fun s w2 => ∃ X1 v1, Raw w2 X1 q g #[.slice (some ⟨g, 0, none⟩) n n, v1, .int .i64 S.ops, .bool S.down, .int .i64 S.armed, .int .i64 S.keep] S.P v1 (S.W ++ [(i, pg)]) ∧ Step X X1 w' w2)
  case first =>
    go_region_law ((refine step_push rfl (.tmp 29) (.tmp 39) (by rfl) _ X q g _ S.P v S.W HR.out i pg hLl E (HE.out _ rfl) (by rfl) (by rfl) hW ?_; intro g1 cap1 w1 X1 hr1 hs1; obtain ⟨k0, k1, k2, k3, k4, k5, kz⟩ := hr1.cells))
    all_goals go_wp2_with fail
    all_goals go_meet
    all_goals exact ⟨X1, _, hr1.set 1 _, hs1.set hr1.hq _⟩
  case rest =>
    obtain ⟨X1, v1, hr1, hs1⟩ := hcut
    have HG : Hid (wc.heap[g]? = some (.cells (byteCells S.P).toArray 85 (0, 0))) := hr1.b2
    have HP : Hid ((S.put i l).Ok n) := by rw [← HPG.out] at *; exact HO.out.put hi hl
    have HD : Hid (∀ w2, Hid (w2 = wc.setRow g (splice (byteCells S.P) (i * 256) (byteCells l)).toArray) → Calls Try.prog 53 #[.pointer (some ⟨q, 0, none⟩)] w2 fun e w3 => e = .returned (.int .i64 (S.put i l).oper.2) ∧ Drum w3 X1 q n (S.put i l).oper.1 ∧ Step X X1 w' w3) := by
      intro w2 h2
      rw [h2.out]
      refine (oper_any _ X1 q n (S.put i l) ?_ hops ⟨g, v1, ?_, HP.out⟩).mono ?_
      · show (S.W ++ [(i, pageOf S.P i)]).length ≤ _
        rw [List.length_append]
        exact hW
      · have := hr1.page (i * 256) l
        rw [← HPG.out] at this
        exact this
      · rintro e w3 ⟨rfl, hd3, hs3⟩
        exact ⟨rfl, hd3, (hs1.row hr1.hg _).trans hs3⟩
    have HN : Hid ((byteCells l).length = Nat.min 256 256) := by show _ = _; rw [byteCells_length, hl]; rfl
    have HF : Hid (i * 256 + (byteCells l).length ≤ (byteCells S.P).length) := by show _ ≤ _; rw [byteCells_length, byteCells_length, hl, HO.out.len]; omega
    have hrb : wc.rangeAt bb bo (byteCells l) := by
      intro j u hj
      have := HB.out j u hj
      rw [← this]
      exact World.cell?_of_block (hs1.block bb (World.block_lt_of_cell? _ _ this) HBX.out)
    have HPOS : Hid (0 < (byteCells l).length → (some (⟨g, i * 256, none⟩ : Addr)) = some ⟨g, i * 256, none⟩ ∧ ∃ ad, (some (⟨bb, bo, none⟩ : Addr)) = some ad ∧ ∀ j u, (byteCells l)[j]? = some u → wc.cell? (ad.add j) = some u) := fun _ => ⟨rfl, _, rfl, fun j u hj => by rw [Addr.add_mid]; exact hrb j u hj⟩
    have H1 : Hid (∀ u ∈ byteCells l, u.oneCell' = true) := by
      intro u hu
      obtain ⟨x, _, rfl⟩ := List.mem_map.1 hu
      rfl
    obtain ⟨k0, k1, k2, k3, k4, k5, kz⟩ := hr1.cells
    clear hrb hr1 hs1 hld hfold hz62 hq1 c0 c1 c2 c3 c4 c5 fz N27 HE HR HPG HB HBX HO HP
    go_wp2_with (first | (go_at_call 53; refine (HD.out _ (by assumption)).mono ?_; rintro e w3 ⟨rfl, hd3, hs3⟩) | (refine wpList_copy_at rfl (.tmp 49) (.tmp 50) 30 30 rfl 5 Try.underlying30 info5s _ _ _ _ _ _ rfl rfl g (i * 256) (byteCells S.P) 85 HG.out (byteCells l) HN.out HPOS.out HF.out H1.out ?_; intro w2 hw2))
    go_ret
    exact ⟨X1, rfl, hd3, hs3⟩
end Go.Proofs.Ythgkkmcpmhfehaa
