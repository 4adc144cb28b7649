/- pair.lay. -/
import Derived.Test.YthgkkmcpmhfehaaPe
namespace Go.Proofs.Ythgkkmcpmhfehaa
open Go.RowKit Go.Lib Go.Shelf
set_option maxRecDepth 100000

/-- A snapshot's pages, and a page of noughts behind them. -/
def snI (b : List UInt8) : List UInt8 := snB b ++ List.replicate ((takesN b.length + 1) * 256 - (12 + b.length)) 0
theorem snI_length (b : List UInt8) : (snI b).length = (takesN b.length + 1) * 256 := by
  unfold snI; rw [List.length_append, snB_length, List.length_replicate]; unfold takesN; omega
/-- What lay does to a drum. -/
def layP (S : DS) (lo : Nat) (I : List UInt8) (N : Nat) : DS × Int := if (runW lo I S N).2 ≠ 0 then runW lo I S N else (runW lo I S N).1.flush
theorem layP_stop (S : DS) (lo : Nat) (I : List UInt8) (N k : Nat) (hk : k ≤ N) (h : (runW lo I S k).2 ≠ 0) : layP S lo I N = runW lo I S k := by
  have e : runW lo I S N = runW lo I S k := by
    have := runW_stop lo I S k h (N - k)
    rwa [show k + (N - k) = N by omega] at this
  unfold layP
  rw [e, if_pos h]
theorem img0 (b : List UInt8) (tk : Nat) (htk : takesN b.length = tk) : splice (List.replicate (tk * 256) 0) 0 (snB b) = (snI b).take (tk * 256) := by
  have hl : 12 + b.length ≤ tk * 256 := by unfold takesN at htk; omega
  unfold splice snI
  rw [List.take_zero, List.nil_append, Nat.zero_add, List.drop_replicate, snB_length, List.take_append, snB_length, List.take_of_length_le (by rw [snB_length]; omega), List.take_replicate, htk]
  congr 2
  omega
theorem pg_img0 (b : List UInt8) (tk k : Nat) (hk : k < tk) : (((snI b).take (tk * 256)).drop (k * 256)).take 256 = pgI (snI b) k := by
  unfold pgI
  have := Nat.mul_le_mul_right 256 (show k + 1 ≤ tk from hk)
  rw [List.drop_take, List.take_take, Nat.min_eq_left (by omega)]
theorem pg_last (b : List UInt8) : pgI (snI b) (takesN b.length) = List.replicate 256 0 := by
  have hl : 12 + b.length ≤ takesN b.length * 256 := by unfold takesN; omega
  unfold pgI snI
  rw [List.drop_append, List.drop_eq_nil_of_le (by rw [snB_length]; omega), List.nil_append, snB_length, List.drop_replicate, List.take_replicate]
  congr 1
  omega

set_option maxHeartbeats 4000000 in
theorem play_any (w : World) (X : Nat → Prop) (p q n : Nat) (S : DS) (half : Nat) (tv : Value) (met : Nat) (hd : S.down = false) (h : Drum w X q n S) (hp : Pr w p q half tv met) (hx : ¬ X p) (hW : S.W.length < 100) (hops : S.ops ≤ 90000) (a : Nat) (ha : a ≤ 1) (b : List UInt8) (v : Value) (hb : Sl.RdA w v b) (hl : b.length ≤ 1048576) (htk : takesN b.length < spanN n) :
    Calls Try.prog 48 #[.pointer (some ⟨p, 0, none⟩), .int .i64 (a : Int), v] w fun e w' => ∃ X', Drum w' X' q n (layP S (firstN n a) (snI b) (takesN b.length + 1)).1 ∧ Step X X' w w' ∧
      (((layP S (firstN n a) (snI b) (takesN b.length + 1)).2 = 0 ∧ e = .returned (.tuple #[])) ∨ ((layP S (firstN n a) (snI b) (takesN b.length + 1)).2 ≠ 0 ∧ e = .panicked (gup (layP S (firstN n a) (snI b) (takesN b.length + 1)).2))) := by
  have hmix : Try.prog.follows .mixedOrders = true := by kernel_rfl
  have hn1 : 1 ≤ n := by unfold spanN at htk; omega
  have htop := h.top
  have hlo : firstN n a + spanN n ≤ n := by
    unfold firstN spanN
    rcases (show a = 0 ∨ a = 1 by omega) with rfl | rfl <;> omega
  have N60 := first_any w X p q n S half tv met a ha h hp hn1
  have N63 := pagesOf_any w b.length (by omega)
  obtain ⟨va, vc, rfl⟩ := hb.len
  have hI := snI_length b
  have hpl : Hid _ := pg_last b
  obtain ⟨tk, htke⟩ : ∃ tk, takesN b.length = tk := ⟨_, rfl⟩
  have him0 : Hid _ := img0 b tk htke
  have hl12 : Hid (12 + b.length ≤ tk * 256) := by
    have : 12 + b.length ≤ tk * 256 := by unfold takesN at htke; omega
    exact this
  rw [htke] at N63 hI hpl htk ⊢
  clear htke
  obtain ⟨sp, hsp⟩ : ∃ sp, spanN n = sp := ⟨_, rfl⟩
  rw [hsp] at htk hlo
  clear hsp
  generalize firstN n a = lo at *
  have htk4 : tk ≤ 4096 := by omega
  have hmk : (Instr.makeSlice 30 (.int .i64 ((tk : Int) * 256)) (.int .i64 ((tk : Int) * 256))).run Try.prog w = .ok (.slice (some ⟨w.heap.size, 0, none⟩) (tk * 256) (tk * 256)) (w.alloc (.cells (byteCells (List.replicate (tk * 256) 0)).toArray 5)) := by
    have := makeB w (tk * 256) (tk * 256) (by omega) (Nat.le_refl _)
    rwa [show ((tk * 256 : Nat) : Int) = (tk : Int) * 256 by omega] at this
  have hb1 : Below w.heap.size w (w.alloc (.cells (byteCells (List.replicate (tk * 256) 0)).toArray 5)) := (Below.refl _ _).alloc (Nat.le_refl _) _
  have hg1 : (w.alloc (.cells (byteCells (List.replicate (tk * 256) 0)).toArray 5)).heap[w.heap.size]? = some (.cells (byteCells (List.replicate (tk * 256) 0)).toArray 5 (0, 0)) := heap_alloc_new w _
  generalize w.alloc (.cells (byteCells (List.replicate (tk * 256) 0)).toArray 5) = w1 at *
  have N78 := framedS_any w1 _ b (Sl.RdA.on hb hb1) hl
  have hsl := snB_length b
  have N78' : Calls Try.prog 78 #[.slice va b.length vc] w1 fun e w2 => ∃ fb fo fc, e = .returned (.slice (some ⟨fb, fo, none⟩) (12 + b.length) fc) ∧ Below w1.heap.size w1 w2 ∧ Hid (w2.rangeAt fb fo (byteCells (snB b))) ∧ Hid (w2.heap[w.heap.size]? = some (.cells (byteCells (List.replicate (tk * 256) 0)).toArray 5 (0, 0))) := by
    refine N78.mono ?_
    rintro e w2 ⟨vf, rfl, hof, hb2⟩
    have hg2 := (hb2.block w.heap.size (Array.getElem?_eq_some_iff.1 hg1).1).trans hg1
    rcases hof.rd with ⟨_, h0⟩ | ⟨fb, fo, fc, rfl, hlc, hc⟩
    · rw [h0] at hsl; simp at hsl; omega
    · refine ⟨fb, fo, fc, by rw [hsl], hb2, ?_, hg2⟩
      have hr : w2.rangeAt fb fo (byteCells (snB b)) := fun j u hj => by
        have hjl := (List.getElem?_eq_some_iff.1 hj).1
        rw [byteCells_length] at hjl
        rw [hc j hjl, ← hj]
        simp [byteCells, List.getElem?_eq_getElem hjl]
      exact hr
  have HN : Hid ((byteCells (snB b)).length = Nat.min (12 + b.length) (tk * 256)) := by
    have : (byteCells (snB b)).length = Nat.min (12 + b.length) (tk * 256) := by
      rw [byteCells_length, hsl]; exact (Nat.min_eq_left hl12.out).symm
    exact this
  have HF : Hid (0 + (byteCells (snB b)).length ≤ (byteCells (List.replicate (tk * 256) (0 : UInt8))).length) := by
    have : 0 + (byteCells (snB b)).length ≤ (byteCells (List.replicate (tk * 256) (0 : UInt8))).length := by
      rw [byteCells_length, byteCells_length, hsl, List.length_replicate, Nat.zero_add]; exact hl12.out
    exact this
  have H1 : Hid (∀ v ∈ byteCells (snB b), v.oneCell' = true) := by
    have : ∀ v ∈ byteCells (snB b), v.oneCell' = true := fun v hv => by obtain ⟨x, _, rfl⟩ := List.mem_map.1 hv; rfl
    exact this
  have HSP : Hid (splice (byteCells (List.replicate (tk * 256) (0 : UInt8))) 0 (byteCells (snB b)) = byteCells ((snI b).take (tk * 256))) := by
    have : splice (byteCells (List.replicate (tk * 256) (0 : UInt8))) 0 (byteCells (snB b)) = byteCells ((snI b).take (tk * 256)) := by
      rw [splice_bytes, him0.out]
    exact this
  clear hb hsl N78
  go_enter Try.func48, Try.ntmps48
  go_wp2_with (first | (go_at_call 60; refine N60.mono ?_; rintro e w9 ⟨rfl, he⟩; have he := he.symm; subst he) | (go_at_call 63; refine N63.mono ?_; rintro e w9 ⟨rfl, he⟩; have he := he.symm; subst he) | (go_at_call 78; refine N78'.mono ?_; rintro e w2 ⟨fb, fo, fc, rfl, hb2, hfr, hg2⟩) | (refine wpList_copy_at rfl (.tmp 19) (.tmp 21) 30 30 rfl 5 Try.underlying30 info5s _ _ _ _ _ _ rfl rfl w.heap.size 0 (byteCells (List.replicate (tk * 256) 0)) 5 hg2.out (byteCells (snB b)) HN.out (fun _ => ⟨rfl, _, rfl, fun j v hj => by rw [Addr.add_lit]; exact hfr.out j v hj⟩) HF.out H1.out ?_; intro w3 hw3))
  have hg3 : w3.heap[w.heap.size]? = some (.cells (byteCells ((snI b).take (tk * 256))).toArray 5 (0, 0)) := by
    rw [hw3, setRow_heap _ _ _ _ _ _ hg2.out, HSP.out]
  have hb3 : Below w.heap.size w w3 := by
    have hb12 : Below w.heap.size w w2 := hb1.trans (hb2.mono hb1.size)
    rw [hw3]
    exact ⟨hb12.os, hb12.tape, hb12.output, by simpa using hb12.size, fun k hk => by rw [setRow_other _ _ _ _ (by omega)]; exact hb12.block k hk⟩
  have hxl := h.xlt
  have hpr3 := hp.below hb3
  have hgl : w.heap.size < w3.heap.size := (Array.getElem?_eq_some_iff.1 hg3).1
  have HG3 : Hid _ := hg3
  have HXL : Hid _ := hxl
  have hfin : ∀ (k : Nat), k ≤ tk → (runW lo (snI b) S (k + 1)).2 ≠ 0 → Hid (layP S lo (snI b) (tk + 1) = runW lo (snI b) S (k + 1)) := fun k hk hne => layP_stop S lo (snI b) (tk + 1) (k + 1) (by omega) hne
  have HFIN : Hid _ := hfin
  clear hfin hxl hg3 hw3 hfr hg2 hb2 HN HF H1 HSP N78' N63 N60 hmk hb1 hg1 him0
  go_loopw [24] (fun i wr => ∃ (k : Nat) (Xk : Nat → Prop), k ≤ tk ∧ i = .int .i64 k ∧ Drum wr Xk q n (runW lo (snI b) S k).1 ∧ (runW lo (snI b) S k).2 = 0 ∧ Step X Xk w3 wr) (fun i _ => tk - (RowKit.intOf i).toNat)
  case atStart => exact ⟨0, X, by omega, rfl, h.below hb3, rfl, Step.refl _ _⟩
  case round =>
    obtain ⟨k, Xk, hk, rfl, hdk, hck, hsk⟩ := hrel
    obtain ⟨z1, z2, z3⟩ := runW_zero lo (snI b) S hd k hck
    have hprk := hpr3.on (hsk.block p hpr3.lt hx)
    obtain ⟨u0, u1, u2, u3, uf⟩ := hprk.cells
    have hnext : Hid (runW lo (snI b) S (k + 1) = ((runW lo (snI b) S k).1.put (lo + k) (pgI (snI b) k)).oper) := by
      have : runW lo (snI b) S (k + 1) = ((runW lo (snI b) S k).1.put (lo + k) (pgI (snI b) k)).oper := by rw [runW, if_pos hck]
      exact this
    by_cases hlt : k < tk
    · have hgk : wr.heap[w.heap.size]? = some (.cells (byteCells ((snI b).take (tk * 256))).toArray 5 (0, 0)) := (hsk.block _ hgl (fun hxx => by have := HXL.out _ hxx; omega)).trans HG3.out
      have hkk := Nat.mul_le_mul_right 256 (show k + 1 ≤ tk from hlt)
      have hrk : wr.rangeAt w.heap.size (k * 256) (byteCells (pgI (snI b) k)) := by
        have := range_cut hgk (k * 256) 256
        rwa [pg_img0 b tk k hlt] at this
      have hpk : (pgI (snI b) k).length = 256 := pgI_length _ (tk + 1) k hI (by omega)
      have N24 := write_ok wr.drew Xk q n (runW lo (snI b) S k).1 (lo + k) (.slice (some ⟨w.heap.size, k * 256, none⟩) 256 (tk * 256 - k * 256)) (pgI (snI b) k) (by omega) z1 (by omega) (by omega) hdk.drew hpk ⟨_, _, by rw [hpk], fun _ => ⟨_, _, rfl, hrk⟩⟩ (fun j hj hxj => by
        have hj' : j = w.heap.size := by cases hj; rfl
        rcases hsk.grow j hxj with h' | h'
        · have := HXL.out j h'; omega
        · omega)
      rw [← hnext.out] at N24
      clear hrk hgk hpk hnext
      have hfk := HFIN.out k hk
      obtain ⟨R, hRR⟩ : ∃ R, runW lo (snI b) S (k + 1) = R := ⟨_, rfl⟩
      rw [hRR] at N24 hfk
      have HRR : Hid _ := hRR
      have HFK : Hid _ := hfk
      clear hRR hfk
      have hS : wr.drew.cell? ⟨p, 0, none⟩ = some (.pointer (some ⟨q, 0, none⟩)) := u0
      have hwr1 : IntKind.i64.wrap ((lo : Int) + (k : Int)) = ((lo + k : Nat) : Int) := by rw [wrapI _ (by omega) (by omega)]; omega
      have hwr2 : IntKind.i64.wrap ((k : Int) * 256) = (k : Int) * 256 := wrapI _ (by omega) (by omega)
      have hwr3 : IntKind.i64.wrap ((k : Int) + 1) = (k : Int) + 1 := wrapI _ (by omega) (by omega)
      have hwr4 : IntKind.i64.wrap (((k : Int) + 1) * 256) = ((k : Int) + 1) * 256 := wrapI _ (by omega) (by omega)
      go_upto_region 6 with fail
      refine wp_region_held (S := fun W' => W'.cell? ⟨p, 0, none⟩ = some (.pointer (some ⟨q, 0, none⟩))) hmix ?_
      show wpAnyH _ _ _ _ _ _ _ _ wr.drew
      refine wpAnyH_take (i := 0) (v := .pointer (some ⟨p, 0, none⟩)) rfl (by kernel_rfl) (by kernel_rfl) (by kernel_rfl) (fun _ _ _ h => h) (.inl ⟨by rfl, fun W' hW' => ?_⟩) hS ?_
      · have hW' : W'.cell? ⟨p, 0, none⟩ = some (.pointer (some ⟨q, 0, none⟩)) := hW'
        go_simp
      dsimp only [Act.put]
      refine wpAnyH_take (i := 1) (v := .pointer (some ⟨p, 0, none⟩)) rfl (by kernel_rfl) (by kernel_rfl) (by kernel_rfl) (fun _ _ _ h => h) (.inl ⟨by rfl, fun W' hW' => ?_⟩) hS ?_
      · have hW' : W'.cell? ⟨p, 0, none⟩ = some (.pointer (some ⟨q, 0, none⟩)) := hW'
        go_simp
      dsimp only [Act.put]
      refine wpAnyH_take (i := 2) (v := .pointer (some ⟨p, 0, none⟩)) rfl (by kernel_rfl) (by kernel_rfl) (by kernel_rfl) (fun _ _ _ h => h) (.inl ⟨by rfl, fun W' hW' => ?_⟩) hS ?_
      · have hW' : W'.cell? ⟨p, 0, none⟩ = some (.pointer (some ⟨q, 0, none⟩)) := hW'
        go_simp
      dsimp only [Act.put]
      refine wpAnyH_take (i := 3) (v := .pointer (some ⟨q, 0, none⟩)) rfl (by kernel_rfl) (by kernel_rfl) (by kernel_rfl) (fun _ _ _ h => h) (.inl ⟨by rfl, fun W' hW' => ?_⟩) hS ?_
      · have hW' : W'.cell? ⟨p, 0, none⟩ = some (.pointer (some ⟨q, 0, none⟩)) := hW'
        go_simp
      dsimp only [Act.put]
      refine wpAnyH_take (i := 4) (v := .int .i64 (lo : Int)) rfl (by kernel_rfl) (by kernel_rfl) (by kernel_rfl) (fun _ _ _ h => h) (.inl ⟨by rfl, fun W' hW' => ?_⟩) hS ?_
      · have hW' : W'.cell? ⟨p, 0, none⟩ = some (.pointer (some ⟨q, 0, none⟩)) := hW'
        go_simp
      dsimp only [Act.put]
      refine wpAnyH_take (i := 5) (v := .int .i64 (k : Int)) rfl (by kernel_rfl) (by kernel_rfl) (by kernel_rfl) (fun _ _ _ h => h) (.inl ⟨by rfl, fun W' hW' => ?_⟩) hS ?_
      · have hW' : W'.cell? ⟨p, 0, none⟩ = some (.pointer (some ⟨q, 0, none⟩)) := hW'
        go_simp
      dsimp only [Act.put]
      refine wpAnyH_take (i := 6) (v := .int .i64 ((lo + k : Nat) : Int)) rfl (by kernel_rfl) (by kernel_rfl) (by kernel_rfl) (fun _ _ _ h => h) (.inl ⟨by rfl, fun W' hW' => ?_⟩) hS ?_
      · have hW' : W'.cell? ⟨p, 0, none⟩ = some (.pointer (some ⟨q, 0, none⟩)) := hW'
        go_simp
      dsimp only [Act.put]
      refine wpAnyH_take (i := 7) (v := .slice (some ⟨w.heap.size, 0, none⟩) (tk * 256) (tk * 256)) rfl (by kernel_rfl) (by kernel_rfl) (by kernel_rfl) (fun _ _ _ h => h) (.inl ⟨by rfl, fun W' hW' => ?_⟩) hS ?_
      · have hW' : W'.cell? ⟨p, 0, none⟩ = some (.pointer (some ⟨q, 0, none⟩)) := hW'
        go_simp
      dsimp only [Act.put]
      refine wpAnyH_take (i := 8) (v := .int .i64 (k : Int)) rfl (by kernel_rfl) (by kernel_rfl) (by kernel_rfl) (fun _ _ _ h => h) (.inl ⟨by rfl, fun W' hW' => ?_⟩) hS ?_
      · have hW' : W'.cell? ⟨p, 0, none⟩ = some (.pointer (some ⟨q, 0, none⟩)) := hW'
        go_simp
      dsimp only [Act.put]
      refine wpAnyH_take (i := 9) (v := .int .i64 ((k : Int) * 256)) rfl (by kernel_rfl) (by kernel_rfl) (by kernel_rfl) (fun _ _ _ h => h) (.inl ⟨by rfl, fun W' hW' => ?_⟩) hS ?_
      · have hW' : W'.cell? ⟨p, 0, none⟩ = some (.pointer (some ⟨q, 0, none⟩)) := hW'
        go_simp
      dsimp only [Act.put]
      refine wpAnyH_take (i := 10) (v := .int .i64 (k : Int)) rfl (by kernel_rfl) (by kernel_rfl) (by kernel_rfl) (fun _ _ _ h => h) (.inl ⟨by rfl, fun W' hW' => ?_⟩) hS ?_
      · have hW' : W'.cell? ⟨p, 0, none⟩ = some (.pointer (some ⟨q, 0, none⟩)) := hW'
        go_simp
      dsimp only [Act.put]
      refine wpAnyH_take (i := 11) (v := .int .i64 ((k : Int) + 1)) rfl (by kernel_rfl) (by kernel_rfl) (by kernel_rfl) (fun _ _ _ h => h) (.inl ⟨by rfl, fun W' hW' => ?_⟩) hS ?_
      · have hW' : W'.cell? ⟨p, 0, none⟩ = some (.pointer (some ⟨q, 0, none⟩)) := hW'
        go_simp
      dsimp only [Act.put]
      refine wpAnyH_take (i := 12) (v := .int .i64 (((k : Int) + 1) * 256)) rfl (by kernel_rfl) (by kernel_rfl) (by kernel_rfl) (fun _ _ _ h => h) (.inl ⟨by rfl, fun W' hW' => ?_⟩) hS ?_
      · have hW' : W'.cell? ⟨p, 0, none⟩ = some (.pointer (some ⟨q, 0, none⟩)) := hW'
        go_simp
      dsimp only [Act.put]
      refine wpAnyH_take (i := 13) (v := .slice (some ⟨w.heap.size, k * 256, none⟩) 256 (tk * 256 - k * 256)) rfl (by kernel_rfl) (by kernel_rfl) (by kernel_rfl) (fun _ _ _ h => h) (.inl ⟨by rfl, fun W' hW' => ?_⟩) hS ?_
      · have hW' : W'.cell? ⟨p, 0, none⟩ = some (.pointer (some ⟨q, 0, none⟩)) := hW'
        go_simp
        rw [show ((k : Int) * 256).toNat = k * 256 by omega, if_pos ⟨by omega, by omega⟩, if_pos ⟨by omega, by omega⟩, if_neg (by omega), show (((k : Int) + 1) * 256).toNat - k * 256 = 256 by omega]
      dsimp only [Act.put]
      refine wpAnyH_one (i := 14) (by kernel_rfl) rfl (by rfl) (fun K hK => ?_)
      go_simp
      refine N24.mono ?_
      rintro e w4 ⟨X4, rfl, hd4, hs4⟩
      have hpr4 : Pr w4 p q half tv met := hprk.on (hs4.block p hprk.lt (fun hxx => by
        rcases hsk.grow p hxx with h' | h'
        · exact hx h'
        · have := hpr3.lt; omega))
      obtain ⟨y0, y1, y2, y3, yf⟩ := hpr4.cells
      have hS4 : w4.cell? ⟨p, 0, none⟩ = some (.pointer (some ⟨q, 0, none⟩)) := y0
      have hs34 : Step X X4 w3 w4 := hsk.trans (((Step.refl Xk wr).drew).trans hs4)
      show K _ _
      refine hK _ _ hS4 ?_
      clear hK K
      refine wpAnyH_one (i := 15) (by kernel_rfl) rfl (by rfl) (fun K hK => ?_)
      go_simp
      by_cases hR0 : R.2 = 0
      · rw [hR0]
        refine (p_insist_ok _).mono ?_
        rintro e w5 ⟨rfl, he⟩
        have he := he.symm
        subst he
        show K _ _
        refine hK _ _ hS4 ?_
        clear hK K
        refine wpAnyH_done (by kernel_rfl) ?_ _
        go_wp2
        exact ⟨⟨k + 1, X4, by omega, by go_num, by rw [HRR.out]; exact hd4, by rw [HRR.out]; exact hR0, hs34⟩, by simp [RowKit.intOf]; omega⟩
      · refine (p_insist_no _ _ hR0).mono ?_
        rintro e w5 ⟨rfl, he⟩
        have he := he.symm
        subst he
        have hTF := (HFK.out hR0).out
        refine ⟨rfl, X4, ?_, (Step.of_below hb3).trans hs34, .inr ⟨?_, ?_⟩⟩
        · rw [hTF]; exact hd4
        · rw [hTF]; exact hR0
        · rw [hTF]
    · have hkt : k = tk := by omega
      subst hkt
      rw [hpl.out] at hnext
      have N79 := clear_any wr Xk q n (runW lo (snI b) S k).1 (lo + k) hdk z1 (by omega) (by omega) (by omega)
      rw [← hnext.out] at N79
      obtain ⟨R, hRR⟩ : ∃ R, runW lo (snI b) S (k + 1) = R := ⟨_, rfl⟩
      have hfk := HFIN.out k (Nat.le_refl _)
      rw [hRR] at N79 hfk
      have HRR : Hid _ := hRR
      have HFK : Hid _ := hfk
      clear hRR hfk hnext
      go_wp2_with fail
      rw [show ((lo : Int) + (k : Int)) = ((lo + k : Nat) : Int) by omega]
      refine N79.mono ?_
      rintro e w4 ⟨X4, rfl, hd4, hs4⟩
      have hpr4 : Pr w4 p q half tv met := hprk.on (hs4.block p hprk.lt (fun hxx => by
        rcases hsk.grow p hxx with h' | h'
        · exact hx h'
        · have := hpr3.lt; omega))
      obtain ⟨y0, y1, y2, y3, yf⟩ := hpr4.cells
      have hs34 : Step X X4 w3 w4 := hsk.trans hs4
      go_wp2_with fail
      by_cases hR0 : R.2 = 0
      · obtain ⟨x1, x2, x3⟩ := runW_zero lo (snI b) S hd (k + 1) (by rw [HRR.out]; exact hR0)
        rw [HRR.out] at x1 x2 x3
        have N26 := flush_any w4 X4 q n R.1 (by omega) (by omega) hd4
        have hTF : Hid (layP S lo (snI b) (k + 1) = R.1.flush) := by
          have : layP S lo (snI b) (k + 1) = R.1.flush := by
            unfold layP
            rw [HRR.out, if_neg (by simp [hR0])]
          exact this
        generalize R.1.flush = F at *
        rw [hR0]
        refine (p_insist_ok _).mono ?_
        rintro e w5 ⟨rfl, he⟩
        have he := he.symm
        subst he
        go_wp2_with fail
        refine N26.mono ?_
        rintro e w6 ⟨rfl, hd6, hs6⟩
        go_wp2_with fail
        by_cases hF : F.2 = 0
        · rw [hF]
          refine (p_insist_ok _).mono ?_
          rintro e w7 ⟨rfl, he⟩
          have he := he.symm
          subst he
          go_wp2
          go_end0
          refine ⟨X4, ?_, (Step.of_below hb3).trans (hs34.trans hs6), .inl ⟨?_, rfl⟩⟩
          · rw [hTF.out]; exact hd6
          · rw [hTF.out]; exact hF
        · refine (p_insist_no _ _ hF).mono ?_
          rintro e w7 ⟨rfl, he⟩
          have he := he.symm
          subst he
          refine ⟨rfl, X4, ?_, (Step.of_below hb3).trans (hs34.trans hs6), .inr ⟨?_, ?_⟩⟩
          · rw [hTF.out]; exact hd6
          · rw [hTF.out]; exact hF
          · rw [hTF.out]
      · refine (p_insist_no _ _ hR0).mono ?_
        rintro e w5 ⟨rfl, he⟩
        have he := he.symm
        subst he
        have hTF := (HFK.out hR0).out
        refine ⟨rfl, X4, ?_, (Step.of_below hb3).trans hs34, .inr ⟨?_, ?_⟩⟩
        · rw [hTF]; exact hd4
        · rw [hTF]; exact hR0
        · rw [hTF]
end Go.Proofs.Ythgkkmcpmhfehaa
