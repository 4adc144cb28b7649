/- What slices.Grow of nil and slices.Concat of three lists answer. -/
import Derived.Test.YtlhfdklfkfodkaaDoorQb
namespace Go.Proofs.YtlhfdklfkfodkaaDoor
open Go.RowKit Go.Lib Ieee

theorem wpl_make {ops : Array Oper} {rest : List Oper} {o : Oper} {a : Act} {Q : Exit → Act → World → Prop} (hgd : o.guard = none) (s x : Operand)
    (ho : o.op = .call { callee := .builtin .append, args := #[s, x], argTypes := #[30, 3] }) (n : Nat) (w : World) (hs : a.eval s = .slice none 0 0) (hx : a.eval x = .int .i64 n) (h0 : 0 < n) (h1 : n ≤ 100000)
    (h : ∀ (c : Nat) (C : Array Value), n ≤ c → c ≤ maxLen → C.size = c * 5 → wpList Tryd.prog ops Q rest (a.put o.dst (.slice (some ⟨w.heap.size, 0, none⟩) n c)) (w.drew.alloc (.cells C 33))) :
    wpList Tryd.prog ops Q (o :: rest) a w := by
  refine wpList_plain hgd fun K hK => ?_
  obtain ⟨c, hc, hm, hr⟩ := run_append_make w o.type n h0 h1
  unfold Oper.wp execOp
  simp only [ho, resolve, invoke, builtin, Sem.run_bind, Sem.run_pure, Result.andThen_ok, List.map_toArray, List.map_cons, List.map_nil, hs, hx, hr]
  refine hK _ _ (h c _ hc hm ?_)
  simp only [Array.size_append, size_zeroCells]
  show n * 5 + (c - n) * 5 = c * 5
  omega
theorem wpl_appP {ops : Array Oper} {rest : List Oper} {o : Oper} {a : Act} {Q : Exit → Act → World → Prop} (hgd : o.guard = none) (s x : Operand)
    (ho : o.op = .call { callee := .builtin .append, args := #[s, x], argTypes := #[30, 30] }) (B : Nat) (v vx : Value) (l l2 : List Pr) (w : World)
    (hs : a.eval s = v) (hown : OwnP w B v l) (hx : a.eval x = vx) (hsrc : RdP w vx l2) (hn : l.length + l2.length ≤ 100000) (hB : B ≤ w.heap.size)
    (h : ∀ v' w', OwnP w' B v' (l ++ l2) → Below B w w' → wpList Tryd.prog ops Q rest (a.put o.dst v') w') : wpList Tryd.prog ops Q (o :: rest) a w :=
  wpList_plain hgd fun _ hK => appP s x ho B v vx l l2 w hs hown hx hsrc hn hB fun v' w' h1 h2 => hK _ _ (h v' w' h1 h2)

set_option maxRecDepth 4000 in
theorem grow7 (w : World) (n : Nat) (h0 : 0 < n) (h1 : n ≤ 1000) :
    Calls Tryd.prog 46 #[.slice none 0 0, .int .i64 n] w fun e w' => ∃ v', e = .returned v' ∧ OwnP w' w.heap.size v' [] ∧ Below w.heap.size w w' := by
  go_enter Tryd.func46, Tryd.ntmps46
  go_wp2_with (at_builtin; refine wpl_make rfl (.tmp 20) (.tmp 21) rfl n w rfl rfl h0 (by omega) ?_)
  intro c C hc hm hC
  have hb : Below w.heap.size w (w.drew.alloc (.cells C 33)) := (Below.refl _ w).drew.alloc (Nat.le_refl _) _
  have ho : OwnP (w.drew.alloc (.cells C 33)) w.heap.size (.slice (some ⟨w.heap.size, 0, none⟩) 0 c) [] := by
    refine ⟨rfl, .inr ⟨w.heap.size, c, C, rfl, Nat.le_refl _, ?_, Nat.zero_le _, hm, hC, rfl⟩⟩
    exact heap_alloc_new w.drew _
  go_wp2
  go_ret
  exact ⟨_, rfl, ho, hb⟩

def lensT (n : Nat → Nat) : Nat → Nat
  | 0 => 0
  | k + 1 => lensT n k + n k

set_option maxRecDepth 4000 in
set_option maxHeartbeats 1000000 in
theorem concat7 (w : World) (q : Nat) (A : Nat → Option Addr) (n C : Nat → Nat) (L : Nat → List Pr) (hq : ∀ k, k < 3 → w.cell? ⟨q, k, none⟩ = some (.slice (A k) (n k) (C k)))
    (hL : ∀ k, k < 3 → RdP w (.slice (A k) (n k) (C k)) (L k)) (hn : ∀ k, k < 3 → (L k).length = n k) (h0 : 0 < n 0 + n 1 + n 2) (h1 : n 0 + n 1 + n 2 ≤ 100) :
    Calls Tryd.prog 28 #[.slice (some ⟨q, 0, none⟩) 3 3] w fun e w' => ∃ v', e = .returned v' ∧ OwnP w' w.heap.size v' (L 0 ++ L 1 ++ L 2) ∧ Below w.heap.size w w' := by
  have HQ : Hid (∀ k, k < 3 → w.cell? ⟨q, k, none⟩ = some (.slice (A k) (n k) (C k))) := hq
  have HL : Hid (∀ k, k < 3 → RdP w (.slice (A k) (n k) (C k)) (L k)) := hL
  have HN : Hid (∀ k, k < 3 → (L k).length = n k) := hn
  have HT : Hid (∀ k, k < 3 → lensT n k + n k ≤ 100) := fun k hk => by
    match k, hk with
    | 0, _ => simp [lensT]; omega
    | 1, _ => simp [lensT]; omega
    | 2, _ => simp [lensT]; omega
  obtain ⟨m, HT3, h0, h1⟩ : ∃ m, lensT n 3 = m ∧ 0 < m ∧ m ≤ 100 := ⟨n 0 + n 1 + n 2, by simp [lensT], h0, h1⟩
  have HT9 : Hid (∀ k, k < 3 → n k ≤ 100) := fun k hk => by
    have := HT.out k hk
    omega
  have HTk : Hid (∀ k, lensT n (k + 1) = lensT n k + n k) := fun _ => rfl
  have HT0 : lensT n 0 = 0 := rfl
  have HJ : Hid (∀ k, k < 3 → (((List.range k).flatMap L).length ≤ 100)) := fun k hk => by
    show ((List.range k).flatMap L).length ≤ 100
    have := hn 0 (by omega); have := hn 1 (by omega); have := hn 2 (by omega)
    match k, hk with
    | 0, _ => simp
    | 1, _ => simp [List.range_succ]; omega
    | 2, _ => simp [List.range_succ]; omega
  have HJS : Hid (∀ k, (List.range (k + 1)).flatMap L = (List.range k).flatMap L ++ L k) := fun k => by
    show _ = _
    simp [List.range_succ, List.flatMap_append]
  have HJ3 : Hid ((List.range 3).flatMap L = L 0 ++ L 1 ++ L 2) := by
    show _ = _
    simp [List.range_succ]
  have HJ0 : Hid ((List.range 0).flatMap L = []) := rfl
  clear hq hL hn
  go_enter Tryd.func28, Tryd.ntmps28
  go_wp2_with fail
  go_loopw [3, 11] (fun s i wr => ∃ k : Nat, k ≤ 3 ∧ i = .int .i64 k ∧ s = .int .i64 (lensT n k : Nat) ∧ wr = w) (fun _ i _ => 3 - (RowKit.intOf i).toNat)
  case atStart => exact ⟨0, by omega, rfl, by rw [HT0]; rfl, rfl⟩
  case round =>
    obtain ⟨k, hk, rfl, rfl, hw0⟩ := hrel
    replace hw0 := hw0.symm
    subst hw0
    by_cases hlt : k < 3
    · have hc := HQ.out k hlt
      have hT := HT.out k hlt
      have hTk := HTk.out k
      generalize lensT n k = z at *
      go_wp2
      go_roundw
      case rel => exact ⟨k + 1, by omega, by go_num, by rw [hTk]; go_num, trivial⟩
      case measure => simp [RowKit.intOf]; omega
    · have hk3 : k = 3 := by omega
      subst hk3
      rw [HT3]
      clear HT HT3 HTk HT0
      go_wp2_with fail
      refine (grow7 _ m h0 (by omega)).mono ?_
      rintro e w2 ⟨v2, rfl, ho2, hb2⟩
      rw [← HJ0.out] at ho2
      clear h0 h1 HJ0
      go_wp2_with fail
      go_loopw [6, 27] (fun v i wq => ∃ k : Nat, k ≤ 3 ∧ i = .int .i64 k ∧ OwnP wq w.heap.size v ((List.range k).flatMap L) ∧ Below w.heap.size w wq) (fun _ i _ => 3 - (RowKit.intOf i).toNat)
      case atStart => exact ⟨0, by omega, rfl, ho2, hb2⟩
      case round =>
        obtain ⟨k, hk, rfl, ho, hbr⟩ := hrel
        have hwr := hbr.size
        by_cases hlt : k < 3
        · have hc := HQ.out k hlt
          have hl := (HL.out k hlt).on hbr
          have hn := HN.out k hlt
          have hj := HJ.out k hlt
          have hs := HJS.out k
          have hc2 : wr.cell? ⟨q, k, none⟩ = some (.slice (A k) (n k) (C k)) := by rw [hbr.cell (World.block_lt_of_cell? w _ hc)]; exact hc
          have hl2 : (L k).length ≤ 100 := by have := HT9.out k hlt; omega
          clear hc hn
          go_wp2_with (at_builtin; refine wpl_appP rfl (.tmp 31) (.tmp 32) rfl w.heap.size _ _ ((List.range k).flatMap L) (L k) wr rfl ho rfl hl (by omega) (by omega) ?_)
          intro v3 w3 ho3 hb3
          rw [← hs] at ho3
          clear hs ho
          go_wp2
          go_roundw
          case rel => exact ⟨k + 1, by omega, by go_num, ho3, hbr.trans hb3⟩
          case measure => simp [RowKit.intOf]; omega
        · have hk3 : k = 3 := by omega
          subst hk3
          rw [HJ3.out] at ho
          go_wp2
          go_ret
          exact ⟨_, rfl, ho, hbr⟩
end Go.Proofs.YtlhfdklfkfodkaaDoor
