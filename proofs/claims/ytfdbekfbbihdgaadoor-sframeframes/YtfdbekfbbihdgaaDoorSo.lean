
/- trivetlaw18.heavy, the document's Same. Conditions: those that each row states. -/
import Derived.Test.YtfdbekfbbihdgaaDoorSn
namespace Go.Proofs.YtfdbekfbbihdgaaDoor
open Go.RowKit Go.Lib
set_option maxRecDepth 100000
set_option linter.unusedSimpArgs false

/-- How much headers weigh. -/
def wtL : List Hd → Nat
  | [] => 0
  | h :: H => 1 + h.1.length + h.2.length + wtL H
theorem wtL_snoc : ∀ (H : List Hd) (k : Nat) (h : k < H.length), wtL (H.take (k + 1)) = wtL (H.take k) + (1 + H[k].1.length + H[k].2.length)
  | x :: H, 0, _ => by simp [wtL]
  | x :: H, k + 1, h => by
    have := wtL_snoc H k (by simpa using h)
    simp only [List.take_succ_cons, wtL, List.getElem_cons_succ]
    omega
theorem wtL_mem : ∀ (H : List Hd), H.length ≤ wtL H ∧ ∀ h ∈ H, h.1.length + h.2.length ≤ wtL H
  | [] => ⟨Nat.le_refl _, fun h hh => by cases hh⟩
  | x :: H => by
    obtain ⟨h1, h2⟩ := wtL_mem H
    refine ⟨by simp [wtL]; omega, fun h hh => ?_⟩
    simp only [List.mem_cons] at hh
    rcases hh with rfl | hh
    · simp only [wtL]; omega
    · have := h2 h hh
      simp only [wtL]; omega
/-- What heavy answers. -/
def HvP (c b : Bs) (H : List Hd) (e : Ending) : Prop := e = .returned (.bool true) ∨ (e = .returned (.bool false) ∧ c.length + b.length + wtL H ≤ 32768)
set_option maxHeartbeats 1000000 in
theorem heavy_some (w : World) (c b : Bs) (l : List Hd) (g o cp : Nat) (h : ∀ i (h : i < l.length), HdAt w g (o + i * 2) l[i]) (hl : l.length ≤ 9000000000000000000) (hcb : c.length + b.length ≤ 1000000000000000000) (hw : ∀ h ∈ l, h.1.length + h.2.length ≤ 1000000000000000000) :
    Calls Tryd.prog 9 #[frV c (.slice (some ⟨g, o, none⟩) l.length cp) b] w fun e w' => HvP c b l e ∧ Below w.heap.size w w' := by
  have H : Hid (∀ i (h : i < l.length), HdAt w g (o + i * 2) l[i]) := h
  have HW : Hid (∀ (k : Nat) (h : k < l.length), l[k].1.length + l[k].2.length ≤ 1000000000000000000 ∧ wtL (l.take (k + 1)) = wtL (l.take k) + (1 + l[k].1.length + l[k].2.length)) := fun k h => ⟨hw _ (List.getElem_mem h), wtL_snoc l k h⟩
  clear h hw
  have k0 := Blk.new w #[str c, .slice (some ⟨g, o, none⟩) l.length cp, str b] 24
  have hb0 := below_new w (.cells #[str c, .slice (some ⟨g, o, none⟩) l.length cp, str b] 24)
  go_enter Tryd.func9, Tryd.ntmps9
  go_upto_region 1 with fail
  generalize w.alloc (.cells #[str c, .slice (some ⟨g, o, none⟩) l.length cp, str b] 24) = w1 at *
  have c0 := k0.cell 0
  have c1 := k0.cell 1
  have c2 := k0.cell 2
  simp only [List.getElem?_toArray, List.getElem?_cons_zero, List.getElem?_cons_succ] at c0 c1 c2
  have hs1 := hb0.size
  have ha : wrap64 ((c.length : Int) + (b.length : Int)) = (c.length : Int) + (b.length : Int) := by unfold wrap64; omega
  go_wp2_with fail
  clear c0 c1 c2 k0
  go_loopw [3, 16] (fun n i wr => ∃ (k z : Nat), k ≤ l.length ∧ i = .int .i64 k ∧ n = .int .i64 ((z : Nat) : Int) ∧ Hid (z = c.length + b.length + wtL (l.take k)) ∧ (k = 0 ∧ z ≤ 1000000000000000000 ∨ z ≤ 32768) ∧ Below w.heap.size w wr) (fun _ i _ => l.length - (RowKit.intOf i).toNat)
  case atStart => exact ⟨0, c.length + b.length, by omega, rfl, by simp, by show _ = _; simp [wtL], .inl ⟨rfl, by omega⟩, hb0⟩
  case round =>
    clear ha hs1
    obtain ⟨k, z, hk, rfl, rfl, hz, hzb, hbr⟩ := hrel
    have hwr := hbr.size
    by_cases hlt : k < l.length
    · obtain ⟨a0, a1⟩ := (H.out k hlt).on hbr
      have hHW := HW.out k hlt
      obtain ⟨⟨pn, pt⟩, hp⟩ : ∃ p, p = l[k] := ⟨_, rfl⟩
      rw [← hp] at a0 a1 hHW
      obtain ⟨hw1, hw2⟩ := hHW
      dsimp only at a0 a1 hw1 hw2
      have HZ : Hid (z + (1 + pn.length + pt.length) = c.length + b.length + wtL (l.take (k + 1))) := by show _ = _; rw [hz.out, hw2]; omega
      have hkz : (k : Int) < (l.length : Int) := by omega
      have hzz : (z : Int) ≤ 1000000000000000000 := by omega
      clear hp hz hw2 hzb
      by_cases hbig : 32768 < z + (1 + pn.length + pt.length)
      · have hd : decide ((32768 : Int) < (z : Int) + (1 + (pn.length : Int) + (pt.length : Int))) = true := decide_eq_true (by omega)
        go_wp2
        go_ret
        exact ⟨.inl rfl, hbr.alloc hwr _⟩
      · have hd : decide ((32768 : Int) < (z : Int) + (1 + (pn.length : Int) + (pt.length : Int))) = false := decide_eq_false (by omega)
        go_wp2
        all_goals
          go_roundw
          case rel => exact ⟨k + 1, z + (1 + pn.length + pt.length), by omega, by go_num, by simp, HZ, .inr (by omega), hbr.alloc hwr _⟩
          case measure => simp [RowKit.intOf]; omega
    · obtain rfl : k = l.length := by omega
      have hz2 : Hid (z = c.length + b.length + wtL l) := by show _ = _; rw [hz.out, List.take_length]
      by_cases hbig : 32768 < z
      · have hd : decide ((32768 : Int) < (z : Int)) = true := decide_eq_true (by omega)
        clear hz
        go_wp2
        go_ret
        exact ⟨.inl rfl, hbr⟩
      · have hd : decide ((32768 : Int) < (z : Int)) = false := decide_eq_false (by omega)
        clear hz
        go_wp2
        go_ret
        exact ⟨.inr ⟨rfl, by have := hz2.out; omega⟩, hbr⟩
set_option maxHeartbeats 1000000 in
theorem heavy_nil (w : World) (c b : Bs) (a : Option Addr) (cp : Nat) (hcb : c.length + b.length ≤ 1000000000000000000) :
    Calls Tryd.prog 9 #[frV c (.slice a 0 cp) b] w fun e w' => HvP c b [] e ∧ Below w.heap.size w w' := by
  have hb0 := below_new w (.cells #[str c, .slice a 0 cp, str b] 24)
  have ha : wrap64 ((c.length : Int) + (b.length : Int)) = (c.length : Int) + (b.length : Int) := by unfold wrap64; omega
  go_enter Tryd.func9, Tryd.ntmps9
  go_wp2_with fail
  go_loopw [3, 16] (fun n i wr => i = .int .i64 0 ∧ n = .int .i64 ((c.length : Int) + (b.length : Int)) ∧ wr = w.alloc (.cells #[str c, .slice a 0 cp, str b] 24)) (fun _ _ _ => 0)
  case atStart => exact ⟨rfl, rfl, rfl⟩
  case round =>
    obtain ⟨rfl, rfl, rfl⟩ := hrel
    by_cases hbig : 32768 < c.length + b.length
    · have hd : decide ((32768 : Int) < (c.length : Int) + (b.length : Int)) = true := decide_eq_true (by omega)
      go_wp2
      go_ret
      exact ⟨.inl rfl, hb0⟩
    · have hd : decide ((32768 : Int) < (c.length : Int) + (b.length : Int)) = false := decide_eq_false (by omega)
      go_wp2
      go_ret
      exact ⟨.inr ⟨rfl, by simp [wtL]; omega⟩, hb0⟩
theorem heavy_any (w : World) (c b : Bs) (hv : Value) (l : List Hd) (hr : RdH w hv l) (hl : l.length ≤ 9000000000000000000) (hcb : c.length + b.length ≤ 1000000000000000000) (hw : ∀ h ∈ l, h.1.length + h.2.length ≤ 1000000000000000000) :
    Calls Tryd.prog 9 #[frV c hv b] w fun e w' => HvP c b l e ∧ Below w.heap.size w w' := by
  rcases hr with ⟨⟨a, cp, rfl⟩, rfl⟩ | ⟨g, o, cp, rfl, _, h⟩
  · exact heavy_nil w c b a cp hcb
  · exact heavy_some w c b l g o cp h hl hcb hw
end Go.Proofs.YtfdbekfbbihdgaaDoor
