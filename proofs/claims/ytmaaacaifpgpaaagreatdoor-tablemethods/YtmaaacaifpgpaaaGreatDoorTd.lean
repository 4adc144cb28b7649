
/- What table.Put answers of any bytes that can be read and any properties. Conditions: those that each row states. -/
import Derived.Test.YtmaaacaifpgpaaaGreatDoorTc
namespace Go.Proofs.YtmaaacaifpgpaaaGreatDoor
open Go.RowKit Go.Lib
set_option maxRecDepth 100000

set_option maxHeartbeats 400000 in
theorem sclone_any (w : World) (v : Value) (l : List UInt8) (h : RdA w v l) (hl : l.length ≤ 140737488355328) :
    Calls Tryz.prog 31 #[v] w fun e w' => ∃ v', e = .returned v' ∧ Own w' w.heap.size v' l ∧ Below w.heap.size w w' := by
  have hr := h.on (below_new w (.cells #[] 5))
  have q : ∀ (w : World) (a : Option Addr) (n c n' c' : Nat), (binOp .eql 31 (.slice a n c) (.slice none n' c')).run Tryz.prog w = .ok (.bool a.isNone) w := fun w a n c n' c' => Lib.run_eql_slice_nil w _ _ a n c n' c' Tryz.underlying31
  have hv : v = .slice none 0 0 ∧ l = [] ∨ ∃ a n c, v = .slice (some a) n c := by
    rcases h with (⟨rfl, rfl⟩ | ⟨b, o, c, rfl, _⟩) | ⟨⟨a, c, rfl⟩, rfl⟩
    · exact .inl ⟨rfl, rfl⟩
    · exact .inr ⟨_, _, _, rfl⟩
    · exact .inr ⟨_, _, _, rfl⟩
  rcases hv with ⟨rfl, rfl⟩ | ⟨a, n, c, rfl⟩
  · go_enter Tryz.func31, Tryz.ntmps31
    go_wp2
    go_ret
    exact ⟨_, rfl, Own.nil _ _, Below.refl _ _⟩
  · go_enter Tryz.func31, Tryz.ntmps31
    go_wp2_with (at_builtin; refine appB rfl (.tmp 5) (.tmp 6) rfl w.heap.size _ _ [] l (w.alloc (.cells #[] 5)) rfl (own_empty w _ (Nat.le_refl _)) rfl hr (by simpa using hl) (by simp) ?_)
    intro v1 w1 ho1 hb1
    go_wp2
    go_ret
    exact ⟨_, rfl, ho1, (below_new w (.cells #[] 5)).trans hb1⟩

set_option maxHeartbeats 400000 in
theorem put_ok (w : World) (v va : Value) (l : List UInt8) (ps : List Pr) (h : RdA w v l) (hl : l.length ≤ 100000000) (hr : RdP w va ps) (hv : validL ps = true) (hf : ∀ q ∈ ps, q.val.real < 2 ^ 64) :
    Calls Tryz.prog 13 #[v, va] w fun e w' => ∃ v', e = .returned (.tuple #[v', .int .i64 0]) ∧ Own w' w.heap.size v' (l ++ tabL ps) ∧ Below w.heap.size w w' := by
  obtain ⟨h16, hs⟩ := sm_all hv hf
  have V := valid7 w va ps hr
  rw [hv] at V
  go_enter Tryz.func13, Tryz.ntmps13
  go_wp2_with fail
  refine V.mono ?_
  rintro e w1 ⟨rfl, hb1⟩
  have h1 := h.on hb1
  have hr1 := hr.on hb1
  clear V
  go_wp2_with fail
  refine (sclone_any w1 v l h1 (by omega)).mono ?_
  rintro e w2 ⟨v2, rfl, ho2, hb2⟩
  have hr2 := hr1.on hb2
  go_wp2_with fail
  refine (table_any w2 w1.heap.size v2 va l ps ho2 hb2.size hl hr2 h16 hs).mono ?_
  rintro e w3 ⟨v3, rfl, ho3, hb3⟩
  have hB := (hb1.trans (hb2.mono hb1.size)).trans (hb3.b.mono hb1.size)
  go_wp2
  go_ret2
  exact ⟨_, rfl, ho3.lower hb1.size, hB⟩
set_option maxHeartbeats 400000 in
theorem put_bad (w : World) (v va : Value) (ps : List Pr) (hr : RdP w va ps) (hv : validL ps = false) :
    Calls Tryz.prog 13 #[v, va] w fun e w' => e = .returned (.tuple #[.slice none 0 0, .int .i64 36]) ∧ Below w.heap.size w w' := by
  have V := valid7 w va ps hr
  rw [hv] at V
  go_enter Tryz.func13, Tryz.ntmps13
  go_wp2_with fail
  refine V.mono ?_
  rintro e w1 ⟨rfl, hb1⟩
  go_wp2_with fail
  go_ret2
  exact ⟨rfl, hb1⟩
end Go.Proofs.YtmaaacaifpgpaaaGreatDoor
