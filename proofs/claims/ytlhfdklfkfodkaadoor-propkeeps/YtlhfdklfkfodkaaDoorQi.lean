/- Whatever lists, trivetlaw07.PropSets answers true, where the library's table of powers of ten reads as it was laid. -/
import Derived.Test.YtlhfdklfkfodkaaDoorQh
namespace Go.Proofs.YtlhfdklfkfodkaaDoor
open Go.RowKit Go.Lib Ieee

set_option maxRecDepth 8000 in
set_option maxHeartbeats 4000000 in
theorem sets_nil (w : World) (v : Value) (l : List Pr) (a9 : Option Addr) (c9 : Nat) (h : RdP w v l) (hl63 : l.length ≤ 9223372036854775806) (ht : Tab w.heap.size w) :
    Calls Tryd.prog 4 #[v, .slice a9 0 c9] w fun e w' => e = .returned (.bool true) ∧ Below w.heap.size w w' := by
  have HU : Hid (RdP w (.slice a9 0 c9) []) := .inl ⟨⟨_, _, rfl⟩, rfl⟩
  have HR : Hid (RdP w v l) := h
  obtain ⟨a0, c0, rfl⟩ := h.shape
  have HW := wakes7 w ht
  clear h ht
  go_enter Tryd.func4, Tryd.ntmps4
  go_wp2_with fail
  refine HW.mono ?_
  rintro e w1 ⟨rfl, b1⟩
  have s1 := b1.size
  clear HW
  go_wp2_with fail
  refine (long7 w1 _ l (HR.out.on b1) hl63).mono ?_
  rintro e w2 ⟨⟨r1, rfl⟩, hb2⟩
  have b2 := b1.trans (hb2.mono s1)
  have s2 := b2.size
  clear hb2
  cases r1 with
  | true =>
    go_wp2
    go_ret
    exact ⟨rfl, b2⟩
  | false =>
  go_wp2_with fail
  refine (long7 w2 _ [] (HU.out.on b2) (by simp)).mono ?_
  rintro e w3 ⟨⟨r2, rfl⟩, hb3⟩
  have b3 := b2.trans (hb3.mono s2)
  have s3 := b3.size
  clear hb3
  cases r2 with
  | true =>
    go_wp2
    go_ret
    exact ⟨rfl, b3⟩
  | false =>
  go_wp2_with fail
  refine (valid7 w3 _ l (HR.out.on b3)).mono ?_
  rintro e w4 ⟨rfl, hb4⟩
  have b4 := b3.trans (hb4.mono s3)
  have s4 := b4.size
  clear hb4
  cases hv : validL l with
  | false =>
    go_wp2
    go_ret
    exact ⟨rfl, b4⟩
  | true =>
  have HV : Hid (validL l = true) := hv
  clear hv
  clear HR HU
  go_wp2_with fail
  go_loopw [0, 38] (fun v0 i wr => i = .int .i64 0 ∧ v0 = .slice a0 l.length c0 ∧ wr = w4) (fun _ _ _ => 0)
  case atStart => exact ⟨rfl, rfl, rfl⟩
  case round =>
    obtain ⟨rfl, rfl, rfl⟩ := hrel
    go_wp2
    go_ret
    exact ⟨rfl, b4⟩

theorem sets_walk (w : World) (v u : Value) (l m : List Pr) (h : RdP w v l) (hn : NilOk v) (hu : RdP w u m) (hl63 : l.length ≤ 9223372036854775806) (hm63 : m.length ≤ 9223372036854775806) (ht : Tab w.heap.size w) :
    Calls Tryd.prog 4 #[v, u] w fun e w' => e = .returned (.bool true) ∧ Below w.heap.size w w' := by
  rcases hu with ⟨⟨a, c, rfl⟩, rfl⟩ | ⟨b, o, c, rfl, hc, hu⟩
  · exact sets_nil w v l a c h hl63 ht
  · exact sets_some w v l m b o c h hn hu hc hl63 hm63 ht
end Go.Proofs.YtlhfdklfkfodkaaDoor
