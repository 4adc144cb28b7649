/- What seal.Put and the document's own answer of any bytes and number: the bytes and eight behind; what seal.Take and the document's own answer of any bytes. -/
import Derived.Test.YthgkkmcpmhfehaaSlMem
import Derived.Laws.CopyOwn
import Derived.Laws.MakeOwn
import Derived.Laws.OwnMore
import Derived.Laws.BitsAllLaws
namespace Go.Proofs.Ythgkkmcpmhfehaa.Sl
open Go.RowKit Go.Lib
set_option maxRecDepth 100000

theorem make8 (w : World) (m : Nat) (hm : m + 8 ≤ 140737488355328) : (Instr.makeSlice 30 (.int .i64 (m : Int)) (.int .i64 ((m : Int) + 8))).run Try.prog w = .ok (.slice (some ⟨w.heap.size, 0, none⟩) m (m + 8)) (w.alloc (.cells (List.replicate (m + 8) (.int .u8 0)).toArray 5)) := by
  obtain ⟨i0, hi, hz0, hz1, hz2⟩ := info_parts info5
  have h := run_make (P := Try.prog) w 30 5 i0 (.int .u8 0) Try.underlying30 hi hz0 .i64 .i64 m ((m : Int) + 8) (by omega) (by omega) (by rw [hz2]; omega) (by omega)
  rw [h, hz1]
  have e : ((m : Int) + 8).toNat = m + 8 := by omega
  have e2 : madeCells (Value.int .u8 0).cells ((m + 8) * 1) = (List.replicate (m + 8) (.int .u8 0)).toArray := by
    rw [Nat.mul_one]
    apply Array.ext'
    exact toList_madeCells_one _ _
  rw [e, e2]
  rfl
theorem info5s : (Try.prog.info? 5).map (·.size) = some 1 := by kernel_rfl

theorem own_copied (w : World) (B g : Nat) (l : List UInt8) (hB : B ≤ g) (hl : l.length + 8 ≤ 140737488355328) (hg : w.heap[g]? = some (.cells (splice (List.replicate (l.length + 8) (Value.int .u8 0)) 0 (byteCells l)).toArray 5 (0, 0))) :
    Own w B (.slice (some ⟨g, 0, none⟩) l.length (l.length + 8)) l := by
  refine ⟨by simp [byteCells_length], .inr ⟨g, l.length + 8, _, rfl, hB, hg, by omega, by unfold maxLen; omega, ?_, ?_⟩⟩
  · rw [List.size_toArray, length_splice _ _ _ (by simp [byteCells_length]), List.length_replicate, Nat.mul_one]
  · simp only [splice, List.take_zero, List.nil_append, Nat.mul_one]
    rw [List.take_append_of_le_length (by simp [byteCells_length]), List.take_of_length_le (by simp [byteCells_length])]

/-- A number in eight bytes. -/
def be8 (n : Nat) : List UInt8 := [UInt8.ofNat (n / 72057594037927936), UInt8.ofNat (n / 281474976710656), UInt8.ofNat (n / 1099511627776), UInt8.ofNat (n / 4294967296), UInt8.ofNat (n / 16777216), UInt8.ofNat (n / 65536), UInt8.ofNat (n / 256), UInt8.ofNat n]

theorem byte_of (v : Int) (x : Nat) (h : v = ((x % 256 : Nat) : Int)) : v = ((UInt8.ofNat x).toNat : Int) := by rw [UInt8.toNat_ofNat', h]
set_option maxHeartbeats 4000000 in
theorem put_any (w : World) (v : Value) (l : List UInt8) (n : Nat) (hn : n < 18446744073709551616) (h : RdA w v l) (hl : l.length + 100 ≤ 140737488355328) :
    Calls Try.prog 90 #[v, .int .u64 n] w fun e w' => ∃ v', e = .returned v' ∧ Own w' w.heap.size v' (l ++ be8 n) ∧ Below w.heap.size w w' := by
  obtain ⟨a, c, rfl⟩ := h.len
  have HB : Hid (RdA w (.slice a l.length c) l) := h
  clear h
  have hm := make8 w l.length (by omega)
  have HO : Hid (∀ w' : World, Hid (w'.heap[w.heap.size]? = some (.cells (splice (List.replicate (l.length + 8) (Value.int .u8 0)) 0 (byteCells l)).toArray 5 (0, 0))) → Own w' w.heap.size (.slice (some ⟨w.heap.size, 0, none⟩) l.length (l.length + 8)) l) := fun w' hg => own_copied w' w.heap.size w.heap.size l (Nat.le_refl _) (by omega) hg.out
  obtain ⟨Z, hZ⟩ : ∃ Z, Z = List.replicate (l.length + 8) (Value.int .u8 0) := ⟨_, rfl⟩
  have hZl : Hid (Z.length = l.length + 8) := by show _ = _; rw [hZ]; simp
  rw [← hZ] at hm HO
  clear hZ
  have hpos : Hid (0 < (byteCells l).length → (some (⟨w.heap.size, 0, none⟩ : Addr)) = some ⟨w.heap.size, 0, none⟩ ∧ ∃ ad, a = some ad ∧ ∀ j u, (byteCells l)[j]? = some u → (w.alloc (.cells Z.toArray 5)).cell? (ad.add j) = some u) := by
    intro h0
    refine ⟨rfl, ?_⟩
    rcases HB.out with (⟨_, rfl⟩ | ⟨b, o, c', e, _, hc⟩) | ⟨_, rfl⟩
    · simp [byteCells] at h0
    · cases e
      refine ⟨_, rfl, fun j u hj => ?_⟩
      have hjl : j < l.length := by
        have := (List.getElem?_eq_some_iff.1 hj).1
        simpa [byteCells_length] using this
      rw [Addr.add_lit, (below_new w _).cell (p := ⟨b, o + j, none⟩) (World.block_lt_of_cell? w _ (hc j hjl)), hc j hjl, ← hj]
      simp [byteCells, List.getElem?_eq_getElem hjl]
    · simp [byteCells] at h0
  go_enter Try.func90, Try.ntmps90
  go_wp2_with (refine wpList_copy_splice rfl (.tmp 13) (.tmp 14) 30 30 rfl 5 Try.underlying30 info5s _ _ _ _ _ _ rfl rfl w.heap.size 0 Z 5 (heap_alloc_new w _) (byteCells l) (by simp [byteCells_length]) hpos.out (by rw [hZl.out, byteCells_length]; omega) (by intro u hu; obtain ⟨x, _, rfl⟩ := List.mem_map.1 hu; rfl) w.heap.size w (below_new w _) (Nat.le_refl _) ?_)
  intro w2 hg2 hb2
  have ho2 := HO.out w2 hg2
  clear hpos HO hm hg2 hZl
  go_wp2_with fail
  go_loopw [5, 16] (fun u i wr => ∃ k : Nat, k ≤ 8 ∧ i = .int .i64 k ∧ Own wr w.heap.size u (l ++ (be8 n).take k) ∧ Below w.heap.size w wr) (fun _ i _ => 8 - (RowKit.intOf i).toNat)
  case atStart => exact ⟨0, by omega, rfl, by simpa using ho2, hb2⟩
  case round =>
    clear ho2 hb2
    obtain ⟨k, hk, rfl, ho, hbr⟩ := hrel
    have hwr := hbr.size
    have HL : Hid ((l ++ (be8 n).take k).length ≤ l.length + 8) := by show _ ≤ _; rw [List.length_append, List.length_take]; simp only [be8, List.length_cons, List.length_nil]; omega
    have h8 : k = 0 ∨ k = 1 ∨ k = 2 ∨ k = 3 ∨ k = 4 ∨ k = 5 ∨ k = 6 ∨ k = 7 ∨ k = 8 := by omega
    rcases h8 with rfl | rfl | rfl | rfl | rfl | rfl | rfl | rfl | rfl
    · have HE : Hid (l ++ (be8 n).take 1 = l ++ (be8 n).take 0 ++ [UInt8.ofNat (n / 72057594037927936)]) := by show _ = _; simp [be8]
      generalize l ++ (be8 n).take 0 = L at *
      have hL := HL.out
      go_wp2_with (at_builtin; refine app1 rfl (.tmp 19) (.tmp 26) rfl w.heap.size _ L wr (UInt8.ofNat (n / 72057594037927936)) _ (byte_of _ (n / 72057594037927936) (by first | omega | (rw [IntKind.wrap_u8']; omega))) rfl ho rfl (by omega) hwr ?_)
      intro v3 w3 ho3 hb3
      have b3 := hbr.trans hb3
      rw [← HE.out] at ho3
      clear ho hbr hb3 hL HL HE
      go_wp2
      go_roundw
      case rel => exact ⟨1, by omega, by go_num, ho3, b3⟩
      case measure => simp [RowKit.intOf]
    · have HE : Hid (l ++ (be8 n).take 2 = l ++ (be8 n).take 1 ++ [UInt8.ofNat (n / 281474976710656)]) := by show _ = _; simp [be8]
      generalize l ++ (be8 n).take 1 = L at *
      have hL := HL.out
      go_wp2_with (at_builtin; refine app1 rfl (.tmp 19) (.tmp 26) rfl w.heap.size _ L wr (UInt8.ofNat (n / 281474976710656)) _ (byte_of _ (n / 281474976710656) (by first | omega | (rw [IntKind.wrap_u8']; omega))) rfl ho rfl (by omega) hwr ?_)
      intro v3 w3 ho3 hb3
      have b3 := hbr.trans hb3
      rw [← HE.out] at ho3
      clear ho hbr hb3 hL HL HE
      go_wp2
      go_roundw
      case rel => exact ⟨2, by omega, by go_num, ho3, b3⟩
      case measure => simp [RowKit.intOf]
    · have HE : Hid (l ++ (be8 n).take 3 = l ++ (be8 n).take 2 ++ [UInt8.ofNat (n / 1099511627776)]) := by show _ = _; simp [be8]
      generalize l ++ (be8 n).take 2 = L at *
      have hL := HL.out
      go_wp2_with (at_builtin; refine app1 rfl (.tmp 19) (.tmp 26) rfl w.heap.size _ L wr (UInt8.ofNat (n / 1099511627776)) _ (byte_of _ (n / 1099511627776) (by first | omega | (rw [IntKind.wrap_u8']; omega))) rfl ho rfl (by omega) hwr ?_)
      intro v3 w3 ho3 hb3
      have b3 := hbr.trans hb3
      rw [← HE.out] at ho3
      clear ho hbr hb3 hL HL HE
      go_wp2
      go_roundw
      case rel => exact ⟨3, by omega, by go_num, ho3, b3⟩
      case measure => simp [RowKit.intOf]
    · have HE : Hid (l ++ (be8 n).take 4 = l ++ (be8 n).take 3 ++ [UInt8.ofNat (n / 4294967296)]) := by show _ = _; simp [be8]
      generalize l ++ (be8 n).take 3 = L at *
      have hL := HL.out
      go_wp2_with (at_builtin; refine app1 rfl (.tmp 19) (.tmp 26) rfl w.heap.size _ L wr (UInt8.ofNat (n / 4294967296)) _ (byte_of _ (n / 4294967296) (by first | omega | (rw [IntKind.wrap_u8']; omega))) rfl ho rfl (by omega) hwr ?_)
      intro v3 w3 ho3 hb3
      have b3 := hbr.trans hb3
      rw [← HE.out] at ho3
      clear ho hbr hb3 hL HL HE
      go_wp2
      go_roundw
      case rel => exact ⟨4, by omega, by go_num, ho3, b3⟩
      case measure => simp [RowKit.intOf]
    · have HE : Hid (l ++ (be8 n).take 5 = l ++ (be8 n).take 4 ++ [UInt8.ofNat (n / 16777216)]) := by show _ = _; simp [be8]
      generalize l ++ (be8 n).take 4 = L at *
      have hL := HL.out
      go_wp2_with (at_builtin; refine app1 rfl (.tmp 19) (.tmp 26) rfl w.heap.size _ L wr (UInt8.ofNat (n / 16777216)) _ (byte_of _ (n / 16777216) (by first | omega | (rw [IntKind.wrap_u8']; omega))) rfl ho rfl (by omega) hwr ?_)
      intro v3 w3 ho3 hb3
      have b3 := hbr.trans hb3
      rw [← HE.out] at ho3
      clear ho hbr hb3 hL HL HE
      go_wp2
      go_roundw
      case rel => exact ⟨5, by omega, by go_num, ho3, b3⟩
      case measure => simp [RowKit.intOf]
    · have HE : Hid (l ++ (be8 n).take 6 = l ++ (be8 n).take 5 ++ [UInt8.ofNat (n / 65536)]) := by show _ = _; simp [be8]
      generalize l ++ (be8 n).take 5 = L at *
      have hL := HL.out
      go_wp2_with (at_builtin; refine app1 rfl (.tmp 19) (.tmp 26) rfl w.heap.size _ L wr (UInt8.ofNat (n / 65536)) _ (byte_of _ (n / 65536) (by first | omega | (rw [IntKind.wrap_u8']; omega))) rfl ho rfl (by omega) hwr ?_)
      intro v3 w3 ho3 hb3
      have b3 := hbr.trans hb3
      rw [← HE.out] at ho3
      clear ho hbr hb3 hL HL HE
      go_wp2
      go_roundw
      case rel => exact ⟨6, by omega, by go_num, ho3, b3⟩
      case measure => simp [RowKit.intOf]
    · have HE : Hid (l ++ (be8 n).take 7 = l ++ (be8 n).take 6 ++ [UInt8.ofNat (n / 256)]) := by show _ = _; simp [be8]
      generalize l ++ (be8 n).take 6 = L at *
      have hL := HL.out
      go_wp2_with (at_builtin; refine app1 rfl (.tmp 19) (.tmp 26) rfl w.heap.size _ L wr (UInt8.ofNat (n / 256)) _ (byte_of _ (n / 256) (by first | omega | (rw [IntKind.wrap_u8']; omega))) rfl ho rfl (by omega) hwr ?_)
      intro v3 w3 ho3 hb3
      have b3 := hbr.trans hb3
      rw [← HE.out] at ho3
      clear ho hbr hb3 hL HL HE
      go_wp2
      go_roundw
      case rel => exact ⟨7, by omega, by go_num, ho3, b3⟩
      case measure => simp [RowKit.intOf]
    · have HE : Hid (l ++ (be8 n).take 8 = l ++ (be8 n).take 7 ++ [UInt8.ofNat n]) := by show _ = _; simp [be8]
      generalize l ++ (be8 n).take 7 = L at *
      have hL := HL.out
      go_wp2_with (at_builtin; refine app1 rfl (.tmp 19) (.tmp 26) rfl w.heap.size _ L wr (UInt8.ofNat n) _ (byte_of _ n (by first | omega | (rw [IntKind.wrap_u8']; omega))) rfl ho rfl (by omega) hwr ?_)
      intro v3 w3 ho3 hb3
      have b3 := hbr.trans hb3
      rw [← HE.out] at ho3
      clear ho hbr hb3 hL HL HE
      go_wp2
      go_roundw
      case rel => exact ⟨8, by omega, by go_num, ho3, b3⟩
      case measure => simp [RowKit.intOf]
    · have e8 : l ++ (be8 n).take 8 = l ++ be8 n := rfl
      rw [e8] at ho
      clear e8
      go_wp2
      go_ret
      exact ⟨_, rfl, ho, hbr⟩

set_option maxHeartbeats 4000000 in
theorem refput_any (w : World) (v : Value) (l : List UInt8) (n : Nat) (hn : n < 18446744073709551616) (h : RdA w v l) (hl : l.length + 100 ≤ 140737488355328) :
    Calls Try.prog 56 #[v, .int .u64 n] w fun e w' => ∃ v', e = .returned v' ∧ Own w' w.heap.size v' (l ++ be8 n) ∧ Below w.heap.size w w' := by
  have hr := h.on (below_new w (.cells #[] 5))
  go_enter Try.func56, Try.ntmps56
  go_wp2_with (at_builtin; refine appB rfl (.tmp 7) (.tmp 8) rfl w.heap.size _ _ [] l (w.alloc (.cells #[] 5)) rfl (own_empty w _ (Nat.le_refl _)) rfl hr (by simp; omega) (by simp) ?_)
  intro v2 w2 ho2 hb2
  have b2 := (below_new w (.cells #[] 5)).trans hb2
  clear hr hb2 h
  go_wp2_with fail
  go_loopw [5, 6] (fun u i wr => ∃ k : Nat, k ≤ 8 ∧ i = .int .i64 k ∧ Own wr w.heap.size u (l ++ (be8 n).take k) ∧ Below w.heap.size w wr) (fun _ i _ => 8 - (RowKit.intOf i).toNat)
  case atStart => exact ⟨0, by omega, rfl, by simpa using ho2, b2⟩
  case round =>
    clear ho2 b2
    obtain ⟨k, hk, rfl, ho, hbr⟩ := hrel
    have hwr := hbr.size
    have HL : Hid ((l ++ (be8 n).take k).length ≤ l.length + 8) := by show _ ≤ _; rw [List.length_append, List.length_take]; simp only [be8, List.length_cons, List.length_nil]; omega
    have h8 : k = 0 ∨ k = 1 ∨ k = 2 ∨ k = 3 ∨ k = 4 ∨ k = 5 ∨ k = 6 ∨ k = 7 ∨ k = 8 := by omega
    rcases h8 with rfl | rfl | rfl | rfl | rfl | rfl | rfl | rfl | rfl
    · have HE : Hid (l ++ (be8 n).take 1 = l ++ (be8 n).take 0 ++ [UInt8.ofNat (n / 72057594037927936)]) := by show _ = _; simp [be8]
      generalize l ++ (be8 n).take 0 = L at *
      have hL := HL.out
      go_wp2_with (at_builtin; refine app1 rfl (.tmp 14) (.tmp 22) rfl w.heap.size _ L wr (UInt8.ofNat (n / 72057594037927936)) _ (byte_of _ (n / 72057594037927936) (by first | omega | (rw [IntKind.wrap_u8']; omega))) rfl ho rfl (by omega) hwr ?_)
      intro v3 w3 ho3 hb3
      have b3 := hbr.trans hb3
      rw [← HE.out] at ho3
      clear ho hbr hb3 hL HL HE
      go_wp2
      go_roundw
      case rel => exact ⟨1, by omega, by go_num, ho3, b3⟩
      case measure => simp [RowKit.intOf]
    · have HE : Hid (l ++ (be8 n).take 2 = l ++ (be8 n).take 1 ++ [UInt8.ofNat (n / 281474976710656)]) := by show _ = _; simp [be8]
      generalize l ++ (be8 n).take 1 = L at *
      have hL := HL.out
      go_wp2_with (at_builtin; refine app1 rfl (.tmp 14) (.tmp 22) rfl w.heap.size _ L wr (UInt8.ofNat (n / 281474976710656)) _ (byte_of _ (n / 281474976710656) (by first | omega | (rw [IntKind.wrap_u8']; omega))) rfl ho rfl (by omega) hwr ?_)
      intro v3 w3 ho3 hb3
      have b3 := hbr.trans hb3
      rw [← HE.out] at ho3
      clear ho hbr hb3 hL HL HE
      go_wp2
      go_roundw
      case rel => exact ⟨2, by omega, by go_num, ho3, b3⟩
      case measure => simp [RowKit.intOf]
    · have HE : Hid (l ++ (be8 n).take 3 = l ++ (be8 n).take 2 ++ [UInt8.ofNat (n / 1099511627776)]) := by show _ = _; simp [be8]
      generalize l ++ (be8 n).take 2 = L at *
      have hL := HL.out
      go_wp2_with (at_builtin; refine app1 rfl (.tmp 14) (.tmp 22) rfl w.heap.size _ L wr (UInt8.ofNat (n / 1099511627776)) _ (byte_of _ (n / 1099511627776) (by first | omega | (rw [IntKind.wrap_u8']; omega))) rfl ho rfl (by omega) hwr ?_)
      intro v3 w3 ho3 hb3
      have b3 := hbr.trans hb3
      rw [← HE.out] at ho3
      clear ho hbr hb3 hL HL HE
      go_wp2
      go_roundw
      case rel => exact ⟨3, by omega, by go_num, ho3, b3⟩
      case measure => simp [RowKit.intOf]
    · have HE : Hid (l ++ (be8 n).take 4 = l ++ (be8 n).take 3 ++ [UInt8.ofNat (n / 4294967296)]) := by show _ = _; simp [be8]
      generalize l ++ (be8 n).take 3 = L at *
      have hL := HL.out
      go_wp2_with (at_builtin; refine app1 rfl (.tmp 14) (.tmp 22) rfl w.heap.size _ L wr (UInt8.ofNat (n / 4294967296)) _ (byte_of _ (n / 4294967296) (by first | omega | (rw [IntKind.wrap_u8']; omega))) rfl ho rfl (by omega) hwr ?_)
      intro v3 w3 ho3 hb3
      have b3 := hbr.trans hb3
      rw [← HE.out] at ho3
      clear ho hbr hb3 hL HL HE
      go_wp2
      go_roundw
      case rel => exact ⟨4, by omega, by go_num, ho3, b3⟩
      case measure => simp [RowKit.intOf]
    · have HE : Hid (l ++ (be8 n).take 5 = l ++ (be8 n).take 4 ++ [UInt8.ofNat (n / 16777216)]) := by show _ = _; simp [be8]
      generalize l ++ (be8 n).take 4 = L at *
      have hL := HL.out
      go_wp2_with (at_builtin; refine app1 rfl (.tmp 14) (.tmp 22) rfl w.heap.size _ L wr (UInt8.ofNat (n / 16777216)) _ (byte_of _ (n / 16777216) (by first | omega | (rw [IntKind.wrap_u8']; omega))) rfl ho rfl (by omega) hwr ?_)
      intro v3 w3 ho3 hb3
      have b3 := hbr.trans hb3
      rw [← HE.out] at ho3
      clear ho hbr hb3 hL HL HE
      go_wp2
      go_roundw
      case rel => exact ⟨5, by omega, by go_num, ho3, b3⟩
      case measure => simp [RowKit.intOf]
    · have HE : Hid (l ++ (be8 n).take 6 = l ++ (be8 n).take 5 ++ [UInt8.ofNat (n / 65536)]) := by show _ = _; simp [be8]
      generalize l ++ (be8 n).take 5 = L at *
      have hL := HL.out
      go_wp2_with (at_builtin; refine app1 rfl (.tmp 14) (.tmp 22) rfl w.heap.size _ L wr (UInt8.ofNat (n / 65536)) _ (byte_of _ (n / 65536) (by first | omega | (rw [IntKind.wrap_u8']; omega))) rfl ho rfl (by omega) hwr ?_)
      intro v3 w3 ho3 hb3
      have b3 := hbr.trans hb3
      rw [← HE.out] at ho3
      clear ho hbr hb3 hL HL HE
      go_wp2
      go_roundw
      case rel => exact ⟨6, by omega, by go_num, ho3, b3⟩
      case measure => simp [RowKit.intOf]
    · have HE : Hid (l ++ (be8 n).take 7 = l ++ (be8 n).take 6 ++ [UInt8.ofNat (n / 256)]) := by show _ = _; simp [be8]
      generalize l ++ (be8 n).take 6 = L at *
      have hL := HL.out
      go_wp2_with (at_builtin; refine app1 rfl (.tmp 14) (.tmp 22) rfl w.heap.size _ L wr (UInt8.ofNat (n / 256)) _ (byte_of _ (n / 256) (by first | omega | (rw [IntKind.wrap_u8']; omega))) rfl ho rfl (by omega) hwr ?_)
      intro v3 w3 ho3 hb3
      have b3 := hbr.trans hb3
      rw [← HE.out] at ho3
      clear ho hbr hb3 hL HL HE
      go_wp2
      go_roundw
      case rel => exact ⟨7, by omega, by go_num, ho3, b3⟩
      case measure => simp [RowKit.intOf]
    · have HE : Hid (l ++ (be8 n).take 8 = l ++ (be8 n).take 7 ++ [UInt8.ofNat n]) := by show _ = _; simp [be8]
      generalize l ++ (be8 n).take 7 = L at *
      have hL := HL.out
      go_wp2_with (at_builtin; refine app1 rfl (.tmp 14) (.tmp 22) rfl w.heap.size _ L wr (UInt8.ofNat n) _ (byte_of _ n (by first | omega | (rw [IntKind.wrap_u8']; omega))) rfl ho rfl (by omega) hwr ?_)
      intro v3 w3 ho3 hb3
      have b3 := hbr.trans hb3
      rw [← HE.out] at ho3
      clear ho hbr hb3 hL HL HE
      go_wp2
      go_roundw
      case rel => exact ⟨8, by omega, by go_num, ho3, b3⟩
      case measure => simp [RowKit.intOf]
    · have e8 : l ++ (be8 n).take 8 = l ++ be8 n := rfl
      rw [e8] at ho
      clear e8
      go_wp2
      go_ret
      exact ⟨_, rfl, ho, hbr⟩
end Go.Proofs.Ythgkkmcpmhfehaa.Sl
