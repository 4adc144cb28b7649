/- What aframe.num answers of a text: its bytes as a number; the types of frames. Conditions: those that each row states. -/
import Derived.Test.YtlkinkbdhoejiaaMba
import Derived.Test.YtlkinkbdhoejiaaShelf
import Derived.Laws.BitsAllLaws
namespace Go.Proofs.Ytlkinkbdhoejiaa
open Go.RowKit Go.Lib
set_option maxRecDepth 100000

set_option maxHeartbeats 4000000 in
theorem isType_any (w : World) (z : Int) : Calls Try.prog 19 #[.int .i64 z] w fun e w' => e = .returned (.bool (tyZ z)) ∧ w' = w := by
  by_cases h1 : z = 1
  · subst h1
    go_enter Try.func19, Try.ntmps19
    go_wp2
    go_ret
    exact ⟨rfl, rfl⟩
  · by_cases h2 : z = 2
    · subst h2
      go_enter Try.func19, Try.ntmps19
      go_wp2
      go_ret
      exact ⟨rfl, rfl⟩
    · by_cases h3 : z = 3
      · subst h3
        go_enter Try.func19, Try.ntmps19
        go_wp2
        go_ret
        exact ⟨rfl, rfl⟩
      · by_cases h8 : z = 8
        · subst h8
          go_enter Try.func19, Try.ntmps19
          go_wp2
          go_ret
          exact ⟨rfl, rfl⟩
        · have e : tyZ z = false := by simp [tyZ, h1, h2, h3, h8]
          rw [e]
          go_enter Try.func19, Try.ntmps19
          go_wp2
          go_ret
          first | exact ⟨rfl, rfl⟩ | (refine ⟨?_, rfl⟩; show Ending.returned (.bool _) = _; simp [h1, h2, h3, h8])

theorem bytes_of (w : World) (l : List UInt8) : ∃ c W, (convert 9 25 (str l)).run Try.prog w = .ok (.slice (some ⟨w.heap.size, 0, none⟩) l.length c) W ∧ (∀ j (h : j < l.length), W.cell? ⟨w.heap.size, j, none⟩ = some (.int .u8 (l[j].toNat : Int))) ∧ Below w.heap.size w W := by
  refine ⟨_, _, run_bytes_of_string (P := Try.prog) w 9 25 5 ⟨l.toArray⟩ Try.underlying9 Try.underlying25 Try.underlying5, ?_, (Below.refl _ _).drew.alloc (Nat.le_refl _) _⟩
  intro j h
  have := bytesRow_at ⟨l.toArray⟩ (grownCap w (⟨l.toArray⟩ : ByteArray).size 0 5) j (by simpa using h)
  have hsz : w.drew.heap.size = w.heap.size := rfl
  have hat : ∀ (C : Obj), (w.drew.alloc C).heap[w.heap.size]? = some C := fun C => by
    show (w.heap.push C)[w.heap.size]? = _
    simp
  simp only [World.cell?, hat, this]
  simp
theorem or_byte (a c : Nat) (hc : c < 256) : (a * 256) ||| c = a * 256 + c := by
  have := Nat.two_pow_add_eq_or_of_lt (b := c) (i := 8) (by simpa using hc) a
  rw [Nat.mul_comm a 256]
  exact this.symm
theorem or_z (a c : Nat) (ha : a < 72057594037927936) (hc : c < 256) : bits .or .u64 ((a : Int) * 256) (c : Int) = ((a * 256 + c : Nat) : Int) := by
  have := u64_or_nat (a * 256) c (by omega) (by omega)
  rw [or_byte a c hc] at this
  rw [← this]; rfl
set_option maxHeartbeats 4000000 in
theorem num_any (w : World) (l : List UInt8) (hl : l.length ≤ 8) : Calls Try.prog 23 #[str l] w fun e w' => e = .returned (.int .u64 (numL l)) ∧ Below w.heap.size w w' := by
  obtain ⟨c, W, hcv, hcell, hb⟩ := bytes_of w l
  have HC : Hid (∀ j (h : j < l.length), W.cell? ⟨w.heap.size, j, none⟩ = some (.int .u8 (l[j].toNat : Int))) := hcell
  clear hcell
  go_enter Try.func23, Try.ntmps23
  go_wp2
  go_loop [3, 9] (fun n i => ∃ j : Nat, j ≤ l.length ∧ i = .int .i64 j ∧ n = .int .u64 (numL (l.take j))) (fun _ i => l.length - (RowKit.intOf i).toNat)
  case atStart => exact ⟨0, Nat.zero_le _, rfl, rfl⟩
  case round =>
    obtain ⟨j, hj, rfl, rfl⟩ := hrel
    by_cases hlt : j < l.length
    · have hcj := HC.out j hlt
      have h8 : numL (l.take j) < 256 ^ j := by
        have := numL_lt (l.take j)
        rwa [List.length_take, Nat.min_eq_left hj] at this
      have h56 : numL (l.take j) < 72057594037927936 := Nat.lt_of_lt_of_le h8 (by have : 256 ^ j ≤ 256 ^ 7 := Nat.pow_le_pow_right (by decide) (by omega); simpa using this)
      have HS : Hid (numL (l.take (j + 1)) = numL (l.take j) * 256 + l[j].toNat) := by
        show _ = _
        rw [List.take_succ_eq_append_getElem hlt, numL_snoc]
      clear h8
      generalize numL (l.take j) = n at *
      have hby := l[j].toNat_lt
      generalize l[j].toNat = x at *
      have hjz : (j : Int) < (l.length : Int) := by omega
      have hn0 : (0 : Int) ≤ (n : Int) := by omega
      go_wp2
      all_goals
        go_round
        case rel => exact ⟨j + 1, by omega, by go_num, by rw [HS.out]; first | rfl | (rw [or_z n x h56 hby])⟩
        case measure => simp [RowKit.intOf]; omega
    · have hjk : j = l.length := by omega
      subst hjk
      go_wp2
      go_ret
      refine ⟨?_, hb⟩
      show Ending.returned (.int .u64 _) = _
      first | rfl | rw [List.take_length]

set_option maxHeartbeats 4000000 in
theorem clone_any (w : World) (l : List UInt8) (hl : l.length ≤ 140737488355328) : Calls Try.prog 24 #[str l] w fun e w' => e = .returned (str l) ∧ Below w.heap.size w w' := by
  have h := Try.stringslite_Clone ⟨l.toArray⟩ w (by simp [ByteArray.size]; omega)
  go_enter Try.func24, Try.ntmps24
  go_wp2_with (go_at_call 35; refine h.mono ?_; rintro e w' ⟨rfl, hb⟩)
  go_ret
  exact ⟨rfl, hb⟩

set_option maxHeartbeats 4000000 in
theorem kind_any (w : World) (z : Int) : Calls Try.prog 21 #[.int .i64 z] w fun e w' => e = .returned (.bool (tyZ z)) ∧ w' = w := by
  by_cases h1 : z = 1
  · subst h1
    go_enter Try.func21, Try.ntmps21
    go_wp2
    go_ret
    exact ⟨rfl, rfl⟩
  · by_cases h2 : z = 2
    · subst h2
      go_enter Try.func21, Try.ntmps21
      go_wp2
      go_ret
      exact ⟨rfl, rfl⟩
    · by_cases h3 : z = 3
      · subst h3
        go_enter Try.func21, Try.ntmps21
        go_wp2
        go_ret
        exact ⟨rfl, rfl⟩
      · by_cases h8 : z = 8
        · subst h8
          go_enter Try.func21, Try.ntmps21
          go_wp2
          go_ret
          exact ⟨rfl, rfl⟩
        · have e : tyZ z = false := by simp [tyZ, h1, h2, h3, h8]
          rw [e]
          go_enter Try.func21, Try.ntmps21
          go_wp2
          go_ret
          first | exact ⟨rfl, rfl⟩ | (refine ⟨?_, rfl⟩; show Ending.returned (.bool _) = _; simp [h1, h2, h3, h8])
end Go.Proofs.Ytlkinkbdhoejiaa
