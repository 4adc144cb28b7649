/- aframe.readRest. Conditions: those that each row states. -/
import Derived.Test.YtlkinkbdhoejiaaTu
import Derived.BigQuiet
namespace Go.Proofs.Ytlkinkbdhoejiaa
open Go.RowKit Go.Lib
set_option maxRecDepth 100000
set_option linter.unusedSimpArgs false

/-- What stands behind a header's flags. -/
def restH (r : List UInt8) (fl : Nat) : Option (List Pr × Bool) :=
  if fl ≠ 0 ∧ fl ≠ 4096 ∧ fl ≠ 8192 ∧ fl ≠ 12288 then none
  else match (if 8192 ≤ fl then ctab r else some ([], r)) with
    | none => none
    | some (L, r') => if fl = 0 ∨ fl = 8192 then (if r' = [] then some (L, false) else none) else if r' = [1] then some (L, false) else if r' = [2] then some (L, true) else none
/-- What a header tells. -/
def readH (s : List UInt8) : Int × List Pr × Bool × Int :=
  if s.length < 14 ∨ numL (s.take 4) ≠ 3932160 then (0, [], false, 11) else match restH (s.drop 14) (numL ((s.drop 12).take 2)) with
    | none => (0, [], false, 11)
    | some (L, d) => if 1024 < numL ((s.drop 4).take 8) then (0, [], false, 3) else ((numL ((s.drop 4).take 8) : Nat), L, d, 0)
theorem ctab_drop {s r : List UInt8} {L : List Pr} (h : ctab s = some (L, r)) : s.drop (s.length - r.length) = r := by
  unfold ctab at h
  split at h
  · cases h
  · unfold cutP at h
    split at h
    · cases h
    · rename_i t r' hc
      split at hc
      · rename_i hle
        injection hc with hc
        injection hc with _ hc
        cases ho : tabO t with
        | none => rw [ho] at h; cases h
        | some L' =>
          rw [ho] at h
          injection h with h
          injection h with _ h
          rw [← h, ← hc, List.drop_drop]
          congr 1
          rw [List.length_drop] at hle
          rw [List.length_drop]
          omega
      · cases hc
theorem and_four (n : Nat) (h : n ≠ 0 ∧ n ≠ 4096 ∧ n ≠ 8192 ∧ n ≠ 12288) : n ^^^ (n &&& 12288) ≠ 0 := by
  intro e
  have h1 : n = n &&& 12288 := by
    have := congrArg (· ^^^ (n &&& 12288)) e
    simpa [Nat.xor_assoc] using this
  have key : ∀ m : Nat, m &&& 12288 = 0 ∨ m &&& 12288 = 4096 ∨ m &&& 12288 = 8192 ∨ m &&& 12288 = 12288 := by
    intro m
    have e2 : m &&& 12288 = ((m / 4096) % 4) * 4096 := by
      have e3 : (12288 : Nat) = 3 * 2 ^ 12 := by decide
      apply Nat.eq_of_testBit_eq
      intro i
      rw [e3, Nat.testBit_and, Nat.testBit_mul_two_pow, show (4096 : Nat) = 2 ^ 12 by decide, Nat.testBit_mul_two_pow]
      by_cases hi : 12 ≤ i
      · simp only [hi, decide_true, Bool.true_and]
        rw [show (4 : Nat) = 2 ^ 2 by decide, Nat.testBit_mod_two_pow, Nat.testBit_div_two_pow, show (3 : Nat) = 2 ^ 2 - 1 by decide, Nat.testBit_two_pow_sub_one, show i - 12 + 12 = i by omega, Bool.and_comm]
      · simp [hi]
    rw [e2]
    have : (m / 4096) % 4 < 4 := Nat.mod_lt _ (by decide)
    omega
  rcases key n with h2 | h2 | h2 | h2 <;> omega
theorem andNot_no (n : Nat) (hn : n < 65536) (h : n ≠ 0 ∧ n ≠ 4096 ∧ n ≠ 8192 ∧ n ≠ 12288) : bits .andNot .u64 (n : Int) 12288 ≠ 0 := by
  intro e
  have hb : (BitVec.ofInt 64 (n : Int) &&& ~~~(BitVec.ofInt 64 12288)).toNat = 0 := by
    have e1 : bits .andNot .u64 (n : Int) 12288 = IntKind.u64.wrap ((BitVec.ofInt 64 (n : Int) &&& ~~~(BitVec.ofInt 64 12288)).toNat : Int) := rfl
    rw [e1, IntKind.wrap_u64] at e
    have := (BitVec.ofInt 64 (n : Int) &&& ~~~(BitVec.ofInt 64 12288)).isLt
    omega
  have h0 : BitVec.ofInt 64 (n : Int) &&& ~~~(BitVec.ofInt 64 12288) = 0#64 := BitVec.eq_of_toNat_eq (by rw [hb]; rfl)
  have h1 : BitVec.ofInt 64 (n : Int) = BitVec.ofInt 64 (n : Int) &&& BitVec.ofInt 64 12288 := by
    apply BitVec.eq_of_getLsbD_eq
    intro i hi
    have h2 := congrArg (fun x => x.getLsbD i) h0
    simp only [BitVec.getLsbD_and, BitVec.getLsbD_not, hi, decide_true, Bool.true_and, BitVec.getLsbD_zero] at h2
    rw [BitVec.getLsbD_and]
    cases ha : (BitVec.ofInt 64 (n : Int)).getLsbD i <;> cases hb2 : (BitVec.ofInt 64 (12288 : Int)).getLsbD i <;> simp_all
  have h2 := congrArg BitVec.toNat h1
  rw [BitVec.toNat_and] at h2
  have e3 : (BitVec.ofInt 64 (n : Int)).toNat = n := by rw [BitVec.toNat_ofInt]; omega
  have e4 : (BitVec.ofInt 64 (12288 : Int)).toNat = 12288 := by decide
  rw [e3, e4] at h2
  exact and_four n h (by rw [← h2]; exact Nat.xor_self n)
set_option maxHeartbeats 1000000 in
theorem rest_no (w : World) (r : List UInt8) (n : Nat) (hn : n < 65536) (h : n ≠ 0 ∧ n ≠ 4096 ∧ n ≠ 8192 ∧ n ≠ 12288) :
    Calls Try.prog 32 #[str r, .int .u64 n] w fun e w' => e = .returned (.tuple #[.slice none 0 0, .bool false, .bool false]) ∧ w' = w := by
  have hz := andNot_no n hn h
  generalize (n : Int) = z at *
  clear hn h
  go_enter Try.func32, Try.ntmps32
  go_wp2_with fail
  refine bodyPost_ret (v := .tuple #[.slice none 0 0, .bool false, .bool false]) (by simp [results, Try.results32, go_sem]) rfl ?_
  exact ⟨rfl, rfl⟩
/-- What a header's last byte tells. -/
def modeR (r : List UInt8) : Bool × Bool := if r = [1] then (false, true) else if r = [2] then (true, true) else (false, false)
theorem modeR_len {r : List UInt8} (h : r.length ≠ 1) : modeR r = (false, false) := by
  unfold modeR
  rw [if_neg (fun e => h (by rw [e]; rfl)), if_neg (fun e => h (by rw [e]; rfl))]
theorem modeR_one {r : List UInt8} (h : r.length = 1) : modeR r = (if (r.getD 0 0).toNat = 1 then (false, true) else if (r.getD 0 0).toNat = 2 then (true, true) else (false, false)) := by
  match r, h with
  | [c], _ =>
    have e : ∀ d : UInt8, ([c] = [d]) = (c.toNat = d.toNat) := fun d => by
      simp only [List.cons.injEq, and_true, eq_iff_iff]
      exact ⟨fun h => by rw [h], fun h => UInt8.toNat_inj.1 h⟩
    unfold modeR
    simp only [e]
    rfl
/-- What readRest answers. -/
def RsP (w' : World) (B : Nat) (r : List UInt8) (fl : Nat) (e : Ending) : Prop :=
  ∃ v d ok, e = .returned (.tuple #[v, .bool d, .bool ok]) ∧ ((ok = true ∧ ∃ L, restH r fl = some (L, d) ∧ OwnP w' B v L) ∨ (ok = false ∧ restH r fl = none))
def noL (r : List UInt8) (L : List Pr) : Option (List Pr × Bool) := if r.isEmpty = true then some (L, false) else none
def moL (r : List UInt8) (L : List Pr) : Option (List Pr × Bool) := if (modeR r).2 = true then some (L, (modeR r).1) else none
theorem no_eq (r : List UInt8) (L : List Pr) : (if r = [] then some (L, false) else none) = noL r L := by
  unfold noL
  cases r <;> simp
theorem mo_eq (r : List UInt8) (L : List Pr) : (if r = [1] then some (L, false) else if r = [2] then some (L, true) else none) = moL r L := by
  unfold moL modeR
  by_cases h1 : r = [1]
  · simp [h1]
  · by_cases h2 : r = [2]
    · simp [h2]
    · simp [h1, h2]
theorem restH_0 (r : List UInt8) : restH r 0 = noL r [] := by rw [← no_eq]; rfl
theorem restH_4 (r : List UInt8) : restH r 4096 = moL r [] := by rw [← mo_eq]; rfl
theorem restH_8 (r : List UInt8) : restH r 8192 = match ctab r with
    | none => none
    | some (L, r') => noL r' L := by
  unfold restH
  rw [if_neg (by decide), if_pos (by decide)]
  cases ctab r with
  | none => rfl
  | some x => obtain ⟨L, r'⟩ := x; exact no_eq r' L
theorem restH_12 (r : List UInt8) : restH r 12288 = match ctab r with
    | none => none
    | some (L, r') => moL r' L := by
  unfold restH
  rw [if_neg (by decide), if_pos (by decide)]
  cases ctab r with
  | none => rfl
  | some x => obtain ⟨L, r'⟩ := x; exact mo_eq r' L
theorem leaf_no {w' : World} {B : Nat} {r r' : List UInt8} {L : List Pr} {fl : Nat} {v : Value} {em : Bool} (h : restH r fl = noL r' L) (he : r'.isEmpty = em) (ho : OwnP w' B v L) : RsP w' B r fl (.returned (.tuple #[v, .bool false, .bool em])) := by
  refine ⟨v, false, em, rfl, ?_⟩
  unfold noL at h
  rw [he] at h
  cases em
  · exact .inr ⟨rfl, h⟩
  · exact .inl ⟨rfl, L, h, ho⟩
theorem leaf_mo {w' : World} {B : Nat} {r r' : List UInt8} {L : List Pr} {fl : Nat} {v : Value} {d ok : Bool} (h : restH r fl = moL r' L) (he : modeR r' = (d, ok)) (ho : OwnP w' B v L) : RsP w' B r fl (.returned (.tuple #[v, .bool d, .bool ok])) := by
  refine ⟨v, d, ok, rfl, ?_⟩
  unfold moL at h
  rw [he] at h
  cases ok
  · exact .inr ⟨rfl, h⟩
  · exact .inl ⟨rfl, L, h, ho⟩
theorem leaf_mn {w' : World} {B : Nat} {r r' : List UInt8} {L : List Pr} {fl : Nat} {v : Value} {d : Bool} (h : restH r fl = moL r' L) (he : (modeR r').2 = false) : RsP w' B r fl (.returned (.tuple #[v, .bool d, .bool false])) := by
  refine ⟨v, d, false, rfl, .inr ⟨rfl, ?_⟩⟩
  unfold moL at h
  rw [he] at h
  exact h
theorem own_drew {w : World} {B n : Nat} {v : Value} {L : List Pr} (h : OwnP w B v L) : OwnP (w.drewN n) B v L := h.up (below_drewN (Below.refl _ _) n)
set_option maxHeartbeats 1000000 in
theorem rest_0 (w : World) (r : List UInt8) :
    Calls Try.prog 32 #[str r, .int .u64 0] w fun e w' => RsP w' w.heap.size r 0 e ∧ Below w.heap.size w w' := by
  have b0 : bits .andNot .u64 0 12288 = 0 := by decide
  have b1 : bits .and .u64 0 8192 = 0 := by decide
  have b2 : bits .and .u64 0 4096 = 0 := by decide
  have HH : Hid (restH r 0 = noL r []) := restH_0 r
  have HOW : Hid (OwnP w w.heap.size (.slice none 0 0) []) := World.ownsRow_nil _ _ _ _
  have HBW : Hid (Below w.heap.size w w) := Below.refl _ _
  obtain ⟨em, hem⟩ : ∃ em, r.isEmpty = em := ⟨_, rfl⟩
  have HEM : Hid (r.isEmpty = em) := hem
  clear hem
  go_enter Try.func32, Try.ntmps32
  go_wp2_with fail
  rw [HEM.out]
  refine bodyPost_ret (v := .tuple #[.slice none 0 0, .bool false, .bool em]) (by simp [results, Try.results32, go_sem]) rfl ?_
  exact ⟨leaf_no HH.out HEM.out HOW.out, HBW.out⟩
set_option maxHeartbeats 1000000 in
theorem rest_4 (w : World) (r : List UInt8) :
    Calls Try.prog 32 #[str r, .int .u64 4096] w fun e w' => RsP w' w.heap.size r 4096 e ∧ Below w.heap.size w w' := by
  have b0 : bits .andNot .u64 4096 12288 = 0 := by decide
  have b1 : bits .and .u64 4096 8192 = 0 := by decide
  have b2 : bits .and .u64 4096 4096 = 4096 := by decide
  have HH : Hid (restH r 4096 = moL r []) := restH_4 r
  have HOW : Hid (OwnP w w.heap.size (.slice none 0 0) []) := World.ownsRow_nil _ _ _ _
  have HBW : Hid (Below w.heap.size w w) := Below.refl _ _
  go_enter Try.func32, Try.ntmps32
  by_cases hl : r.length = 1
  · have hlz : (r.length : Int) = 1 := by omega
    have hM := modeR_one hl
    have g0 := get_str r 0
    generalize r.getD 0 0 = c at *
    obtain ⟨x, hx⟩ : ∃ x, c.toNat = x := ⟨_, rfl⟩
    rw [hx] at hM
    have HM : Hid (modeR r = if x = 1 then (false, true) else if x = 2 then (true, true) else (false, false)) := hM
    clear hM hl
    by_cases h1 : x = 1
    · subst h1
      go_upto_region 12 with fail
      go_quiet (fail)
      go_wp2_with fail
      refine bodyPost_ret (v := .tuple #[.slice none 0 0, .bool false, .bool true]) (by simp [results, Try.results32, go_sem]) rfl ?_
      exact ⟨leaf_mo HH.out HM.out (own_drew HOW.out), below_drewN HBW.out _⟩
    by_cases h2 : x = 2
    · subst h2
      go_upto_region 12 with fail
      go_quiet (fail)
      go_wp2_with fail
      refine bodyPost_ret (v := .tuple #[.slice none 0 0, .bool true, .bool true]) (by simp [results, Try.results32, go_sem]) rfl ?_
      exact ⟨leaf_mo HH.out HM.out (own_drew HOW.out), below_drewN HBW.out _⟩
    have HM2 : Hid ((modeR r).2 = false) := by show _ = _; rw [HM.out, if_neg h1, if_neg h2]
    have h1z : ((x : Int) != 1) = true := by simp; omega
    have h2z : ((x : Int) != 2) = true := by simp; omega
    go_wp2_with fail
    refine bodyPost_ret (v := .tuple #[.slice none 0 0, .bool false, .bool false]) (by simp [results, Try.results32, go_sem]) rfl ?_
    exact ⟨leaf_mn HH.out HM2.out, HBW.out⟩
  · have hlz : (r.length : Int) ≠ 1 := by omega
    have HM2 : Hid ((modeR r).2 = false) := by show _ = _; rw [modeR_len hl]
    clear hl
    go_wp2_with fail
    refine bodyPost_ret (v := .tuple #[.slice none 0 0, .bool false, .bool false]) (by simp [results, Try.results32, go_sem]) rfl ?_
    exact ⟨leaf_mn HH.out HM2.out, HBW.out⟩
set_option maxHeartbeats 2000000 in
theorem rest_8 (w : World) (r : List UInt8) (hr : r.length ≤ 140737488355328) :
    Calls Try.prog 32 #[str r, .int .u64 8192] w fun e w' => RsP w' w.heap.size r 8192 e ∧ Below w.heap.size w w' := by
  have b0 : bits .andNot .u64 8192 12288 = 0 := by decide
  have b1 : bits .and .u64 8192 8192 = 8192 := by decide
  have b2 : bits .and .u64 8192 4096 = 0 := by decide
  have T := ttake_any w r hr
  have HR := restH_8 r
  go_enter Try.func32, Try.ntmps32
  go_wp2_with fail
  refine T.mono ?_
  rintro e w1 ⟨v, z, n, rfl, hT, hB⟩
  rcases hT with ⟨L, r', hct, rfl, ho, rfl⟩ | ⟨hct, rfl, rfl, rfl⟩
  · rw [hct] at HR
    have HH : Hid (restH r 8192 = noL r' L) := HR
    have hle := ctab_left hct
    have hdr := ctab_drop hct
    have HOW : Hid (OwnP w1 w.heap.size v L) := ho
    have HBW : Hid (Below w.heap.size w w1) := hB
    obtain ⟨d, hd⟩ : ∃ d, r.length - r'.length = d := ⟨_, rfl⟩
    rw [hd] at hdr ⊢
    have hdz : (d : Int) ≤ (r.length : Int) := by omega
    have e2 : (⟨r.toArray⟩ : ByteArray).extract d r.length = ⟨r'.toArray⟩ := by
      rw [← hdr]
      apply ByteArray.ext
      simp [ByteArray.data_extract, List.extract_eq_take_drop]
      rw [List.take_of_length_le (by simp)]
    clear T HR hct hle hdr ho hB hd hr
    go_upto_region 7 with fail
    go_quiet (fail)
    have HOW : Hid (OwnP (w1.drewN nq) w.heap.size v L) := own_drew HOW.out
    have HBW : Hid (Below w.heap.size w (w1.drewN nq)) := below_drewN HBW.out _
    generalize (w1.drewN nq) = w2 at *

    obtain ⟨em, hem⟩ : ∃ em, r'.isEmpty = em := ⟨_, rfl⟩
    have HEM : Hid (r'.isEmpty = em) := hem
    clear hem
    go_wp2_with fail
    rw [HEM.out]
    refine bodyPost_ret (v := .tuple #[v, .bool false, .bool em]) (by simp [results, Try.results32, go_sem]) rfl ?_
    exact ⟨leaf_no HH.out HEM.out HOW.out, HBW.out⟩
  · rw [hct] at HR
    go_wp2_with fail
    refine bodyPost_ret (v := .tuple #[.slice none 0 0, .bool false, .bool false]) (by simp [results, Try.results32, go_sem]) rfl ?_
    exact ⟨⟨_, _, _, rfl, .inr ⟨rfl, HR⟩⟩, hB⟩
set_option maxHeartbeats 2000000 in
theorem rest_12 (w : World) (r : List UInt8) (hr : r.length ≤ 140737488355328) :
    Calls Try.prog 32 #[str r, .int .u64 12288] w fun e w' => RsP w' w.heap.size r 12288 e ∧ Below w.heap.size w w' := by
  have b0 : bits .andNot .u64 12288 12288 = 0 := by decide
  have b1 : bits .and .u64 12288 8192 = 8192 := by decide
  have b2 : bits .and .u64 12288 4096 = 4096 := by decide
  have T := ttake_any w r hr
  have HR := restH_12 r
  go_enter Try.func32, Try.ntmps32
  go_wp2_with fail
  refine T.mono ?_
  rintro e w1 ⟨v, z, n, rfl, hT, hB⟩
  rcases hT with ⟨L, r', hct, rfl, ho, rfl⟩ | ⟨hct, rfl, rfl, rfl⟩
  · rw [hct] at HR
    have HH : Hid (restH r 12288 = moL r' L) := HR
    have hle := ctab_left hct
    have hdr := ctab_drop hct
    have HOW : Hid (OwnP w1 w.heap.size v L) := ho
    have HBW : Hid (Below w.heap.size w w1) := hB
    obtain ⟨d, hd⟩ : ∃ d, r.length - r'.length = d := ⟨_, rfl⟩
    rw [hd] at hdr ⊢
    have hdz : (d : Int) ≤ (r.length : Int) := by omega
    have e2 : (⟨r.toArray⟩ : ByteArray).extract d r.length = ⟨r'.toArray⟩ := by
      rw [← hdr]
      apply ByteArray.ext
      simp [ByteArray.data_extract, List.extract_eq_take_drop]
      rw [List.take_of_length_le (by simp)]
    clear T HR hct hle hdr ho hB hd hr
    go_upto_region 7 with fail
    go_quiet (fail)
    have HOW : Hid (OwnP (w1.drewN nq) w.heap.size v L) := own_drew HOW.out
    have HBW : Hid (Below w.heap.size w (w1.drewN nq)) := below_drewN HBW.out _
    generalize (w1.drewN nq) = w2 at *

    by_cases hl : r'.length = 1
    · have hlz : (r'.length : Int) = 1 := by omega
      have hM := modeR_one hl
      have g0 := get_str r' 0
      generalize r'.getD 0 0 = c at *
      obtain ⟨x, hx⟩ : ∃ x, c.toNat = x := ⟨_, rfl⟩
      rw [hx] at hM
      have HM : Hid (modeR r' = if x = 1 then (false, true) else if x = 2 then (true, true) else (false, false)) := hM
      clear hM hl
      by_cases h1 : x = 1
      · subst h1
        go_upto_region 12 with fail
        go_quiet (fail)
        go_wp2_with fail
        refine bodyPost_ret (v := .tuple #[v, .bool false, .bool true]) (by simp [results, Try.results32, go_sem]) rfl ?_
        exact ⟨leaf_mo HH.out HM.out (own_drew HOW.out), below_drewN HBW.out _⟩
      by_cases h2 : x = 2
      · subst h2
        go_upto_region 12 with fail
        go_quiet (fail)
        go_wp2_with fail
        refine bodyPost_ret (v := .tuple #[v, .bool true, .bool true]) (by simp [results, Try.results32, go_sem]) rfl ?_
        exact ⟨leaf_mo HH.out HM.out (own_drew HOW.out), below_drewN HBW.out _⟩
      have HM2 : Hid ((modeR r').2 = false) := by show _ = _; rw [HM.out, if_neg h1, if_neg h2]
      have h1z : ((x : Int) != 1) = true := by simp; omega
      have h2z : ((x : Int) != 2) = true := by simp; omega
      go_wp2_with fail
      refine bodyPost_ret (v := .tuple #[.slice none 0 0, .bool false, .bool false]) (by simp [results, Try.results32, go_sem]) rfl ?_
      exact ⟨leaf_mn HH.out HM2.out, HBW.out⟩
    · have hlz : (r'.length : Int) ≠ 1 := by omega
      have HM2 : Hid ((modeR r').2 = false) := by show _ = _; rw [modeR_len hl]
      clear hl
      go_wp2_with fail
      refine bodyPost_ret (v := .tuple #[.slice none 0 0, .bool false, .bool false]) (by simp [results, Try.results32, go_sem]) rfl ?_
      exact ⟨leaf_mn HH.out HM2.out, HBW.out⟩
  · rw [hct] at HR
    go_wp2_with fail
    refine bodyPost_ret (v := .tuple #[.slice none 0 0, .bool false, .bool false]) (by simp [results, Try.results32, go_sem]) rfl ?_
    exact ⟨⟨_, _, _, rfl, .inr ⟨rfl, HR⟩⟩, hB⟩
theorem rest_any (w : World) (r : List UInt8) (n : Nat) (hr : r.length ≤ 140737488355328) (hn : n < 65536) :
    Calls Try.prog 32 #[str r, .int .u64 n] w fun e w' => RsP w' w.heap.size r n e ∧ Below w.heap.size w w' := by
  by_cases h0 : n = 0
  · subst h0; exact rest_0 w r
  by_cases h4 : n = 4096
  · subst h4; exact rest_4 w r
  by_cases h8 : n = 8192
  · subst h8; exact rest_8 w r hr
  by_cases h12 : n = 12288
  · subst h12; exact rest_12 w r hr
  refine (rest_no w r n hn ⟨h0, h4, h8, h12⟩).mono ?_
  rintro e w' ⟨rfl, rfl⟩
  exact ⟨⟨_, _, _, rfl, .inr ⟨rfl, by unfold restH; rw [if_pos ⟨h0, h4, h8, h12⟩]⟩⟩, Below.refl _ _⟩
end Go.Proofs.Ytlkinkbdhoejiaa
