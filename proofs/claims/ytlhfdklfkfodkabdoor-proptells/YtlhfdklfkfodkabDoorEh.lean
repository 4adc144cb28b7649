
/- What the library's fmtEFG writes of any digits, the shortest ones. -/
import Derived.Test.YtlhfdklfkfodkabDoorEpo
import Derived.Test.YtlhfdklfkfodkabDoorEpm
import Derived.Test.YtlhfdklfkfodkabDoorEno
import Derived.Test.YtlhfdklfkfodkabDoorEnm
import Derived.Test.YtlhfdklfkfodkabDoorMfp
set_option maxRecDepth 100000
namespace Go.Proofs.YtlhfdklfkfodkabDoor.Ff
open Go.RowKit Go.Lib Go.Sort

/-- Digits without an exponent. -/
def txtF (neg : Bool) (D : List UInt8) (dp : Int) : List UInt8 :=
  if dp ≤ 0 then sgB neg ++ [48] ++ [46] ++ List.replicate (-dp).toNat 48 ++ D
  else if D.length ≤ dp.toNat then sgB neg ++ D ++ List.replicate (dp.toNat - D.length) 48
  else sgB neg ++ D.take dp.toNat ++ [46] ++ D.drop dp.toNat
/-- The text of digits behind a point that stands at dp. -/
def txt (neg : Bool) (D : List UInt8) (dp : Int) : List UInt8 :=
  if dp - 1 < -4 ∨ 6 ≤ dp - 1 then txtE neg D dp else txtF neg D dp

theorem efgE_any (w : World) (B q : Nat) (v : Value) (neg : Bool) (D : List UInt8) (hk1 : 1 ≤ D.length) (hk2 : D.length ≤ 20) (dp : Int) (hx : dp - 1 < -4 ∨ 6 ≤ dp - 1) (hx0 : -400 ≤ dp - 1) (hx1 : dp - 1 ≤ 400) (hO : OwnQ w B q v []) (hD : DB w q D) :
    Calls Tryd.prog 48 #[v, .bool neg, .slice (some ⟨q, 0, none⟩) 32 32, .int .i64 dp, .int .i64 (D.length : Nat), .int .i64 (D.length : Nat), .int .u8 103, .bool true] w fun e w' =>
      ∃ v', e = .returned v' ∧ Own w' B v' (txtE neg D dp) ∧ Below B w w' := by
  obtain ⟨y, hy⟩ : ∃ y : Nat, (dp - 1).natAbs = y := ⟨_, rfl⟩
  by_cases hone : D.length = 1
  · have e1 : ((D.length : Nat) : Int) = 1 := by omega
    have hdot : dotB D = [] := by unfold dotB; rw [if_neg (by omega)]
    rw [e1]
    cases neg
    · rcases hx with hx | hx
      · have hsg : sgX (dp - 1) = 45 := by unfold sgX; rw [if_pos (by omega)]
        by_cases ha : y < 10
        · exact efgE_poda w B q v D hone dp y (by omega) (by omega) ha hO hD _ (by unfold txtE expB sgB; rw [hdot, hsg, hy, if_pos ha]; simp)
        · by_cases hb : y < 100
          · exact efgE_podb w B q v D hone dp y (by omega) (by omega) hb hO hD _ (by unfold txtE expB sgB; rw [hdot, hsg, hy, if_neg ha, if_pos hb]; simp)
          · exact efgE_podc w B q v D hone dp y (by omega) (by omega) (by omega) hO hD _ (by unfold txtE expB sgB; rw [hdot, hsg, hy, if_neg ha, if_neg hb]; simp)
      · have hsg : sgX (dp - 1) = 43 := by unfold sgX; rw [if_neg (by omega)]
        by_cases ha : y < 10
        · exact efgE_poua w B q v D hone dp y (by omega) (by omega) ha hO hD _ (by unfold txtE expB sgB; rw [hdot, hsg, hy, if_pos ha]; simp)
        · by_cases hb : y < 100
          · exact efgE_poub w B q v D hone dp y (by omega) (by omega) hb hO hD _ (by unfold txtE expB sgB; rw [hdot, hsg, hy, if_neg ha, if_pos hb]; simp)
          · exact efgE_pouc w B q v D hone dp y (by omega) (by omega) (by omega) hO hD _ (by unfold txtE expB sgB; rw [hdot, hsg, hy, if_neg ha, if_neg hb]; simp)
    · rcases hx with hx | hx
      · have hsg : sgX (dp - 1) = 45 := by unfold sgX; rw [if_pos (by omega)]
        by_cases ha : y < 10
        · exact efgE_noda w B q v D hone dp y (by omega) (by omega) ha hO hD _ (by unfold txtE expB sgB; rw [hdot, hsg, hy, if_pos ha]; simp)
        · by_cases hb : y < 100
          · exact efgE_nodb w B q v D hone dp y (by omega) (by omega) hb hO hD _ (by unfold txtE expB sgB; rw [hdot, hsg, hy, if_neg ha, if_pos hb]; simp)
          · exact efgE_nodc w B q v D hone dp y (by omega) (by omega) (by omega) hO hD _ (by unfold txtE expB sgB; rw [hdot, hsg, hy, if_neg ha, if_neg hb]; simp)
      · have hsg : sgX (dp - 1) = 43 := by unfold sgX; rw [if_neg (by omega)]
        by_cases ha : y < 10
        · exact efgE_noua w B q v D hone dp y (by omega) (by omega) ha hO hD _ (by unfold txtE expB sgB; rw [hdot, hsg, hy, if_pos ha]; simp)
        · by_cases hb : y < 100
          · exact efgE_noub w B q v D hone dp y (by omega) (by omega) hb hO hD _ (by unfold txtE expB sgB; rw [hdot, hsg, hy, if_neg ha, if_pos hb]; simp)
          · exact efgE_nouc w B q v D hone dp y (by omega) (by omega) (by omega) hO hD _ (by unfold txtE expB sgB; rw [hdot, hsg, hy, if_neg ha, if_neg hb]; simp)
  · have hdot : dotB D = 46 :: D.drop 1 := by unfold dotB; rw [if_pos (by omega)]
    cases neg
    · rcases hx with hx | hx
      · have hsg : sgX (dp - 1) = 45 := by unfold sgX; rw [if_pos (by omega)]
        by_cases ha : y < 10
        · exact efgE_pmda w B q v D D.length rfl (by omega) hk2 dp y (by omega) (by omega) ha hO hD _ (by unfold txtE expB sgB; rw [hdot, hsg, hy, if_pos ha]; simp)
        · by_cases hb : y < 100
          · exact efgE_pmdb w B q v D D.length rfl (by omega) hk2 dp y (by omega) (by omega) hb hO hD _ (by unfold txtE expB sgB; rw [hdot, hsg, hy, if_neg ha, if_pos hb]; simp)
          · exact efgE_pmdc w B q v D D.length rfl (by omega) hk2 dp y (by omega) (by omega) (by omega) hO hD _ (by unfold txtE expB sgB; rw [hdot, hsg, hy, if_neg ha, if_neg hb]; simp)
      · have hsg : sgX (dp - 1) = 43 := by unfold sgX; rw [if_neg (by omega)]
        by_cases ha : y < 10
        · exact efgE_pmua w B q v D D.length rfl (by omega) hk2 dp y (by omega) (by omega) ha hO hD _ (by unfold txtE expB sgB; rw [hdot, hsg, hy, if_pos ha]; simp)
        · by_cases hb : y < 100
          · exact efgE_pmub w B q v D D.length rfl (by omega) hk2 dp y (by omega) (by omega) hb hO hD _ (by unfold txtE expB sgB; rw [hdot, hsg, hy, if_neg ha, if_pos hb]; simp)
          · exact efgE_pmuc w B q v D D.length rfl (by omega) hk2 dp y (by omega) (by omega) (by omega) hO hD _ (by unfold txtE expB sgB; rw [hdot, hsg, hy, if_neg ha, if_neg hb]; simp)
    · rcases hx with hx | hx
      · have hsg : sgX (dp - 1) = 45 := by unfold sgX; rw [if_pos (by omega)]
        by_cases ha : y < 10
        · exact efgE_nmda w B q v D D.length rfl (by omega) hk2 dp y (by omega) (by omega) ha hO hD _ (by unfold txtE expB sgB; rw [hdot, hsg, hy, if_pos ha]; simp)
        · by_cases hb : y < 100
          · exact efgE_nmdb w B q v D D.length rfl (by omega) hk2 dp y (by omega) (by omega) hb hO hD _ (by unfold txtE expB sgB; rw [hdot, hsg, hy, if_neg ha, if_pos hb]; simp)
          · exact efgE_nmdc w B q v D D.length rfl (by omega) hk2 dp y (by omega) (by omega) (by omega) hO hD _ (by unfold txtE expB sgB; rw [hdot, hsg, hy, if_neg ha, if_neg hb]; simp)
      · have hsg : sgX (dp - 1) = 43 := by unfold sgX; rw [if_neg (by omega)]
        by_cases ha : y < 10
        · exact efgE_nmua w B q v D D.length rfl (by omega) hk2 dp y (by omega) (by omega) ha hO hD _ (by unfold txtE expB sgB; rw [hdot, hsg, hy, if_pos ha]; simp)
        · by_cases hb : y < 100
          · exact efgE_nmub w B q v D D.length rfl (by omega) hk2 dp y (by omega) (by omega) hb hO hD _ (by unfold txtE expB sgB; rw [hdot, hsg, hy, if_neg ha, if_pos hb]; simp)
          · exact efgE_nmuc w B q v D D.length rfl (by omega) hk2 dp y (by omega) (by omega) (by omega) hO hD _ (by unfold txtE expB sgB; rw [hdot, hsg, hy, if_neg ha, if_neg hb]; simp)

theorem efgF_any (w : World) (B q : Nat) (v : Value) (neg : Bool) (D : List UInt8) (hk1 : 1 ≤ D.length) (hk2 : D.length ≤ 20) (dp : Int) (hx0 : -4 ≤ dp - 1) (hx1 : dp - 1 < 6) (hO : OwnQ w B q v []) (hD : DB w q D) :
    Calls Tryd.prog 48 #[v, .bool neg, .slice (some ⟨q, 0, none⟩) 32 32, .int .i64 dp, .int .i64 (D.length : Nat), .int .i64 (D.length : Nat), .int .u8 103, .bool true] w fun e w' =>
      ∃ v', e = .returned v' ∧ Own w' B v' (txtF neg D dp) ∧ Below B w w' := by
  unfold txtF
  by_cases h0 : dp ≤ 0
  · rw [if_pos h0]
    cases neg
    · exact efgF1_p w B q v D _ rfl hk1 hk2 dp (-dp).toNat (by omega) (by omega) hO hD _ rfl
    · exact efgF1_n w B q v D _ rfl hk1 hk2 dp (-dp).toNat (by omega) (by omega) hO hD _ rfl
  · rw [if_neg h0]
    obtain ⟨z, rfl⟩ : ∃ z : Nat, dp = (z : Int) := ⟨dp.toNat, by omega⟩
    rw [show ((z : Int)).toNat = z from by omega]
    by_cases h1 : D.length ≤ z
    · rw [if_pos h1]
      cases neg
      · exact efgF2_p w B q v D _ rfl hk1 hk2 z (by omega) (by omega) hO hD _ rfl
      · exact efgF2_n w B q v D _ rfl hk1 hk2 z (by omega) (by omega) hO hD _ rfl
    · rw [if_neg h1]
      cases neg
      · exact efgF3_p w B q v D _ rfl hk1 hk2 z (by omega) (by omega) (by omega) hO hD _ rfl
      · exact efgF3_n w B q v D _ rfl hk1 hk2 z (by omega) (by omega) (by omega) hO hD _ rfl

theorem efg_any (w : World) (B q : Nat) (v : Value) (neg : Bool) (D : List UInt8) (hk1 : 1 ≤ D.length) (hk2 : D.length ≤ 20) (dp : Int) (hx0 : -400 ≤ dp - 1) (hx1 : dp - 1 ≤ 400) (hO : OwnQ w B q v []) (hD : DB w q D) :
    Calls Tryd.prog 48 #[v, .bool neg, .slice (some ⟨q, 0, none⟩) 32 32, .int .i64 dp, .int .i64 (D.length : Nat), .int .i64 (D.length : Nat), .int .u8 103, .bool true] w fun e w' =>
      ∃ v', e = .returned v' ∧ Own w' B v' (txt neg D dp) ∧ Below B w w' := by
  unfold txt
  by_cases h : dp - 1 < -4 ∨ 6 ≤ dp - 1
  · rw [if_pos h]; exact efgE_any w B q v neg D hk1 hk2 dp h hx0 hx1 hO hD
  · rw [if_neg h]; exact efgF_any w B q v neg D hk1 hk2 dp (by omega) (by omega) hO hD
end Go.Proofs.YtlhfdklfkfodkabDoor.Ff
