/- The statements' first look, trivetlaw07.wakes, answers true wherever the library's table of powers of ten reads as it was laid. -/
import Derived.Test.YtlhfdklfkfodkaaDoorPi
import Derived.Lib.SlBytesConst
namespace Go.Proofs.YtlhfdklfkfodkaaDoor
open Go.RowKit Go.Lib Ieee

theorem itoa_1 : itoa 1 = [49] := by simp [itoa, decDigits_one]
theorem itoa_2 : itoa 2 = [50] := by simp [itoa, decDigits_one]
theorem itoa_7 : itoa 7 = [55] := by simp [itoa, decDigits_one]
theorem itoa_m5 : itoa (-5) = [45, 53] := by simp [itoa, decDigits_one]
def tx1 (x : Val) : List UInt8 := 105 :: itoa x.num
def pr7 : Pr := ⟨⟨#[97]⟩, ⟨1, 7, ⟨#[]⟩, 0⟩⟩
theorem valid_7 : validL [pr7] = true := by
  have e : goodV ⟨1, 7, ⟨#[]⟩, 0⟩ = true := by simp [goodV, sameV]
  simp [validL, canB, nameL, pr7, rising, e, inN]
theorem enc_7 : encQ tx1 [pr7] = [49, 59, 49, 58, 97, 44, 50, 58, 105, 55, 44] := by
  simp [encQ, tx1, pr7, encNs, encN, encS, itoa_1, itoa_2, itoa_7]
theorem at_7 (w : World) : PrAt (w.alloc (.cells #[.string ⟨#[97]⟩, .int .i64 1, .int .i64 7, .string ⟨#[]⟩, .float .f64 0] 33)) w.heap.size 0 pr7 :=
  ⟨World.cell?_alloc_new .., World.cell?_alloc_new .., World.cell?_alloc_new .., World.cell?_alloc_new .., World.cell?_alloc_new ..⟩
theorem enc_at7 (w : World) (ht : Tab w.heap.size w) :
    Calls Tryd.prog 17 #[.slice (some ⟨w.heap.size, 0, none⟩) 1 1] (w.alloc (.cells #[.string ⟨#[97]⟩, .int .i64 1, .int .i64 7, .string ⟨#[]⟩, .float .f64 0] 33)) fun e w' => ∃ v', e = .returned (.tuple #[v', .int .i64 0]) ∧ RdB w' v' [49, 59, 49, 58, 97, 44, 50, 58, 105, 55, 44] ∧ Below w.heap.size w w' := by
  have hbA : Below w.heap.size w (w.alloc (.cells #[.string ⟨#[97]⟩, .int .i64 1, .int .i64 7, .string ⟨#[]⟩, .float .f64 0] 33)) := (Below.refl _ w).alloc (Nat.le_refl _) _
  have hA := at_7 w
  have hsA : (w.alloc (.cells #[.string ⟨#[97]⟩, .int .i64 1, .int .i64 7, .string ⟨#[]⟩, .float .f64 0] 33)).heap.size = w.heap.size + 1 := by simp
  generalize (w.alloc (.cells #[.string ⟨#[97]⟩, .int .i64 1, .int .i64 7, .string ⟨#[]⟩, .float .f64 0] 33)) = wA at *
  have ht1 : Tab wA.heap.size wA := (ht.on hbA).mono (by omega)
  have h := encode7_some wA [pr7] w.heap.size 0 1 (fun i hi => by
    have : i = 0 := by simpa using hi
    subst this
    exact hA) (by simp) valid_7 tx1 (fun p hp W hW => by
      simp only [List.mem_singleton] at hp
      subst hp
      exact text7_1 W 7 (by omega) (by omega) ((ht1.on hW).mono hW.size)) (by simp [tx1, pr7, itoa_7]) (by simp [pr7]) (by simp) ht1
  refine Calls.mono h ?_
  rintro e w' ⟨v', rfl, ho, hb⟩
  rw [enc_7] at ho
  exact ⟨v', rfl, ho.rd, hbA.trans (hb.mono (by omega))⟩

theorem conv_is {w : World} {v : Value} {l : List UInt8} (h : RdB w v l) (a : Array UInt8) (e : l.toArray = a) : (convert 42 9 v).run Tryd.prog w = .ok (.string ⟨a⟩) w := by
  rw [← e]; exact conv_any h

set_option maxRecDepth 4000 in
theorem wakes7 (w : World) (ht : Tab w.heap.size w) :
    Calls Tryd.prog 6 #[] w fun e w' => e = .returned (.bool true) ∧ Below w.heap.size w w' := by
  have H1 := enc_at7 w ht
  have HT : Hid (Tab w.heap.size w) := ht
  clear ht
  go_enter Tryd.func6, Tryd.ntmps6
  go_wp2_with fail
  refine H1.mono ?_
  rintro e w2 ⟨v2, rfl, hr, hb2⟩
  have hs2 := hb2.size
  go_wp2_with fail
  refine (text7_1 w2 (-5) (by omega) (by omega) ((HT.out.on hb2).mono hs2)).mono ?_
  rintro e w3 ⟨rfl, hb3⟩
  rw [itoa_m5]
  have hr3 := conv_is (hr.on hb3) #[49, 59, 49, 58, 97, 44, 50, 58, 105, 55, 44] rfl
  clear H1 hr
  go_wp2
  go_ret
  exact ⟨rfl, hb2.trans (hb3.mono hs2)⟩
end Go.Proofs.YtlhfdklfkfodkaaDoor
