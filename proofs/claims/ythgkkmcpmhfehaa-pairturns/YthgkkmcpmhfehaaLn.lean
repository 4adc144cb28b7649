/- What lay leaves of the records, wherever the power goes. -/
import Derived.Test.YthgkkmcpmhfehaaLm
namespace Go.Proofs.Ythgkkmcpmhfehaa
open Go.RowKit Go.Lib
set_option maxRecDepth 100000

theorem DS.is_mk (S : DS) (hW : S.W = []) (hd : S.down = false) : S = mkS S.P [] S.ops false S.armed S.keep := by
  cases S
  simp only at hW hd
  subst hW; subst hd
  rfl

/-- What lay leaves: the record, or, where the power went, the records that were there, or one more. -/
def LayEnd (S : DS) (lo hi : Nat) (rs : List (List UInt8)) (r : List UInt8) (D : DS × Int) : Prop :=
  D.1.W = [] ∧ D.1.ops ≤ S.ops + opsN (tot rs) r.length ((hi - lo) * 256) ∧ (∀ k, k < lo * 256 + tot rs ∨ hi * 256 ≤ k → D.1.P[k]? = S.P[k]?) ∧
  ((D.2 = 0 ∧ D.1.down = false ∧ (S.armed = 0 → D.1.armed = 0) ∧ Laid D.1.P lo ((hi - lo) * 256) (rs ++ [r])) ∨
   (D.2 = 20 ∧ D.1.down = true ∧ S.armed ≠ 0 ∧ D.1.armed = 0 ∧ (Laid D.1.P lo ((hi - lo) * 256) rs ∨ Laid D.1.P lo ((hi - lo) * 256) (rs ++ [r]))))

theorem lay_torn (S : DS) (n lo hi : Nat) (rs : List (List UInt8)) (hla : Laid S.P lo ((hi - lo) * 256) rs) (hP : S.P.length = n * 256) (hlh : lo ≤ hi) (hh : hi ≤ n) (r : List UInt8) (hr : r.length ≤ 65536) (hpl : tot rs + (12 + r.length) ≤ (hi - lo) * 256) (hd : S.down = false) (hW : S.W = []) :
    LayEnd S lo hi rs r (layD S lo (tot rs) (frB 0 rs.length r) ((hi - lo) * 256)) := by
  have hmk := S.is_mk hW hd
  obtain ⟨S0, hS0⟩ : ∃ S0, S0 = mkS S.P [] S.ops false 0 S.keep := ⟨_, rfl⟩
  have hS0P : S0.P = S.P := by rw [hS0]; rfl
  have hmore := Laid.more (S := S0) (by rw [hS0P]; exact hla) (n := n) (by rw [hS0P]; exact hP) hlh hh r hr hpl (by rw [hS0]; rfl) (by rw [hS0]; rfl)
  obtain ⟨_, _, _, _, _, g6, g7, _, _, g10⟩ := layD0 S0 lo hi (tot rs) rs.length r n (by rw [hS0P]; exact hP) hlh hh hpl (by rw [hS0]; rfl) (by rw [hS0]; rfl)
  have hfl := frB_length 0 rs.length r
  have hF0 : (frB 0 rs.length r)[0]? = some 0 := rfl
  have hfin := hla.fin (by omega)
  have hbytes := hla.bytes
  have hshort := hla.shorts
  generalize hp : tot rs = p at *
  generalize hF : frB 0 rs.length r = F at *
  obtain ⟨T, hT⟩ : ∃ T, T = tillOf p F.length ((hi - lo) * 256) := ⟨_, rfl⟩
  have hT9 : p + F.length ≤ T ∧ T ≤ (hi - lo) * 256 ∧ T % 256 = 0 ∧ p / 256 * 256 ≤ T := by rw [hT]; unfold tillOf; omega
  obtain ⟨A, hA⟩ : ∃ A, A = cutB S.P lo (p / 256 * 256) (p - p / 256 * 256) := ⟨_, rfl⟩
  have hAl : A.length = p - p / 256 * 256 := by rw [hA]; exact cutB_length _ _ _ _ (by omega)
  obtain ⟨I, hIe⟩ : ∃ I, I = imgOf S.P lo p F T := ⟨_, rfl⟩
  have hI : I = A ++ F ++ List.replicate (T - (p + F.length)) 0 := by rw [hIe, hA]; rfl
  obtain ⟨N, hN⟩ : ∃ N, N = (T - p / 256 * 256) / 256 := ⟨_, rfl⟩
  obtain ⟨i, hi'⟩ : ∃ i, i = lo + p / 256 := ⟨_, rfl⟩
  obtain ⟨pf, hpf⟩ : ∃ pf, pf = p - p / 256 * 256 := ⟨_, rfl⟩
  have hIl : I.length = N * 256 := by rw [hI, List.length_append, List.length_append, List.length_replicate, hAl]; omega
  have hlay : ∀ D : DS, D.P = S.P → layD D lo p F ((hi - lo) * 256) = layE D i I N pf := fun D hD => by
    unfold layD; rw [hD, ← hT, ← hIe, ← hN, ← hi', ← hpf]
  rw [hlay S0 hS0P] at hmore g6 g7 g10
  rw [hlay S rfl]
  have hNi : i + N ≤ n := by omega
  have hops : N + 3 = opsN p r.length ((hi - lo) * 256) := by rw [opsN, ← hfl, ← hT, ← hN]
  have h0 := layE_mk S.P S.ops 0 S.keep i n N pf I hP hIl (by omega) (by omega) hNi
  rw [← hS0] at h0
  have hP2 : (layE S0 i I N pf).1.P = splice S.P (i * 256) (I.set pf 1) := by
    rcases h0 with ⟨_, e⟩ | ⟨e, _⟩
    · rw [e]; rfl
    · omega
  rw [hP2] at hmore g6 g7 g10
  rw [hS0P] at g7 g10
  have hA0 : ∀ j, i * 256 ≤ j → j < lo * 256 + p → I[j - i * 256]? = S.P[j]? := fun j h1 h2 => by
    rw [hI, List.append_assoc, List.getElem?_append_left (by omega), hA, cut_get _ _ _ _ _ (by omega)]
    congr 1; omega
  have hIm : I[lo * 256 + p - i * 256]? = some 0 := by
    rw [hI, List.append_assoc, List.getElem?_append_right (by omega), List.getElem?_append_left (by omega), show lo * 256 + p - i * 256 - A.length = 0 by omega]
    exact hF0
  have hle : i * 256 + I.length ≤ S.P.length := by rw [hIl, hP]; have := Nat.mul_le_mul_right 256 hNi; omega
  have hle1 : i * 256 + (I.set pf 1).length ≤ S.P.length := by rw [List.length_set]; exact hle
  have hP12 : ∀ j, j ≠ lo * 256 + p → (splice S.P (i * 256) I)[j]? = (splice S.P (i * 256) (I.set pf 1))[j]? := fun j hj => by
    rw [splice_get _ _ _ hle, splice_get _ _ _ hle1, List.length_set]
    split
    · rw [List.getElem?_set, if_neg (by omega)]
    · rfl
  have hP1m : (splice S.P (i * 256) I)[lo * 256 + p]? = some 0 := by
    rw [splice_get _ _ _ hle, if_pos (by rw [hIl]; omega)]; exact hIm
  have hlen1 : (splice S.P (i * 256) (I.set pf 1)).length = S.P.length := splice_len _ _ _ hle1
  rw [hmk]
  rcases layE_mk S.P S.ops S.armed S.keep i n N pf I hP hIl (by omega) (by omega) hNi with ⟨ha, e⟩ | ⟨ha, ha', P', e, htl, htorn⟩
  · rw [e]
    refine ⟨rfl, by rw [hp, ← hops]; show S.ops + N + 3 ≤ S.ops + _; omega, fun k hk => ?_, .inl ⟨rfl, rfl, fun h => by show S.armed - (N + 3) = 0; have h : S.armed = 0 := h; omega, hmore⟩⟩
    show (splice S.P (i * 256) (I.set pf 1))[k]? = _
    rw [hp] at hk
    rcases hk with hk | hk
    · exact g7 k hk
    · exact g10 k hk
  · rw [e]
    have hsame : ∀ k, k < lo * 256 + p ∨ hi * 256 ≤ k → P'[k]? = S.P[k]? := fun k hk => by
      rcases htorn with ht | ht
      · rcases ht k with h | ⟨h1, h2, h3⟩
        · exact h
        · rcases hk with hk | hk
          · rw [h3]; exact hA0 k h1 hk
          · omega
      · have hg : (splice S.P (i * 256) (I.set pf 1))[k]? = S.P[k]? := by
          rcases hk with hk | hk
          · exact g7 k hk
          · exact g10 k hk
        rcases ht k with h | h
        · rw [h, hP12 k (by omega), hg]
        · rw [h, hg]
    have hrs : P'[lo * 256 + p]? = some 0 → Laid P' lo ((hi - lo) * 256) rs := fun hm =>
      ⟨by omega, by rw [htl, hP]; omega, hshort, fun k hk => by rw [hp] at hk; rw [hsame _ (.inl (by omega)), hbytes k hk], fun _ => by rw [hp]; exact hm⟩
    refine ⟨rfl, by rw [hp, ← hops]; show S.ops + S.armed ≤ S.ops + _; omega, fun k hk => by rw [hp] at hk; exact hsame k hk, .inr ⟨rfl, rfl, by show S.armed ≠ 0; omega, rfl, ?_⟩⟩
    rcases htorn with ht | ht
    · left
      apply hrs
      rcases ht (lo * 256 + p) with h | ⟨h1, h2, h3⟩
      · rw [h]; exact hfin
      · rw [h3]; exact hIm
    · rcases ht (lo * 256 + p) with h | h
      · left
        exact hrs (by rw [h]; exact hP1m)
      · right
        have : P' = splice S.P (i * 256) (I.set pf 1) := by
          apply list_get_eq
          · rw [htl, hlen1]
          · intro k _
            by_cases hk : k = lo * 256 + p
            · rw [hk]; exact h
            · rcases ht k with h' | h'
              · rw [h', hP12 k hk]
              · exact h'
        show Laid P' _ _ _
        rw [this]; exact hmore
end Go.Proofs.Ythgkkmcpmhfehaa
