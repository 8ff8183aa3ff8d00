/- What lies in the zero value of the document's engine, and how one is built. -/
import Derived.Test.YtldeiiffabfmeaaGreatDoorAA
set_option linter.unusedVariables false
set_option linter.unusedSimpArgs false
namespace Go.Proofs.YtldeiiffabfmeaaGreatDoor
open Go.RowKit

theorem sameK_at : ∀ {vs : List Value} {ks : List Nat}, sameK vs ks = true → ∀ j : Nat, (vs[j]?).map zeroKind = ks[j]?
  | [], [], _, j => by simp
  | [], k :: ks, h, _ => by simp [sameK] at h
  | v :: vs, [], h, _ => by simp [sameK] at h
  | v :: vs, k :: ks, h, j => by
    simp only [sameK, Bool.and_eq_true] at h
    cases j with
    | zero => simp [Nat.eq_of_beq_eq_true h.1]
    | succ j => simpa using sameK_at h.2 j
theorem kind_bool {v : Value} (h : zeroKind v = 1) : v = .bool false := by
  unfold zeroKind at h
  split at h <;> simp_all
theorem kind_int {v : Value} (h : zeroKind v = 2) : v = .int .i64 0 := by
  unfold zeroKind at h
  split at h <;> simp_all
theorem kind_slice {v : Value} (h : zeroKind v = 3) : v = .slice none 0 0 := by
  unfold zeroKind at h
  split at h <;> simp_all

theorem flatten_at (L : List Nat) : ∀ (n i j : Nat), i < n → j < L.length → ((List.replicate n L).flatten)[i * L.length + j]? = L[j]?
  | 0, i, j, h, _ => by omega
  | n + 1, i, j, h, hj => by
    rw [List.replicate_succ, List.flatten_cons]
    cases i with
    | zero => rw [Nat.zero_mul, Nat.zero_add, List.getElem?_append_left hj]
    | succ i =>
      rw [List.getElem?_append_right (by rw [Nat.succ_mul]; omega)]
      rw [show (i + 1) * L.length + j - L.length = i * L.length + j from by rw [Nat.succ_mul]; omega]
      exact flatten_at L n i j (by omega) hj
theorem len_cells : zeroCellsK.length = 200 := by
  rw [zeroCellsK, List.length_append, List.length_replicate, List.length_replicate]
theorem len_flat (L : List Nat) : ∀ n : Nat, ((List.replicate n L).flatten).length = n * L.length
  | 0 => by simp
  | n + 1 => by rw [List.replicate_succ, List.flatten_cons, List.length_append, len_flat L n, Nat.succ_mul]; omega
theorem len_stand : zeroStandK.length = 1011 := by
  rw [zeroStandK, List.length_append, len_flat, len_cells, List.length_replicate]
theorem len_six : ([3, 2, 2, 2, 2, 3] : List Nat).length = 6 := rfl
theorem len_eng : zeroEngK.length = 97998 := by
  rw [zeroEngK, List.length_append, List.length_append, List.length_append, List.length_append, List.length_append, len_flat, len_flat, len_cells, len_stand, List.length_replicate, List.length_replicate, List.length_replicate, len_six]
theorem cells_at {t : Nat} (h : t < 100) : zeroCellsK[t]? = some 1 ∧ zeroCellsK[100 + t]? = some 2 := by
  constructor
  · rw [zeroCellsK, List.getElem?_append_left (by rw [List.length_replicate]; exact h), List.getElem?_replicate, if_pos h]
  · rw [zeroCellsK, List.getElem?_append_right (by rw [List.length_replicate]; omega), List.length_replicate, List.getElem?_replicate, if_pos (by omega)]
theorem eng_5 : zeroEngK[5]? = some 3 := by
  rw [zeroEngK]; rfl
theorem eng_tab {p t : Nat} (hp : p < 4) (ht : t < 200) : zeroEngK[6 + p * 200 + t]? = zeroCellsK[t]? := by
  have h1 := len_cells
  have h6 := len_six
  rw [zeroEngK]
  simp only [List.append_assoc]
  rw [List.getElem?_append_right (by rw [h6]; omega), h6]
  rw [List.getElem?_append_left (by rw [len_flat, h1]; omega)]
  have := flatten_at zeroCellsK 4 p t hp (by omega)
  rw [h1] at this
  rw [← this, show 6 + p * 200 + t - 6 = p * 200 + t from by omega]
theorem eng_stand {q t : Nat} (hq : q < 96) (ht : t < 1011) : zeroEngK[806 + q * 1011 + t]? = zeroStandK[t]? := by
  have h1 := len_cells
  have h2 := len_stand
  have h6 := len_six
  rw [zeroEngK]
  simp only [List.append_assoc]
  rw [List.getElem?_append_right (by rw [h6]; omega), h6]
  rw [List.getElem?_append_right (by rw [len_flat, h1]; omega), len_flat, h1]
  rw [List.getElem?_append_left (by rw [len_flat, h2]; omega)]
  have := flatten_at zeroStandK 96 q t hq (by omega)
  rw [h2] at this
  rw [← this, show 806 + q * 1011 + t - 6 - 4 * 200 = q * 1011 + t from by omega]
theorem eng_mail {t : Nat} (ht : t < 16) : zeroEngK[97862 + t]? = some 3 := by
  have h1 := len_cells
  have h2 := len_stand
  have h6 := len_six
  rw [zeroEngK]
  simp only [List.append_assoc]
  rw [List.getElem?_append_right (by rw [h6]; omega), h6]
  rw [List.getElem?_append_right (by rw [len_flat, h1]; omega), len_flat, h1]
  rw [List.getElem?_append_right (by rw [len_flat, h2]; omega), len_flat, h2]
  rw [List.getElem?_append_left (by rw [List.length_replicate]; omega), List.getElem?_replicate, if_pos (by omega)]

/-- The zero of an engine: c tells its cells. -/
structure ZeroEng (c : Nat → Value) : Prop where
  l : c 5 = .slice none 0 0
  t1 : ∀ p k, p < 4 → k < 100 → c (6 + p * 200 + k) = .bool false
  t2 : ∀ p k, p < 4 → k < 100 → c (6 + p * 200 + 100 + k) = .int .i64 0
  s0 : ∀ p i, p < 4 → i < 24 → c (806 + p * 24264 + i * 1011) = .bool false
  s2 : ∀ p i, p < 4 → i < 24 → c (806 + p * 24264 + i * 1011 + 2) = .bool false
  m : ∀ p q, p < 4 → q < 4 → c (97862 + p * 4 + q) = .slice none 0 0

theorem zero_eng : ∃ (i : TypeInfo) (Z : Array Value), Tryz.prog.info? 156 = some i ∧ i.size = 97998 ∧ i.zero = some (.agg Z) ∧ Z.size = 97998 ∧ ZeroEng (fun j => Z.getD j undef) := by
  have h := zero102
  cases hi : Tryz.prog.info? 156 with
  | none => rw [hi] at h; cases h
  | some i =>
    rw [hi] at h
    simp only [Option.map_some, Option.some.injEq, Prod.mk.injEq] at h
    obtain ⟨hs, hz⟩ := h
    cases hzero : i.zero with
    | none => rw [hzero] at hz; cases hz
    | some v =>
      rw [hzero] at hz
      cases v with
      | agg Z =>
        simp only [] at hz
        have hat := sameK_at hz
        have hsize : Z.size = 97998 := by
          have h1 := hat Z.size
          have h2 : zeroEngK.length ≤ Z.size := by
            rw [← List.getElem?_eq_none_iff, ← h1]; simp
          have h3 : Z.toList.length ≤ zeroEngK.length := by
            rw [← List.getElem?_eq_none_iff]
            have h4 := hat zeroEngK.length
            rw [List.getElem?_eq_none (Nat.le_refl _)] at h4
            simpa using h4
          rw [len_eng] at h2 h3
          simp at h3
          omega
        have get : ∀ j k, zeroEngK[j]? = some k → zeroKind (Z.getD j undef) = k := by
          intro j k hk
          have h1 := hat j
          rw [hk] at h1
          obtain ⟨v, hv, hvk⟩ := Option.map_eq_some_iff.1 h1
          rw [Array.getD_eq_getD_getElem?, ← Array.getElem?_toList, hv]
          exact hvk
        refine ⟨i, Z, rfl, hs, hzero, hsize, ⟨kind_slice (get _ _ eng_5), fun p k hp hk => ?_, fun p k hp hk => ?_, fun p i hp hi => ?_, fun p i hp hi => ?_, fun p q hp hq => ?_⟩⟩
        · exact kind_bool (get _ _ ((eng_tab hp (by omega)).trans (cells_at hk).1))
        · refine kind_int (get _ _ ?_)
          rw [show 6 + p * 200 + 100 + k = 6 + p * 200 + (100 + k) from by omega]
          exact (eng_tab hp (by omega)).trans (cells_at hk).2
        · refine kind_bool (get _ _ ?_)
          have := eng_stand (q := p * 24 + i) (t := 0) (by omega) (by omega)
          rw [show 806 + (p * 24 + i) * 1011 + 0 = 806 + p * 24264 + i * 1011 from by omega] at this
          rw [this]; rfl
        · refine kind_bool (get _ _ ?_)
          have := eng_stand (q := p * 24 + i) (t := 2) (by omega) (by omega)
          rw [show 806 + (p * 24 + i) * 1011 + 2 = 806 + p * 24264 + i * 1011 + 2 from by omega] at this
          rw [this]; rfl
        · refine kind_slice (get _ _ ?_)
          rw [show 97862 + p * 4 + q = 97862 + (p * 4 + q) from by omega]
          exact eng_mail (by omega)
      | _ => cases hz
end Go.Proofs.YtldeiiffabfmeaaGreatDoor
