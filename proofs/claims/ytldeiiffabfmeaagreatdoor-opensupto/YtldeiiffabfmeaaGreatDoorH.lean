/- What all partitions know, and the contracts of its methods. -/
import Derived.Test.YtldeiiffabfmeaaGreatDoorA
import Derived.WalkSmall
set_option linter.unusedVariables false
set_option linter.unusedSimpArgs false
namespace Go.Proofs.YtldeiiffabfmeaaGreatDoor
open Go.RowKit

def cntB (p : Nat → Bool) : Nat → Nat
  | 0 => 0
  | k + 1 => cntB p k + (if p k then 1 else 0)
theorem cntB_le (p : Nat → Bool) : ∀ n, cntB p n ≤ n
  | 0 => Nat.le_refl _
  | n + 1 => by have := cntB_le p n; simp only [cntB]; split <;> omega
theorem cntB_yes {p : Nat → Bool} {k : Nat} (h : p k = true) : cntB p (k + 1) = cntB p k + 1 := by simp [cntB, h]
theorem cntB_no {p : Nat → Bool} {k : Nat} (h : p k = false) : cntB p (k + 1) = cntB p k := by simp [cntB, h]

/-- In which partition a key lies. -/
def homeOf (nb : Nat) (fb : Nat → Int) (x : Int) : Nat := cntB (fun i => decide (fb i ≤ x)) nb

/-- An engine's data: bounds, log. -/
structure EngD where
  nb : Nat
  fb : Nat → Int
  nl : Nat
  ts : Nat → TxnD

/-- What all partitions know lies at the head of block e. -/
structure IsKnown (w : World) (e : Nat) (D : EngD) (vB vL : Value) : Prop where
  lt : e < w.heap.size
  c0 : w.cell? ⟨e, 0, none⟩ = some vB
  c4 : w.cell? ⟨e, 4, none⟩ = some vL
  b : RdI w vB 1 D.nb D.fb
  l : RdL w vL D.nl D.ts
theorem IsKnown.below {w w' : World} {e : Nat} {D : EngD} {vB vL : Value} (h : IsKnown w e D vB vL) (hb : Below w.heap.size w w') : IsKnown w' e D vB vL :=
  ⟨Nat.lt_of_lt_of_le h.lt hb.size, by rw [hb.cell (p := ⟨e, 0, none⟩) h.lt]; exact h.c0, by rw [hb.cell (p := ⟨e, 4, none⟩) h.lt]; exact h.c4, h.b.below hb, h.l.below hb⟩

set_option maxHeartbeats 400000 in
theorem part_any (v : Value) (n : Nat) (f : Nat → Int) (x : Int) (w : World) (h : RdI w v 1 n f) :
    Calls Tryz.prog 52 #[v, .int .i64 x] w fun e w' => e = .returned (.int .i64 (homeOf n f x : Nat)) ∧ w' = w := by
  obtain ⟨a, cap, rfl, hn, hc⟩ := h
  go_enter Tryz.func52, Tryz.ntmps52
  go_wp2
  go_loop [5, 6] (fun c i => ∃ k : Nat, k ≤ n ∧ i = .int .i64 k ∧ c = .int .i64 (cntB (fun i => decide (f i ≤ x)) k : Nat)) (fun _ i => n - (intOf i).toNat)
  case atStart => exact ⟨0, Nat.zero_le _, rfl, rfl⟩
  case round =>
    obtain ⟨k, hk, rfl, rfl⟩ := hrel
    have hle := cntB_le (fun i => decide (f i ≤ x)) k
    by_cases hlt : k < n
    · obtain ⟨b, off, rfl, hb, hcell⟩ := hc (by omega)
      simp only [Nat.mul_one] at hcell
      clear hc
      by_cases hp : f k ≤ x
      · have hs := cntB_yes (p := fun i => decide (f i ≤ x)) (k := k) (by simpa using hp)
        have HS : Hid (_ = _) := hs
        clear hs
        go_wp2
        go_round
        case rel => exact ⟨k + 1, by omega, by go_num, by rw [HS.out]; go_num⟩
        case measure => simp [intOf]; omega
      · have hs := cntB_no (p := fun i => decide (f i ≤ x)) (k := k) (by simpa using hp)
        have HS : Hid (_ = _) := hs
        clear hs
        go_wp2
        go_round
        case rel => exact ⟨k + 1, by omega, by go_num, by rw [HS.out]⟩
        case measure => simp [intOf]; omega
    · go_wp2
      go_ret
      have : k = n := by omega
      subst this
      exact ⟨rfl, rfl⟩

set_option maxHeartbeats 400000 in
theorem home_any (e : Nat) (D : EngD) (vB vL : Value) (x : Int) (w : World) (h : IsKnown w e D vB vL) :
    Calls Tryz.prog 71 #[.pointer (some ⟨e, 0, none⟩), .int .i64 x] w fun e w' => e = .returned (.int .i64 (homeOf D.nb D.fb x : Nat)) ∧ w' = w := by
  obtain ⟨a, cap, rfl, hn, hc⟩ := id h.b
  have h0 := h.c0
  obtain ⟨nb, fb, nl, ts⟩ := D
  dsimp only at *
  clear h
  go_enter Tryz.func71, Tryz.ntmps71
  go_wp2
  go_loop [5, 14] (fun c i => ∃ k : Nat, k ≤ nb ∧ i = .int .i64 k ∧ c = .int .i64 (cntB (fun i => decide (fb i ≤ x)) k : Nat)) (fun _ i => nb - (intOf i).toNat)
  case atStart => exact ⟨0, Nat.zero_le _, rfl, rfl⟩
  case round =>
    obtain ⟨k, hk, rfl, rfl⟩ := hrel
    have hle := cntB_le (fun i => decide (fb i ≤ x)) k
    by_cases hlt : k < nb
    · obtain ⟨b, off, rfl, hb, hcell⟩ := hc (by omega)
      simp only [Nat.mul_one] at hcell
      clear hc
      by_cases hp : fb k ≤ x
      · have hs := cntB_yes (p := fun i => decide (fb i ≤ x)) (k := k) (by simpa using hp)
        have HS : Hid (_ = _) := hs
        clear hs
        go_wp2
        go_round
        case rel => exact ⟨k + 1, by omega, by go_num, by rw [HS.out]; go_num⟩
        case measure => simp [intOf]; omega
      · have hs := cntB_no (p := fun i => decide (fb i ≤ x)) (k := k) (by simpa using hp)
        have HS : Hid (_ = _) := hs
        clear hs
        go_wp2
        go_round
        case rel => exact ⟨k + 1, by omega, by go_num, by rw [HS.out]⟩
        case measure => simp [intOf]; omega
    · go_wp2
      go_ret
      have : k = nb := by omega
      subst this
      exact ⟨rfl, rfl⟩

set_option maxHeartbeats 400000 in
theorem count_any (e : Nat) (D : EngD) (vB vL : Value) (w : World) (h : IsKnown w e D vB vL) :
    Calls Tryz.prog 68 #[.pointer (some ⟨e, 0, none⟩)] w fun e w' => e = .returned (.int .i64 ((D.nb : Int) + 1)) ∧ w' = w := by
  obtain ⟨a, cap, rfl, hn, hc⟩ := id h.b
  have h0 := h.c0
  go_enter Tryz.func68, Tryz.ntmps68
  go_wp2
  go_ret
  exact ⟨rfl, rfl⟩

set_option maxHeartbeats 400000 in
theorem hasPart_any (e : Nat) (D : EngD) (vB vL : Value) (p : Int) (w : World) (h : IsKnown w e D vB vL) :
    Calls Tryz.prog 38 #[.pointer (some ⟨e, 0, none⟩), .int .i64 p] w fun e w' => e = .returned (.bool (withinB p 0 D.nb)) ∧ w' = w := by
  by_cases hp : 0 ≤ p
  · go_enter Tryz.func38, Tryz.ntmps38
    go_wp2_with (go_at_call 68; refine (count_any _ D vB vL _ h).mono ?_; rintro e w' ⟨rfl, rfl⟩)
    go_ret
    refine ⟨ret_bool ?_, rfl⟩
    rw [withinB, decide_eq_true hp, Bool.true_and, decide_eq_decide]; omega
  · have hd : decide (0 ≤ p) = false := by simpa using hp
    go_enter Tryz.func38, Tryz.ntmps38
    go_wp2_with fail
    go_ret
    exact ⟨ret_bool (by simp [withinB, hd]), rfl⟩

set_option maxHeartbeats 400000 in
theorem lies_any (bk bp e : Nat) (D : EngD) (vB vL : Value) (p x : Int) (w : World) (h : IsKnown w e D vB vL)
    (hk : w.cell? ⟨bk, 0, none⟩ = some (.pointer (some ⟨e, 0, none⟩))) (hp : w.cell? ⟨bp, 0, none⟩ = some (.int .i64 p)) :
    Calls Tryz.prog 70 #[.int .i64 x, .pointer (some ⟨bk, 0, none⟩), .pointer (some ⟨bp, 0, none⟩)] w fun e w' => e = .returned (.bool ((homeOf D.nb D.fb x : Int) == p)) ∧ Below w.heap.size w w' := by
  go_enter Tryz.func70, Tryz.ntmps70
  go_wp2_with fail
  go_quiet ((go_at_call 71; exact Calls.quiet_of_same (home_any _ D vB vL _ _ (h.below (below_drewN (Below.refl _ _) _)))))
  go_wp2_with fail
  go_ret
  exact ⟨rfl, below_drewN (Below.refl _ _) _⟩
end Go.Proofs.YtldeiiffabfmeaaGreatDoor
