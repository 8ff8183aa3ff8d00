/- The contracts of the leaves: tests on numbers and on lists of numbers. -/
import Derived.Test.YtldeiiffabfmeaaGreatDoorProg
import Derived.Test.YtldeiiffabfmeaaGreatDoorS
import Derived.WalkKit
import Derived.WalkSpells
import Derived.WalkLawsBesides
import Derived.Deep.QuietTactic
import Derived.BigQuiet
import Derived.Deep.RegionWith
set_option linter.unusedVariables false
set_option linter.unusedSimpArgs false
namespace Go.Proofs.YtldeiiffabfmeaaGreatDoor
open Go.RowKit

set_option maxHeartbeats 400000 in
theorem within_any (n lo hi : Int) (w : World) :
    Calls Tryz.prog 78 #[.int .i64 n, .int .i64 lo, .int .i64 hi] w fun e w' => e = .returned (.bool (withinB n lo hi)) ∧ w' = w := by
  by_cases h : lo ≤ n
  · go_enter Tryz.func78, Tryz.ntmps78
    go_wp2
    go_ret
    simp [h, withinB]
  · have hd : decide (lo ≤ n) = false := by simpa using h
    go_enter Tryz.func78, Tryz.ntmps78
    go_wp2
    go_ret
    simp [hd, withinB]

set_option maxHeartbeats 400000 in
theorem key_any (n : Int) (w : World) :
    Calls Tryz.prog 143 #[.int .i64 n] w fun e w' => e = .returned (.bool (withinB n 0 99)) ∧ w' = w := by
  go_enter Tryz.func143, Tryz.ntmps143
  go_wp2_with (go_at_call 78; refine (within_any _ _ _ _).mono ?_; rintro e w' ⟨rfl, rfl⟩)
  go_ret
  exact ⟨rfl, rfl⟩

set_option maxHeartbeats 400000 in
theorem register_any (n : Int) (w : World) :
    Calls Tryz.prog 172 #[.int .i64 n] w fun e w' => e = .returned (.bool (withinB n 0 3)) ∧ w' = w := by
  go_enter Tryz.func172, Tryz.ntmps172
  go_wp2_with (go_at_call 78; refine (within_any _ _ _ _).mono ?_; rintro e w' ⟨rfl, rfl⟩)
  go_ret
  exact ⟨rfl, rfl⟩

set_option maxHeartbeats 400000 in
theorem reg_any (n : Int) (w : World) :
    Calls Tryz.prog 145 #[.int .i64 n] w fun e w' => e = .returned (.bool (withinB n 0 3)) ∧ w' = w := by
  by_cases h : 0 ≤ n
  · go_enter Tryz.func145, Tryz.ntmps145
    go_wp2
    go_ret
    simp [h, withinB]
  · have hd : decide (0 ≤ n) = false := by simpa using h
    go_enter Tryz.func145, Tryz.ntmps145
    go_wp2
    go_ret
    simp [hd, withinB]

set_option maxHeartbeats 400000 in
theorem has_any (v : Value) (n : Nat) (f : Nat → Int) (x : Int) (w : World) (h : RdI w v 1 n f) :
    Calls Tryz.prog 146 #[v, .int .i64 x] w fun e w' => e = .returned (.bool (hasB n f x)) ∧ w' = w := by
  obtain ⟨a, cap, rfl, hn, hc⟩ := h
  go_enter Tryz.func146, Tryz.ntmps146
  go_wp2
  go_loop [5] (fun i => ∃ k : Nat, k ≤ n ∧ i = .int .i64 k ∧ hasB k f x = false) (fun i => n - (intOf i).toNat)
  case atStart => exact ⟨0, Nat.zero_le _, rfl, rfl⟩
  case round =>
    obtain ⟨k, hk, rfl, hh⟩ := hrel
    by_cases hlt : k < n
    · obtain ⟨b, off, rfl, hb, hcell⟩ := hc (by omega)
      simp only [Nat.mul_one] at hcell
      clear hc
      go_wp2
      · go_ret
        exact ⟨ret_bool (anyB_yes hlt ‹_›).symm, rfl⟩
      · go_round
        case rel => exact ⟨k + 1, by omega, by go_num, anyB_step hh ‹_›⟩
        case measure => simp [intOf]; omega
    · go_wp2
      go_ret
      have : k = n := by omega
      subst this
      exact ⟨ret_bool hh.symm, rfl⟩

theorem eqb_comm_true {x y : Int} (h : (x == y) = true) : (y == x) = true := by rw [beq_iff_eq] at *; exact h.symm
theorem eqb_comm_false {x y : Int} (h : (x == y) = false) : (y == x) = false := by
  rw [beq_eq_false_iff_ne] at *; exact fun e => h e.symm

set_option maxHeartbeats 400000 in
theorem index_any (v : Value) (n : Nat) (f : Nat → Int) (x : Int) (w : World) (h : RdI w v 1 n f) :
    Calls Tryz.prog 148 #[v, .int .i64 x] w fun e w' => ∃ r : Int, e = .returned (.int .i64 r) ∧ decide (0 ≤ r) = hasB n f x ∧ w' = w := by
  obtain ⟨a, cap, rfl, hn, hc⟩ := h
  go_enter Tryz.func148, Tryz.ntmps148
  go_wp2
  go_loop [8] (fun i => ∃ k : Nat, k ≤ n ∧ i = .int .i64 k ∧ hasB k f x = false) (fun i => n - (intOf i).toNat)
  case atStart => exact ⟨0, Nat.zero_le _, rfl, rfl⟩
  case round =>
    obtain ⟨k, hk, rfl, hh⟩ := hrel
    by_cases hlt : k < n
    · obtain ⟨b, off, rfl, hb, hcell⟩ := hc (by omega)
      simp only [Nat.mul_one] at hcell
      clear hc
      go_wp2
      · go_ret
        refine ⟨k, rfl, ?_, rfl⟩
        rw [show hasB n f x = true from anyB_yes hlt (eqb_comm_true ‹(x == f k) = true›)]
        simp
      · go_round
        case rel => exact ⟨k + 1, by omega, by go_num, anyB_step hh (eqb_comm_false ‹(x == f k) = false›)⟩
        case measure => simp [intOf]; omega
    · go_wp2
      go_ret
      have : k = n := by omega
      subst this
      refine ⟨-1, rfl, ?_, rfl⟩
      rw [hh]
      rfl

set_option maxHeartbeats 400000 in
theorem contains_any (v : Value) (n : Nat) (f : Nat → Int) (x : Int) (w : World) (h : RdI w v 1 n f) :
    Calls Tryz.prog 128 #[v, .int .i64 x] w fun e w' => e = .returned (.bool (hasB n f x)) ∧ w' = w := by
  go_enter Tryz.func128, Tryz.ntmps128
  go_wp2_with (go_at_call 148; refine (index_any _ n f _ _ h).mono ?_; rintro e w' ⟨r, rfl, hr, rfl⟩; have HR : Hid (_ = _) := hr; clear hr)
  go_ret
  exact ⟨ret_bool HR.out, rfl⟩

set_option maxHeartbeats 400000 in
theorem ckeys_any (v : Value) (n : Nat) (f : Nat → Int) (w : World) (h : RdI w v 1 n f) :
    Calls Tryz.prog 117 #[v] w fun e w' => e = .returned (.bool (keysB n f)) ∧ w' = w := by
  obtain ⟨a, cap, rfl, hn, hc⟩ := h
  by_cases h6 : n ≤ 6
  · go_enter Tryz.func117, Tryz.ntmps117
    go_wp2
    go_loop [10] (fun i => ∃ k : Nat, k ≤ n ∧ i = .int .i64 k ∧ allB (fun i => withinB (f i) 0 99) k = true) (fun i => n - (intOf i).toNat)
    case atStart => exact ⟨0, Nat.zero_le _, rfl, rfl⟩
    case round =>
      obtain ⟨k, hk, rfl, hh⟩ := hrel
      by_cases hlt : k < n
      · obtain ⟨b, off, rfl, hb, hcell⟩ := hc (by omega)
        simp only [Nat.mul_one] at hcell
        clear hc
        cases hp : withinB (f k) 0 99 with
        | false =>
          go_wp2_with (go_at_call 143; refine (key_any _ _).mono ?_; rintro e w' ⟨rfl, rfl⟩)
          go_ret
          exact ⟨ret_bool (by simp [keysB, allB_no (p := fun i => withinB (f i) 0 99) hlt hp]), rfl⟩
        | true =>
          go_wp2_with (go_at_call 143; refine (key_any _ _).mono ?_; rintro e w' ⟨rfl, rfl⟩)
          go_round
          case rel => exact ⟨k + 1, by omega, by go_num, allB_step hh hp⟩
          case measure => simp [intOf]; omega
      · go_wp2
        go_ret
        have : k = n := by omega
        subst this
        exact ⟨ret_bool (by simp [keysB, hh, h6]), rfl⟩
  · go_enter Tryz.func117, Tryz.ntmps117
    go_wp2
    go_ret
    exact ⟨ret_bool (by simp [keysB, h6]), rfl⟩

set_option maxHeartbeats 400000 in
theorem rkeys_any (v : Value) (n : Nat) (f : Nat → Int) (w : World) (h : RdI w v 1 n f) :
    Calls Tryz.prog 120 #[v] w fun e w' => e = .returned (.bool (keysB n f)) ∧ w' = w := by
  obtain ⟨a, cap, rfl, hn, hc⟩ := h
  go_enter Tryz.func120, Tryz.ntmps120
  go_wp2
  go_loop [3] (fun i => ∃ k : Nat, k ≤ n ∧ i = .int .i64 k ∧ allB (fun i => withinB (f i) 0 99) k = true) (fun i => n - (intOf i).toNat)
  case atStart => exact ⟨0, Nat.zero_le _, rfl, rfl⟩
  case round =>
    obtain ⟨k, hk, rfl, hh⟩ := hrel
    by_cases hlt : k < n
    · obtain ⟨b, off, rfl, hb, hcell⟩ := hc (by omega)
      simp only [Nat.mul_one] at hcell
      clear hc
      by_cases h1 : f k < 0
      · have hp : withinB (f k) 0 99 = false := by simp [withinB]; omega
        go_wp2
        go_ret
        exact ⟨ret_bool (by simp [keysB, allB_no (p := fun i => withinB (f i) 0 99) hlt hp]), rfl⟩
      · by_cases h2 : 99 < f k
        · have hp : withinB (f k) 0 99 = false := by simp [withinB]; omega
          have hd : decide (f k < 0) = false := by simpa using h1
          go_wp2
          go_ret
          exact ⟨ret_bool (by simp [keysB, allB_no (p := fun i => withinB (f i) 0 99) hlt hp]), rfl⟩
        · have hp : withinB (f k) 0 99 = true := by simp [withinB]; omega
          have hd : decide (f k < 0) = false := by simpa using h1
          go_wp2
          go_round
          case rel => exact ⟨k + 1, by omega, by go_num, allB_step hh hp⟩
          case measure => simp [intOf]; omega
    · go_wp2
      go_ret
      have : k = n := by omega
      subst this
      refine ⟨ret_bool ?_, rfl⟩
      simp [keysB, hh]
      omega
end Go.Proofs.YtldeiiffabfmeaaGreatDoor
