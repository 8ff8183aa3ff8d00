/- The contracts of package check. -/
import Derived.Test.YtldeiiffabfmeaaGreatDoorA
set_option linter.unusedVariables false
set_option linter.unusedSimpArgs false
namespace Go.Proofs.YtldeiiffabfmeaaGreatDoor
open Go.RowKit

set_option maxHeartbeats 400000 in
theorem ranges_any (v : Value) (n : Nat) (f : Nat → Int) (w : World) (h : RdI w v 2 n f) :
    Calls Tryz.prog 118 #[v] w fun e w' => e = .returned (.bool (rangesB n f)) ∧ Below w.heap.size w w' := by
  obtain ⟨a, cap, rfl, hn, hc⟩ := h
  by_cases h3 : n ≤ 3
  · go_enter Tryz.func118, Tryz.ntmps118
    go_wp2
    go_loopw [10] (fun i wr => ∃ k : Nat, k ≤ n ∧ i = .int .i64 k ∧ allB (fun i => rangeB (f (2 * i)) (f (2 * i + 1))) k = true ∧ Below w.heap.size w wr) (fun i _ => n - (intOf i).toNat)
    case atStart => exact ⟨0, Nat.zero_le _, rfl, rfl, Below.refl _ _⟩
    case round =>
      obtain ⟨k, hk, rfl, hh, hbl⟩ := hrel
      by_cases hlt : k < n
      · obtain ⟨b, off, rfl, hb, hcell⟩ := hc (by omega)
        have hb' : b < wr.heap.size := Nat.lt_of_lt_of_le hb hbl.size
        have c0 : wr.cell? ⟨b, off + k * 2, none⟩ = some (.int .i64 (f (2 * k))) := by
          rw [hbl.cell (p := ⟨b, off + k * 2, none⟩) hb, hcell _ (by omega), Nat.mul_comm]
        have c1 : wr.cell? ⟨b, off + k * 2 + 1, none⟩ = some (.int .i64 (f (2 * k + 1))) := by
          rw [hbl.cell (p := ⟨b, off + k * 2 + 1, none⟩) hb, Nat.add_assoc, hcell _ (by omega), Nat.mul_comm]
        clear hc hcell
        have hno : rangeB (f (2 * k)) (f (2 * k + 1)) = false → rangesB n f = false := fun e => by
          simp [rangesB, allB_no (p := fun i => rangeB (f (2 * i)) (f (2 * i + 1))) hlt e]
        have hyes : rangeB (f (2 * k)) (f (2 * k + 1)) = true → allB (fun i => rangeB (f (2 * i)) (f (2 * i + 1))) (k + 1) = true := fun e => allB_step hh e
        generalize f (2 * k) = x at *
        generalize f (2 * k + 1) = y at *
        cases h1 : withinB x 0 99 with
        | false =>
          have hno' := hno (by simp [rangeB, h1])
          clear hno hyes
          go_wp2_with (go_at_call 143; refine (key_any _ _).mono ?_; rintro e w' ⟨rfl, rfl⟩)
          go_ret
          exact ⟨ret_bool hno'.symm, hbl.alloc hbl.size _⟩
        | true =>
          cases h2 : withinB y 0 99 with
          | false =>
            have hno' := hno (by simp [rangeB, h2])
            clear hno hyes
            go_wp2_with (go_at_call 143; refine (key_any _ _).mono ?_; rintro e w' ⟨rfl, rfl⟩)
            go_ret
            exact ⟨ret_bool hno'.symm, hbl.alloc hbl.size _⟩
          | true =>
            by_cases h4 : y < x
            · have hno' := hno (by simp [rangeB]; omega)
              clear hno hyes
              go_wp2_with (go_at_call 143; refine (key_any _ _).mono ?_; rintro e w' ⟨rfl, rfl⟩)
              go_ret
              exact ⟨ret_bool hno'.symm, hbl.alloc hbl.size _⟩
            · have hyes' := hyes (by simp [rangeB, h1, h2]; omega)
              clear hno hyes
              go_wp2_with (go_at_call 143; refine (key_any _ _).mono ?_; rintro e w' ⟨rfl, rfl⟩)
              go_roundw
              case rel => exact ⟨k + 1, by omega, by go_num, hyes', hbl.alloc hbl.size _⟩
              case measure => simp [intOf]; omega
      · go_wp2
        go_ret
        have : k = n := by omega
        subst this
        exact ⟨ret_bool (by simp [rangesB, hh, h3]), hbl⟩
  · go_enter Tryz.func118, Tryz.ntmps118
    go_wp2
    go_ret
    exact ⟨ret_bool (by simp [rangesB, h3]), Below.refl _ _⟩

set_option maxHeartbeats 400000 in
theorem bounds_any (v : Value) (n : Nat) (f : Nat → Int) (w : World) (h : RdI w v 1 n f) :
    Calls Tryz.prog 77 #[v] w fun e w' => e = .returned (.bool (boundsB n f)) ∧ w' = w := by
  obtain ⟨a, cap, rfl, hn, hc⟩ := h
  by_cases h3 : n ≤ 3
  · go_enter Tryz.func77, Tryz.ntmps77
    go_wp2
    go_loop [3, 11] (fun l i => ∃ k : Nat, k ≤ n ∧ i = .int .i64 k ∧ allB (risesB 1 f) k = true ∧ ∃ z : Int, l = .int .i64 z ∧ z = (match k with | 0 => 0 | j + 1 => f j) ∧ 0 ≤ z ∧ z ≤ 99) (fun _ i => n - (intOf i).toNat)
    case atStart => exact ⟨0, Nat.zero_le _, rfl, rfl, 0, rfl, rfl, by omega, by omega⟩
    case round =>
      obtain ⟨k, hk, rfl, hh, z, rfl, hz, hz0, hz1⟩ := hrel
      by_cases hlt : k < n
      · obtain ⟨b, off, rfl, hb, hcell⟩ := hc (by omega)
        simp only [Nat.mul_one] at hcell
        clear hc
        have hr : risesB 1 f k = withinB (f k) (z + 1) 99 := by
          rw [hz]; cases k <;> simp [risesB]
        clear hz
        cases hp : withinB (f k) (z + 1) 99 with
        | false =>
          have HR : Hid (_ = _) := hr
          clear hr
          go_wp2_with (go_at_call 78; refine (within_any _ _ _ _).mono ?_; rintro e w' ⟨rfl, rfl⟩)
          go_ret
          exact ⟨ret_bool (by simp [boundsB, allB_no hlt (HR.out.trans hp)]), rfl⟩
        | true =>
          have HR : Hid (_ = _) := hr
          clear hr
          go_wp2_with (go_at_call 78; refine (within_any _ _ _ _).mono ?_; rintro e w' ⟨rfl, rfl⟩)
          go_round
          case rel =>
            simp [withinB] at hp
            exact ⟨k + 1, by omega, by go_num, allB_step hh (HR.out.trans (by simp [withinB]; omega)), f k, rfl, rfl, by omega, by omega⟩
          case measure => simp [intOf]; omega
      · clear hz
        go_wp2
        go_ret
        have : k = n := by omega
        subst this
        exact ⟨ret_bool (by simp [boundsB, hh, h3]), rfl⟩
  · go_enter Tryz.func77, Tryz.ntmps77
    go_wp2
    go_ret
    exact ⟨ret_bool (by simp [boundsB, h3]), rfl⟩

set_option maxHeartbeats 400000 in
theorem config_any (v : Value) (n : Nat) (f : Nat → Int) (a b c : Int) (w : World) (h : RdI w v 1 n f) :
    Calls Tryz.prog 46 #[.agg #[v, .int .i64 a, .int .i64 b, .int .i64 c]] w fun e w' => e = .returned (.bool (configB n f a b c)) ∧ Below w.heap.size w w' := by
  have hr := h.alloc (.cells #[v, .int .i64 a, .int .i64 b, .int .i64 c] 24)
  cases h0 : boundsB n f <;> cases h1 : withinB a 1 8 <;> cases h2 : withinB b 1 8 <;> cases h3 : withinB c 1 4
  all_goals
    go_enter Tryz.func46, Tryz.ntmps46
    go_wp2_with (first | (go_at_call 77; refine (bounds_any _ n f _ hr).mono ?_; rintro e w' ⟨rfl, rfl⟩) | (go_at_call 78; refine (within_any _ _ _ _).mono ?_; rintro e w' ⟨rfl, rfl⟩))
    go_ret
    exact ⟨ret_bool (by simp [configB, h0, h1, h2, h3]), (Below.refl _ _).alloc (Nat.le_refl _) _⟩

end Go.Proofs.YtldeiiffabfmeaaGreatDoor
