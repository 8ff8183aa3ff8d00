/- The contract of orderlyref.ins. -/
import Derived.Test.YtldeiiffabfmeaaGreatDoorA
set_option linter.unusedVariables false
set_option linter.unusedSimpArgs false
namespace Go.Proofs.YtldeiiffabfmeaaGreatDoor
open Go.RowKit

set_option maxHeartbeats 4000000 in
theorem rins_any (va vb vc vd : Value) (t : TxnD) (k : Nat) (hk : k < t.nc) (w : World) (h : RdT w va vb vc vd t) :
    Calls Tryz.prog 121 #[.agg #[va, vb, vc, vd], .int .i64 k] w fun e w' => e = .returned (.bool (insB t k)) ∧ Below w.heap.size w w' := by
  obtain ⟨hr, hw, hg, hc⟩ := h
  obtain ⟨ac, capc, rfl, hnc, hc⟩ := hc
  obtain ⟨b, off, rfl, hb, hcell⟩ := hc (by omega)
  obtain ⟨ag, capg, rfl, hng, hg⟩ := hg
  have c0 : w.cell? ⟨b, off + k * 4, none⟩ = some (.int .i64 (t.c (4 * k))) := by rw [hcell _ (by omega), Nat.mul_comm]
  have c1 : w.cell? ⟨b, off + k * 4 + 1, none⟩ = some (.int .i64 (t.c (4 * k + 1))) := by rw [Nat.add_assoc, hcell _ (by omega), Nat.mul_comm]
  have c2 : w.cell? ⟨b, off + k * 4 + 2, none⟩ = some (.int .i64 (t.c (4 * k + 2))) := by rw [Nat.add_assoc, hcell _ (by omega), Nat.mul_comm]
  have c3 : w.cell? ⟨b, off + k * 4 + 3, none⟩ = some (.int .i64 (t.c (4 * k + 3))) := by rw [Nat.add_assoc, hcell _ (by omega), Nat.mul_comm]
  clear hcell hc hg
  unfold insB
  generalize t.c (4 * k) = K at *
  generalize t.c (4 * k + 1) = A at *
  generalize t.c (4 * k + 2) = B at *
  generalize t.c (4 * k + 3) = C at *
  have hr2 := (hr.alloc (.cells #[va, vb, .slice ag t.ng capg, .slice (some ⟨b, off, none⟩) t.nc capc] 91)).alloc (.cells #[.int .i64 K, .int .i64 A, .int .i64 B, .int .i64 C] 161)
  have hw2 := (hw.alloc (.cells #[va, vb, .slice ag t.ng capg, .slice (some ⟨b, off, none⟩) t.nc capc] 91)).alloc (.cells #[.int .i64 K, .int .i64 A, .int .i64 B, .int .i64 C] 161)
  have hbl : ∀ o1 o2, Below w.heap.size w ((w.alloc o1).alloc o2) := fun o1 o2 => ((Below.refl _ _).alloc (Nat.le_refl _) _).alloc (by simp) _
  by_cases k1 : K = 1
  · subst k1
    all_goals
      go_enter Tryz.func121, Tryz.ntmps121
      go_wp2_with (first | (go_at_call 145; refine (reg_any _ _).mono ?_; rintro e w' ⟨rfl, rfl⟩) | (go_at_call_of 146 (va); refine (has_any _ t.nr t.r _ _ hr2).mono ?_; rintro e w' ⟨rfl, rfl⟩) | (go_at_call_of 146 (vb); refine (has_any _ t.nw t.wr _ _ hw2).mono ?_; rintro e w' ⟨rfl, rfl⟩))
      go_ret
      exact ⟨ret_bool (by simp [insV]), hbl _ _⟩
  by_cases k2 : K = 2
  · subst k2
    cases h1 : withinB A 0 3 <;> cases h2 : hasB t.nr t.r B
    all_goals
      go_enter Tryz.func121, Tryz.ntmps121
      go_wp2_with (first | (go_at_call 145; refine (reg_any _ _).mono ?_; rintro e w' ⟨rfl, rfl⟩) | (go_at_call_of 146 (va); refine (has_any _ t.nr t.r _ _ hr2).mono ?_; rintro e w' ⟨rfl, rfl⟩) | (go_at_call_of 146 (vb); refine (has_any _ t.nw t.wr _ _ hw2).mono ?_; rintro e w' ⟨rfl, rfl⟩))
      go_ret
      exact ⟨ret_bool (by simp [insV, h1, h2]), hbl _ _⟩
  by_cases k3 : K = 3
  · subst k3
    cases h1 : withinB B 0 3
    all_goals
      go_enter Tryz.func121, Tryz.ntmps121
      go_wp2_with (first | (go_at_call 145; refine (reg_any _ _).mono ?_; rintro e w' ⟨rfl, rfl⟩) | (go_at_call_of 146 (va); refine (has_any _ t.nr t.r _ _ hr2).mono ?_; rintro e w' ⟨rfl, rfl⟩) | (go_at_call_of 146 (vb); refine (has_any _ t.nw t.wr _ _ hw2).mono ?_; rintro e w' ⟨rfl, rfl⟩))
      go_ret
      exact ⟨ret_bool (by simp [insV, h1]), hbl _ _⟩
  by_cases k4 : K = 4
  · subst k4
    all_goals
      go_enter Tryz.func121, Tryz.ntmps121
      go_wp2_with (first | (go_at_call 145; refine (reg_any _ _).mono ?_; rintro e w' ⟨rfl, rfl⟩) | (go_at_call_of 146 (va); refine (has_any _ t.nr t.r _ _ hr2).mono ?_; rintro e w' ⟨rfl, rfl⟩) | (go_at_call_of 146 (vb); refine (has_any _ t.nw t.wr _ _ hw2).mono ?_; rintro e w' ⟨rfl, rfl⟩))
      go_ret
      exact ⟨ret_bool (by simp [insV]), hbl _ _⟩
  by_cases k5 : K = 5
  · subst k5
    cases h1 : withinB A 0 3
    · go_enter Tryz.func121, Tryz.ntmps121
      go_wp2_with (first | (go_at_call 145; refine (reg_any _ _).mono ?_; rintro e w' ⟨rfl, rfl⟩) | (go_at_call_of 146 (va); refine (has_any _ t.nr t.r _ _ hr2).mono ?_; rintro e w' ⟨rfl, rfl⟩) | (go_at_call_of 146 (vb); refine (has_any _ t.nw t.wr _ _ hw2).mono ?_; rintro e w' ⟨rfl, rfl⟩))
      go_ret
      exact ⟨ret_bool (by simp [insV, h1]), hbl _ _⟩
    · by_cases h2 : 0 ≤ B
      · go_enter Tryz.func121, Tryz.ntmps121
        go_wp2_with (first | (go_at_call 145; refine (reg_any _ _).mono ?_; rintro e w' ⟨rfl, rfl⟩) | (go_at_call_of 146 (va); refine (has_any _ t.nr t.r _ _ hr2).mono ?_; rintro e w' ⟨rfl, rfl⟩) | (go_at_call_of 146 (vb); refine (has_any _ t.nw t.wr _ _ hw2).mono ?_; rintro e w' ⟨rfl, rfl⟩))
        go_ret
        refine ⟨ret_bool ?_, hbl _ _⟩
        have e : withinB B 0 ((t.ng : Int) - 1) = decide (B < (t.ng : Int)) := by
          rw [withinB, decide_eq_true h2, Bool.true_and, decide_eq_decide]; omega
        simp [insV, h1, e]
      · have h2' : decide (0 ≤ B) = false := by simpa using h2
        go_enter Tryz.func121, Tryz.ntmps121
        go_wp2_with (first | (go_at_call 145; refine (reg_any _ _).mono ?_; rintro e w' ⟨rfl, rfl⟩) | (go_at_call_of 146 (va); refine (has_any _ t.nr t.r _ _ hr2).mono ?_; rintro e w' ⟨rfl, rfl⟩) | (go_at_call_of 146 (vb); refine (has_any _ t.nw t.wr _ _ hw2).mono ?_; rintro e w' ⟨rfl, rfl⟩))
        go_ret
        exact ⟨ret_bool (by simp [insV, h1, withinB, h2']), hbl _ _⟩
  by_cases k6 : K = 6
  · subst k6
    cases h1 : withinB A 0 3
    · go_enter Tryz.func121, Tryz.ntmps121
      go_wp2_with (first | (go_at_call 145; refine (reg_any _ _).mono ?_; rintro e w' ⟨rfl, rfl⟩) | (go_at_call_of 146 (va); refine (has_any _ t.nr t.r _ _ hr2).mono ?_; rintro e w' ⟨rfl, rfl⟩) | (go_at_call_of 146 (vb); refine (has_any _ t.nw t.wr _ _ hw2).mono ?_; rintro e w' ⟨rfl, rfl⟩))
      go_ret
      exact ⟨ret_bool (by simp [insV, h1]), hbl _ _⟩
    · by_cases h2 : 0 ≤ B
      · go_enter Tryz.func121, Tryz.ntmps121
        go_wp2_with (first | (go_at_call 145; refine (reg_any _ _).mono ?_; rintro e w' ⟨rfl, rfl⟩) | (go_at_call_of 146 (va); refine (has_any _ t.nr t.r _ _ hr2).mono ?_; rintro e w' ⟨rfl, rfl⟩) | (go_at_call_of 146 (vb); refine (has_any _ t.nw t.wr _ _ hw2).mono ?_; rintro e w' ⟨rfl, rfl⟩))
        go_ret
        refine ⟨ret_bool ?_, hbl _ _⟩
        have e : withinB B 0 ((t.ng : Int) - 1) = decide (B < (t.ng : Int)) := by
          rw [withinB, decide_eq_true h2, Bool.true_and, decide_eq_decide]; omega
        simp [insV, h1, e]
      · have h2' : decide (0 ≤ B) = false := by simpa using h2
        go_enter Tryz.func121, Tryz.ntmps121
        go_wp2_with (first | (go_at_call 145; refine (reg_any _ _).mono ?_; rintro e w' ⟨rfl, rfl⟩) | (go_at_call_of 146 (va); refine (has_any _ t.nr t.r _ _ hr2).mono ?_; rintro e w' ⟨rfl, rfl⟩) | (go_at_call_of 146 (vb); refine (has_any _ t.nw t.wr _ _ hw2).mono ?_; rintro e w' ⟨rfl, rfl⟩))
        go_ret
        exact ⟨ret_bool (by simp [insV, h1, withinB, h2']), hbl _ _⟩
  by_cases k7 : K = 7
  · subst k7
    cases h1 : withinB A 0 3 <;> cases h2 : withinB B 0 3
    all_goals
      go_enter Tryz.func121, Tryz.ntmps121
      go_wp2_with (first | (go_at_call 145; refine (reg_any _ _).mono ?_; rintro e w' ⟨rfl, rfl⟩) | (go_at_call_of 146 (va); refine (has_any _ t.nr t.r _ _ hr2).mono ?_; rintro e w' ⟨rfl, rfl⟩) | (go_at_call_of 146 (vb); refine (has_any _ t.nw t.wr _ _ hw2).mono ?_; rintro e w' ⟨rfl, rfl⟩))
      go_ret
      exact ⟨ret_bool (by simp [insV, h1, h2]), hbl _ _⟩
  by_cases k8 : K = 8
  · subst k8
    cases h1 : withinB A 0 3 <;> cases h2 : withinB B 0 3
    all_goals
      go_enter Tryz.func121, Tryz.ntmps121
      go_wp2_with (first | (go_at_call 145; refine (reg_any _ _).mono ?_; rintro e w' ⟨rfl, rfl⟩) | (go_at_call_of 146 (va); refine (has_any _ t.nr t.r _ _ hr2).mono ?_; rintro e w' ⟨rfl, rfl⟩) | (go_at_call_of 146 (vb); refine (has_any _ t.nw t.wr _ _ hw2).mono ?_; rintro e w' ⟨rfl, rfl⟩))
      go_ret
      exact ⟨ret_bool (by simp [insV, h1, h2]), hbl _ _⟩
  by_cases k9 : K = 9
  · subst k9
    cases h1 : withinB A 0 3 <;> cases h2 : withinB B 0 3
    · go_enter Tryz.func121, Tryz.ntmps121
      go_wp2_with (first | (go_at_call 145; refine (reg_any _ _).mono ?_; rintro e w' ⟨rfl, rfl⟩) | (go_at_call_of 146 (va); refine (has_any _ t.nr t.r _ _ hr2).mono ?_; rintro e w' ⟨rfl, rfl⟩) | (go_at_call_of 146 (vb); refine (has_any _ t.nw t.wr _ _ hw2).mono ?_; rintro e w' ⟨rfl, rfl⟩))
      go_ret
      exact ⟨ret_bool (by simp [insV, h1, h2]), hbl _ _⟩
    · go_enter Tryz.func121, Tryz.ntmps121
      go_wp2_with (first | (go_at_call 145; refine (reg_any _ _).mono ?_; rintro e w' ⟨rfl, rfl⟩) | (go_at_call_of 146 (va); refine (has_any _ t.nr t.r _ _ hr2).mono ?_; rintro e w' ⟨rfl, rfl⟩) | (go_at_call_of 146 (vb); refine (has_any _ t.nw t.wr _ _ hw2).mono ?_; rintro e w' ⟨rfl, rfl⟩))
      go_ret
      exact ⟨ret_bool (by simp [insV, h1, h2]), hbl _ _⟩
    · go_enter Tryz.func121, Tryz.ntmps121
      go_wp2_with (first | (go_at_call 145; refine (reg_any _ _).mono ?_; rintro e w' ⟨rfl, rfl⟩) | (go_at_call_of 146 (va); refine (has_any _ t.nr t.r _ _ hr2).mono ?_; rintro e w' ⟨rfl, rfl⟩) | (go_at_call_of 146 (vb); refine (has_any _ t.nw t.wr _ _ hw2).mono ?_; rintro e w' ⟨rfl, rfl⟩))
      go_ret
      exact ⟨ret_bool (by simp [insV, h1, h2]), hbl _ _⟩
    · by_cases h3 : (k : Int) < C
      · go_enter Tryz.func121, Tryz.ntmps121
        go_wp2_with (first | (go_at_call 145; refine (reg_any _ _).mono ?_; rintro e w' ⟨rfl, rfl⟩) | (go_at_call_of 146 (va); refine (has_any _ t.nr t.r _ _ hr2).mono ?_; rintro e w' ⟨rfl, rfl⟩) | (go_at_call_of 146 (vb); refine (has_any _ t.nw t.wr _ _ hw2).mono ?_; rintro e w' ⟨rfl, rfl⟩))
        go_ret
        refine ⟨ret_bool ?_, hbl _ _⟩
        have e : withinB C ((k : Int) + 1) t.nc = decide (C ≤ (t.nc : Int)) := by
          rw [withinB, decide_eq_true (by omega), Bool.true_and]
        simp [insV, h1, h2, e]
      · have h3' : decide ((k : Int) < C) = false := by simpa using h3
        go_enter Tryz.func121, Tryz.ntmps121
        go_wp2_with (first | (go_at_call 145; refine (reg_any _ _).mono ?_; rintro e w' ⟨rfl, rfl⟩) | (go_at_call_of 146 (va); refine (has_any _ t.nr t.r _ _ hr2).mono ?_; rintro e w' ⟨rfl, rfl⟩) | (go_at_call_of 146 (vb); refine (has_any _ t.nw t.wr _ _ hw2).mono ?_; rintro e w' ⟨rfl, rfl⟩))
        go_ret
        refine ⟨ret_bool ?_, hbl _ _⟩
        have e : withinB C ((k : Int) + 1) t.nc = false := by
          rw [withinB, decide_eq_false (by omega), Bool.false_and]
        simp [insV, h1, h2, e]
  have hd : insV K A B C t k = (K == 10) := by simp [insV, *]
  go_enter Tryz.func121, Tryz.ntmps121
  go_wp2_with (first | (go_at_call 145; refine (reg_any _ _).mono ?_; rintro e w' ⟨rfl, rfl⟩) | (go_at_call_of 146 (va); refine (has_any _ t.nr t.r _ _ hr2).mono ?_; rintro e w' ⟨rfl, rfl⟩) | (go_at_call_of 146 (vb); refine (has_any _ t.nw t.wr _ _ hw2).mono ?_; rintro e w' ⟨rfl, rfl⟩))
  go_ret
  exact ⟨ret_bool hd.symm, hbl _ _⟩
end Go.Proofs.YtldeiiffabfmeaaGreatDoor
