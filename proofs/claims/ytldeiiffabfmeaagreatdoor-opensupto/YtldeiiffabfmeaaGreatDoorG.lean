/- The contract of orderlyref.Check. -/
import Derived.Test.YtldeiiffabfmeaaGreatDoorF
set_option linter.unusedVariables false
set_option linter.unusedSimpArgs false
namespace Go.Proofs.YtldeiiffabfmeaaGreatDoor
open Go.RowKit

theorem newAt_config {nb : Nat} {fb : Nat → Int} {a b c : Int} (h : configB nb fb a b c = false) (nl : Nat) (ts : Nat → TxnD) (ns : Nat) (fs : Nat → Int) : newAt nb fb a b c nl ts ns fs = (1, 0) := by
  unfold newAt; rw [if_neg (by simp [h])]

theorem rises_ge {lo : Int} {f : Nat → Int} : ∀ {k : Nat}, allB (risesB lo f) k = true → ∀ j, j < k → lo ≤ f j ∧ f j ≤ 99
  | 0, _, j, hj => by omega
  | k + 1, h, j, hj => by
    have h1 : allB (risesB lo f) k = true := by simp [allB] at h; exact h.1
    have h2 : risesB lo f k = true := allB_at h (by omega)
    by_cases e : j = k
    · subst e
      cases j with
      | zero => simp [risesB, withinB] at h2; omega
      | succ i => have := rises_ge h1 i (by omega); simp [risesB, withinB] at h2; omega
    · exact rises_ge h1 j (by omega)
theorem rises_lo {lo : Int} {f : Nat → Int} {k : Nat} (h : allB (risesB lo f) k = true) (e : f k < lo) : risesB lo f k = false := by
  cases k with
  | zero => simp [risesB, withinB]; omega
  | succ j => have := rises_ge h j (by omega); simp [risesB, withinB]; omega
theorem rises_hi {lo : Int} {f : Nat → Int} {k : Nat} (e : 99 < f k) : risesB lo f k = false := by
  simp [risesB, withinB]; omega
theorem rises_zero {lo : Int} {f : Nat → Int} (e : ¬ f 0 < lo) (e' : ¬ 99 < f 0) : risesB lo f 0 = true := by
  simp [risesB, withinB]; omega
theorem rises_le {lo : Int} {f : Nat → Int} {j : Nat} (e : f (j + 1) ≤ f j) : risesB lo f (j + 1) = false := by
  simp [risesB, withinB]; omega
theorem rises_gt {lo : Int} {f : Nat → Int} {j : Nat} (e : ¬ f (j + 1) ≤ f j) (e' : ¬ 99 < f (j + 1)) : risesB lo f (j + 1) = true := by
  simp [risesB, withinB]; omega

set_option maxRecDepth 20000 in
set_option maxHeartbeats 4000000 in
theorem rcheck_any (vB vL vS : Value) (nb : Nat) (fb : Nat → Int) (a b c : Int) (nl : Nat) (ts : Nat → TxnD) (ns : Nat) (fs : Nat → Int) (w : World)
    (hB : RdI w vB 1 nb fb) (hL : RdL w vL nl ts) (hS : RdI w vS 2 ns fs) :
    Calls Tryz.prog 51 #[.agg #[vB, .int .i64 a, .int .i64 b, .int .i64 c], vL, vS] w fun e w' =>
      e = .returned (.tuple #[.int .i64 ((newAt nb fb a b c nl ts ns fs).1 : Nat), .int .i64 ((newAt nb fb a b c nl ts ns fs).2 : Nat)]) ∧ Below w.heap.size w w' := by
  obtain ⟨aB, capB, rfl, hnb, hcB⟩ := hB
  have hb0 : ∀ o, Below w.heap.size w (w.alloc o) := fun o => (Below.refl _ _).alloc (Nat.le_refl _) _
  by_cases hnum : nb ≤ 3 ∧ 1 ≤ a ∧ a ≤ 8 ∧ 1 ≤ b ∧ b ≤ 8 ∧ 1 ≤ c ∧ c ≤ 4
  case neg =>
    have hno : Hid (newAt nb fb a b c nl ts ns fs = (1, 0)) := newAt_config (by
      cases e : configB nb fb a b c with
      | false => rfl
      | true =>
        simp [configB, boundsB, withinB] at e
        exact absurd ⟨e.1.1.1.1, e.1.1.2.1, e.1.1.2.2, e.1.2.1, e.1.2.2, e.2.1, e.2.2⟩ hnum) _ _ _ _
    have key : ∀ e : Ending, e = .returned (.tuple #[.int .i64 1, .int .i64 0]) → e = .returned (.tuple #[.int .i64 ((newAt nb fb a b c nl ts ns fs).1 : Nat), .int .i64 ((newAt nb fb a b c nl ts ns fs).2 : Nat)]) := by
      intro e he; rw [he, hno.out]; rfl
    by_cases g1 : 3 < nb
    · go_enter Tryz.func51, Tryz.ntmps51
      go_wp2
      go_ret2
      exact ⟨key _ rfl, hb0 _⟩
    have g1' : decide (3 < (nb : Int)) = false := by simp; omega
    by_cases g2 : a < 1
    · go_enter Tryz.func51, Tryz.ntmps51
      go_wp2
      go_ret2
      exact ⟨key _ rfl, hb0 _⟩
    have g2' : decide (a < 1) = false := by simpa using g2
    by_cases g3 : 8 < a
    · go_enter Tryz.func51, Tryz.ntmps51
      go_wp2
      go_ret2
      exact ⟨key _ rfl, hb0 _⟩
    have g3' : decide (8 < a) = false := by simpa using g3
    by_cases g4 : b < 1
    · go_enter Tryz.func51, Tryz.ntmps51
      go_wp2
      go_ret2
      exact ⟨key _ rfl, hb0 _⟩
    have g4' : decide (b < 1) = false := by simpa using g4
    by_cases g5 : 8 < b
    · go_enter Tryz.func51, Tryz.ntmps51
      go_wp2
      go_ret2
      exact ⟨key _ rfl, hb0 _⟩
    have g5' : decide (8 < b) = false := by simpa using g5
    by_cases g6 : c < 1
    · go_enter Tryz.func51, Tryz.ntmps51
      go_wp2
      go_ret2
      exact ⟨key _ rfl, hb0 _⟩
    have g6' : decide (c < 1) = false := by simpa using g6
    have g7 : 4 < c := by omega
    clear hnum
    go_enter Tryz.func51, Tryz.ntmps51
    go_wp2
    go_ret2
    exact ⟨key _ rfl, hb0 _⟩
  case pos =>
    obtain ⟨h1, h2, h3, h4, h5, h6, h7⟩ := hnum
    have g1' : decide (3 < (nb : Int)) = false := by simp; omega
    have g2' : decide (a < 1) = false := by simp; omega
    have g3' : decide (8 < a) = false := by simp; omega
    have g4' : decide (b < 1) = false := by simp; omega
    have g5' : decide (8 < b) = false := by simp; omega
    have g6' : decide (c < 1) = false := by simp; omega
    have g7' : decide (4 < c) = false := by simp; omega
    go_enter Tryz.func51, Tryz.ntmps51
    go_wp2
    go_loopw [8] (fun i wr => ∃ k : Nat, k ≤ nb ∧ i = .int .i64 k ∧ allB (risesB 1 fb) k = true ∧ Below (w.heap.size + 1) (w.alloc (.cells #[.slice aB nb capB, .int .i64 a, .int .i64 b, .int .i64 c] 24)) wr) (fun i _ => nb - (intOf i).toNat)
    case atStart => exact ⟨0, Nat.zero_le _, rfl, rfl, Below.refl _ _⟩
    case round =>
      obtain ⟨k, hk, rfl, hh, hbl⟩ := hrel
      have hbw : Below w.heap.size w wr := ((Below.refl _ _).alloc (Nat.le_refl _) _).trans (hbl.mono (by omega))
      have d0 : wr.cell? ⟨w.heap.size, 0, none⟩ = some (.slice aB nb capB) := by rw [hbl.cell (p := ⟨w.heap.size, 0, none⟩) (by simp)]; simp
      have hz : w.heap.size + 1 ≤ wr.heap.size := by have := hbl.size; simpa using this
      by_cases hlt : k < nb
      · obtain ⟨bb, off, rfl, hb, hcell⟩ := hcB (by omega)
        have c0 : wr.cell? ⟨bb, off + k, none⟩ = some (.int .i64 (fb k)) := by
          rw [hbw.cell (p := ⟨bb, off + k, none⟩) hb, hcell _ (by omega)]
        have hno : risesB 1 fb k = false → Hid (newAt nb fb a b c nl ts ns fs = (1, 0)) := fun e => newAt_config (by simp [configB, boundsB, allB_no hlt e]) _ _ _ _
        have hyes : risesB 1 fb k = true → allB (risesB 1 fb) (k + 1) = true := fun e => allB_step hh e
        have key : Hid (newAt nb fb a b c nl ts ns fs = (1, 0)) → ∀ e : Ending, e = .returned (.tuple #[.int .i64 1, .int .i64 0]) → e = .returned (.tuple #[.int .i64 ((newAt nb fb a b c nl ts ns fs).1 : Nat), .int .i64 ((newAt nb fb a b c nl ts ns fs).2 : Nat)]) := by
          intro hno e he; rw [he, hno.out]; rfl
        by_cases e1 : fb k < 1
        · have hno' := key (hno (rises_lo hh e1))
          clear hno hyes key
          go_wp2_with fail
          go_quiet (fail)
          go_wp2_with fail
          go_ret2
          exact ⟨hno' _ rfl, below_drewN hbw _⟩
        have e1' : decide (fb k < 1) = false := by simpa using e1
        by_cases e2 : 99 < fb k
        · have hno' := key (hno (rises_hi e2))
          clear hno hyes key
          go_wp2_with fail
          go_quiet (fail)
          go_wp2_with fail
          go_ret2
          exact ⟨hno' _ rfl, below_drewN hbw _⟩
        have e2' : decide (99 < fb k) = false := by simpa using e2
        by_cases k0 : k = 0
        · have hyes' := hyes (by subst k0; exact rises_zero e1 e2)
          have e0 : decide ((0 : Int) < k) = false := by simp; omega
          have e0' : decide (0 < k) = false := by simp; omega
          have hk1 : k + 1 ≤ nb := hlt
          clear hno hyes key k0
          go_wp2_with fail
          go_quiet (fail)
          go_wp2_with fail
          go_roundw
          case rel => exact ⟨k + 1, by omega, by go_num, hyes', below_drewN hbl _⟩
          case measure => simp [intOf]; omega
        · obtain ⟨j, rfl⟩ : ∃ j, k = j + 1 := ⟨k - 1, by omega⟩
          have c9 : wr.cell? ⟨bb, off + j, none⟩ = some (.int .i64 (fb j)) := by
            rw [hbw.cell (p := ⟨bb, off + j, none⟩) hb, hcell _ (by omega)]
          by_cases e3 : fb (j + 1) ≤ fb j
          · have hno' := key (hno (rises_le e3))
            clear hno hyes key
            go_wp2_with fail
            go_quiet (fail)
            go_wp2_with fail
            go_ret2
            exact ⟨hno' _ rfl, below_drewN hbw _⟩
          · have e3' : decide (fb (j + 1) ≤ fb j) = false := by simpa using e3
            have hyes' := hyes (rises_gt e3 e2)
            clear hno hyes key
            go_wp2_with fail
            go_quiet (fail)
            go_wp2_with fail
            go_roundw
            case rel => exact ⟨j + 1 + 1, by omega, by go_num, hyes', below_drewN hbl _⟩
            case measure => simp [intOf]; omega
      · have hcB' : configB nb fb a b c = true := by
          have : k = nb := by omega
          rw [this] at hh
          simp [configB, boundsB, hh, h1, withinB]; omega
        clear hcB
        have hLw := hL.below hbw
        have hSw := hS.below hbw
        obtain ⟨aL, capL, rfl, hnl, hcL⟩ := id hL
        obtain ⟨aS, capS, rfl, hns, hcS⟩ := id hS
        by_cases l1 : 24 < nl
        · have hno : Hid (newAt nb fb a b c nl ts ns fs = (2, 24)) := by
            unfold newAt logAt; rw [if_pos hcB', if_pos l1]; rfl
          go_wp2_with fail
          go_ret2
          exact ⟨by rw [hno.out]; rfl, hbw⟩
        · go_wp2_with fail
          go_loopw [9] (fun i wq => ∃ j : Nat, j ≤ nl ∧ i = .int .i64 j ∧ allB (fun i => txnB (ts i)) j = true ∧ Below w.heap.size w wq) (fun i _ => nl - (intOf i).toNat)
          case atStart => exact ⟨0, Nat.zero_le _, rfl, rfl, hbw⟩
          case round =>
            clear hbw d0 hz hbl hLw hSw
            obtain ⟨j, hj, rfl, hi, hbl⟩ := hrel
            by_cases hjt : j < nl
            · obtain ⟨b', off, rfl, hb, vs, hcell, ht⟩ := hcL (by omega)
              have c0 : wr.cell? ⟨b', off + j * 4, none⟩ = some (vs (j * 4)) := by rw [hbl.cell (p := ⟨b', off + j * 4, none⟩) hb, hcell _ (by omega)]
              have c1 : wr.cell? ⟨b', off + j * 4 + 1, none⟩ = some (vs (j * 4 + 1)) := by rw [hbl.cell (p := ⟨b', off + j * 4 + 1, none⟩) hb, Nat.add_assoc, hcell _ (by omega)]
              have c2 : wr.cell? ⟨b', off + j * 4 + 2, none⟩ = some (vs (j * 4 + 2)) := by rw [hbl.cell (p := ⟨b', off + j * 4 + 2, none⟩) hb, Nat.add_assoc, hcell _ (by omega)]
              have c3 : wr.cell? ⟨b', off + j * 4 + 3, none⟩ = some (vs (j * 4 + 3)) := by rw [hbl.cell (p := ⟨b', off + j * 4 + 3, none⟩) hb, Nat.add_assoc, hcell _ (by omega)]
              have hT := (ht j hjt).below hbl
              generalize vs (j * 4) = x0 at *
              generalize vs (j * 4 + 1) = x1 at *
              generalize vs (j * 4 + 2) = x2 at *
              generalize vs (j * 4 + 3) = x3 at *
              clear hcL hcell ht
              cases hp : txnB (ts j) with
              | false =>
                have hno : Hid (newAt nb fb a b c nl ts ns fs = (2, j)) := by
                  unfold newAt logAt; rw [if_pos hcB', if_neg l1, firstNo_at hjt hi hp]; rfl
                go_wp2_with (go_at_call 86; refine (rtxn_any _ _ _ _ (ts j) _ hT).mono ?_; rintro e w' ⟨rfl, hb2⟩)
                go_ret2
                exact ⟨by rw [hno.out]; rfl, hbl.trans (hb2.mono hbl.size)⟩
              | true =>
                go_wp2_with (go_at_call 86; refine (rtxn_any _ _ _ _ (ts j) _ hT).mono ?_; rintro e w' ⟨rfl, hb2⟩)
                go_roundw
                case rel => exact ⟨j + 1, by omega, by go_num, allB_step hi hp, hbl.trans (hb2.mono hbl.size)⟩
                case measure => simp [intOf]; omega
            · have hlog : logAt nl ts = none := by
                have : j = nl := by omega
                rw [this] at hi
                unfold logAt; rw [if_neg l1]; exact firstNo_all hi
              clear hcL
              by_cases s1 : 40 < ns
              · have hno : Hid (newAt nb fb a b c nl ts ns fs = (3, 40)) := by
                  unfold newAt startAt; rw [if_pos hcB', hlog, if_pos s1]; rfl
                clear hlog
                go_wp2_with fail
                go_ret2
                exact ⟨by rw [hno.out]; rfl, hbl⟩
              · have HLOG : Hid (logAt nl ts = none) := hlog
                clear hlog
                go_wp2_with fail
                go_loopw [11] (fun i wq => ∃ m : Nat, m ≤ ns ∧ i = .int .i64 m ∧ allB (risesB 0 (fun i => fs (2 * i))) m = true ∧ Below w.heap.size w wq) (fun i _ => ns - (intOf i).toNat)
                case atStart => exact ⟨0, Nat.zero_le _, rfl, rfl, hbl⟩
                case round =>
                  clear hbl
                  obtain ⟨m, hm, rfl, hq, hbl⟩ := hrel
                  by_cases hmt : m < ns
                  · obtain ⟨b', off, rfl, hb, hcell⟩ := hcS (by omega)
                    have c0 : wr.cell? ⟨b', off + m * 2, none⟩ = some (.int .i64 (fs (2 * m))) := by
                      rw [hbl.cell (p := ⟨b', off + m * 2, none⟩) hb, hcell _ (by omega), Nat.mul_comm]
                    have hno : risesB 0 (fun i => fs (2 * i)) m = false → newAt nb fb a b c nl ts ns fs = (3, m) := fun e => by
                      unfold newAt startAt; rw [if_pos hcB', HLOG.out, if_neg s1, firstNo_at hmt hq e]
                    have key : newAt nb fb a b c nl ts ns fs = (3, m) → ∀ e : Ending, e = .returned (.tuple #[.int .i64 3, .int .i64 m]) → e = .returned (.tuple #[.int .i64 ((newAt nb fb a b c nl ts ns fs).1 : Nat), .int .i64 ((newAt nb fb a b c nl ts ns fs).2 : Nat)]) := by
                      intro hno e he; rw [he, hno]; rfl
                    have hyes : risesB 0 (fun i => fs (2 * i)) m = true → allB (risesB 0 (fun i => fs (2 * i))) (m + 1) = true := fun e => allB_step hq e
                    by_cases e1 : fs (2 * m) < 0
                    · have hno' := key (hno (rises_lo hq e1))
                      clear hno hyes key
                      go_wp2_with fail
                      go_quiet (fail)
                      go_wp2_with fail
                      go_ret2
                      exact ⟨hno' _ rfl, below_drewN hbl _⟩
                    have e1' : decide (fs (2 * m) < 0) = false := by simpa using e1
                    by_cases e2 : 99 < fs (2 * m)
                    · have hno' := key (hno (rises_hi e2))
                      clear hno hyes key
                      go_wp2_with fail
                      go_quiet (fail)
                      go_wp2_with fail
                      go_ret2
                      exact ⟨hno' _ rfl, below_drewN hbl _⟩
                    have e2' : decide (99 < fs (2 * m)) = false := by simpa using e2
                    by_cases m0 : m = 0
                    · have hyes' := hyes (by subst m0; exact rises_zero e1 e2)
                      have e0 : decide ((0 : Int) < m) = false := by simp; omega
                      have e0' : decide (0 < m) = false := by simp; omega
                      clear hno hyes key m0
                      go_wp2_with fail
                      go_quiet (fail)
                      go_wp2_with fail
                      go_roundw
                      case rel => exact ⟨m + 1, by omega, by go_num, hyes', below_drewN hbl _⟩
                      case measure => simp [intOf]; omega
                    · obtain ⟨p, rfl⟩ : ∃ p, m = p + 1 := ⟨m - 1, by omega⟩
                      have c9 : wr.cell? ⟨b', off + p * 2, none⟩ = some (.int .i64 (fs (2 * p))) := by
                        rw [hbl.cell (p := ⟨b', off + p * 2, none⟩) hb, hcell _ (by omega), Nat.mul_comm]
                      by_cases e3 : fs (2 * (p + 1)) ≤ fs (2 * p)
                      · have hno' := key (hno (rises_le e3))
                        clear hno hyes key
                        go_wp2_with fail
                        go_quiet (fail)
                        go_wp2_with fail
                        go_ret2
                        exact ⟨hno' _ rfl, below_drewN hbl _⟩
                      · have e3' : decide (fs (2 * (p + 1)) ≤ fs (2 * p)) = false := by simpa using e3
                        have hyes' := hyes (rises_gt e3 e2)
                        clear hno hyes key
                        go_wp2_with fail
                        go_quiet (fail)
                        go_wp2_with fail
                        go_roundw
                        case rel => exact ⟨p + 1 + 1, by omega, by go_num, hyes', below_drewN hbl _⟩
                        case measure => simp [intOf]; omega
                  · have hno : Hid (newAt nb fb a b c nl ts ns fs = (0, 0)) := by
                      have : m = ns := by omega
                      rw [this] at hq
                      unfold newAt startAt; rw [if_pos hcB', HLOG.out, if_neg s1, firstNo_all hq]; rfl
                    go_wp2_with fail
                    go_ret2
                    exact ⟨by rw [hno.out]; rfl, hbl⟩
end Go.Proofs.YtldeiiffabfmeaaGreatDoor
