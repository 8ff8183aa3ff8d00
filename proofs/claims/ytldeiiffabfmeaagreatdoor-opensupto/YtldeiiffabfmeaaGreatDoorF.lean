/- The contracts of check.Start and of orderlyref.txn. -/
import Derived.Test.YtldeiiffabfmeaaGreatDoorA
import Derived.Test.YtldeiiffabfmeaaGreatDoorD
import Derived.WalkSmall
set_option linter.unusedVariables false
set_option linter.unusedSimpArgs false
namespace Go.Proofs.YtldeiiffabfmeaaGreatDoor
open Go.RowKit

set_option maxHeartbeats 1000000 in
theorem cstart_any (v : Value) (n : Nat) (f : Nat → Int) (w : World) (h : RdI w v 2 n f) :
    Calls Tryz.prog 48 #[v] w fun e w' => e = .returned (.tuple #[.int .i64 ((startAt n f).getD 0 : Nat), .bool (startAt n f).isNone]) ∧ Below w.heap.size w w' := by
  obtain ⟨a, cap, rfl, hn, hc⟩ := h
  by_cases h40 : n ≤ 40
  · go_enter Tryz.func48, Tryz.ntmps48
    go_wp2
    go_loopw [4, 12] (fun l i wr => ∃ k : Nat, k ≤ n ∧ i = .int .i64 k ∧ allB (risesB 0 (fun i => f (2 * i))) k = true ∧ Below w.heap.size w wr ∧ ∃ z : Int, l = .int .i64 z ∧ z = (match k with | 0 => -1 | j + 1 => f (2 * j)) ∧ -1 ≤ z ∧ z ≤ 99) (fun _ i _ => n - (intOf i).toNat)
    case atStart => exact ⟨0, Nat.zero_le _, rfl, rfl, Below.refl _ _, -1, rfl, rfl, by omega, by omega⟩
    case round =>
      obtain ⟨k, hk, rfl, hh, hbl, z, rfl, hz, hz0, hz1⟩ := hrel
      by_cases hlt : k < n
      · obtain ⟨b, off, rfl, hb, hcell⟩ := hc (by omega)
        have hb' : b < wr.heap.size := Nat.lt_of_lt_of_le hb hbl.size
        have c0 : wr.cell? ⟨b, off + k * 2, none⟩ = some (.int .i64 (f (2 * k))) := by
          rw [hbl.cell (p := ⟨b, off + k * 2, none⟩) hb, hcell _ (by omega), Nat.mul_comm]
        have c1 : wr.cell? ⟨b, off + k * 2 + 1, none⟩ = some (.int .i64 (f (2 * k + 1))) := by
          rw [hbl.cell (p := ⟨b, off + k * 2 + 1, none⟩) hb, Nat.add_assoc, hcell _ (by omega), Nat.mul_comm]
        have hr : risesB 0 (fun i => f (2 * i)) k = withinB (f (2 * k)) (z + 1) 99 := by
          rw [hz]; cases k <;> simp [risesB]
        clear hz hc hcell
        have HR : Hid (_ = _) := hr
        clear hr
        cases hp : withinB (f (2 * k)) (z + 1) 99 with
        | false =>
          have HL : Hid (startAt n f = some k) := by
            unfold startAt; rw [if_neg (by omega)]; exact firstNo_at hlt hh (HR.out.trans hp)
          go_wp2_with (go_at_call 78; refine (within_any _ _ _ _).mono ?_; rintro e w' ⟨rfl, rfl⟩)
          go_ret2
          refine ⟨?_, hbl.alloc hbl.size _⟩
          rw [HL.out]; rfl
        | true =>
          go_wp2_with (go_at_call 78; refine (within_any _ _ _ _).mono ?_; rintro e w' ⟨rfl, rfl⟩)
          go_roundw
          case rel =>
            have hp' := hp
            simp [withinB] at hp
            exact ⟨k + 1, by omega, by go_num, allB_step hh (HR.out.trans hp'), hbl.alloc hbl.size _, f (2 * k), rfl, rfl, by omega, by omega⟩
          case measure => simp [intOf]; omega
      · have : k = n := by omega
        subst this
        clear hz
        have HL : Hid (startAt k f = none) := by
          unfold startAt; rw [if_neg (by omega)]; exact firstNo_all hh
        go_wp2
        go_ret2
        refine ⟨?_, hbl⟩
        rw [HL.out]; rfl
  · have HL : Hid (startAt n f = some 40) := by unfold startAt; rw [if_pos (by omega)]; rfl
    go_enter Tryz.func48, Tryz.ntmps48
    go_wp2
    go_ret2
    refine ⟨?_, Below.refl _ _⟩
    rw [HL.out]; rfl

set_option maxHeartbeats 2000000 in
theorem rtxn_any (va vb vc vd : Value) (t : TxnD) (w : World) (h : RdT w va vb vc vd t) :
    Calls Tryz.prog 86 #[.agg #[va, vb, vc, vd]] w fun e w' => e = .returned (.bool (txnB t)) ∧ Below w.heap.size w w' := by
  obtain ⟨ac, capc, rfl, hnc, -⟩ := id h.c
  obtain ⟨ag, capg, rfl, hng, hgc⟩ := id h.g
  have h1 := h.alloc (.cells #[va, vb, .slice ag t.ng capg, .slice ac t.nc capc] 91)
  have hb0 : Below w.heap.size w (w.alloc (.cells #[va, vb, .slice ag t.ng capg, .slice ac t.nc capc] 91)) := (Below.refl _ _).alloc (Nat.le_refl _) _
  by_cases hbad : keysB t.nr t.r = true ∧ keysB t.nw t.wr = true ∧ t.ng ≤ 3 ∧ t.nc ≤ 16
  · obtain ⟨k1, k2, k3, k4⟩ := hbad
    go_enter Tryz.func86, Tryz.ntmps86
    go_wp2_with fail
    refine (rkeys_any _ t.nr t.r _ h1.r).mono ?_; rintro e w' ⟨rfl, rfl⟩
    go_wp2_with fail
    refine (rkeys_any _ t.nw t.wr _ h1.wr).mono ?_; rintro e w' ⟨rfl, rfl⟩
    go_wp2_with fail
    go_loopw [5] (fun i wr => ∃ k : Nat, k ≤ t.ng ∧ i = .int .i64 k ∧ allB (fun i => rangeB (t.g (2 * i)) (t.g (2 * i + 1))) k = true ∧ Below (w.heap.size + 1) (w.alloc (.cells #[va, vb, .slice ag t.ng capg, .slice ac t.nc capc] 91)) wr) (fun i _ => t.ng - (intOf i).toNat)
    case atStart => exact ⟨0, Nat.zero_le _, rfl, rfl, Below.refl _ _⟩
    case round =>
      obtain ⟨k, hk, rfl, hh, hbl⟩ := hrel
      have hbw : Below w.heap.size w wr := ((Below.refl _ _).alloc (Nat.le_refl _) _).trans (hbl.mono (by omega))
      have d2 : wr.cell? ⟨w.heap.size, 2, none⟩ = some (.slice ag t.ng capg) := by rw [hbl.cell (p := ⟨w.heap.size, 2, none⟩) (by simp)]; simp
      have d3 : wr.cell? ⟨w.heap.size, 3, none⟩ = some (.slice ac t.nc capc) := by rw [hbl.cell (p := ⟨w.heap.size, 3, none⟩) (by simp)]; simp
      have hz : w.heap.size + 1 ≤ wr.heap.size := by have := hbl.size; simpa using this
      by_cases hlt : k < t.ng
      · obtain ⟨b, off, rfl, hb, hcell⟩ := hgc (by omega)
        have c0 : wr.cell? ⟨b, off + k * 2, none⟩ = some (.int .i64 (t.g (2 * k))) := by
          rw [hbw.cell (p := ⟨b, off + k * 2, none⟩) hb, hcell _ (by omega), Nat.mul_comm]
        have c1 : wr.cell? ⟨b, off + k * 2 + 1, none⟩ = some (.int .i64 (t.g (2 * k + 1))) := by
          rw [hbw.cell (p := ⟨b, off + k * 2 + 1, none⟩) hb, Nat.add_assoc, hcell _ (by omega), Nat.mul_comm]
        clear hgc hcell
        have hno : rangeB (t.g (2 * k)) (t.g (2 * k + 1)) = false → txnB t = false := fun e => by
          simp [txnB, rangesB, allB_no (p := fun i => rangeB (t.g (2 * i)) (t.g (2 * i + 1))) hlt e]
        have hyes : rangeB (t.g (2 * k)) (t.g (2 * k + 1)) = true → allB (fun i => rangeB (t.g (2 * i)) (t.g (2 * i + 1))) (k + 1) = true := fun e => allB_step hh e
        generalize t.g (2 * k) = x at *
        generalize t.g (2 * k + 1) = y at *
        by_cases g1 : x < 0
        · have hno' := hno (by simp [rangeB, withinB]; omega)
          clear hno hyes
          go_wp2_with fail
          go_quiet (fail)
          go_wp2_with fail
          go_ret
          exact ⟨ret_bool hno'.symm, below_drewN hbw _⟩
        · have g1' : decide (x < 0) = false := by simpa using g1
          by_cases g2 : 99 < y
          · have hno' := hno (by simp [rangeB, withinB]; omega)
            clear hno hyes
            go_wp2_with fail
            go_quiet (fail)
            go_wp2_with fail
            go_ret
            exact ⟨ret_bool hno'.symm, below_drewN hbw _⟩
          · have g2' : decide (99 < y) = false := by simpa using g2
            by_cases g3 : y < x
            · have hno' := hno (by simp [rangeB, withinB]; omega)
              clear hno hyes
              go_wp2_with fail
              go_quiet (fail)
              go_wp2_with fail
              go_ret
              exact ⟨ret_bool hno'.symm, below_drewN hbw _⟩
            · have hyes' := hyes (by simp [rangeB, withinB]; omega)
              clear hno hyes
              go_wp2_with fail
              go_quiet (fail)
              go_wp2_with fail
              go_roundw
              case rel => exact ⟨k + 1, by omega, by go_num, hyes', below_drewN hbl _⟩
              case measure => simp [intOf]; omega
      · have hkn : k = t.ng := by omega
        have hgood : rangesB t.ng t.g = true := by rw [hkn] at hh; simp [rangesB, hh, k3]
        clear hgc hkn
        go_wp2_with fail
        go_loopw [6] (fun i wq => ∃ j : Nat, j ≤ t.nc ∧ i = .int .i64 j ∧ allB (insB t) j = true ∧ Below (w.heap.size + 1) (w.alloc (.cells #[va, vb, .slice ag t.ng capg, .slice ac t.nc capc] 91)) wq) (fun i _ => t.nc - (intOf i).toNat)
        case atStart => exact ⟨0, Nat.zero_le _, rfl, rfl, hbl⟩
        case round =>
          clear hbw d2 d3 hz hbl
          obtain ⟨j, hj, rfl, hi, hbl⟩ := hrel
          have hbw : Below w.heap.size w wr := ((Below.refl _ _).alloc (Nat.le_refl _) _).trans (hbl.mono (by omega))
          have d0 : wr.cell? ⟨w.heap.size, 0, none⟩ = some va := by rw [hbl.cell (p := ⟨w.heap.size, 0, none⟩) (by simp)]; simp
          have d1 : wr.cell? ⟨w.heap.size, 1, none⟩ = some vb := by rw [hbl.cell (p := ⟨w.heap.size, 1, none⟩) (by simp)]; simp
          have d2 : wr.cell? ⟨w.heap.size, 2, none⟩ = some (.slice ag t.ng capg) := by rw [hbl.cell (p := ⟨w.heap.size, 2, none⟩) (by simp)]; simp
          have d3 : wr.cell? ⟨w.heap.size, 3, none⟩ = some (.slice ac t.nc capc) := by rw [hbl.cell (p := ⟨w.heap.size, 3, none⟩) (by simp)]; simp
          have hz : w.heap.size + 1 ≤ wr.heap.size := by have := hbl.size; simpa using this
          have hT := h.below hbw
          by_cases hjt : j < t.nc
          · cases hp : insB t j with
            | false =>
              go_wp2_with (go_at_call 121; refine (rins_any _ _ _ _ t j hjt _ hT).mono ?_; rintro e w' ⟨rfl, hb2⟩)
              go_ret
              exact ⟨ret_bool (by simp [txnB, codeB, allB_no hjt hp]), hbw.trans (hb2.mono (by omega))⟩
            | true =>
              go_wp2_with (go_at_call 121; refine (rins_any _ _ _ _ t j hjt _ hT).mono ?_; rintro e w' ⟨rfl, hb2⟩)
              go_roundw
              case rel => exact ⟨j + 1, by omega, by go_num, allB_step hi hp, hbl.trans (hb2.mono hz)⟩
              case measure => simp [intOf]; omega
          · have hjn : j = t.nc := by omega
            have hT2 : txnB t = true := by rw [hjn] at hi; simp [txnB, codeB, k1, k2, hgood, k4, hi]
            clear hjn
            go_wp2_with fail
            go_ret
            exact ⟨ret_bool hT2.symm, hbw⟩
  · have hbad' : txnB t = false := by
      cases e : txnB t with
      | false => rfl
      | true =>
        simp [txnB, rangesB, codeB] at e
        exact absurd ⟨e.1.1.1, e.1.1.2, e.1.2.1, e.2.1⟩ hbad
    cases k1 : keysB t.nr t.r
    · go_enter Tryz.func86, Tryz.ntmps86
      go_wp2_with fail
      refine (rkeys_any _ t.nr t.r _ h1.r).mono ?_; rintro e w' ⟨rfl, rfl⟩
      go_wp2_with fail
      refine (rkeys_any _ t.nw t.wr _ h1.wr).mono ?_; rintro e w' ⟨rfl, rfl⟩
      go_wp2_with fail
      go_ret
      first | exact ⟨ret_bool hbad'.symm, hb0⟩ | exact ⟨rfl, hb0⟩
    · cases k2 : keysB t.nw t.wr
      · go_enter Tryz.func86, Tryz.ntmps86
        go_wp2_with fail
        refine (rkeys_any _ t.nr t.r _ h1.r).mono ?_; rintro e w' ⟨rfl, rfl⟩
        go_wp2_with fail
        refine (rkeys_any _ t.nw t.wr _ h1.wr).mono ?_; rintro e w' ⟨rfl, rfl⟩
        go_wp2_with fail
        go_ret
        first | exact ⟨ret_bool hbad'.symm, hb0⟩ | exact ⟨rfl, hb0⟩
      · by_cases k3 : 3 < t.ng
        · go_enter Tryz.func86, Tryz.ntmps86
          go_wp2_with fail
          refine (rkeys_any _ t.nr t.r _ h1.r).mono ?_; rintro e w' ⟨rfl, rfl⟩
          go_wp2_with fail
          refine (rkeys_any _ t.nw t.wr _ h1.wr).mono ?_; rintro e w' ⟨rfl, rfl⟩
          go_wp2_with fail
          go_ret
          first | exact ⟨ret_bool hbad'.symm, hb0⟩ | exact ⟨rfl, hb0⟩
        · have k4 : 16 < t.nc := by
            rcases Nat.lt_or_ge 16 t.nc with h' | h'
            · exact h'
            · exact absurd ⟨k1, k2, by omega, h'⟩ hbad
          clear hbad
          go_enter Tryz.func86, Tryz.ntmps86
          go_wp2_with fail
          refine (rkeys_any _ t.nr t.r _ h1.r).mono ?_; rintro e w' ⟨rfl, rfl⟩
          go_wp2_with fail
          refine (rkeys_any _ t.nw t.wr _ h1.wr).mono ?_; rintro e w' ⟨rfl, rfl⟩
          go_wp2_with fail
          go_ret
          first | exact ⟨ret_bool hbad'.symm, hb0⟩ | exact ⟨rfl, hb0⟩
end Go.Proofs.YtldeiiffabfmeaaGreatDoor
