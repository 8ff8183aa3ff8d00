/- What was handed in stays as the caller turned it over: the lists of the caller's record, and the contract of turned. -/
import Derived.Test.YtldeiiffabfmeaaGreatDoorAG
set_option linter.unusedVariables false
set_option linter.unusedSimpArgs false
namespace Go.Proofs.YtldeiiffabfmeaaGreatDoor
open Go.RowKit

/-- Field o of the record at W is a list of lists of numbers (k to an element); list i reads f i. -/
def LL (w : World) (W o k : Nat) (f : Nat → Nat → Int) : Prop :=
  W < w.heap.size ∧ ∃ a n cap, w.cell? ⟨W, o, none⟩ = some (.slice a n cap) ∧ n ≤ 1048577 ∧ (0 < n → ∃ b off, a = some ⟨b, off, none⟩ ∧ b < w.heap.size ∧ ∃ vs : Nat → Value, (∀ j, j < n → w.cell? ⟨b, off + j, none⟩ = some (vs j)) ∧ ∀ i, i < n → ∃ m, RdI w (vs i) k m (f i))
theorem LL.below {w w' : World} {W o k : Nat} {f : Nat → Nat → Int} (h : LL w W o k f) (hb : Below w.heap.size w w') : LL w' W o k f := by
  obtain ⟨hl, a, n, cap, hc, hn, hh⟩ := h
  refine ⟨Nat.lt_of_lt_of_le hl hb.size, a, n, cap, by rw [hb.cell (p := ⟨W, o, none⟩) hl]; exact hc, hn, fun h0 => ?_⟩
  obtain ⟨b, off, rfl, hlt, vs, hcell, hr⟩ := hh h0
  refine ⟨b, off, rfl, Nat.lt_of_lt_of_le hlt hb.size, vs, fun j hj => by rw [hb.cell (p := ⟨b, off + j, none⟩) hlt]; exact hcell j hj, fun i hi => ?_⟩
  obtain ⟨m, hm⟩ := hr i hi
  exact ⟨m, hm.below hb⟩

/-- The same of logs: list i reads ts i. -/
def LG (w : World) (W o : Nat) (ts : Nat → Nat → TxnD) : Prop :=
  W < w.heap.size ∧ ∃ a n cap, w.cell? ⟨W, o, none⟩ = some (.slice a n cap) ∧ n ≤ 1048577 ∧ (0 < n → ∃ b off, a = some ⟨b, off, none⟩ ∧ b < w.heap.size ∧ ∃ vs : Nat → Value, (∀ j, j < n → w.cell? ⟨b, off + j, none⟩ = some (vs j)) ∧ ∀ i, i < n → ∃ m, RdL w (vs i) m (ts i))
theorem LG.below {w w' : World} {W o : Nat} {ts : Nat → Nat → TxnD} (h : LG w W o ts) (hb : Below w.heap.size w w') : LG w' W o ts := by
  obtain ⟨hl, a, n, cap, hc, hn, hh⟩ := h
  refine ⟨Nat.lt_of_lt_of_le hl hb.size, a, n, cap, by rw [hb.cell (p := ⟨W, o, none⟩) hl]; exact hc, hn, fun h0 => ?_⟩
  obtain ⟨b, off, rfl, hlt, vs, hcell, hr⟩ := hh h0
  refine ⟨b, off, rfl, Nat.lt_of_lt_of_le hlt hb.size, vs, fun j hj => by rw [hb.cell (p := ⟨b, off + j, none⟩) hlt]; exact hcell j hj, fun i hi => ?_⟩
  obtain ⟨m, hm⟩ := hr i hi
  exact ⟨m, hm.below hb⟩

/-- A code turned over. -/
def codeF (j : Nat) : Int := if j % 4 = 0 then -7 else 0
/-- A transaction turned over. -/
def turnedT : TxnD := ⟨1, fun _ => -7, 0, fun _ => 0, 0, fun _ => 0, 0, fun _ => 0⟩

theorem codeF0 (j : Nat) : codeF (j * 4) = -7 := by unfold codeF; rw [if_pos (by omega)]
theorem codeF1 (j : Nat) : codeF (j * 4 + 1) = 0 := by unfold codeF; rw [if_neg (by omega)]
theorem codeF2 (j : Nat) : codeF (j * 4 + 2) = 0 := by unfold codeF; rw [if_neg (by omega)]
theorem codeF3 (j : Nat) : codeF (j * 4 + 3) = 0 := by unfold codeF; rw [if_neg (by omega)]

set_option maxRecDepth 20000 in
set_option maxHeartbeats 2000000 in
theorem turned_any (W : Nat) (w : World) (h5 : LL w W 5 4 (fun _ => codeF)) (h6 : LG w W 6 (fun _ _ => turnedT)) :
    Calls Tryz.prog 53 #[.pointer (some ⟨W, 0, none⟩)] w fun r w' => r = .returned (.bool true) ∧ Below w.heap.size w w' := by
  obtain ⟨hWl, a5, n5, p5, c5, hn5, hh5⟩ := h5
  obtain ⟨-, a6, n6, p6, c6, hn6, hh6⟩ := h6
  go_enter Tryz.func53, Tryz.ntmps53
  go_wp2_with fail
  go_loopw [3] (fun i wq => ∃ k : Nat, k ≤ n5 ∧ i = .int .i64 k ∧ Below w.heap.size w wq) (fun i _ => n5 - (intOf i).toNat)
  case atStart => exact ⟨0, Nat.zero_le _, rfl, Below.refl _ _⟩
  case round =>
    obtain ⟨k, hk, rfl, hb⟩ := hrel
    have x5 : wr.cell? ⟨W, 5, none⟩ = some (.slice a5 n5 p5) := by rw [hb.cell (p := ⟨W, 5, none⟩) hWl]; exact c5
    by_cases hkn : k < n5
    · obtain ⟨b, off, rfl, hlt, vs, hcell, hr⟩ := hh5 (by omega)
      obtain ⟨m, hm⟩ := hr k hkn
      have e0 := hcell k hkn
      generalize vs k = v at *
      obtain ⟨a2, p2, rfl, hm2, hc2⟩ := hm
      clear hcell hr hh5
      go_wp2_with fail
      go_loopw [4] (fun i wq => ∃ j : Nat, j ≤ m ∧ i = .int .i64 j ∧ Below w.heap.size w wq) (fun i _ => m - (intOf i).toNat)
      case atStart => exact ⟨0, Nat.zero_le _, rfl, hb⟩
      case round =>
        clear x5
        obtain ⟨j, hj, rfl, hb'⟩ := hrel
        have x5 : wr.cell? ⟨W, 5, none⟩ = some (.slice (some ⟨b, off, none⟩) n5 p5) := by rw [hb'.cell (p := ⟨W, 5, none⟩) hWl]; exact c5
        have x0 : wr.cell? ⟨b, off + k, none⟩ = some (.slice a2 m p2) := by rw [hb'.cell (p := ⟨b, off + k, none⟩) hlt]; exact e0
        by_cases hjm : j < m
        · obtain ⟨b2, off2, rfl, hlt2, hcell2⟩ := hc2 (by omega)
          have y0 : wr.cell? ⟨b2, off2 + j * 4, none⟩ = some (.int .i64 (-7)) := by rw [hb'.cell (p := ⟨b2, off2 + j * 4, none⟩) hlt2, hcell2 _ (by omega), codeF0]
          have y1 : wr.cell? ⟨b2, off2 + j * 4 + 1, none⟩ = some (.int .i64 0) := by rw [hb'.cell (p := ⟨b2, off2 + j * 4 + 1, none⟩) hlt2, Nat.add_assoc, hcell2 _ (by omega), codeF1]
          have y2 : wr.cell? ⟨b2, off2 + j * 4 + 2, none⟩ = some (.int .i64 0) := by rw [hb'.cell (p := ⟨b2, off2 + j * 4 + 2, none⟩) hlt2, Nat.add_assoc, hcell2 _ (by omega), codeF2]
          have y3 : wr.cell? ⟨b2, off2 + j * 4 + 3, none⟩ = some (.int .i64 0) := by rw [hb'.cell (p := ⟨b2, off2 + j * 4 + 3, none⟩) hlt2, Nat.add_assoc, hcell2 _ (by omega), codeF3]
          clear hcell2 hc2
          go_wp2_with fail
          go_roundw
          case rel =>
            refine ⟨j + 1, by omega, by go_num, ?_⟩
            exact hb'.alloc hb'.size _
          case measure => simp [intOf]; omega
        · have hjm' : decide (j < m) = false := by simpa using hjm
          go_wp2_with fail
          go_roundw
          case rel => exact ⟨k + 1, by omega, by go_num, hb'⟩
          case measure => simp [intOf]; omega
    · have hkn' : decide (k < n5) = false := by simpa using hkn
      clear hh5
      go_wp2_with fail
      go_loopw [6] (fun i wq => ∃ k : Nat, k ≤ n6 ∧ i = .int .i64 k ∧ Below w.heap.size w wq) (fun i _ => n6 - (intOf i).toNat)
      case atStart => exact ⟨0, Nat.zero_le _, rfl, hb⟩
      case round =>
        clear x5 hb hkn hkn' hk
        obtain ⟨q, hq, rfl, hb⟩ := hrel
        have x6 : wr.cell? ⟨W, 6, none⟩ = some (.slice a6 n6 p6) := by rw [hb.cell (p := ⟨W, 6, none⟩) hWl]; exact c6
        by_cases hqn : q < n6
        · obtain ⟨b, off, rfl, hlt, vs, hcell, hr⟩ := hh6 (by omega)
          obtain ⟨m, hm⟩ := hr q hqn
          have e0 := hcell q hqn
          generalize vs q = v at *
          obtain ⟨a2, p2, rfl, hm2, hc2⟩ := hm
          clear hcell hr hh6
          go_wp2_with fail
          go_loopw [7] (fun i wq => ∃ j : Nat, j ≤ m ∧ i = .int .i64 j ∧ Below w.heap.size w wq) (fun i _ => m - (intOf i).toNat)
          case atStart => exact ⟨0, Nat.zero_le _, rfl, hb⟩
          case round =>
            clear x6
            obtain ⟨j, hj, rfl, hb'⟩ := hrel
            have x6 : wr.cell? ⟨W, 6, none⟩ = some (.slice (some ⟨b, off, none⟩) n6 p6) := by rw [hb'.cell (p := ⟨W, 6, none⟩) hWl]; exact c6
            have x0 : wr.cell? ⟨b, off + q, none⟩ = some (.slice a2 m p2) := by rw [hb'.cell (p := ⟨b, off + q, none⟩) hlt]; exact e0
            by_cases hjm : j < m
            · obtain ⟨b2, off2, rfl, hlt2, us, hcell2, ht⟩ := hc2 (by omega)
              have y0 : wr.cell? ⟨b2, off2 + j * 4, none⟩ = some (us (j * 4)) := by rw [hb'.cell (p := ⟨b2, off2 + j * 4, none⟩) hlt2, hcell2 _ (by omega)]
              have y1 : wr.cell? ⟨b2, off2 + j * 4 + 1, none⟩ = some (us (j * 4 + 1)) := by rw [hb'.cell (p := ⟨b2, off2 + j * 4 + 1, none⟩) hlt2, Nat.add_assoc, hcell2 _ (by omega)]
              have y2 : wr.cell? ⟨b2, off2 + j * 4 + 2, none⟩ = some (us (j * 4 + 2)) := by rw [hb'.cell (p := ⟨b2, off2 + j * 4 + 2, none⟩) hlt2, Nat.add_assoc, hcell2 _ (by omega)]
              have y3 : wr.cell? ⟨b2, off2 + j * 4 + 3, none⟩ = some (us (j * 4 + 3)) := by rw [hb'.cell (p := ⟨b2, off2 + j * 4 + 3, none⟩) hlt2, Nat.add_assoc, hcell2 _ (by omega)]
              have hT : RdT w (us (j * 4)) (us (j * 4 + 1)) (us (j * 4 + 2)) (us (j * 4 + 3)) turnedT := ht j hjm
              generalize us (j * 4) = q0 at *
              generalize us (j * 4 + 1) = q1 at *
              generalize us (j * 4 + 2) = q2 at *
              generalize us (j * 4 + 3) = q3 at *
              clear hcell2 hc2 ht
              obtain ⟨d0, s0, rfl, -, hd0⟩ := id hT.r
              obtain ⟨d1, s1, rfl, -, -⟩ := id hT.wr
              obtain ⟨d2, s2, rfl, -, -⟩ := id hT.g
              obtain ⟨d3, s3, rfl, -, -⟩ := id hT.c
              obtain ⟨b4, off4, rfl, hlt4, hcell4⟩ := hd0 (Nat.zero_lt_one)
              have z0 : wr.cell? ⟨b4, off4, none⟩ = some (.int .i64 (-7)) := by rw [hb'.cell (p := ⟨b4, off4, none⟩) hlt4]; exact hcell4 0 (by decide)
              have hb4 : b4 < wr.heap.size := Nat.lt_of_lt_of_le hlt4 hb'.size
              clear hcell4 hd0 hT
              simp only [turnedT] at *
              go_wp2_with fail
              go_roundw
              case rel =>
                refine ⟨j + 1, by omega, by go_num, ?_⟩
                exact hb'.alloc hb'.size _
              case measure => simp [intOf]; omega
            · have hjm' : decide (j < m) = false := by simpa using hjm
              go_wp2_with fail
              go_roundw
              case rel => exact ⟨q + 1, by omega, by go_num, hb'⟩
              case measure => simp [intOf]; omega
        · have hqn' : decide (q < n6) = false := by simpa using hqn
          clear hh6
          go_wp2_with fail
          go_ret
          exact ⟨rfl, hb⟩
end Go.Proofs.YtldeiiffabfmeaaGreatDoor
