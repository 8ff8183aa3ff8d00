/- The contract of kept. -/
import Derived.Test.YtldeiiffabfmeaaGreatDoorAH
set_option linter.unusedVariables false
set_option linter.unusedSimpArgs false
namespace Go.Proofs.YtldeiiffabfmeaaGreatDoor
open Go.RowKit

theorem below_drewN {B : Nat} {a w : World} (h : Below B a w) (n : Nat) : Below B a (w.drewN n) := ⟨h.os, h.tape, h.output, h.size, h.block⟩

/-- The lists that came out, each with its mark all over it. -/
def LP (w : World) (W : Nat) : Prop :=
  W < w.heap.size ∧ ∃ (a : Option Addr) (n cap : Nat) (vm : Value) (ms : Nat → Int), w.cell? ⟨W, 1, none⟩ = some (.slice a n cap) ∧ w.cell? ⟨W, 2, none⟩ = some vm ∧ RdI w vm 1 n ms ∧
    (0 < n → ∃ b off, a = some ⟨b, off, none⟩ ∧ b < w.heap.size ∧ ∃ vs : Nat → Value, (∀ j, j < n → w.cell? ⟨b, off + j, none⟩ = some (vs j)) ∧ ∀ i, i < n → ∃ m, RdI w (vs i) 2 m (fun _ => ms i))
theorem LP.below {w w' : World} {W : Nat} (h : LP w W) (hb : Below w.heap.size w w') : LP w' W := by
  obtain ⟨hl, a, n, cap, vm, ms, hc, hc2, hm, hh⟩ := h
  refine ⟨Nat.lt_of_lt_of_le hl hb.size, a, n, cap, vm, ms, by rw [hb.cell (p := ⟨W, 1, none⟩) hl]; exact hc, by rw [hb.cell (p := ⟨W, 2, none⟩) hl]; exact hc2, hm.below hb, fun h0 => ?_⟩
  obtain ⟨b, off, rfl, hlt, vs, hcell, hr⟩ := hh h0
  refine ⟨b, off, rfl, Nat.lt_of_lt_of_le hlt hb.size, vs, fun j hj => by rw [hb.cell (p := ⟨b, off + j, none⟩) hlt]; exact hcell j hj, fun i hi => ?_⟩
  obtain ⟨m, hm⟩ := hr i hi
  exact ⟨m, hm.below hb⟩

/-- All that the caller keeps is as the caller wrote it. -/
structure Kp (w : World) (W : Nat) : Prop where
  p : LP w W
  i : LL w W 3 1 (fun _ _ => -7)
  r : LL w W 4 2 (fun _ _ => -7)
  c : LL w W 5 4 (fun _ => codeF)
  l : LG w W 6 (fun _ _ => turnedT)
  s : LL w W 7 2 (fun _ _ => -7)
theorem Kp.below {w w' : World} {W : Nat} (h : Kp w W) (hb : Below w.heap.size w w') : Kp w' W := ⟨h.p.below hb, h.i.below hb, h.r.below hb, h.c.below hb, h.l.below hb, h.s.below hb⟩

set_option maxRecDepth 20000 in
set_option maxHeartbeats 4000000 in
theorem kept_any (W : Nat) (w : World) (h : Kp w W) :
    Calls Tryz.prog 30 #[.pointer (some ⟨W, 0, none⟩)] w fun r w' => r = .returned (.bool true) ∧ Below w.heap.size w w' := by
  obtain ⟨hWl, a1, n1, p1, vm, ms, c1, c2, hms, hh1⟩ := h.p
  obtain ⟨am, pm, rfl, hnm, hcm⟩ := id hms
  obtain ⟨-, a3, n3, p3, c3, hn3, hh3⟩ := h.i
  obtain ⟨-, a4, n4, p4, c4, hn4, hh4⟩ := h.r
  obtain ⟨-, a7, n7, p7, c7, hn7, hh7⟩ := h.s
  go_enter Tryz.func30, Tryz.ntmps30
  go_wp2_with fail
  go_loopw [3] (fun i wq => ∃ k : Nat, k ≤ n1 ∧ i = .int .i64 k ∧ Below w.heap.size w wq) (fun i _ => n1 - (intOf i).toNat)
  case atStart => exact ⟨0, Nat.zero_le _, rfl, Below.refl _ _⟩
  case round =>
    obtain ⟨k, hk, rfl, hb⟩ := hrel
    have x1 : wr.cell? ⟨W, 1, none⟩ = some (.slice a1 n1 p1) := by rw [hb.cell (p := ⟨W, 1, none⟩) hWl]; exact c1
    by_cases hkn : k < n1
    · obtain ⟨b, off, rfl, hlt, vs, hcell, hr⟩ := hh1 (by omega)
      obtain ⟨bm, offm, rfl, hltm, hcellm⟩ := hcm (by omega)
      obtain ⟨m, hm⟩ := hr k hkn
      have e0 := hcell k hkn
      have em := hcellm k (by omega)
      generalize vs k = v at *
      generalize ms k = mk at *
      obtain ⟨a2, p2, rfl, hm2, hc2⟩ := hm
      clear hcell hr hh1 hcellm hcm
      go_wp2_with fail
      go_loopw [4] (fun i wq => ∃ j : Nat, j ≤ m ∧ i = .int .i64 j ∧ Below w.heap.size w wq) (fun i _ => m - (intOf i).toNat)
      case atStart => exact ⟨0, Nat.zero_le _, rfl, hb⟩
      case round =>
        clear x1
        obtain ⟨j, hj, rfl, hb'⟩ := hrel
        have x1 : wr.cell? ⟨W, 1, none⟩ = some (.slice (some ⟨b, off, none⟩) n1 p1) := by rw [hb'.cell (p := ⟨W, 1, none⟩) hWl]; exact c1
        have x2 : wr.cell? ⟨W, 2, none⟩ = some (.slice (some ⟨bm, offm, none⟩) n1 pm) := by rw [hb'.cell (p := ⟨W, 2, none⟩) hWl]; exact c2
        have x0 : wr.cell? ⟨b, off + k, none⟩ = some (.slice a2 m p2) := by rw [hb'.cell (p := ⟨b, off + k, none⟩) hlt]; exact e0
        have xm : wr.cell? ⟨bm, offm + k, none⟩ = some (.int .i64 mk) := by rw [hb'.cell (p := ⟨bm, offm + k, none⟩) hltm]; exact em
        by_cases hjm : j < m
        · obtain ⟨b2, off2, rfl, hlt2, hcell2⟩ := hc2 (by omega)
          have y0 : wr.cell? ⟨b2, off2 + j * 2, none⟩ = some (.int .i64 mk) := by rw [hb'.cell (p := ⟨b2, off2 + j * 2, none⟩) hlt2, hcell2 _ (by omega)]
          have y1 : wr.cell? ⟨b2, off2 + j * 2 + 1, none⟩ = some (.int .i64 mk) := by rw [hb'.cell (p := ⟨b2, off2 + j * 2 + 1, none⟩) hlt2, Nat.add_assoc, hcell2 _ (by omega)]
          clear hcell2 hc2
          go_wp2_with fail
          go_quiet (fail)
          go_wp2_with fail
          go_roundw
          case rel => exact ⟨j + 1, by omega, by go_num, below_drewN hb' _⟩
          case measure => simp [intOf]; omega
        · have hjm' : decide (j < m) = false := by simpa using hjm
          go_wp2_with fail
          go_roundw
          case rel => exact ⟨k + 1, by omega, by go_num, hb'⟩
          case measure => simp [intOf]; omega
    · have hkn' : decide (k < n1) = false := by simpa using hkn
      clear hh1 hcm
      go_wp2_with fail
      go_loopw [5] (fun i wq => ∃ k : Nat, k ≤ n3 ∧ i = .int .i64 k ∧ Below w.heap.size w wq) (fun i _ => n3 - (intOf i).toNat)
      case atStart => exact ⟨0, Nat.zero_le _, rfl, hb⟩
      case round =>
        clear x1 hb hkn hkn' hk
        obtain ⟨k, hk, rfl, hb⟩ := hrel
        have x1 : wr.cell? ⟨W, 3, none⟩ = some (.slice a3 n3 p3) := by rw [hb.cell (p := ⟨W, 3, none⟩) hWl]; exact c3
        by_cases hkn : k < n3
        · obtain ⟨b, off, rfl, hlt, vs, hcell, hr⟩ := hh3 (by omega)
          obtain ⟨m, hm⟩ := hr k hkn
          have e0 := hcell k hkn
          generalize vs k = v at *
          obtain ⟨a2, p2, rfl, hm2, hc2⟩ := hm
          clear hcell hr hh3
          go_wp2_with fail
          go_loopw [6] (fun i wq => ∃ j : Nat, j ≤ m ∧ i = .int .i64 j ∧ Below w.heap.size w wq) (fun i _ => m - (intOf i).toNat)
          case atStart => exact ⟨0, Nat.zero_le _, rfl, hb⟩
          case round =>
            clear x1
            obtain ⟨j, hj, rfl, hb'⟩ := hrel
            have x1 : wr.cell? ⟨W, 3, none⟩ = some (.slice (some ⟨b, off, none⟩) n3 p3) := by rw [hb'.cell (p := ⟨W, 3, none⟩) hWl]; exact c3
            have x0 : wr.cell? ⟨b, off + k, none⟩ = some (.slice a2 m p2) := by rw [hb'.cell (p := ⟨b, off + k, none⟩) hlt]; exact e0
            by_cases hjm : j < m
            · obtain ⟨b2, off2, rfl, hlt2, hcell2⟩ := hc2 (by omega)
              have y0 : wr.cell? ⟨b2, off2 + j, none⟩ = some (.int .i64 (-7)) := by rw [hb'.cell (p := ⟨b2, off2 + j, none⟩) hlt2, hcell2 _ (by omega)]
              clear hcell2 hc2
              go_wp2_with fail
              go_roundw
              case rel => exact ⟨j + 1, by omega, by go_num, hb'⟩
              case measure => simp [intOf]; omega
            · have hjm' : decide (j < m) = false := by simpa using hjm
              go_wp2_with fail
              go_roundw
              case rel => exact ⟨k + 1, by omega, by go_num, hb'⟩
              case measure => simp [intOf]; omega
        · have hkn' : decide (k < n3) = false := by simpa using hkn
          clear hh3
          go_wp2_with fail
          go_loopw [7] (fun i wq => ∃ k : Nat, k ≤ n4 ∧ i = .int .i64 k ∧ Below w.heap.size w wq) (fun i _ => n4 - (intOf i).toNat)
          case atStart => exact ⟨0, Nat.zero_le _, rfl, hb⟩
          case round =>
            clear x1 hb hkn hkn' hk
            obtain ⟨k, hk, rfl, hb⟩ := hrel
            have x1 : wr.cell? ⟨W, 4, none⟩ = some (.slice a4 n4 p4) := by rw [hb.cell (p := ⟨W, 4, none⟩) hWl]; exact c4
            by_cases hkn : k < n4
            · obtain ⟨b, off, rfl, hlt, vs, hcell, hr⟩ := hh4 (by omega)
              obtain ⟨m, hm⟩ := hr k hkn
              have e0 := hcell k hkn
              generalize vs k = v at *
              obtain ⟨a2, p2, rfl, hm2, hc2⟩ := hm
              clear hcell hr hh4
              go_wp2_with fail
              go_loopw [8] (fun i wq => ∃ j : Nat, j ≤ m ∧ i = .int .i64 j ∧ Below w.heap.size w wq) (fun i _ => m - (intOf i).toNat)
              case atStart => exact ⟨0, Nat.zero_le _, rfl, hb⟩
              case round =>
                clear x1
                obtain ⟨j, hj, rfl, hb'⟩ := hrel
                have x1 : wr.cell? ⟨W, 4, none⟩ = some (.slice (some ⟨b, off, none⟩) n4 p4) := by rw [hb'.cell (p := ⟨W, 4, none⟩) hWl]; exact c4
                have x0 : wr.cell? ⟨b, off + k, none⟩ = some (.slice a2 m p2) := by rw [hb'.cell (p := ⟨b, off + k, none⟩) hlt]; exact e0
                by_cases hjm : j < m
                · obtain ⟨b2, off2, rfl, hlt2, hcell2⟩ := hc2 (by omega)
                  have y0 : wr.cell? ⟨b2, off2 + j * 2, none⟩ = some (.int .i64 (-7)) := by rw [hb'.cell (p := ⟨b2, off2 + j * 2, none⟩) hlt2, hcell2 _ (by omega)]
                  have y1 : wr.cell? ⟨b2, off2 + j * 2 + 1, none⟩ = some (.int .i64 (-7)) := by rw [hb'.cell (p := ⟨b2, off2 + j * 2 + 1, none⟩) hlt2, Nat.add_assoc, hcell2 _ (by omega)]
                  clear hcell2 hc2
                  go_wp2_with fail
                  go_roundw
                  case rel => exact ⟨j + 1, by omega, by go_num, hb'⟩
                  case measure => simp [intOf]; omega
                · have hjm' : decide (j < m) = false := by simpa using hjm
                  go_wp2_with fail
                  go_roundw
                  case rel => exact ⟨k + 1, by omega, by go_num, hb'⟩
                  case measure => simp [intOf]; omega
            · have hkn' : decide (k < n4) = false := by simpa using hkn
              clear hh4
              go_wp2_with fail
              go_loopw [9] (fun i wq => ∃ k : Nat, k ≤ n7 ∧ i = .int .i64 k ∧ Below w.heap.size w wq) (fun i _ => n7 - (intOf i).toNat)
              case atStart => exact ⟨0, Nat.zero_le _, rfl, hb⟩
              case round =>
                clear x1 hb hkn hkn' hk
                obtain ⟨k, hk, rfl, hb⟩ := hrel
                have x1 : wr.cell? ⟨W, 7, none⟩ = some (.slice a7 n7 p7) := by rw [hb.cell (p := ⟨W, 7, none⟩) hWl]; exact c7
                by_cases hkn : k < n7
                · obtain ⟨b, off, rfl, hlt, vs, hcell, hr⟩ := hh7 (by omega)
                  obtain ⟨m, hm⟩ := hr k hkn
                  have e0 := hcell k hkn
                  generalize vs k = v at *
                  obtain ⟨a2, p2, rfl, hm2, hc2⟩ := hm
                  clear hcell hr hh7
                  go_wp2_with fail
                  go_loopw [10] (fun i wq => ∃ j : Nat, j ≤ m ∧ i = .int .i64 j ∧ Below w.heap.size w wq) (fun i _ => m - (intOf i).toNat)
                  case atStart => exact ⟨0, Nat.zero_le _, rfl, hb⟩
                  case round =>
                    clear x1
                    obtain ⟨j, hj, rfl, hb'⟩ := hrel
                    have x1 : wr.cell? ⟨W, 7, none⟩ = some (.slice (some ⟨b, off, none⟩) n7 p7) := by rw [hb'.cell (p := ⟨W, 7, none⟩) hWl]; exact c7
                    have x0 : wr.cell? ⟨b, off + k, none⟩ = some (.slice a2 m p2) := by rw [hb'.cell (p := ⟨b, off + k, none⟩) hlt]; exact e0
                    by_cases hjm : j < m
                    · obtain ⟨b2, off2, rfl, hlt2, hcell2⟩ := hc2 (by omega)
                      have y0 : wr.cell? ⟨b2, off2 + j * 2, none⟩ = some (.int .i64 (-7)) := by rw [hb'.cell (p := ⟨b2, off2 + j * 2, none⟩) hlt2, hcell2 _ (by omega)]
                      have y1 : wr.cell? ⟨b2, off2 + j * 2 + 1, none⟩ = some (.int .i64 (-7)) := by rw [hb'.cell (p := ⟨b2, off2 + j * 2 + 1, none⟩) hlt2, Nat.add_assoc, hcell2 _ (by omega)]
                      clear hcell2 hc2
                      go_wp2_with fail
                      go_roundw
                      case rel => exact ⟨j + 1, by omega, by go_num, hb'⟩
                      case measure => simp [intOf]; omega
                    · have hjm' : decide (j < m) = false := by simpa using hjm
                      go_wp2_with fail
                      go_roundw
                      case rel => exact ⟨k + 1, by omega, by go_num, hb'⟩
                      case measure => simp [intOf]; omega
                · have hkn' : decide (k < n7) = false := by simpa using hkn
                  clear hh7
                  go_wp2_with fail
                  refine (turned_any W _ (h.c.below hb) (h.l.below hb)).mono ?_
                  rintro r w2 ⟨rfl, hb2⟩
                  go_wp2_with fail
                  go_ret
                  exact ⟨rfl, hb.trans (hb2.mono hb.size)⟩
end Go.Proofs.YtldeiiffabfmeaaGreatDoor
