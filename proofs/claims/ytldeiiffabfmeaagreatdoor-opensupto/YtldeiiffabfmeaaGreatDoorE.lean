/- The contracts of package check, on. -/
import Derived.Test.YtldeiiffabfmeaaGreatDoorB
import Derived.Test.YtldeiiffabfmeaaGreatDoorC
set_option linter.unusedVariables false
set_option linter.unusedSimpArgs false
namespace Go.Proofs.YtldeiiffabfmeaaGreatDoor
open Go.RowKit

set_option maxHeartbeats 1000000 in
theorem code_any (va vb vc vd : Value) (t : TxnD) (w : World) (h : RdT w va vb vc vd t) :
    Calls Tryz.prog 119 #[.agg #[va, vb, vc, vd]] w fun e w' => e = .returned (.bool (codeB t)) ∧ Below w.heap.size w w' := by
  have hd := h.c
  obtain ⟨ac, capc, rfl, hn, -⟩ := hd
  by_cases h16 : t.nc ≤ 16
  · go_enter Tryz.func119, Tryz.ntmps119
    go_wp2
    go_loopw [11] (fun i wr => ∃ k : Nat, k ≤ t.nc ∧ i = .int .i64 k ∧ allB (insB t) k = true ∧ Below (w.heap.size + 1) (w.alloc (.cells #[va, vb, vc, .slice ac t.nc capc] 91)) wr) (fun i _ => t.nc - (intOf i).toNat)
    case atStart => exact ⟨0, Nat.zero_le _, rfl, rfl, Below.refl _ _⟩
    case round =>
      obtain ⟨k, hk, rfl, hh, hbl⟩ := hrel
      have hbw : Below w.heap.size w wr := ((Below.refl _ _).alloc (Nat.le_refl _) _).trans (hbl.mono (by omega))
      obtain ⟨hc, hf⟩ := bcell (W := w.alloc (.cells #[va, vb, vc, .slice ac t.nc capc] 91)) (by simpa using hbl)
      have hz : w.heap.size + 1 ≤ wr.heap.size := by have := hbl.size; simpa using this
      by_cases hlt : k < t.nc
      · have hT := h.below hbw
        cases hp : insB t k with
        | false =>
          go_wp2_with (go_at_call 144; refine (cins_any _ _ _ _ t k hlt _ hT).mono ?_; rintro e w' ⟨rfl, hb2⟩)
          go_ret
          exact ⟨ret_bool (by simp [codeB, allB_no hlt hp]), hbw.trans (hb2.mono hbw.size)⟩
        | true =>
          go_wp2_with (go_at_call 144; refine (cins_any _ _ _ _ t k hlt _ hT).mono ?_; rintro e w' ⟨rfl, hb2⟩)
          go_roundw
          case rel => exact ⟨k + 1, by omega, by go_num, allB_step hh hp, hbl.trans (hb2.mono hz)⟩
          case measure => simp [intOf]; omega
      · go_wp2
        go_ret
        have : k = t.nc := by omega
        subst this
        exact ⟨ret_bool (by simp [codeB, hh, h16]), hbw⟩
  · go_enter Tryz.func119, Tryz.ntmps119
    go_wp2
    go_ret
    exact ⟨ret_bool (by simp [codeB, h16]), (Below.refl _ _).alloc (Nat.le_refl _) _⟩

set_option maxHeartbeats 1000000 in
theorem ctxn_any (va vb vc vd : Value) (t : TxnD) (w : World) (h : RdT w va vb vc vd t) :
    Calls Tryz.prog 79 #[.agg #[va, vb, vc, vd]] w fun e w' => e = .returned (.bool (txnB t)) ∧ Below w.heap.size w w' := by
  have h1 := h.alloc (.cells #[va, vb, vc, vd] 91)
  have hb0 : Below w.heap.size w (w.alloc (.cells #[va, vb, vc, vd] 91)) := (Below.refl _ _).alloc (Nat.le_refl _) _
  cases k1 : keysB t.nr t.r with
  | false =>
    go_enter Tryz.func79, Tryz.ntmps79
    go_wp2_with (first | (go_at_call_of 117 (va); refine (ckeys_any _ t.nr t.r _ h1.r).mono ?_; rintro e w' ⟨rfl, rfl⟩))
    go_ret
    exact ⟨ret_bool (by simp [txnB, k1]), hb0⟩
  | true =>
    cases k2 : keysB t.nw t.wr with
    | false =>
      go_enter Tryz.func79, Tryz.ntmps79
      go_wp2_with fail
      refine (ckeys_any _ t.nr t.r _ h1.r).mono ?_; rintro e w' ⟨rfl, rfl⟩
      go_wp2_with fail
      refine (ckeys_any _ t.nw t.wr _ h1.wr).mono ?_; rintro e w' ⟨rfl, rfl⟩
      go_wp2_with fail
      go_ret
      exact ⟨ret_bool (by simp [txnB, k2]), hb0⟩
    | true =>
      cases k3 : rangesB t.ng t.g with
      | false =>
        go_enter Tryz.func79, Tryz.ntmps79
        go_wp2_with fail
        refine (ckeys_any _ t.nr t.r _ h1.r).mono ?_; rintro e w' ⟨rfl, rfl⟩
        go_wp2_with fail
        refine (ckeys_any _ t.nw t.wr _ h1.wr).mono ?_; rintro e w' ⟨rfl, rfl⟩
        go_wp2_with fail
        refine (ranges_any _ t.ng t.g _ h1.g).mono ?_; rintro e w' ⟨rfl, hb2⟩
        go_wp2_with fail
        go_ret
        exact ⟨ret_bool (by simp [txnB, k3]), hb0.trans (hb2.mono (by simp))⟩
      | true =>
        go_enter Tryz.func79, Tryz.ntmps79
        go_wp2_with fail
        refine (ckeys_any _ t.nr t.r _ h1.r).mono ?_; rintro e w' ⟨rfl, rfl⟩
        go_wp2_with fail
        refine (ckeys_any _ t.nw t.wr _ h1.wr).mono ?_; rintro e w' ⟨rfl, rfl⟩
        go_wp2_with fail
        refine (ranges_any _ t.ng t.g _ h1.g).mono ?_; rintro e w2 ⟨rfl, hb2⟩
        have h2 := h1.below hb2
        obtain ⟨hc, hf⟩ := bcell hb2
        have hz : w.heap.size + 1 ≤ w2.heap.size := by have := hb2.size; simpa using this
        go_wp2_with fail
        refine (code_any _ _ _ _ t _ h2).mono ?_; rintro e w3 ⟨rfl, hb3⟩
        go_wp2_with fail
        go_ret
        exact ⟨ret_bool (by simp [txnB, k1, k2, k3]), (hb0.trans (hb2.mono (by simp))).trans (hb3.mono (by omega))⟩

set_option maxHeartbeats 1000000 in
theorem clog_any (v : Value) (n : Nat) (ts : Nat → TxnD) (w : World) (h : RdL w v n ts) :
    Calls Tryz.prog 47 #[v] w fun e w' => e = .returned (.tuple #[.int .i64 ((logAt n ts).getD 0 : Nat), .bool (logAt n ts).isNone]) ∧ Below w.heap.size w w' := by
  have hL := h
  obtain ⟨a, cap, rfl, hn, hc⟩ := h
  by_cases h24 : n ≤ 24
  · go_enter Tryz.func47, Tryz.ntmps47
    go_wp2
    go_loopw [11] (fun i wr => ∃ k : Nat, k ≤ n ∧ i = .int .i64 k ∧ allB (fun i => txnB (ts i)) k = true ∧ Below w.heap.size w wr) (fun i _ => n - (intOf i).toNat)
    case atStart => exact ⟨0, Nat.zero_le _, rfl, rfl, Below.refl _ _⟩
    case round =>
      obtain ⟨k, hk, rfl, hh, hbl⟩ := hrel
      by_cases hlt : k < n
      · obtain ⟨b, off, rfl, hb, vs, hcell, ht⟩ := hc (by omega)
        have hb' : b < wr.heap.size := Nat.lt_of_lt_of_le hb hbl.size
        have c0 : wr.cell? ⟨b, off + k * 4, none⟩ = some (vs (k * 4)) := by rw [hbl.cell (p := ⟨b, off + k * 4, none⟩) hb, hcell _ (by omega)]
        have c1 : wr.cell? ⟨b, off + k * 4 + 1, none⟩ = some (vs (k * 4 + 1)) := by rw [hbl.cell (p := ⟨b, off + k * 4 + 1, none⟩) hb, Nat.add_assoc, hcell _ (by omega)]
        have c2 : wr.cell? ⟨b, off + k * 4 + 2, none⟩ = some (vs (k * 4 + 2)) := by rw [hbl.cell (p := ⟨b, off + k * 4 + 2, none⟩) hb, Nat.add_assoc, hcell _ (by omega)]
        have c3 : wr.cell? ⟨b, off + k * 4 + 3, none⟩ = some (vs (k * 4 + 3)) := by rw [hbl.cell (p := ⟨b, off + k * 4 + 3, none⟩) hb, Nat.add_assoc, hcell _ (by omega)]
        have hT := (ht k hlt).below hbl
        generalize vs (k * 4) = x0 at *
        generalize vs (k * 4 + 1) = x1 at *
        generalize vs (k * 4 + 2) = x2 at *
        generalize vs (k * 4 + 3) = x3 at *
        clear hc hcell ht
        obtain ⟨a0, p0, rfl, -, -⟩ := id hT.r
        obtain ⟨a1, p1, rfl, -, -⟩ := id hT.wr
        obtain ⟨a2, p2, rfl, -, -⟩ := id hT.g
        obtain ⟨a3, p3, rfl, -, -⟩ := id hT.c
        have hT2 := hT.alloc (.cells #[.slice a0 (ts k).nr p0, .slice a1 (ts k).nw p1, .slice a2 (ts k).ng p2, .slice a3 (ts k).nc p3] 91)
        have hbz := hbl.size
        cases hp : txnB (ts k) with
        | false =>
          have HL : Hid (logAt n ts = some k) := by
            unfold logAt; rw [if_neg (by omega)]; exact firstNo_at hlt hh hp
          go_wp2_with (go_at_call 79; refine (ctxn_any _ _ _ _ (ts k) _ hT2).mono ?_; rintro e w' ⟨rfl, hb2⟩)
          go_ret2
          refine ⟨?_, (hbl.alloc hbl.size _).trans (hb2.mono (by simp; omega))⟩
          rw [HL.out]; rfl
        | true =>
          go_wp2_with (go_at_call 79; refine (ctxn_any _ _ _ _ (ts k) _ hT2).mono ?_; rintro e w' ⟨rfl, hb2⟩)
          go_roundw
          case rel => exact ⟨k + 1, by omega, by go_num, allB_step hh hp, (hbl.alloc hbl.size _).trans (hb2.mono (by simp; omega))⟩
          case measure => simp [intOf]; omega
      · have : k = n := by omega
        subst this
        have HL : Hid (logAt k ts = none) := by
          unfold logAt; rw [if_neg (by omega)]; exact firstNo_all hh
        go_wp2
        go_ret2
        refine ⟨?_, hbl⟩
        rw [HL.out]; rfl
  · have HL : Hid (logAt n ts = some 24) := by unfold logAt; rw [if_pos (by omega)]; rfl
    go_enter Tryz.func47, Tryz.ntmps47
    go_wp2
    go_ret2
    refine ⟨?_, Below.refl _ _⟩
    rw [HL.out]; rfl
end Go.Proofs.YtldeiiffabfmeaaGreatDoor
