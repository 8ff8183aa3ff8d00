/- The document's engine: what it reads as at first, and the contracts of what only reads it. -/
import Derived.Test.YtldeiiffabfmeaaGreatDoorH
set_option linter.unusedVariables false
set_option linter.unusedSimpArgs false
namespace Go.Proofs.YtldeiiffabfmeaaGreatDoor
open Go.RowKit

def inB (t : TxnD) (x : Int) (i : Nat) : Bool := decide (t.g (2 * i) ≤ x) && decide (x ≤ t.g (2 * i + 1))
def touchB (t : TxnD) (x : Int) : Bool := hasB t.nr t.r x || anyB (inB t x) t.ng || hasB t.nw t.wr x
/-- Does transaction i take part in partition p? by its keys, one by one. -/
def rtakesB (D : EngD) (i : Nat) (p : Int) : Bool :=
  anyB (fun k => touchB (D.ts i) k && ((homeOf D.nb D.fb k : Int) == p)) 100 || (!(anyB (fun k => touchB (D.ts i) k) 100) && p == 0)

set_option maxHeartbeats 1000000 in
theorem touches_any (va vb vc vd : Value) (t : TxnD) (x : Int) (w : World) (h : RdT w va vb vc vd t) :
    Calls Tryz.prog 122 #[.agg #[va, vb, vc, vd], .int .i64 x] w fun e w' => e = .returned (.bool (touchB t x)) ∧ Below w.heap.size w w' := by
  obtain ⟨ag, capg, rfl, hng, hgc⟩ := id h.g
  have h1 := h.alloc (.cells #[va, vb, .slice ag t.ng capg, vd] 91)
  have hb0 : Below w.heap.size w (w.alloc (.cells #[va, vb, .slice ag t.ng capg, vd] 91)) := (Below.refl _ _).alloc (Nat.le_refl _) _
  go_enter Tryz.func122, Tryz.ntmps122
  go_wp2_with fail
  refine (has_any _ t.nr t.r _ _ h1.r).mono ?_; rintro e w' ⟨rfl, rfl⟩
  go_wp2_with fail
  refine (has_any _ t.nw t.wr _ _ h1.wr).mono ?_; rintro e w' ⟨rfl, rfl⟩
  go_wp2_with fail
  go_loop [5, 7] (fun r i => ∃ k : Nat, k ≤ t.ng ∧ i = .int .i64 k ∧ r = .bool (hasB t.nr t.r x || anyB (inB t x) k)) (fun _ i => t.ng - (intOf i).toNat)
  case atStart => exact ⟨0, Nat.zero_le _, rfl, by simp [anyB]⟩
  case round =>
    obtain ⟨k, hk, rfl, rfl⟩ := hrel
    by_cases hlt : k < t.ng
    · obtain ⟨b, off, rfl, hb, hcell⟩ := hgc (by omega)
      have c0 : w.cell? ⟨b, off + k * 2, none⟩ = some (.int .i64 (t.g (2 * k))) := by rw [hcell _ (by omega), Nat.mul_comm]
      have c1 : w.cell? ⟨b, off + k * 2 + 1, none⟩ = some (.int .i64 (t.g (2 * k + 1))) := by rw [Nat.add_assoc, hcell _ (by omega), Nat.mul_comm]
      clear hgc hcell
      have hs : ∀ c, (hasB t.nr t.r x || anyB (inB t x) k || inB t x k) = c → (hasB t.nr t.r x || anyB (inB t x) (k + 1)) = c := by
        intro c hc; rw [← hc, anyB, Bool.or_assoc]
      have hI : inB t x k = (decide (t.g (2 * k) ≤ x) && decide (x ≤ t.g (2 * k + 1))) := rfl
      cases hr : (hasB t.nr t.r x || anyB (inB t x) k) with
      | true =>
        have hs' := hs true (by rw [hr]; rfl)
        have HS : Hid (_ = _) := hs'
        clear hs hs' hI
        go_wp2_with fail
        go_round
        case rel => exact ⟨k + 1, by omega, by go_num, by rw [HS.out]⟩
        case measure => simp [intOf]; omega
      | false =>
        by_cases g1 : t.g (2 * k) ≤ x
        · have hs' := hs (decide (x ≤ t.g (2 * k + 1))) (by rw [hr, hI]; simp [g1])
          have HS : Hid (_ = _) := hs'
          clear hs hs' hI
          go_wp2_with fail
          go_round
          case rel => exact ⟨k + 1, by omega, by go_num, by rw [HS.out]⟩
          case measure => simp [intOf]; omega
        · have g1' : decide (t.g (2 * k) ≤ x) = false := by simpa using g1
          have hs' := hs false (by rw [hr, hI]; simp [g1])
          have HS : Hid (_ = _) := hs'
          clear hs hs' hI
          go_wp2_with fail
          go_round
          case rel => exact ⟨k + 1, by omega, by go_num, by rw [HS.out]⟩
          case measure => simp [intOf]; omega
    · have hkn : k = t.ng := by omega
      have hs : ∀ c, (hasB t.nr t.r x || anyB (inB t x) k || hasB t.nw t.wr x) = c → touchB t x = c := by
        intro c hc; rw [touchB, ← hc, hkn]
      clear hkn
      cases hr : (hasB t.nr t.r x || anyB (inB t x) k) with
      | true =>
        have hs' := hs true (by rw [hr]; rfl)
        have HS : Hid (_ = _) := hs'
        clear hs hs'
        go_wp2_with fail
        go_ret
        exact ⟨ret_bool HS.out.symm, hb0⟩
      | false =>
        have hs' := hs (hasB t.nw t.wr x) (by rw [hr]; rfl)
        have HS : Hid (_ = _) := hs'
        clear hs hs'
        go_wp2_with fail
        go_ret
        exact ⟨ret_bool HS.out.symm, hb0⟩

/-- The document's engine, of which nothing was picked. -/
structure IsRef (w : World) (x : Nat) (D : EngD) (vB vL : Value) (hs : Nat → Nat → Bool) (vl : Nat → Nat → Int) : Prop where
  lt : x < w.heap.size
  nb : D.nb ≤ 3
  nl : D.nl ≤ 24
  c0 : w.cell? ⟨x, 0, none⟩ = some vB
  c4 : w.cell? ⟨x, 4, none⟩ = some (.int .i64 ((D.nb : Int) + 1))
  c5 : w.cell? ⟨x, 5, none⟩ = some vL
  b : RdI w vB 1 D.nb D.fb
  l : RdL w vL D.nl D.ts
  t1 : ∀ p k, p < 4 → k < 100 → w.cell? ⟨x, 6 + p * 200 + k, none⟩ = some (.bool (hs p k))
  t2 : ∀ p k, p < 4 → k < 100 → w.cell? ⟨x, 6 + p * 200 + 100 + k, none⟩ = some (.int .i64 (vl p k))
  s0 : ∀ p i, p < 4 → i < 24 → w.cell? ⟨x, 806 + p * 24264 + i * 1011, none⟩ = some (.bool false)
  s2 : ∀ p i, p < 4 → i < 24 → w.cell? ⟨x, 806 + p * 24264 + i * 1011 + 2, none⟩ = some (.bool false)
  m : ∀ p q, p < 4 → q < 4 → w.cell? ⟨x, 97862 + p * 4 + q, none⟩ = some (.slice none 0 0)
theorem IsRef.below {w w' : World} {x : Nat} {D : EngD} {vB vL : Value} {hs : Nat → Nat → Bool} {vl : Nat → Nat → Int} (h : IsRef w x D vB vL hs vl) (hb : Below w.heap.size w w') : IsRef w' x D vB vL hs vl := by
  have hc : ∀ o, w'.cell? ⟨x, o, none⟩ = w.cell? ⟨x, o, none⟩ := fun o => hb.cell (p := ⟨x, o, none⟩) h.lt
  exact ⟨Nat.lt_of_lt_of_le h.lt hb.size, h.nb, h.nl, by rw [hc]; exact h.c0, by rw [hc]; exact h.c4, by rw [hc]; exact h.c5, h.b.below hb, h.l.below hb,
    fun p k hp hk => by rw [hc]; exact h.t1 p k hp hk, fun p k hp hk => by rw [hc]; exact h.t2 p k hp hk, fun p i hp hi => by rw [hc]; exact h.s0 p i hp hi, fun p i hp hi => by rw [hc]; exact h.s2 p i hp hi, fun p q hp hq => by rw [hc]; exact h.m p q hp hq⟩

section
variable (x : Nat) (D : EngD) (vB vL : Value) (hs : Nat → Nat → Bool) (vl : Nat → Nat → Int) (w : World)

set_option maxHeartbeats 400000 in
theorem ropen_any (i p : Nat) (hi : i < D.nl) (hp : p ≤ D.nb) (h : IsRef w x D vB vL hs vl) :
    Calls Tryz.prog 98 #[.pointer (some ⟨x, 0, none⟩), .int .i64 i, .int .i64 p] w fun e w' => e = .returned (.bool false) ∧ w' = w := by
  have hi' : i < 24 := Nat.lt_of_lt_of_le hi h.nl
  have hp' : p < 4 := Nat.lt_succ_of_le (Nat.le_trans hp h.nb)
  have s0 := h.s0 p i hp' hi'
  clear h hi hp
  go_enter Tryz.func98, Tryz.ntmps98
  go_wp2
  go_ret
  exact ⟨rfl, rfl⟩

set_option maxHeartbeats 400000 in
theorem there_any (p : Int) (h : IsRef w x D vB vL hs vl) :
    Calls Tryz.prog 87 #[.pointer (some ⟨x, 0, none⟩), .int .i64 p] w fun e w' => e = .returned (.bool (withinB p 0 D.nb)) ∧ w' = w := by
  have h4 := h.c4
  by_cases hp : 0 ≤ p
  · go_enter Tryz.func87, Tryz.ntmps87
    go_wp2
    go_ret
    refine ⟨ret_bool ?_, rfl⟩
    rw [withinB, decide_eq_true hp, Bool.true_and, decide_eq_decide]; omega
  · have hd : decide (0 ≤ p) = false := by simpa using hp
    go_enter Tryz.func87, Tryz.ntmps87
    go_wp2
    go_ret
    exact ⟨ret_bool (by simp [withinB, hd]), rfl⟩

set_option maxHeartbeats 2000000 in
theorem takes_any (i : Nat) (p : Int) (hi : i < D.nl) (h : IsRef w x D vB vL hs vl) :
    Calls Tryz.prog 93 #[.pointer (some ⟨x, 0, none⟩), .int .i64 i, .int .i64 p] w fun e w' => e = .returned (.bool (rtakesB D i p)) ∧ Below w.heap.size w w' := by
  go_enter Tryz.func93, Tryz.ntmps93
  go_wp2
  go_loopw [7, 8] (fun an i' wr => ∃ k : Nat, k ≤ 100 ∧ i' = .int .i64 k ∧ an = .bool (anyB (fun k => touchB (D.ts i) k) k) ∧ anyB (fun k => touchB (D.ts i) k && ((homeOf D.nb D.fb k : Int) == p)) k = false ∧ Below w.heap.size w wr) (fun _ i' _ => 100 - (intOf i').toNat)
  case atStart => exact ⟨0, Nat.zero_le _, rfl, rfl, rfl, Below.refl _ _⟩
  case round =>
    obtain ⟨k, hk, rfl, rfl, hh, hbl⟩ := hrel
    have hR := h.below hbl
    by_cases hlt : k < 100
    · have hlx := hR.lt
      have c0 := hR.c0
      have c5 := hR.c5
      obtain ⟨a, cap, rfl, hn, hc⟩ := id hR.l
      obtain ⟨b, off, rfl, hb, vs, hcell, ht⟩ := hc (by omega)
      have e0 : wr.cell? ⟨b, off + i * 4, none⟩ = some (vs (i * 4)) := by rw [hcell _ (by omega)]
      have e1 : wr.cell? ⟨b, off + i * 4 + 1, none⟩ = some (vs (i * 4 + 1)) := by rw [Nat.add_assoc, hcell _ (by omega)]
      have e2 : wr.cell? ⟨b, off + i * 4 + 2, none⟩ = some (vs (i * 4 + 2)) := by rw [Nat.add_assoc, hcell _ (by omega)]
      have e3 : wr.cell? ⟨b, off + i * 4 + 3, none⟩ = some (vs (i * 4 + 3)) := by rw [Nat.add_assoc, hcell _ (by omega)]
      have hT := ht i hi
      generalize vs (i * 4) = x0 at *
      generalize vs (i * 4 + 1) = x1 at *
      generalize vs (i * 4 + 2) = x2 at *
      generalize vs (i * 4 + 3) = x3 at *
      clear hc hcell ht
      have hA : ∀ c, (anyB (fun k => touchB (D.ts i) k) k || touchB (D.ts i) k) = c → anyB (fun k => touchB (D.ts i) k) (k + 1) = c := fun c hc => hc
      have hyes : (touchB (D.ts i) k && ((homeOf D.nb D.fb k : Int) == p)) = true → rtakesB D i p = true := fun e => by
        rw [rtakesB, anyB_yes (p := fun k => touchB (D.ts i) k && ((homeOf D.nb D.fb k : Int) == p)) hlt e]; rfl
      have hno : (touchB (D.ts i) k && ((homeOf D.nb D.fb k : Int) == p)) = false → anyB (fun k => touchB (D.ts i) k && ((homeOf D.nb D.fb k : Int) == p)) (k + 1) = false := fun e => anyB_step hh e
      cases q0 : anyB (fun k => touchB (D.ts i) k) k <;> cases q1 : touchB (D.ts i) k
      · have HN : Hid (_ = _) := hno (by rw [q1]; rfl)
        have HA : Hid (_ = _) := hA _ (by rw [q0, q1])
        clear hyes hno hA
        go_wp2_with fail
        refine (touches_any _ _ _ _ (D.ts i) k _ hT).mono ?_; rintro e' w2 ⟨rfl, hb2⟩
        go_wp2_with fail
        go_roundw
        case rel => exact ⟨k + 1, by omega, by go_num, by rw [HA.out]; rfl, HN.out, hbl.trans (hb2.mono hbl.size)⟩
        case measure => simp [intOf]; omega
      · have HA : Hid (_ = _) := hA _ (by rw [q0, q1])
        cases q2 : ((homeOf D.nb D.fb k : Int) == p) with
        | true =>
          have HY : Hid (_ = _) := hyes (by rw [q1, q2]; rfl)
          clear hyes hno hA
          go_wp2_with fail
          refine (touches_any _ _ _ _ (D.ts i) k _ hT).mono ?_; rintro e' w2 ⟨rfl, hb2⟩
          have hR2 := hR.below hb2
          have c0' := hR2.c0
          go_wp2_with fail
          refine (part_any _ D.nb D.fb _ _ hR2.b).mono ?_; rintro e' w3 ⟨rfl, rfl⟩
          go_wp2_with fail
          go_ret
          exact ⟨ret_bool HY.out.symm, hbl.trans (hb2.mono hbl.size)⟩
        | false =>
          have HN : Hid (_ = _) := hno (by rw [q1, q2]; rfl)
          clear hyes hno hA
          go_wp2_with fail
          refine (touches_any _ _ _ _ (D.ts i) k _ hT).mono ?_; rintro e' w2 ⟨rfl, hb2⟩
          have hR2 := hR.below hb2
          have c0' := hR2.c0
          go_wp2_with fail
          refine (part_any _ D.nb D.fb _ _ hR2.b).mono ?_; rintro e' w3 ⟨rfl, rfl⟩
          go_wp2_with fail
          go_roundw
          case rel => exact ⟨k + 1, by omega, by go_num, by rw [HA.out]; rfl, HN.out, hbl.trans (hb2.mono hbl.size)⟩
          case measure => simp [intOf]; omega
      · have HN : Hid (_ = _) := hno (by rw [q1]; rfl)
        have HA : Hid (_ = _) := hA _ (by rw [q0, q1])
        clear hyes hno hA
        go_wp2_with fail
        refine (touches_any _ _ _ _ (D.ts i) k _ hT).mono ?_; rintro e' w2 ⟨rfl, hb2⟩
        go_wp2_with fail
        go_roundw
        case rel => exact ⟨k + 1, by omega, by go_num, by rw [HA.out]; rfl, HN.out, hbl.trans (hb2.mono hbl.size)⟩
        case measure => simp [intOf]; omega
      · have HA : Hid (_ = _) := hA _ (by rw [q0, q1])
        cases q2 : ((homeOf D.nb D.fb k : Int) == p) with
        | true =>
          have HY : Hid (_ = _) := hyes (by rw [q1, q2]; rfl)
          clear hyes hno hA
          go_wp2_with fail
          refine (touches_any _ _ _ _ (D.ts i) k _ hT).mono ?_; rintro e' w2 ⟨rfl, hb2⟩
          have hR2 := hR.below hb2
          have c0' := hR2.c0
          go_wp2_with fail
          refine (part_any _ D.nb D.fb _ _ hR2.b).mono ?_; rintro e' w3 ⟨rfl, rfl⟩
          go_wp2_with fail
          go_ret
          exact ⟨ret_bool HY.out.symm, hbl.trans (hb2.mono hbl.size)⟩
        | false =>
          have HN : Hid (_ = _) := hno (by rw [q1, q2]; rfl)
          clear hyes hno hA
          go_wp2_with fail
          refine (touches_any _ _ _ _ (D.ts i) k _ hT).mono ?_; rintro e' w2 ⟨rfl, hb2⟩
          have hR2 := hR.below hb2
          have c0' := hR2.c0
          go_wp2_with fail
          refine (part_any _ D.nb D.fb _ _ hR2.b).mono ?_; rintro e' w3 ⟨rfl, rfl⟩
          go_wp2_with fail
          go_roundw
          case rel => exact ⟨k + 1, by omega, by go_num, by rw [HA.out]; rfl, HN.out, hbl.trans (hb2.mono hbl.size)⟩
          case measure => simp [intOf]; omega
    · have hk100 : k = 100 := by omega
      have hs' : ∀ c, (!(anyB (fun k => touchB (D.ts i) k) k) && p == 0) = c → rtakesB D i p = c := by
        intro c hc; rw [hk100] at hc hh; rw [rtakesB, hh, hc]; rfl
      clear hk100
      cases q0 : anyB (fun k => touchB (D.ts i) k) k with
      | true =>
        have HS : Hid (_ = _) := hs' false (by rw [q0]; rfl)
        clear hs'
        go_wp2_with fail
        go_ret
        exact ⟨ret_bool HS.out.symm, hbl⟩
      | false =>
        have HS : Hid (_ = _) := hs' (p == 0) (by rw [q0]; rfl)
        clear hs'
        go_wp2_with fail
        go_ret
        exact ⟨ret_bool HS.out.symm, hbl⟩
end
end Go.Proofs.YtldeiiffabfmeaaGreatDoor
