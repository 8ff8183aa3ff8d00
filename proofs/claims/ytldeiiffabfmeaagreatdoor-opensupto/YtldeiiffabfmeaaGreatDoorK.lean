/- The contracts of the document's engine: what is to be seen at first. -/
import Derived.Test.YtldeiiffabfmeaaGreatDoorI
import Derived.Test.YtldeiiffabfmeaaGreatDoorJ
set_option linter.unusedVariables false
set_option linter.unusedSimpArgs false
namespace Go.Proofs.YtldeiiffabfmeaaGreatDoor
open Go.RowKit

def rnextOf (D : EngD) (p : Int) : Nat := firstYes (fun i => rtakesB D i p) D.nl 0

section
variable (x : Nat) (D : EngD) (vB vL : Value) (hs : Nat → Nat → Bool) (vl : Nat → Nat → Int) (w : World)

set_option maxHeartbeats 1000000 in
theorem rnext_any (p : Nat) (hp : p ≤ D.nb) (h : IsRef w x D vB vL hs vl) :
    Calls Tryz.prog 96 #[.pointer (some ⟨x, 0, none⟩), .int .i64 p] w fun e w' => e = .returned (.int .i64 (rnextOf D p : Nat)) ∧ Below w.heap.size w w' := by
  have hlt := h.lt
  have hp4 : p < 4 := Nat.lt_succ_of_le (Nat.le_trans hp h.nb)
  have hnl := h.nl
  obtain ⟨a, cap, rfl, hn, -⟩ := id h.l
  go_enter Tryz.func96, Tryz.ntmps96
  go_wp2
  go_loopw [5] (fun i wr => ∃ k : Nat, k ≤ D.nl ∧ i = .int .i64 k ∧ anyB (fun i => rtakesB D i p) k = false ∧ Below w.heap.size w wr) (fun i _ => D.nl - (intOf i).toNat)
  case atStart => exact ⟨0, Nat.zero_le _, rfl, rfl, Below.refl _ _⟩
  case round =>
    obtain ⟨k, hk, rfl, hh, hbl⟩ := hrel
    have hR := h.below hbl
    have c5 := hR.c5
    by_cases hkn : k < D.nl
    · have hk24 : k < 24 := by omega
      cases hq : rtakesB D k p with
      | true =>
        have HN : Hid (rnextOf D p = k) := firstYes_at D.nl 0 k (by omega) (by omega) (fun j _ hj => anyB_none hh j hj) hq
        go_wp2_with fail
        refine (takes_any _ D vB _ hs vl _ k p hkn hR).mono ?_; rintro e' w2 ⟨rfl, hb2⟩
        have s0 := (hR.below hb2).s0 p k hp4 hk24
        go_wp2_with fail
        go_ret
        exact ⟨by rw [HN.out]; rfl, hbl.trans (hb2.mono hbl.size)⟩
      | false =>
        go_wp2_with fail
        refine (takes_any _ D vB _ hs vl _ k p hkn hR).mono ?_; rintro e' w2 ⟨rfl, hb2⟩
        go_wp2_with fail
        go_roundw
        case rel => exact ⟨k + 1, by omega, by go_num, anyB_step hh hq, hbl.trans (hb2.mono hbl.size)⟩
        case measure => simp [intOf]; omega
    · have HN : Hid (rnextOf D p = D.nl) := by
        have := firstYes_end (p := fun i => rtakesB D i p) D.nl 0 (fun j _ hj => anyB_none hh j (by omega))
        simpa [rnextOf, Hid] using this
      go_wp2_with fail
      go_ret
      exact ⟨by rw [HN.out]; rfl, hbl⟩

set_option maxHeartbeats 1000000 in
theorem ropens_any (p : Nat) (hp : p ≤ D.nb) (h : IsRef w x D vB vL hs vl) :
    Calls Tryz.prog 97 #[.pointer (some ⟨x, 0, none⟩), .int .i64 p] w fun e w' => e = .returned (.int .i64 0) ∧ w' = w := by
  have c5 := h.c5
  have hnl := h.nl
  obtain ⟨a, cap, rfl, hn, -⟩ := id h.l
  go_enter Tryz.func97, Tryz.ntmps97
  go_wp2
  go_loop [5, 6] (fun c i => ∃ k : Nat, k ≤ D.nl ∧ i = .int .i64 k ∧ c = .int .i64 0) (fun _ i => D.nl - (intOf i).toNat)
  case atStart => exact ⟨0, Nat.zero_le _, rfl, rfl⟩
  case round =>
    obtain ⟨k, hk, rfl, rfl⟩ := hrel
    by_cases hkn : k < D.nl
    · go_wp2_with (go_at_call 98; refine (ropen_any _ D vB _ hs vl _ k p hkn hp h).mono ?_; rintro e w' ⟨rfl, rfl⟩)
      go_round
      case rel => exact ⟨k + 1, by omega, by go_num, rfl⟩
      case measure => simp [intOf]; omega
    · go_wp2_with fail
      go_ret
      exact ⟨rfl, rfl⟩

/-- The number of an error, if it is none: 0. -/
def okOr (b : Bool) (n : Int) : Int := if b then 0 else n
theorem okOr_true {b : Bool} {n : Int} (h : b = true) : okOr b n = 0 := by rw [h]; rfl
theorem okOr_false {b : Bool} {n : Int} (h : b = false) : okOr b n = n := by rw [h]; rfl

/-- Is there such a mail? -/
def mailB (nb : Nat) (p q : Int) : Bool := withinB p 0 nb && withinB q 0 nb && !(p == q)

set_option maxHeartbeats 1000000 in
theorem rmail_any (p q : Int) (h : IsRef w x D vB vL hs vl) :
    Calls Tryz.prog 59 #[.pointer (some ⟨x, 0, none⟩), .int .i64 p, .int .i64 q] w fun e w' => e = .returned (.tuple #[.int .i64 0, .int .i64 (okOr (mailB D.nb p q) 4)]) ∧ w' = w := by
  have hnb := h.nb
  cases q1 : withinB p 0 D.nb with
  | false =>
    go_enter Tryz.func59, Tryz.ntmps59
    go_wp2_with (go_at_call 87; refine (there_any _ D vB vL hs vl _ _ h).mono ?_; rintro e w' ⟨rfl, rfl⟩)
    go_ret2
    exact ⟨by rw [okOr_false (by simp [mailB, q1])]; rfl, rfl⟩
  | true =>
    cases q2 : withinB q 0 D.nb with
    | false =>
      go_enter Tryz.func59, Tryz.ntmps59
      go_wp2_with (go_at_call 87; refine (there_any _ D vB vL hs vl _ _ h).mono ?_; rintro e w' ⟨rfl, rfl⟩)
      go_ret2
      exact ⟨by rw [okOr_false (by simp [mailB, q2])]; rfl, rfl⟩
    | true =>
      cases q3 : (p == q) with
      | true =>
        go_enter Tryz.func59, Tryz.ntmps59
        go_wp2_with (go_at_call 87; refine (there_any _ D vB vL hs vl _ _ h).mono ?_; rintro e w' ⟨rfl, rfl⟩)
        go_ret2
        exact ⟨by rw [okOr_false (by simp [mailB, q3])]; rfl, rfl⟩
      | false =>
        have HM : Hid (mailB D.nb p q = true) := by simp [Hid, mailB, q1, q2, q3]
        have q1' := q1
        have q2' := q2
        simp only [withinB, Bool.and_eq_true, decide_eq_true_eq] at q1' q2'
        obtain ⟨p', rfl⟩ : ∃ p' : Nat, p = p' := ⟨p.toNat, by omega⟩
        obtain ⟨q', rfl⟩ : ∃ q' : Nat, q = q' := ⟨q.toNat, by omega⟩
        have b1 : p' < 4 := by omega
        have b2 : q' < 4 := by omega
        have hm := h.m p' q' b1 b2
        go_enter Tryz.func59, Tryz.ntmps59
        go_wp2_with (go_at_call 87; refine (there_any _ D vB vL hs vl _ _ h).mono ?_; rintro e w' ⟨rfl, rfl⟩)
        go_ret2
        exact ⟨by rw [okOr_true HM.out]; rfl, rfl⟩

set_option maxHeartbeats 2000000 in
theorem rresult_any (i : Int) (hex : ∀ i, i < D.nl → ∃ p, p ≤ D.nb ∧ rtakesB D i (p : Nat) = true) (h : IsRef w x D vB vL hs vl) :
    Calls Tryz.prog 55 #[.pointer (some ⟨x, 0, none⟩), .int .i64 i] w fun e w' => e = .returned (.tuple #[.agg #[.bool false, .bool false, .int .i64 0, .int .i64 0, .int .i64 0, .int .i64 0], .int .i64 (okOr (withinB i 0 (D.nl - 1)) 5)]) ∧ Below w.heap.size w w' := by
  have c5 := h.c5
  have hnl := h.nl
  have hnb := h.nb
  have hlt := h.lt
  obtain ⟨a, cap, rfl, hn, -⟩ := id h.l
  by_cases g1 : i < 0
  · have hw : withinB i 0 ((D.nl : Int) - 1) = false := by simp [withinB]; omega
    have HW : Hid (_ = _) := hw
    clear hw
    go_enter Tryz.func55, Tryz.ntmps55
    go_wp2_with fail
    refine bodyPost_ret (v := .tuple #[.agg #[.bool false, .bool false, .int .i64 0, .int .i64 0, .int .i64 0, .int .i64 0], .int .i64 5]) (by simp [results, Tryz.results55, go_sem]) rfl ⟨by rw [okOr_false HW.out], ?_⟩
    exact (Below.refl _ _).alloc (Nat.le_refl _) _
  have g1' : decide (i < 0) = false := by simpa using g1
  by_cases g2 : (D.nl : Int) ≤ i
  · have hw : withinB i 0 ((D.nl : Int) - 1) = false := by simp [withinB]; omega
    have HW : Hid (_ = _) := hw
    clear hw
    go_enter Tryz.func55, Tryz.ntmps55
    go_wp2_with fail
    refine bodyPost_ret (v := .tuple #[.agg #[.bool false, .bool false, .int .i64 0, .int .i64 0, .int .i64 0, .int .i64 0], .int .i64 5]) (by simp [results, Tryz.results55, go_sem]) rfl ⟨by rw [okOr_false HW.out], ?_⟩
    exact (Below.refl _ _).alloc (Nat.le_refl _) _
  have hw : withinB i 0 ((D.nl : Int) - 1) = true := by simp [withinB]; omega
  have HW : Hid (_ = _) := hw
  clear hw
  obtain ⟨k, rfl⟩ : ∃ k : Nat, i = k := ⟨i.toNat, by omega⟩
  have hk : k < D.nl := by omega
  have hk24 : k < 24 := by omega
  obtain ⟨p0, hp0, ht0⟩ := hex k hk
  clear hex
  go_enter Tryz.func55, Tryz.ntmps55
  go_wp2_with fail
  go_loopw [6] (fun i wr => ∃ p : Nat, p ≤ p0 ∧ i = .int .i64 p ∧ Below (w.heap.size + 1) (w.alloc (.cells #[.bool false, .bool false, .int .i64 0, .int .i64 0, .int .i64 0, .int .i64 0] 75)) wr) (fun i _ => p0 - (intOf i).toNat)
  case atStart => exact ⟨0, Nat.zero_le _, rfl, Below.refl _ _⟩
  case round =>
    obtain ⟨p, hp, rfl, hbl⟩ := hrel
    have hbw : Below w.heap.size w wr := ((Below.refl _ _).alloc (Nat.le_refl _) _).trans (hbl.mono (by omega))
    have hR := h.below hbw
    have hz : w.heap.size + 1 ≤ wr.heap.size := by have := hbl.size; simpa using this
    have c4 := hR.c4
    have hp4 : p < 4 := by omega
    have s2 := hR.s2 p k hp4 hk24
    cases hq : rtakesB D k p with
    | true =>
      go_wp2_with fail
      refine (takes_any _ D vB _ hs vl _ k p hk hR).mono ?_; rintro e' w2 ⟨rfl, hb2⟩
      have s2' := (hR.below hb2).s2 p k hp4 hk24
      have d : ∀ o, o < 6 → w2.cell? ⟨w.heap.size, o, none⟩ = (w.alloc (.cells #[.bool false, .bool false, .int .i64 0, .int .i64 0, .int .i64 0, .int .i64 0] 75)).cell? ⟨w.heap.size, o, none⟩ := fun o _ => by
        rw [hb2.cell (p := ⟨w.heap.size, o, none⟩) (by simp; omega), hbl.cell (p := ⟨w.heap.size, o, none⟩) (by simp)]
      have f0 : ∀ o, w2.frozen? ⟨w.heap.size, o, none⟩ = false := fun o => by
        rw [hb2.frozen (p := ⟨w.heap.size, o, none⟩) (by simp; omega), hbl.frozen (p := ⟨w.heap.size, o, none⟩) (by simp)]; simp
      have d0 := d 0 (by omega)
      have d1 := d 1 (by omega)
      have d2 := d 2 (by omega)
      have d3 := d 3 (by omega)
      have d4 := d 4 (by omega)
      have d5 := d 5 (by omega)
      simp at d0 d1 d2 d3 d4 d5
      clear d
      go_wp2_with fail
      refine bodyPost_ret (v := .tuple #[.agg #[.bool false, .bool false, .int .i64 0, .int .i64 0, .int .i64 0, .int .i64 0], .int .i64 0]) (by simp [results, Tryz.results55, go_sem, d0, d1, d2, d3, d4, d5]) rfl ⟨by rw [okOr_true HW.out], ?_⟩
      exact ((((((hbw.trans (hb2.mono (by omega))).setCell (Nat.le_refl _) _).setCell (Nat.le_refl _) _).setCell (Nat.le_refl _) _).setCell (Nat.le_refl _) _).setCell (Nat.le_refl _) _).setCell (Nat.le_refl _) _
    | false =>
      go_wp2_with fail
      refine (takes_any _ D vB _ hs vl _ k p hk hR).mono ?_; rintro e' w2 ⟨rfl, hb2⟩
      go_wp2_with fail
      go_roundw
      case rel =>
        have : p ≠ p0 := fun e => by rw [e, ht0] at hq; cases hq
        exact ⟨p + 1, by omega, by go_num, hbl.trans (hb2.mono hz)⟩
      case measure =>
        have : p ≠ p0 := fun e => by rw [e, ht0] at hq; cases hq
        simp [intOf]; omega

end
end Go.Proofs.YtldeiiffabfmeaaGreatDoor
