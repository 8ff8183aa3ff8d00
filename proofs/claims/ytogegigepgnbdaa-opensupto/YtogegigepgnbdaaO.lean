/- The contracts of the program's Result, Table, Look and Mail, at first. -/
import Derived.Test.YtogegigepgnbdaaN
set_option linter.unusedVariables false
set_option linter.unusedSimpArgs false
namespace Go.Proofs.Ytogegigepgnbdaa
open Go.RowKit

/-- The program's engine, of which nothing was picked. -/
structure IsEng (w : World) (e : Nat) (D : EngD) (vB vL : Value) (K : Nat) (M : Nat → Nat) (hs : Nat → Nat → Bool) (vl : Nat → Nat → Int) : Prop where
  k : IsKnown w e D vB vL
  nb : D.nb ≤ 3
  nl : D.nl ≤ 24
  c5 : w.cell? ⟨e, 5, none⟩ = some (.slice (some ⟨K, 0, none⟩) (D.nb + 1) (D.nb + 1))
  lt : K < w.heap.size
  pt : ∀ p, p ≤ D.nb → w.cell? ⟨K, p * 2, none⟩ = some (.map (some (M p)))
  pl : ∀ p, p ≤ D.nb → w.cell? ⟨K, p * 2 + 1, none⟩ = some (.int .i64 (nextOf D (p : Nat) : Nat))
  mlt : ∀ p, p ≤ D.nb → M p < w.heap.size
  tab : ∀ p, p ≤ D.nb → IsTab w (M p) (hs p) (vl p)
theorem IsEng.below {w w' : World} {e : Nat} {D : EngD} {vB vL : Value} {K : Nat} {M : Nat → Nat} {hs : Nat → Nat → Bool} {vl : Nat → Nat → Int} (h : IsEng w e D vB vL K M hs vl) (hb : Below w.heap.size w w') : IsEng w' e D vB vL K M hs vl :=
  ⟨h.k.below hb, h.nb, h.nl, by rw [hb.cell (p := ⟨e, 5, none⟩) h.k.lt]; exact h.c5, Nat.lt_of_lt_of_le h.lt hb.size, fun p hp => by rw [hb.cell (p := ⟨K, p * 2, none⟩) h.lt]; exact h.pt p hp,
    fun p hp => by rw [hb.cell (p := ⟨K, p * 2 + 1, none⟩) h.lt]; exact h.pl p hp, fun p hp => Nat.lt_of_lt_of_le (h.mlt p hp) hb.size, fun p hp => (h.tab p hp).block (hb.block _ (h.mlt p hp))⟩

section
variable (e : Nat) (D : EngD) (vB vL : Value) (K : Nat) (M : Nat → Nat) (hs : Nat → Nat → Bool) (vl : Nat → Nat → Int) (w : World)

set_option maxHeartbeats 1000000 in
theorem eresult_any (i : Int) (h : IsEng w e D vB vL K M hs vl) :
    Calls Try.prog 27 #[.pointer (some ⟨e, 0, none⟩), .int .i64 i] w fun r w' => r = .returned (.tuple #[.agg #[.bool false, .bool false, .int .i64 0, .int .i64 0, .int .i64 0, .int .i64 0], .int .i64 (okOr (withinB i 0 (D.nl - 1)) 5)]) ∧ Below w.heap.size w w' := by
  have c4 := h.k.c4
  have hlt := h.k.lt
  obtain ⟨a, cap, rfl, hn, -⟩ := id h.k.l
  by_cases g1 : i < 0
  · have hw : withinB i 0 ((D.nl : Int) - 1) = false := by simp [withinB]; omega
    have HW : Hid (_ = _) := hw
    clear hw
    go_enter Try.func27, Try.ntmps27
    go_wp2_with fail
    refine bodyPost_ret (v := .tuple #[.agg #[.bool false, .bool false, .int .i64 0, .int .i64 0, .int .i64 0, .int .i64 0], .int .i64 5]) (by simp [results, Try.results27, go_sem]) rfl ⟨by rw [okOr_false HW.out], ?_⟩
    exact (Below.refl _ _).alloc (Nat.le_refl _) _
  have g1' : decide (i < 0) = false := by simpa using g1
  by_cases g2 : (D.nl : Int) ≤ i
  · have hw : withinB i 0 ((D.nl : Int) - 1) = false := by simp [withinB]; omega
    have HW : Hid (_ = _) := hw
    clear hw
    go_enter Try.func27, Try.ntmps27
    go_wp2_with fail
    refine bodyPost_ret (v := .tuple #[.agg #[.bool false, .bool false, .int .i64 0, .int .i64 0, .int .i64 0, .int .i64 0], .int .i64 5]) (by simp [results, Try.results27, go_sem]) rfl ⟨by rw [okOr_false HW.out], ?_⟩
    exact (Below.refl _ _).alloc (Nat.le_refl _) _
  have hw : withinB i 0 ((D.nl : Int) - 1) = true := by simp [withinB]; omega
  have HW : Hid (_ = _) := hw
  clear hw
  go_enter Try.func27, Try.ntmps27
  go_wp2_with fail
  refine bodyPost_ret (v := .tuple #[.agg #[.bool false, .bool false, .int .i64 0, .int .i64 0, .int .i64 0, .int .i64 0], .int .i64 0]) (by simp [results, Try.results27, go_sem]) rfl ⟨by rw [okOr_true HW.out], ?_⟩
  exact (Below.refl _ _).alloc (Nat.le_refl _) _

set_option maxHeartbeats 1000000 in
theorem email_any (p q : Int) (h : IsEng w e D vB vL K M hs vl) :
    Calls Try.prog 33 #[.pointer (some ⟨e, 0, none⟩), .int .i64 p, .int .i64 q] w fun r w' => r = .returned (.tuple #[.int .i64 0, .int .i64 (okOr (mailB D.nb p q) 4)]) ∧ w' = w := by
  cases q1 : withinB p 0 D.nb with
  | false =>
    go_enter Try.func33, Try.ntmps33
    go_wp2_with (go_at_call 58; refine (hasPart_any _ D vB vL _ _ h.k).mono ?_; rintro e w' ⟨rfl, rfl⟩)
    go_ret2
    exact ⟨by rw [okOr_false (by simp [mailB, q1])]; rfl, rfl⟩
  | true =>
    cases q2 : withinB q 0 D.nb with
    | false =>
      go_enter Try.func33, Try.ntmps33
      go_wp2_with (go_at_call 58; refine (hasPart_any _ D vB vL _ _ h.k).mono ?_; rintro e w' ⟨rfl, rfl⟩)
      go_ret2
      exact ⟨by rw [okOr_false (by simp [mailB, q2])]; rfl, rfl⟩
    | true =>
      cases q3 : (p == q) with
      | true =>
        go_enter Try.func33, Try.ntmps33
        go_wp2_with (go_at_call 58; refine (hasPart_any _ D vB vL _ _ h.k).mono ?_; rintro e w' ⟨rfl, rfl⟩)
        go_ret2
        exact ⟨by rw [okOr_false (by simp [mailB, q3])]; rfl, rfl⟩
      | false =>
        have HM : Hid (mailB D.nb p q = true) := by simp [Hid, mailB, q1, q2, q3]
        go_enter Try.func33, Try.ntmps33
        go_wp2_with (go_at_call 58; refine (hasPart_any _ D vB vL _ _ h.k).mono ?_; rintro e w' ⟨rfl, rfl⟩)
        go_ret2
        exact ⟨by rw [okOr_true HM.out]; rfl, rfl⟩

theorem etable_no (p : Int) (h : IsEng w e D vB vL K M hs vl) (q1 : withinB p 0 D.nb = false) :
    Calls Try.prog 55 #[.pointer (some ⟨e, 0, none⟩), .int .i64 p] w fun r w' => r = .returned (.tuple #[.slice none 0 0, .int .i64 4]) ∧ w' = w := by
  go_enter Try.func55, Try.ntmps55
  go_wp2_with (go_at_call 58; refine (hasPart_any _ D vB vL _ _ h.k).mono ?_; rintro e w' ⟨rfl, rfl⟩)
  go_ret2
  exact ⟨rfl, rfl⟩

set_option maxHeartbeats 1000000 in
theorem etable_any (p : Nat) (hp : p ≤ D.nb) (h : IsEng w e D vB vL K M hs vl) :
    Calls Try.prog 55 #[.pointer (some ⟨e, 0, none⟩), .int .i64 p] w fun r w' => ∃ v, r = .returned (.tuple #[v, .int .i64 0]) ∧ w'.ownsRow w.heap.size 62 2 v (cntB (hs p) 100) (tabL (hs p) (vl p) 100) ∧ Below w.heap.size w w' := by
  have q1 : withinB (p : Int) 0 D.nb = true := by simp [withinB]; omega
  have c5 := h.c5
  have pt := h.pt p hp
  have hnb := h.nb
  have ht := h.tab p hp
  go_enter Try.func55, Try.ntmps55
  go_wp2_with (go_at_call 58; refine (hasPart_any _ D vB vL _ _ h.k).mono ?_; rintro e w' ⟨rfl, rfl⟩)
  refine (pairs_any K (p * 2) (M p) (hs p) (vl p) _ pt ht).mono ?_
  rintro r w2 ⟨v, rfl, hrow, hb2⟩
  go_wp2_with fail
  go_ret2
  exact ⟨_, rfl, hrow, hb2⟩

set_option maxHeartbeats 1000000 in
theorem llook_any (b off : Nat) (n : Int) (hc : w.cell? ⟨b, off, none⟩ = some (.int .i64 n)) :
    Calls Try.prog 59 #[.pointer (some ⟨b, off, none⟩)] w fun r w' => r = .returned (.agg #[.int .i64 n, .int .i64 0, .int .i64 0, .int .i64 0]) ∧ Below w.heap.size w w' := by
  have hlt : b < w.heap.size := World.block_lt_of_cell? _ _ hc
  go_enter Try.func59, Try.ntmps59
  go_wp2_with fail
  refine bodyPost_ret (v := .agg #[.int .i64 n, .int .i64 0, .int .i64 0, .int .i64 0]) (by simp [results, Try.results59, go_sem]) rfl ⟨rfl, ?_⟩
  exact (Below.refl _ _).alloc (Nat.le_refl _) _

set_option maxHeartbeats 1000000 in
theorem elook_any (p : Int) (h : IsEng w e D vB vL K M hs vl) :
    Calls Try.prog 31 #[.pointer (some ⟨e, 0, none⟩), .int .i64 p] w fun r w' => r = .returned (.tuple #[.agg #[.int .i64 (ifB (withinB p 0 D.nb) (nextOf D p : Nat)), .int .i64 0, .int .i64 0, .int .i64 0], .int .i64 (okOr (withinB p 0 D.nb) 4)]) ∧ Below w.heap.size w w' := by
  have hlt := h.k.lt
  have hKlt := h.lt
  have hb0 : Below w.heap.size w (w.alloc (.cells #[.int .i64 0, .int .i64 0, .int .i64 0, .int .i64 0] 116)) := (Below.refl _ _).alloc (Nat.le_refl _) _
  have h1 := h.below hb0
  cases q1 : withinB p 0 D.nb with
  | false =>
    go_enter Try.func31, Try.ntmps31
    go_wp2_with (go_at_call 58; refine (hasPart_any _ D vB vL _ _ h1.k).mono ?_; rintro e w' ⟨rfl, rfl⟩)
    refine bodyPost_ret (v := .tuple #[.agg #[.int .i64 0, .int .i64 0, .int .i64 0, .int .i64 0], .int .i64 4]) (by simp [results, Try.results31, go_sem]) rfl ⟨rfl, ?_⟩
    exact hb0
  | true =>
    have q1' := q1
    simp only [withinB, Bool.and_eq_true, decide_eq_true_eq] at q1'
    obtain ⟨p, rfl⟩ : ∃ p' : Nat, p = p' := ⟨p.toNat, by omega⟩
    have hp : p ≤ D.nb := by omega
    have c5 := h1.c5
    have pl := h1.pl p hp
    have hnb := h.nb
    generalize hN : ((nextOf D (p : Nat) : Nat) : Int) = N at *
    have HN : Hid (_ = _) := hN
    clear hN
    go_enter Try.func31, Try.ntmps31
    go_wp2_with (go_at_call 58; refine (hasPart_any _ D vB vL _ _ h1.k).mono ?_; rintro e w' ⟨rfl, rfl⟩)
    refine (llook_any _ K (p * 2 + 1) N pl).mono ?_
    rintro r w2 ⟨rfl, hb2⟩
    have z2 : w.heap.size + 1 ≤ w2.heap.size := by have := hb2.size; simpa using this
    obtain ⟨hc, hf⟩ := bcell hb2
    have d0 : w2.cell? ⟨w.heap.size, 0, none⟩ = some (.int .i64 0) := by rw [hc _ _ (by simp)]; simp
    have d1 : w2.cell? ⟨w.heap.size, 1, none⟩ = some (.int .i64 0) := by rw [hc _ _ (by simp)]; simp
    have d2 : w2.cell? ⟨w.heap.size, 2, none⟩ = some (.int .i64 0) := by rw [hc _ _ (by simp)]; simp
    have d3 : w2.cell? ⟨w.heap.size, 3, none⟩ = some (.int .i64 0) := by rw [hc _ _ (by simp)]; simp
    have f0 : ∀ o, w2.frozen? ⟨w.heap.size, o, none⟩ = false := fun o => by rw [hf _ _ (by simp)]; simp
    have hbw : Below w.heap.size w w2 := hb0.trans (hb2.mono (by simp))
    clear hc hf
    go_wp2_with fail
    refine bodyPost_ret (v := .tuple #[.agg #[.int .i64 N, .int .i64 0, .int .i64 0, .int .i64 0], .int .i64 0]) (by simp [results, Try.results31, go_sem, d0, d1, d2, d3]) rfl ⟨by rw [okOr_true rfl, ifB_true rfl], ?_⟩
    exact (((hbw.setCell (Nat.le_refl _) _).setCell (Nat.le_refl _) _).setCell (Nat.le_refl _) _).setCell (Nat.le_refl _) _
end
end Go.Proofs.Ytogegigepgnbdaa
