/- The contracts of the program's Result, Table, Look and Mail, at first. -/
import Derived.Test.YtldeiiffabfmeaaGreatDoorN
import Derived.Test.YtldeiiffabfmeaaGreatDoorRJ
import Derived.Test.YtldeiiffabfmeaaGreatDoorW
set_option linter.unusedVariables false
set_option linter.unusedSimpArgs false
namespace Go.Proofs.YtldeiiffabfmeaaGreatDoor
open Go.RowKit

/-- A result that says nothing yet, cell by cell. -/
def zres (j : Nat) : Value := if j % 6 < 2 then .bool false else .int .i64 0

/-- The program's engine, of which nothing was picked. -/
structure IsEng (w : World) (e : Nat) (D : EngD) (vB vL : Value) (K : Nat) (M : Nat → Nat) (hs : Nat → Nat → Bool) (vl : Nat → Nat → Int) : Prop where
  k : IsKnown w e D vB vL
  nb : D.nb ≤ 3
  nl : D.nl ≤ 24
  c5 : w.cell? ⟨e, 5, none⟩ = some (.slice (some ⟨K, 0, none⟩) (D.nb + 1) (D.nb + 1))
  c6 : ∃ R, w.cell? ⟨e, 6, none⟩ = some (.slice (some ⟨R, 0, none⟩) D.nl D.nl) ∧ R < w.heap.size ∧ ∀ j, j < D.nl * 6 → w.cell? ⟨R, j, none⟩ = some (zres j)
  lt : K < w.heap.size
  pt : ∀ p, p ≤ D.nb → w.cell? ⟨K, p * 10, none⟩ = some (.map (some (M p)))
  pl : ∀ p, p ≤ D.nb → w.cell? ⟨K, p * 10 + 3, none⟩ = some (.int .i64 (nextOf D (p : Nat) : Nat))
  po : ∀ p q, p ≤ D.nb → q < 6 → w.cell? ⟨K, p * 10 + 4 + q, none⟩ = some (.slice none 0 0)
  mlt : ∀ p, p ≤ D.nb → M p < w.heap.size
  tab : ∀ p, p ≤ D.nb → IsTab w (M p) (hs p) (vl p)
theorem IsEng.below {w w' : World} {e : Nat} {D : EngD} {vB vL : Value} {K : Nat} {M : Nat → Nat} {hs : Nat → Nat → Bool} {vl : Nat → Nat → Int} (h : IsEng w e D vB vL K M hs vl) (hb : Below w.heap.size w w') : IsEng w' e D vB vL K M hs vl :=
  ⟨h.k.below hb, h.nb, h.nl, by rw [hb.cell (p := ⟨e, 5, none⟩) h.k.lt]; exact h.c5,
    by obtain ⟨R, h1, h2, h3⟩ := h.c6; exact ⟨R, by rw [hb.cell (p := ⟨e, 6, none⟩) h.k.lt]; exact h1, Nat.lt_of_lt_of_le h2 hb.size, fun j hj => by rw [hb.cell (p := ⟨R, j, none⟩) h2]; exact h3 j hj⟩,
    Nat.lt_of_lt_of_le h.lt hb.size, fun p hp => by rw [hb.cell (p := ⟨K, p * 10, none⟩) h.lt]; exact h.pt p hp,
    fun p hp => by rw [hb.cell (p := ⟨K, p * 10 + 3, none⟩) h.lt]; exact h.pl p hp, fun p q hp hq => by rw [hb.cell (p := ⟨K, p * 10 + 4 + q, none⟩) h.lt]; exact h.po p q hp hq,
    fun p hp => Nat.lt_of_lt_of_le (h.mlt p hp) hb.size, fun p hp => (h.tab p hp).block (hb.block _ (h.mlt p hp))⟩

set_option maxHeartbeats 400000 in
theorem hasTxn_any (e : Nat) (D : EngD) (vB vL : Value) (p : Int) (w : World) (h : IsKnown w e D vB vL) :
    Calls Tryz.prog 42 #[.pointer (some ⟨e, 0, none⟩), .int .i64 p] w fun e w' => e = .returned (.bool (withinB p 0 (D.nl - 1))) ∧ w' = w := by
  obtain ⟨a, cap, rfl, hn, hc⟩ := id h.l
  have h4 := h.c4
  by_cases hp : 0 ≤ p
  · go_enter Tryz.func42, Tryz.ntmps42
    go_wp2_with fail
    go_ret
    refine ⟨ret_bool ?_, rfl⟩
    rw [withinB, decide_eq_true hp, Bool.true_and, decide_eq_decide]; omega
  · have hd : decide (0 ≤ p) = false := by simpa using hp
    go_enter Tryz.func42, Tryz.ntmps42
    go_wp2_with fail
    go_ret
    exact ⟨ret_bool (by simp [withinB, hd]), rfl⟩

set_option maxHeartbeats 400000 in
theorem hasTwo_any (e : Nat) (D : EngD) (vB vL : Value) (p q : Int) (w : World) (h : IsKnown w e D vB vL) :
    Calls Tryz.prog 40 #[.pointer (some ⟨e, 0, none⟩), .int .i64 p, .int .i64 q] w fun e w' => e = .returned (.bool (mailB D.nb p q)) ∧ w' = w := by
  cases q1 : withinB p 0 D.nb with
  | false =>
    go_enter Tryz.func40, Tryz.ntmps40
    go_wp2_with (go_at_call 38; refine (hasPart_any _ D vB vL _ _ h).mono ?_; rintro e w' ⟨rfl, rfl⟩)
    go_ret
    exact ⟨ret_bool (by simp [mailB, q1]), rfl⟩
  | true =>
    cases q2 : withinB q 0 D.nb with
    | false =>
      go_enter Tryz.func40, Tryz.ntmps40
      go_wp2_with (go_at_call 38; refine (hasPart_any _ D vB vL _ _ h).mono ?_; rintro e w' ⟨rfl, rfl⟩)
      go_ret
      exact ⟨ret_bool (by simp [mailB, q2]), rfl⟩
    | true =>
      go_enter Tryz.func40, Tryz.ntmps40
      go_wp2_with (go_at_call 38; refine (hasPart_any _ D vB vL _ _ h).mono ?_; rintro e w' ⟨rfl, rfl⟩)
      go_ret
      refine ⟨ret_bool ?_, rfl⟩
      simp [mailB, q1, q2, bne]

theorem next_le {D : EngD} {i : Nat} {p : Int} (hi : i < D.nl) (h : takesB D i p = true) : nextOf D p ≤ i := by
  have hh : ∀ (m k : Nat), k ≤ i → i < k + m → firstYes (fun i => takesB D i p) m k ≤ i := by
    intro m
    induction m with
    | zero => intro k h1 h2; omega
    | succ m ih =>
      intro k h1 h2
      unfold firstYes
      split
      · exact h1
      · rename_i hk
        by_cases e : k = i
        · subst e; exact absurd h hk
        · exact ih (k + 1) (by omega) (by omega)
  exact hh D.nl 0 (by omega) (by omega)

set_option maxHeartbeats 400000 in
theorem underWay_any (b off : Nat) (q : Nat) (w : World) (hq : q < 4) (hc : ∀ q, q < 4 → w.cell? ⟨b, off + q, none⟩ = some (.slice none 0 0)) :
    Calls Tryz.prog 41 #[.pointer (some ⟨b, off, none⟩), .int .i64 q] w fun e w' => e = .returned (.int .i64 0) ∧ w' = w := by
  have h1 := hc q hq
  clear hc
  go_enter Tryz.func41, Tryz.ntmps41
  go_wp2_with fail
  go_ret
  exact ⟨rfl, rfl⟩

set_option maxHeartbeats 1000000 in
theorem ldone_any (b off : Nat) (n i : Int) (w : World) (hc : w.cell? ⟨b, off + 2, none⟩ = some (.int .i64 n)) (hi : n ≤ i) :
    Calls Tryz.prog 44 #[.pointer (some ⟨b, off, none⟩), .int .i64 i] w fun r w' => r = .returned (.bool false) ∧ Below w.heap.size w w' := by
  have hlt : b < w.heap.size := World.block_lt_of_cell? _ _ hc
  have hd : decide (i < n) = false := by simp; omega
  clear hi
  go_enter Tryz.func44, Tryz.ntmps44
  go_wp2_with fail
  go_quiet (fail)
  go_wp2_with fail
  go_ret
  exact ⟨rfl, below_drewN ((Below.refl _ _).alloc (Nat.le_refl _) _) _⟩

section
variable (e : Nat) (D : EngD) (vB vL : Value) (K : Nat) (M : Nat → Nat) (hs : Nat → Nat → Bool) (vl : Nat → Nat → Int) (w : World)

set_option maxHeartbeats 1000000 in
theorem eresult_any (i : Int) (h : IsEng w e D vB vL K M hs vl) :
    Calls Tryz.prog 22 #[.pointer (some ⟨e, 0, none⟩), .int .i64 i] w fun r w' => r = .returned (.tuple #[.agg #[.bool false, .bool false, .int .i64 0, .int .i64 0, .int .i64 0, .int .i64 0], .int .i64 (okOr (withinB i 0 (D.nl - 1)) 5)]) ∧ Below w.heap.size w w' := by
  have hb0 : Below w.heap.size w (w.alloc (.cells #[.bool false, .bool false, .int .i64 0, .int .i64 0, .int .i64 0, .int .i64 0] 75)) := (Below.refl _ _).alloc (Nat.le_refl _) _
  have h1 := h.below hb0
  cases q1 : withinB i 0 ((D.nl : Int) - 1) with
  | false =>
    go_enter Tryz.func22, Tryz.ntmps22
    go_wp2_with (go_at_call 42; refine (hasTxn_any _ D vB vL _ _ h1.k).mono ?_; rintro e w' ⟨rfl, rfl⟩)
    refine bodyPost_ret (v := .tuple #[.agg #[.bool false, .bool false, .int .i64 0, .int .i64 0, .int .i64 0, .int .i64 0], .int .i64 5]) (by simp [results, Tryz.results22, go_sem]) rfl ⟨rfl, ?_⟩
    exact hb0
  | true =>
    have q1' := q1
    simp only [withinB, Bool.and_eq_true, decide_eq_true_eq] at q1'
    obtain ⟨i, rfl⟩ : ∃ i' : Nat, i = i' := ⟨i.toNat, by omega⟩
    have hi : i < D.nl := by omega
    clear q1'
    have c5 := h1.c5
    have hnb := h.nb
    go_enter Tryz.func22, Tryz.ntmps22
    go_wp2_with (go_at_call 42; refine (hasTxn_any _ D vB vL _ _ h1.k).mono ?_; rintro e w' ⟨rfl, rfl⟩)
    go_loopw [19] (fun j wr => ∃ k : Nat, k ≤ D.nb + 1 ∧ j = .int .i64 k ∧ Below (w.heap.size + 1) (w.alloc (.cells #[.bool false, .bool false, .int .i64 0, .int .i64 0, .int .i64 0, .int .i64 0] 75)) wr) (fun j _ => D.nb + 1 - (intOf j).toNat)
    case atStart => exact ⟨0, Nat.zero_le _, rfl, Below.refl _ _⟩
    case round =>
      obtain ⟨k, hk, rfl, hbl⟩ := hrel
      have hbz : (w.alloc (.cells #[.bool false, .bool false, .int .i64 0, .int .i64 0, .int .i64 0, .int .i64 0] 75)).heap.size = w.heap.size + 1 := by simp
      have h2 := h1.below (by rw [hbz]; exact hbl)
      have r0 := (rowIs_list w [.bool false, .bool false, .int .i64 0, .int .i64 0, .int .i64 0, .int .i64 0] 75).below (by rw [hbz]; exact hbl)
      by_cases hkn : k < D.nb + 1
      · cases ht : takesB D i (k : Int) with
        | true =>
          have c5' := h2.c5
          have pl := h2.pl k (by omega)
          have hle : ((nextOf D (k : Nat) : Nat) : Int) ≤ (i : Int) := by have := next_le hi ht; omega
          generalize ((nextOf D (k : Nat) : Nat) : Int) = N at *
          have i1 : (k : Int) < (D.nb : Int) + 1 := by omega
          have i2 : (k : Int) < ((D.nb + 1 : Nat) : Int) := by omega
          go_wp2_with fail
          refine (takesPart_any _ D vB vL i (k : Int) hi _ h2.k).mono ?_
          rintro r w3 ⟨rfl, hb3⟩
          have h3 := h2.below hb3
          have c53 := h3.c5
          have pl3 : w3.cell? ⟨K, k * 10 + 3, none⟩ = some (.int .i64 N) := by rw [hb3.cell (p := ⟨K, k * 10 + 3, none⟩) h2.lt]; exact pl
          go_wp2_with fail
          refine (ldone_any K (k * 10 + 1) N i _ pl3 hle).mono ?_
          rintro r w4 ⟨rfl, hb4⟩
          have r4 := (r0.below hb3).below hb4
          have d0 : w4.cell? ⟨w.heap.size, 0, none⟩ = some (.bool false) := r4.cell (j := 0) (by simp)
          have d1 : w4.cell? ⟨w.heap.size, 1, none⟩ = some (.bool false) := r4.cell (j := 1) (by simp)
          have d2 : w4.cell? ⟨w.heap.size, 2, none⟩ = some (.int .i64 0) := r4.cell (j := 2) (by simp)
          have d3 : w4.cell? ⟨w.heap.size, 3, none⟩ = some (.int .i64 0) := r4.cell (j := 3) (by simp)
          have d4 : w4.cell? ⟨w.heap.size, 4, none⟩ = some (.int .i64 0) := r4.cell (j := 4) (by simp)
          have d5 : w4.cell? ⟨w.heap.size, 5, none⟩ = some (.int .i64 0) := r4.cell (j := 5) (by simp)
          have f4 := r4.frozen
          have bz : Below w.heap.size w w4 := (hb0.trans (hbl.mono (by omega))).trans ((hb3.trans (hb4.mono hb3.size)).mono (by have := hbl.size; rw [hbz] at this; omega))
          go_wp2_with fail
          refine bodyPost_ret (v := .tuple #[.agg #[.bool false, .bool false, .int .i64 0, .int .i64 0, .int .i64 0, .int .i64 0], .int .i64 0]) (by simp [results, Tryz.results22, go_sem, d0, d1, d2, d3, d4, d5]) rfl ⟨by rw [okOr_true rfl], ?_⟩
          exact (((((bz.setCell (Nat.le_refl _) _).setCell (Nat.le_refl _) _).setCell (Nat.le_refl _) _).setCell (Nat.le_refl _) _).setCell (Nat.le_refl _) _).setCell (Nat.le_refl _) _
        | false =>
          go_wp2_with (go_at_call 43; refine (takesPart_any _ D vB vL i (k : Int) hi _ h2.k).mono ?_; rintro r w3 ⟨rfl, hb3⟩)
          go_roundw
          case measure => simp [intOf]; omega
          case rel => exact ⟨k + 1, by omega, by go_num, hbl.trans (hb3.mono (by have := hbl.size; rw [hbz] at this; exact this))⟩
      · obtain ⟨R, c6, hR, hz⟩ := h2.c6
        have z0 : wr.cell? ⟨R, i * 6, none⟩ = some (.bool false) := by rw [hz _ (by omega), zres, if_pos (by omega)]
        have z1 : wr.cell? ⟨R, i * 6 + 1, none⟩ = some (.bool false) := by rw [hz _ (by omega), zres, if_pos (by omega)]
        have z2 : wr.cell? ⟨R, i * 6 + 2, none⟩ = some (.int .i64 0) := by rw [hz _ (by omega), zres, if_neg (by omega)]
        have z3 : wr.cell? ⟨R, i * 6 + 3, none⟩ = some (.int .i64 0) := by rw [hz _ (by omega), zres, if_neg (by omega)]
        have z4 : wr.cell? ⟨R, i * 6 + 4, none⟩ = some (.int .i64 0) := by rw [hz _ (by omega), zres, if_neg (by omega)]
        have z5 : wr.cell? ⟨R, i * 6 + 5, none⟩ = some (.int .i64 0) := by rw [hz _ (by omega), zres, if_neg (by omega)]
        clear hz
        have hnl := h.nl
        have i1 : (i : Int) < (D.nl : Int) := by omega
        have d0 : wr.cell? ⟨w.heap.size, 0, none⟩ = some (.bool false) := r0.cell (j := 0) (by simp)
        have d1 : wr.cell? ⟨w.heap.size, 1, none⟩ = some (.bool false) := r0.cell (j := 1) (by simp)
        have d2 : wr.cell? ⟨w.heap.size, 2, none⟩ = some (.int .i64 0) := r0.cell (j := 2) (by simp)
        have d3 : wr.cell? ⟨w.heap.size, 3, none⟩ = some (.int .i64 0) := r0.cell (j := 3) (by simp)
        have d4 : wr.cell? ⟨w.heap.size, 4, none⟩ = some (.int .i64 0) := r0.cell (j := 4) (by simp)
        have d5 : wr.cell? ⟨w.heap.size, 5, none⟩ = some (.int .i64 0) := r0.cell (j := 5) (by simp)
        have f4 := r0.frozen
        have bz : Below w.heap.size w wr := hb0.trans (hbl.mono (by omega))
        go_wp2_with fail
        refine bodyPost_ret (v := .tuple #[.agg #[.bool false, .bool false, .int .i64 0, .int .i64 0, .int .i64 0, .int .i64 0], .int .i64 0]) (by simp [results, Tryz.results22, go_sem, d0, d1, d2, d3, d4, d5]) rfl ⟨by rw [okOr_true rfl], ?_⟩
        exact (((((bz.setCell (Nat.le_refl _) _).setCell (Nat.le_refl _) _).setCell (Nat.le_refl _) _).setCell (Nat.le_refl _) _).setCell (Nat.le_refl _) _).setCell (Nat.le_refl _) _

set_option maxHeartbeats 1000000 in
theorem email_any (p q : Int) (h : IsEng w e D vB vL K M hs vl) :
    Calls Tryz.prog 21 #[.pointer (some ⟨e, 0, none⟩), .int .i64 p, .int .i64 q] w fun r w' => r = .returned (.tuple #[.int .i64 0, .int .i64 (okOr (mailB D.nb p q) 4)]) ∧ w' = w := by
  cases q1 : mailB D.nb p q with
  | false =>
    go_enter Tryz.func21, Tryz.ntmps21
    go_wp2_with (go_at_call 40; refine (hasTwo_any _ D vB vL _ _ _ h.k).mono ?_; rintro e w' ⟨rfl, rfl⟩)
    go_ret2
    exact ⟨rfl, rfl⟩
  | true =>
    have q1' := q1
    simp only [mailB, withinB, Bool.and_eq_true, decide_eq_true_eq] at q1'
    obtain ⟨p, rfl⟩ : ∃ p' : Nat, p = p' := ⟨p.toNat, by omega⟩
    obtain ⟨q, rfl⟩ : ∃ q' : Nat, q = q' := ⟨q.toNat, by omega⟩
    have hp : p ≤ D.nb := by omega
    have hq : q ≤ D.nb := by omega
    clear q1'
    have hnb := h.nb
    have c5 := h.c5
    have i1 : (q : Int) < (D.nb : Int) + 1 := by omega
    have hu := underWay_any K (q * 10 + 5) p w (by omega) (fun r hr => by have := h.po q (r + 1) hq (by omega); rw [← this]; congr 2; omega)
    go_enter Tryz.func21, Tryz.ntmps21
    go_wp2_with fail
    refine (hasTwo_any _ D vB vL _ _ _ h.k).mono ?_
    rintro r w' ⟨rfl, rfl⟩
    go_wp2_with fail
    refine hu.mono ?_
    rintro r w2 ⟨rfl, rfl⟩
    go_wp2_with fail
    go_ret2
    exact ⟨rfl, rfl⟩

theorem etable_no (p : Int) (h : IsEng w e D vB vL K M hs vl) (q1 : withinB p 0 D.nb = false) :
    Calls Tryz.prog 23 #[.pointer (some ⟨e, 0, none⟩), .int .i64 p] w fun r w' => r = .returned (.tuple #[.slice none 0 0, .int .i64 4]) ∧ w' = w := by
  go_enter Tryz.func23, Tryz.ntmps23
  go_wp2_with (go_at_call 38; refine (hasPart_any _ D vB vL _ _ h.k).mono ?_; rintro e w' ⟨rfl, rfl⟩)
  go_ret2
  exact ⟨rfl, rfl⟩

set_option maxHeartbeats 1000000 in
theorem etable_any (p : Nat) (hp : p ≤ D.nb) (h : IsEng w e D vB vL K M hs vl) :
    Calls Tryz.prog 23 #[.pointer (some ⟨e, 0, none⟩), .int .i64 p] w fun r w' => ∃ v, r = .returned (.tuple #[v, .int .i64 0]) ∧ w'.ownsRow w.heap.size 81 2 v (cntB (hs p) 100) (tabL (hs p) (vl p) 100) ∧ Below w.heap.size w w' := by
  have q1 : withinB (p : Int) 0 D.nb = true := by simp [withinB]; omega
  have c5 := h.c5
  have pt := h.pt p hp
  have hnb := h.nb
  have ht := h.tab p hp
  go_enter Tryz.func23, Tryz.ntmps23
  go_wp2_with (go_at_call 38; refine (hasPart_any _ D vB vL _ _ h.k).mono ?_; rintro e w' ⟨rfl, rfl⟩)
  refine (pairs_any K (p * 10) (M p) (hs p) (vl p) _ pt ht).mono ?_
  rintro r w2 ⟨v, rfl, hrow, hb2⟩
  go_wp2_with fail
  go_ret2
  exact ⟨_, rfl, hrow, hb2⟩

set_option maxHeartbeats 1000000 in
theorem llook_any (b off : Nat) (n : Int) (hc : w.cell? ⟨b, off + 2, none⟩ = some (.int .i64 n)) (ho : w.cell? ⟨b, off + 3, none⟩ = some (.slice none 0 0)) :
    Calls Tryz.prog 39 #[.pointer (some ⟨b, off, none⟩)] w fun r w' => r = .returned (.agg #[.int .i64 n, .int .i64 0, .int .i64 0, .int .i64 0]) ∧ Below w.heap.size w w' := by
  have hlt : b < w.heap.size := World.block_lt_of_cell? _ _ hc
  go_enter Tryz.func39, Tryz.ntmps39
  go_wp2_with fail
  go_region
  have hbw : Below w.heap.size w ((w.alloc (.cells #[.int .i64 0, .int .i64 0, .int .i64 0, .int .i64 0] 67)).alloc (.cells #[.int .i64 n, .int .i64 0, .int .i64 0, .int .i64 0] 67)).drew := (((Below.refl _ _).alloc (Nat.le_refl _) _).alloc (by simp) _).drew
  have ho1 : ((w.alloc (.cells #[.int .i64 0, .int .i64 0, .int .i64 0, .int .i64 0] 67)).alloc (.cells #[.int .i64 n, .int .i64 0, .int .i64 0, .int .i64 0] 67)).drew.cell? ⟨b, off + 3, none⟩ = some (.slice none 0 0) := by rw [hbw.cell (p := ⟨b, off + 3, none⟩) hlt]; exact ho
  have e0 : ∀ o, ((w.alloc (.cells #[.int .i64 0, .int .i64 0, .int .i64 0, .int .i64 0] 67)).alloc (.cells #[.int .i64 n, .int .i64 0, .int .i64 0, .int .i64 0] 67)).drew.frozen? ⟨w.heap.size, o, none⟩ = false := fun o => by simp
  have d0 : ((w.alloc (.cells #[.int .i64 0, .int .i64 0, .int .i64 0, .int .i64 0] 67)).alloc (.cells #[.int .i64 n, .int .i64 0, .int .i64 0, .int .i64 0] 67)).drew.cell? ⟨w.heap.size, 0, none⟩ = some (.int .i64 0) := by simp
  have d1 : ((w.alloc (.cells #[.int .i64 0, .int .i64 0, .int .i64 0, .int .i64 0] 67)).alloc (.cells #[.int .i64 n, .int .i64 0, .int .i64 0, .int .i64 0] 67)).drew.cell? ⟨w.heap.size, 1, none⟩ = some (.int .i64 0) := by simp
  have d2 : ((w.alloc (.cells #[.int .i64 0, .int .i64 0, .int .i64 0, .int .i64 0] 67)).alloc (.cells #[.int .i64 n, .int .i64 0, .int .i64 0, .int .i64 0] 67)).drew.cell? ⟨w.heap.size, 2, none⟩ = some (.int .i64 0) := by simp
  have d3 : ((w.alloc (.cells #[.int .i64 0, .int .i64 0, .int .i64 0, .int .i64 0] 67)).alloc (.cells #[.int .i64 n, .int .i64 0, .int .i64 0, .int .i64 0] 67)).drew.cell? ⟨w.heap.size, 3, none⟩ = some (.int .i64 0) := by simp
  have g0 : ((w.alloc (.cells #[.int .i64 0, .int .i64 0, .int .i64 0, .int .i64 0] 67)).alloc (.cells #[.int .i64 n, .int .i64 0, .int .i64 0, .int .i64 0] 67)).drew.cell? ⟨w.heap.size + 1, 0, none⟩ = some (.int .i64 n) := by simp
  have g1 : ((w.alloc (.cells #[.int .i64 0, .int .i64 0, .int .i64 0, .int .i64 0] 67)).alloc (.cells #[.int .i64 n, .int .i64 0, .int .i64 0, .int .i64 0] 67)).drew.cell? ⟨w.heap.size + 1, 1, none⟩ = some (.int .i64 0) := by simp
  have g2 : ((w.alloc (.cells #[.int .i64 0, .int .i64 0, .int .i64 0, .int .i64 0] 67)).alloc (.cells #[.int .i64 n, .int .i64 0, .int .i64 0, .int .i64 0] 67)).drew.cell? ⟨w.heap.size + 1, 2, none⟩ = some (.int .i64 0) := by simp
  have g3 : ((w.alloc (.cells #[.int .i64 0, .int .i64 0, .int .i64 0, .int .i64 0] 67)).alloc (.cells #[.int .i64 n, .int .i64 0, .int .i64 0, .int .i64 0] 67)).drew.cell? ⟨w.heap.size + 1, 3, none⟩ = some (.int .i64 0) := by simp
  generalize ((w.alloc (.cells #[.int .i64 0, .int .i64 0, .int .i64 0, .int .i64 0] 67)).alloc (.cells #[.int .i64 n, .int .i64 0, .int .i64 0, .int .i64 0] 67)).drew = w1 at *
  go_wp2_with fail
  go_loopw [21] (fun i wr => i = .int .i64 0 ∧ wr = w1) (fun _ _ => 0)
  case atStart => exact ⟨rfl, rfl⟩
  case round =>
    obtain ⟨rfl, rfl⟩ := hrel
    go_wp2_with fail
    refine bodyPost_ret (v := .agg #[.int .i64 n, .int .i64 0, .int .i64 0, .int .i64 0]) (by simp [results, Tryz.results39, go_sem, d0, d1, d2, d3]) rfl ⟨rfl, ?_⟩
    exact (((hbw.setCell (Nat.le_refl _) _).setCell (Nat.le_refl _) _).setCell (Nat.le_refl _) _).setCell (Nat.le_refl _) _

set_option maxHeartbeats 1000000 in
theorem elook_any (p : Int) (h : IsEng w e D vB vL K M hs vl) :
    Calls Tryz.prog 20 #[.pointer (some ⟨e, 0, none⟩), .int .i64 p] w fun r w' => r = .returned (.tuple #[.agg #[.int .i64 (ifB (withinB p 0 D.nb) (nextOf D p : Nat)), .int .i64 0, .int .i64 0, .int .i64 0], .int .i64 (okOr (withinB p 0 D.nb) 4)]) ∧ Below w.heap.size w w' := by
  have hlt := h.k.lt
  have hKlt := h.lt
  have hb0 : Below w.heap.size w (w.alloc (.cells #[.int .i64 0, .int .i64 0, .int .i64 0, .int .i64 0] 67)) := (Below.refl _ _).alloc (Nat.le_refl _) _
  have h1 := h.below hb0
  cases q1 : withinB p 0 D.nb with
  | false =>
    go_enter Tryz.func20, Tryz.ntmps20
    go_wp2_with (go_at_call 38; refine (hasPart_any _ D vB vL _ _ h1.k).mono ?_; rintro e w' ⟨rfl, rfl⟩)
    refine bodyPost_ret (v := .tuple #[.agg #[.int .i64 0, .int .i64 0, .int .i64 0, .int .i64 0], .int .i64 4]) (by simp [results, Tryz.results20, go_sem]) rfl ⟨rfl, ?_⟩
    exact hb0
  | true =>
    have q1' := q1
    simp only [withinB, Bool.and_eq_true, decide_eq_true_eq] at q1'
    obtain ⟨p, rfl⟩ : ∃ p' : Nat, p = p' := ⟨p.toNat, by omega⟩
    have hp : p ≤ D.nb := by omega
    have c5 := h1.c5
    have pl := h1.pl p hp
    have po := h1.po p 0 hp (by omega)
    have hnb := h.nb
    generalize hN : ((nextOf D (p : Nat) : Nat) : Int) = N at *
    have HN : Hid (_ = _) := hN
    clear hN
    go_enter Tryz.func20, Tryz.ntmps20
    go_wp2_with (go_at_call 38; refine (hasPart_any _ D vB vL _ _ h1.k).mono ?_; rintro e w' ⟨rfl, rfl⟩)
    refine (llook_any _ K (p * 10 + 1) N pl po).mono ?_
    rintro r w2 ⟨rfl, hb2⟩
    have z2 : w.heap.size + 1 ≤ w2.heap.size := by have := hb2.size; simpa using this
    obtain ⟨hc, hf⟩ := bcell hb2
    have d0 : w2.cell? ⟨w.heap.size, 0, none⟩ = some (.int .i64 0) := by rw [hc _ _ (by simp)]; simp
    have d1 : w2.cell? ⟨w.heap.size, 1, none⟩ = some (.int .i64 0) := by rw [hc _ _ (by simp)]; simp
    have d2 : w2.cell? ⟨w.heap.size, 2, none⟩ = some (.int .i64 0) := by rw [hc _ _ (by simp)]; simp
    have d3 : w2.cell? ⟨w.heap.size, 3, none⟩ = some (.int .i64 0) := by rw [hc _ _ (by simp)]; simp
    have f0 : ∀ o, w2.frozen? ⟨w.heap.size, o, none⟩ = false := fun o => by rw [hf _ _ (by simp)]; simp
    have hbw : Below w.heap.size w w2 := hb0.trans (hb2.mono (by simp))
    clear hc hf
    go_wp2_with fail
    refine bodyPost_ret (v := .tuple #[.agg #[.int .i64 N, .int .i64 0, .int .i64 0, .int .i64 0], .int .i64 0]) (by simp [results, Tryz.results20, go_sem, d0, d1, d2, d3]) rfl ⟨by rw [okOr_true rfl, ifB_true rfl], ?_⟩
    exact (((hbw.setCell (Nat.le_refl _) _).setCell (Nat.le_refl _) _).setCell (Nat.le_refl _) _).setCell (Nat.le_refl _) _
end
end Go.Proofs.YtldeiiffabfmeaaGreatDoor
