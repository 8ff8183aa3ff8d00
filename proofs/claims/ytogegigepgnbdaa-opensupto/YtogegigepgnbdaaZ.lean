/- The contract of the program's New. -/
import Derived.Test.YtogegigepgnbdaaE
import Derived.Test.YtogegigepgnbdaaG
import Derived.Test.YtogegigepgnbdaaP
import Derived.Test.YtogegigepgnbdaaX
import Derived.Test.YtogegigepgnbdaaY
set_option linter.unusedVariables false
set_option linter.unusedSimpArgs false
namespace Go.Proofs.Ytogegigepgnbdaa
open Go.RowKit

/-- What New answers where it refuses. -/
theorem newAt_log {nb : Nat} {fb : Nat → Int} {a b c : Int} {nl : Nat} {ts : Nat → TxnD} {k : Nat} (ns : Nat) (fs : Nat → Int) (h : configB nb fb a b c = true) (hl : logAt nl ts = some k) : newAt nb fb a b c nl ts ns fs = (2, k) := by
  unfold newAt; rw [if_pos h, hl]
theorem newAt_start {nb : Nat} {fb : Nat → Int} {a b c : Int} {nl : Nat} {ts : Nat → TxnD} {ns : Nat} {fs : Nat → Int} {k : Nat} (h : configB nb fb a b c = true) (hl : logAt nl ts = none) (hs : startAt ns fs = some k) : newAt nb fb a b c nl ts ns fs = (3, k) := by
  unfold newAt; rw [if_pos h, hl, hs]
theorem newAt_ok {nb : Nat} {fb : Nat → Int} {a b c : Int} {nl : Nat} {ts : Nat → TxnD} {ns : Nat} {fs : Nat → Int} (h : configB nb fb a b c = true) (hl : logAt nl ts = none) (hs : startAt ns fs = none) : newAt nb fb a b c nl ts ns fs = (0, 0) := by
  unfold newAt; rw [if_pos h, hl, hs]

theorem firstNo_none_all {p : Nat → Bool} : ∀ (m i : Nat), firstNo p m i = none → ∀ j, i ≤ j → j < i + m → p j = true
  | 0, i, _, j, h1, h2 => by omega
  | m + 1, i, h, j, h1, h2 => by
    unfold firstNo at h
    cases hp : p i with
    | false => rw [hp] at h; cases h
    | true =>
      rw [hp] at h
      by_cases e : j = i
      · rw [e]; exact hp
      · exact firstNo_none_all m (i + 1) h j (by omega) (by omega)
theorem log_ok {nl : Nat} {ts : Nat → TxnD} (h : logAt nl ts = none) : nl ≤ 24 ∧ allB (fun i => txnB (ts i)) nl = true := by
  unfold logAt at h
  by_cases h1 : 24 < nl
  · rw [if_pos h1] at h; cases h
  · rw [if_neg h1] at h
    exact ⟨by omega, allB_mk fun k hk => firstNo_none_all nl 0 h k (by omega) (by omega)⟩
theorem start_ok {ns : Nat} {fs : Nat → Int} (h : startAt ns fs = none) : ns ≤ 40 ∧ allB (risesB 0 (fun i => fs (2 * i))) ns = true := by
  unfold startAt at h
  by_cases h1 : 40 < ns
  · rw [if_pos h1] at h; cases h
  · rw [if_neg h1] at h
    exact ⟨by omega, allB_mk fun k hk => firstNo_none_all ns 0 h k (by omega) (by omega)⟩
theorem config_ok {nb : Nat} {fb : Nat → Int} {a b c : Int} (h : configB nb fb a b c = true) : nb ≤ 3 ∧ allB (risesB 1 fb) nb = true := by
  simp only [configB, boundsB, Bool.and_eq_true, decide_eq_true_eq] at h
  exact h.1.1.1
theorem rises_bound {lo : Int} {f : Nat → Int} {n : Nat} (h : allB (risesB lo f) n = true) : ∀ k, k ≤ n → ∀ j, j < k → lo ≤ f j ∧ f j ≤ 99 := by
  intro k
  induction k with
  | zero => intro _ j hj; omega
  | succ k ih =>
    intro hk j hj
    by_cases e : j = k
    · subst e
      have := allB_at h (k := j) (by omega)
      cases j with
      | zero => simp only [risesB, within_iff] at this; exact this
      | succ i => simp only [risesB, within_iff] at this; have := ih (by omega) i (by omega); omega
    · exact ih (by omega) j (by omega)
theorem good_of {nb : Nat} {fb : Nat → Int} {a b c : Int} {nl : Nat} {ts : Nat → TxnD} (h : configB nb fb a b c = true) (hl : logAt nl ts = none) : Good ⟨nb, fb, nl, ts⟩ :=
  ⟨(config_ok h).1, (log_ok hl).1, (config_ok h).2, (log_ok hl).2⟩

section
variable (vB vL vS : Value) (a b c : Int) (nb : Nat) (fb : Nat → Int) (nl : Nat) (ts : Nat → TxnD) (ns : Nat) (fs : Nat → Int) (w : World) (hB : RdI w vB 1 nb fb) (hL : RdL w vL nl ts) (hS : RdI w vS 2 ns fs)

set_option maxHeartbeats 2000000 in
theorem enew_no (hB : RdI w vB 1 nb fb) (hL : RdL w vL nl ts) (hS : RdI w vS 2 ns fs) (hno : newAt nb fb a b c nl ts ns fs ≠ (0, 0)) :
    Calls Try.prog 10 #[.agg #[vB, .int .i64 a, .int .i64 b, .int .i64 c], vL, vS] w fun r w' => r = .returned (.tuple #[.pointer none, .int .i64 ((newAt nb fb a b c nl ts ns fs).1 : Nat), .int .i64 ((newAt nb fb a b c nl ts ns fs).2 : Nat)]) ∧ Below w.heap.size w w' := by
  have hb0 : Below w.heap.size w (w.alloc (.cells #[vB, .int .i64 a, .int .i64 b, .int .i64 c] 24)) := (Below.refl _ _).alloc (Nat.le_refl _) _
  cases hc : configB nb fb a b c with
  | false =>
    have HA : Hid (_ = _) := newAt_config hc nl ts ns fs
    go_enter Try.func10, Try.ntmps10
    go_wp2_with fail
    refine (config_any _ nb fb _ _ _ _ (hB.below hb0)).mono ?_
    rintro r w1 ⟨rfl, hb1⟩
    go_wp2_with fail
    go_ret3
    exact ⟨by rw [HA.out]; rfl, hb0.trans (hb1.mono (by simp))⟩
  | true =>
    cases hl : logAt nl ts with
    | some k =>
      have HA : Hid (_ = _) := newAt_log ns fs hc hl
      go_enter Try.func10, Try.ntmps10
      go_wp2_with fail
      refine (config_any _ nb fb _ _ _ _ (hB.below hb0)).mono ?_
      rintro r w1 ⟨rfl, hb1⟩
      have b1 := hb0.trans (hb1.mono (by simp))
      go_wp2_with fail
      refine (clog_any _ nl ts _ (hL.below b1)).mono ?_
      rintro r w2 ⟨rfl, hb2⟩
      have b2 := b1.trans (hb2.mono b1.size)
      go_wp2_with fail
      go_ret3
      exact ⟨by rw [HA.out]; rfl, b2⟩
    | none =>
      cases hs : startAt ns fs with
      | some k =>
        have HA : Hid (_ = _) := newAt_start hc hl hs
        go_enter Try.func10, Try.ntmps10
        go_wp2_with fail
        refine (config_any _ nb fb _ _ _ _ (hB.below hb0)).mono ?_
        rintro r w1 ⟨rfl, hb1⟩
        have b1 := hb0.trans (hb1.mono (by simp))
        go_wp2_with fail
        refine (clog_any _ nl ts _ (hL.below b1)).mono ?_
        rintro r w2 ⟨rfl, hb2⟩
        have b2 := b1.trans (hb2.mono b1.size)
        go_wp2_with fail
        refine (cstart_any _ ns fs _ (hS.below b2)).mono ?_
        rintro r w3 ⟨rfl, hb3⟩
        have b3 := b2.trans (hb3.mono b2.size)
        go_wp2_with fail
        go_ret3
        exact ⟨by rw [HA.out]; rfl, b3⟩
      | none => exact absurd (newAt_ok hc hl hs) hno

set_option maxHeartbeats 2000000 in
theorem enew_yes (hB : RdI w vB 1 nb fb) (hL : RdL w vL nl ts) (hS : RdI w vS 2 ns fs) (hwf : ∀ j, j < ns → (Lit.int .i64 (fs (2 * j + 1))).wf = true)
    (hc : configB nb fb a b c = true) (hl : logAt nl ts = none) (hs : startAt ns fs = none) :
    Calls Try.prog 10 #[.agg #[vB, .int .i64 a, .int .i64 b, .int .i64 c], vL, vS] w fun r w' => ∃ (e : Nat) (vB' vL' : Value) (K : Nat) (M : Nat → Nat), r = .returned (.tuple #[.pointer (some ⟨e, 0, none⟩), .int .i64 0, .int .i64 0]) ∧
      IsEngS (fun b => w.heap.size ≤ b) w' e ⟨nb, fb, nl, ts⟩ vB' vL' K M (startHs nb fb fs ns) (startVl nb fb fs ns) ∧ Below w.heap.size w w' := by
  have hb0 : Below w.heap.size w (w.alloc (.cells #[vB, .int .i64 a, .int .i64 b, .int .i64 c] 24)) := (Below.refl _ _).alloc (Nat.le_refl _) _
  have hnb := (config_ok hc).1
  have hnl := (log_ok hl).1
  have hns := (start_ok hs).1
  have hkey : ∀ j, j < ns → 0 ≤ fs (2 * j) ∧ fs (2 * j) ≤ 99 := fun j hj => rises_bound (start_ok hs).2 ns (Nat.le_refl _) j hj
  go_enter Try.func10, Try.ntmps10
  go_wp2_with fail
  refine (config_any _ nb fb _ _ _ _ (hB.below hb0)).mono ?_
  rintro r w1 ⟨rfl, hb1⟩
  have b1 := hb0.trans (hb1.mono (by simp))
  have r1 := (rowIs_list w [vB, .int .i64 a, .int .i64 b, .int .i64 c] 24).below hb1
  go_wp2_with fail
  refine (clog_any _ nl ts _ (hL.below b1)).mono ?_
  rintro r w2 ⟨rfl, hb2⟩
  have b2 := b1.trans (hb2.mono b1.size)
  have r2 := r1.below hb2
  go_wp2_with fail
  refine (cstart_any _ ns fs _ (hS.below b2)).mono ?_
  rintro r w3 ⟨rfl, hb3⟩
  have b3 := b2.trans (hb3.mono b2.size)
  have r3 := r2.below hb3
  have c0 : w3.cell? ⟨w.heap.size, 0, none⟩ = some vB := r3.cell (j := 0) (by simp)
  have c1 : w3.cell? ⟨w.heap.size, 1, none⟩ = some (.int .i64 a) := r3.cell (j := 1) (by simp)
  have c2 : w3.cell? ⟨w.heap.size, 2, none⟩ = some (.int .i64 b) := r3.cell (j := 2) (by simp)
  have c3 : w3.cell? ⟨w.heap.size, 3, none⟩ = some (.int .i64 c) := r3.cell (j := 3) (by simp)
  have z3 := b3.size
  clear r1 r2
  go_wp2_with fail
  refine (newKnown_any _ _ _ _ _ nb fb nl ts _ (hB.below b3) (hL.below b3)).mono ?_
  rintro r w4 ⟨vB', vL', rfl, hB', hL', hb4⟩
  have b4 := b3.trans (hb4.mono b3.size)
  have z4 := b4.size
  obtain ⟨aB', pB', rfl, -, -⟩ := id hB'
  obtain ⟨aL', pL', rfl, -, -⟩ := id hL'
  have e4 := rowIs_list w4 [.slice aB' nb pB', .int .i64 a, .int .i64 b, .int .i64 c, .slice aL' nl pL', .slice none 0 0] 80
  have k5 : Keeps (fun b => w3.heap.size ≤ b ∧ b < w4.heap.size) w4 (w4.alloc (.cells #[.slice aB' nb pB', .int .i64 a, .int .i64 b, .int .i64 c, .slice aL' nl pL', .slice none 0 0] 80)) := (Keeps.refl _ _).alloc _
  have hB5 := hB'.lt.keep k5
  have hL5 := hL'.lt.keep k5
  have b5 := b4.alloc z4 (.cells #[.slice aB' nb pB', .int .i64 a, .int .i64 b, .int .i64 c, .slice aL' nl pL', .slice none 0 0] 80)
  have hK5 : IsKnown (w4.alloc (.cells #[.slice aB' nb pB', .int .i64 a, .int .i64 b, .int .i64 c, .slice aL' nl pL', .slice none 0 0] 80)) w4.heap.size ⟨nb, fb, nl, ts⟩ (.slice aB' nb pB') (.slice aL' nl pL') :=
    ⟨e4.lt, e4.cell (j := 0) (by simp), e4.cell (j := 4) (by simp), hB5.rd, hL5.rd⟩
  clear k5 hB' hL'
  go_wp2_with fail
  refine (newPartitions_any _ ⟨nb, fb, nl, ts⟩ _ _ _ ns fs _ hK5 hnb hns (hS.below b5) hkey hwf).mono ?_
  rintro r w6 ⟨K, M, rfl, hK1, hK2, hparts, hb6⟩
  have e6 := e4.below hb6
  have z6 := hb6.size
  have d5 : w6.cell? ⟨w4.heap.size, 5, none⟩ = some (.slice none 0 0) := e6.cell (j := 5) (by simp)
  have f5 := e6.frozen 5
  rw [World.size_alloc] at z6 hK1
  go_wp2_with fail
  go_ret3
  have kk : ∀ S : Nat → Prop, ¬ S w4.heap.size → Keeps S w6 (w6.setCell ⟨w4.heap.size, 5, none⟩ (.slice (some ⟨K, 0, none⟩) (nb + 1) (nb + 1))) := fun S h => (Keeps.refl _ _).setCell h _
  have k6 : Keeps (fun b => w3.heap.size ≤ b ∧ b < w4.heap.size) (w4.alloc (.cells #[.slice aB' nb pB', .int .i64 a, .int .i64 b, .int .i64 c, .slice aL' nl pL', .slice none 0 0] 80)) (w6.setCell ⟨w4.heap.size, 5, none⟩ (.slice (some ⟨K, 0, none⟩) (nb + 1) (nb + 1))) :=
    (Keeps.of_below hb6).trans (kk _ (by omega))
  have z43 := hb4.size
  have hB6 := (hB5.keep k6).mono (S' := fun b => w.heap.size ≤ b) (fun b h => by omega)
  have hL6 := (hL5.keep k6).mono (S' := fun b => w.heap.size ≤ b) (fun b h => by omega)
  have e7 := e6.setCell_list 5 (.slice (some ⟨K, 0, none⟩) (nb + 1) (nb + 1))
  have hKn : K ≠ w4.heap.size := by omega
  refine ⟨w4.heap.size, _, _, K, M, rfl, ⟨⟨⟨by simp; omega, e7.cell (j := 0) (by simp), e7.cell (j := 4) (by simp), hB6.rd, hL6.rd⟩, hnb, hnl, e7.cell (j := 5) (by simp), by simpa using hK2, fun p hp => ?_, fun p hp => ?_, fun p hp => ?_, fun p hp => ?_⟩, z4, hB6, hL6, by omega, fun p hp => ?_⟩, ?_⟩
  · obtain ⟨h1, h2, h3, h4, h5⟩ := hparts p hp
    rw [World.cell?_setCell_other _ _ _ _ (fun h => hKn (congrArg Addr.block h).symm)]; exact h1
  · obtain ⟨h1, h2, h3, h4, h5⟩ := hparts p hp
    rw [World.cell?_setCell_other _ _ _ _ (fun h => hKn (congrArg Addr.block h).symm)]; exact h2
  · obtain ⟨h1, h2, h3, h4, h5⟩ := hparts p hp
    simpa using h4
  · obtain ⟨h1, h2, h3, h4, h5⟩ := hparts p hp
    rw [World.size_alloc] at h3
    exact h5.block (Below.heap_setCell _ _ _ _ (by simp; omega))
  · obtain ⟨h1, h2, h3, h4, h5⟩ := hparts p hp
    rw [World.size_alloc] at h3
    omega
  · exact (b5.trans (hb6.mono (by simp; omega))).setCell (by simpa using z4) _
end
end Go.Proofs.Ytogegigepgnbdaa
