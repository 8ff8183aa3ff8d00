/- Taking part, by ranges' ends and by keys one by one: the same. Plain mathematics. -/
import Derived.Test.YtldeiiffabfmeaaGreatDoorK
set_option linter.unusedVariables false
set_option linter.unusedSimpArgs false
namespace Go.Proofs.YtldeiiffabfmeaaGreatDoor

/-- The data of an engine that can be made. -/
structure Good (D : EngD) : Prop where
  nb : D.nb ≤ 3
  nl : D.nl ≤ 24
  rise : allB (risesB 1 D.fb) D.nb = true
  txn : allB (fun i => txnB (D.ts i)) D.nl = true

theorem within_iff {n lo hi : Int} : withinB n lo hi = true ↔ lo ≤ n ∧ n ≤ hi := by simp [withinB]

theorem rise_step {lo : Int} {f : Nat → Int} {n j : Nat} (h : allB (risesB lo f) n = true) (hj : j + 1 < n) : f j < f (j + 1) := by
  have := allB_at h hj
  simp only [risesB, within_iff] at this
  omega
theorem rise_lt {lo : Int} {f : Nat → Int} {n : Nat} (h : allB (risesB lo f) n = true) : ∀ d i, i + d + 1 < n → f i < f (i + d + 1)
  | 0, i, hi => rise_step h hi
  | d + 1, i, hi => by
    have a := rise_lt h d i (by omega)
    have b := rise_step (j := i + d + 1) h (by omega)
    have e : i + (d + 1) + 1 = i + d + 1 + 1 := by omega
    rw [e]; omega
theorem rise_inc {lo : Int} {f : Nat → Int} {n i j : Nat} (h : allB (risesB lo f) n = true) (hij : i < j) (hj : j < n) : f i < f j := by
  have := rise_lt h (j - i - 1) i (by omega)
  have e : i + (j - i - 1) + 1 = j := by omega
  rw [e] at this; exact this

theorem cnt_prefix {f : Nat → Int} {n : Nat} (x : Int) (inc : ∀ i j, i < j → j < n → f i < f j) : ∀ m, m ≤ n → ∀ i, i < m → (f i ≤ x ↔ i < cntB (fun i => decide (f i ≤ x)) m)
  | 0, _, i, hi => by omega
  | m + 1, hm, i, hi => by
    have ih := cnt_prefix x inc m (by omega)
    have hle := cntB_le (fun i => decide (f i ≤ x)) m
    by_cases hx : f m ≤ x
    · have all : cntB (fun i => decide (f i ≤ x)) m = m := by
        cases m with
        | zero => rfl
        | succ k =>
          have h1 := (ih k (by omega)).1 (by have := inc k (k + 1) (by omega) (by omega); omega)
          omega
      rw [cntB_yes (p := fun i => decide (f i ≤ x)) (k := m) (by simpa using hx), all]
      constructor
      · intro _; omega
      · intro _
        by_cases e : i = m
        · rw [e]; exact hx
        · have := inc i m (by omega) (by omega); omega
    · rw [cntB_no (p := fun i => decide (f i ≤ x)) (k := m) (by simpa using hx)]
      by_cases e : i = m
      · subst e; constructor
        · intro h; omega
        · intro h; omega
      · exact ih i (by omega)

theorem cntB_mono {p q : Nat → Bool} (h : ∀ i, p i = true → q i = true) : ∀ n, cntB p n ≤ cntB q n
  | 0 => Nat.le_refl _
  | n + 1 => by
    have := cntB_mono h n
    simp only [cntB]
    cases hp : p n with
    | false => simp; split <;> omega
    | true => simp [h n hp]; omega
theorem home_mono (nb : Nat) (fb : Nat → Int) {x y : Int} (h : x ≤ y) : homeOf nb fb x ≤ homeOf nb fb y :=
  cntB_mono (fun i hi => by simp at hi ⊢; omega) nb
theorem home_le (nb : Nat) (fb : Nat → Int) (x : Int) : homeOf nb fb x ≤ nb := cntB_le _ _


theorem Good.inc {D : EngD} (G : Good D) : ∀ i j, i < j → j < D.nb → D.fb i < D.fb j := fun _ _ h h' => rise_inc G.rise h h'
theorem Good.bound {D : EngD} (G : Good D) (i : Nat) (h : i < D.nb) : 1 ≤ D.fb i ∧ D.fb i ≤ 99 := by
  have : ∀ k, k ≤ D.nb → ∀ j, j < k → 1 ≤ D.fb j ∧ D.fb j ≤ 99 := by
    intro k
    induction k with
    | zero => intro _ j hj; omega
    | succ k ih =>
      intro hk j hj
      by_cases e : j = k
      · subst e
        have := allB_at G.rise (k := j) (by omega)
        cases j with
        | zero => simp only [risesB, within_iff] at this; exact this
        | succ i => simp only [risesB, within_iff] at this; have := ih (by omega) i (by omega); omega
      · exact ih (by omega) j (by omega)
  exact this D.nb (Nat.le_refl _) i h

theorem Good.key {D : EngD} (G : Good D) {i : Nat} (hi : i < D.nl) : keysB (D.ts i).nr (D.ts i).r = true ∧ keysB (D.ts i).nw (D.ts i).wr = true ∧ rangesB (D.ts i).ng (D.ts i).g = true := by
  have := allB_at G.txn hi
  simp only [txnB, Bool.and_eq_true] at this
  exact ⟨this.1.1.1, this.1.1.2, this.1.2⟩
theorem Good.rkey {D : EngD} (G : Good D) {i : Nat} (hi : i < D.nl) {j : Nat} (hj : j < (D.ts i).nr) : 0 ≤ (D.ts i).r j ∧ (D.ts i).r j ≤ 99 := by
  have := (G.key hi).1
  simp only [keysB, Bool.and_eq_true] at this
  exact within_iff.1 (allB_at this.2 hj)
theorem Good.wkey {D : EngD} (G : Good D) {i : Nat} (hi : i < D.nl) {j : Nat} (hj : j < (D.ts i).nw) : 0 ≤ (D.ts i).wr j ∧ (D.ts i).wr j ≤ 99 := by
  have := (G.key hi).2.1
  simp only [keysB, Bool.and_eq_true] at this
  exact within_iff.1 (allB_at this.2 hj)
theorem Good.gkey {D : EngD} (G : Good D) {i : Nat} (hi : i < D.nl) {j : Nat} (hj : j < (D.ts i).ng) : 0 ≤ (D.ts i).g (2 * j) ∧ (D.ts i).g (2 * j) ≤ (D.ts i).g (2 * j + 1) ∧ (D.ts i).g (2 * j + 1) ≤ 99 := by
  have := (G.key hi).2.2
  simp only [rangesB, Bool.and_eq_true] at this
  have := allB_at this.2 hj
  simp only [rangeB, Bool.and_eq_true, within_iff, decide_eq_true_eq] at this
  omega

theorem Good.reach {D : EngD} (G : Good D) {i : Nat} (hi : i < D.nl) {j : Nat} (hj : j < (D.ts i).ng) {p : Nat} (h : reachB D.nb D.fb p ((D.ts i).g (2 * j)) ((D.ts i).g (2 * j + 1)) = true) :
    ∃ k : Nat, k < 100 ∧ inB (D.ts i) k j = true ∧ homeOf D.nb D.fb k = p := by
  obtain ⟨g1, g2, g3⟩ := G.gkey hi hj
  simp only [reachB, Bool.and_eq_true, decide_eq_true_eq] at h
  have pre := fun x => cnt_prefix (n := D.nb) x G.inc D.nb (Nat.le_refl _)
  by_cases e : homeOf D.nb D.fb ((D.ts i).g (2 * j)) = p
  · refine ⟨((D.ts i).g (2 * j)).toNat, by omega, ?_, ?_⟩
    · simp only [inB, Bool.and_eq_true, decide_eq_true_eq]; omega
    · rw [show (((D.ts i).g (2 * j)).toNat : Int) = (D.ts i).g (2 * j) from by omega]; exact e
  · have hle := home_le D.nb D.fb ((D.ts i).g (2 * j + 1))
    have hp : p - 1 < D.nb := by omega
    have b := G.bound (p - 1) hp
    have lo : ¬ D.fb (p - 1) ≤ (D.ts i).g (2 * j) := fun h' => by
      have h3 := (pre ((D.ts i).g (2 * j)) (p - 1) hp).1 h'
      have h4 : homeOf D.nb D.fb ((D.ts i).g (2 * j)) ≤ p := by omega
      simp only [homeOf] at e h4; omega
    have hi' : D.fb (p - 1) ≤ (D.ts i).g (2 * j + 1) := (pre ((D.ts i).g (2 * j + 1)) (p - 1) hp).2 (by
      have : p ≤ homeOf D.nb D.fb ((D.ts i).g (2 * j + 1)) := by omega
      simp only [homeOf] at this; omega)
    refine ⟨(D.fb (p - 1)).toNat, by omega, ?_, ?_⟩
    · simp only [inB, Bool.and_eq_true, decide_eq_true_eq]; omega
    · rw [show ((D.fb (p - 1)).toNat : Int) = D.fb (p - 1) from by omega]
      have h1 := (pre (D.fb (p - 1)) (p - 1) hp).1 (by omega)
      have h2 : homeOf D.nb D.fb (D.fb (p - 1)) ≤ p := by
        rcases Nat.lt_or_ge p D.nb with hpn | hpn
        · have h3 : ¬ D.fb p ≤ D.fb (p - 1) := by have := G.inc (p - 1) p (by omega) hpn; omega
          have h4 := (pre (D.fb (p - 1)) p hpn).2
          rcases Nat.lt_or_ge p (homeOf D.nb D.fb (D.fb (p - 1))) with h5 | h5
          · exact absurd (h4 h5) h3
          · exact h5
        · have := home_le D.nb D.fb (D.fb (p - 1)); omega
      simp only [homeOf] at h2 ⊢; omega

theorem Good.touch_any {D : EngD} (G : Good D) {i : Nat} (hi : i < D.nl) (hz : ¬ (D.ts i).nr + (D.ts i).nw + (D.ts i).ng = 0) : ∃ k : Nat, k < 100 ∧ touchB (D.ts i) k = true := by
  by_cases h1 : 0 < (D.ts i).nr
  · have := G.rkey hi h1
    refine ⟨((D.ts i).r 0).toNat, by omega, ?_⟩
    rw [show (((D.ts i).r 0).toNat : Int) = (D.ts i).r 0 from by omega, touchB, hasB, anyB_yes (p := fun j => (D.ts i).r j == (D.ts i).r 0) h1 (by simp)]
    rfl
  · by_cases h2 : 0 < (D.ts i).nw
    · have := G.wkey hi h2
      refine ⟨((D.ts i).wr 0).toNat, by omega, ?_⟩
      rw [show (((D.ts i).wr 0).toNat : Int) = (D.ts i).wr 0 from by omega, touchB]
      rw [show hasB (D.ts i).nw (D.ts i).wr ((D.ts i).wr 0) = true from anyB_yes (p := fun j => (D.ts i).wr j == (D.ts i).wr 0) h2 (by simp)]
      simp
    · have h3 : 0 < (D.ts i).ng := by omega
      have := G.gkey hi h3
      refine ⟨((D.ts i).g (2 * 0)).toNat, by omega, ?_⟩
      rw [show (((D.ts i).g (2 * 0)).toNat : Int) = (D.ts i).g (2 * 0) from by omega, touchB]
      rw [show anyB (inB (D.ts i) ((D.ts i).g (2 * 0))) (D.ts i).ng = true from anyB_yes h3 (by simp only [inB, Bool.and_eq_true, decide_eq_true_eq]; omega)]
      simp

theorem touch_none {t : TxnD} (hz : t.nr + t.nw + t.ng = 0) (x : Int) : touchB t x = false := by
  have h1 : t.nr = 0 := by omega
  have h2 : t.nw = 0 := by omega
  have h3 : t.ng = 0 := by omega
  simp [touchB, hasB, h1, h2, h3, anyB]

theorem Good.takes {D : EngD} (G : Good D) {i : Nat} (hi : i < D.nl) (p : Nat) : rtakesB D i p = takesB D i p := by
  by_cases hz : (D.ts i).nr + (D.ts i).nw + (D.ts i).ng = 0
  · have e1 : anyB (fun k => touchB (D.ts i) k && ((homeOf D.nb D.fb k : Int) == (p : Int))) 100 = false := by
      cases e : anyB (fun k => touchB (D.ts i) k && ((homeOf D.nb D.fb k : Int) == (p : Int))) 100 with
      | false => rfl
      | true => obtain ⟨k, _, hk⟩ := anyB_at e; simp [touch_none hz] at hk
    have e2 : anyB (fun k => touchB (D.ts i) k) 100 = false := by
      cases e : anyB (fun k => touchB (D.ts i) k) 100 with
      | false => rfl
      | true => obtain ⟨k, _, hk⟩ := anyB_at e; simp [touch_none hz] at hk
    rw [rtakesB, e1, e2, takesB, if_pos hz]; rfl
  · obtain ⟨k0, hk0, ht0⟩ := G.touch_any hi hz
    have e2 : anyB (fun k => touchB (D.ts i) k) 100 = true := anyB_yes hk0 ht0
    rw [rtakesB, e2, takesB, if_neg hz]
    simp only [Bool.not_true, Bool.false_and, Bool.or_false]
    rw [Bool.eq_iff_iff]
    constructor
    · intro h
      obtain ⟨k, hk, hkk⟩ := anyB_at h
      simp only [Bool.and_eq_true, beq_iff_eq] at hkk
      obtain ⟨hT, hh⟩ := hkk
      simp only [touchB, Bool.or_eq_true] at hT
      rcases hT with (hT | hT) | hT
      · obtain ⟨j, hj, hjj⟩ := anyB_at hT
        rw [beq_iff_eq] at hjj
        rw [show liesB D p (D.ts i).nr (D.ts i).r = true from anyB_yes hj (by rw [hjj, beq_iff_eq]; exact hh)]; rfl
      · obtain ⟨j, hj, hjj⟩ := anyB_at hT
        simp only [inB, Bool.and_eq_true, decide_eq_true_eq] at hjj
        have m1 := home_mono D.nb D.fb hjj.1
        have m2 := home_mono D.nb D.fb hjj.2
        rw [show spansB D p (D.ts i).ng (D.ts i).g = true from anyB_yes hj (by simp only [reachB, Bool.and_eq_true, decide_eq_true_eq]; omega)]; simp
      · obtain ⟨j, hj, hjj⟩ := anyB_at hT
        rw [beq_iff_eq] at hjj
        rw [show liesB D p (D.ts i).nw (D.ts i).wr = true from anyB_yes hj (by rw [hjj, beq_iff_eq]; exact hh)]; simp
    · intro h
      simp only [Bool.or_eq_true] at h
      rcases h with (h | h) | h
      · obtain ⟨j, hj, hjj⟩ := anyB_at h
        have := G.rkey hi hj
        refine anyB_yes (k := ((D.ts i).r j).toNat) (by omega) ?_
        rw [show (((D.ts i).r j).toNat : Int) = (D.ts i).r j from by omega, hjj, touchB]
        rw [show hasB (D.ts i).nr (D.ts i).r ((D.ts i).r j) = true from anyB_yes hj (by simp)]; rfl
      · obtain ⟨j, hj, hjj⟩ := anyB_at h
        have := G.wkey hi hj
        refine anyB_yes (k := ((D.ts i).wr j).toNat) (by omega) ?_
        rw [show (((D.ts i).wr j).toNat : Int) = (D.ts i).wr j from by omega, hjj, touchB]
        rw [show hasB (D.ts i).nw (D.ts i).wr ((D.ts i).wr j) = true from anyB_yes hj (by simp)]; simp
      · obtain ⟨j, hj, hjj⟩ := anyB_at h
        obtain ⟨k, hk, hin, hh⟩ := G.reach hi hj hjj
        refine anyB_yes (k := k) hk ?_
        rw [hh, touchB]
        rw [show anyB (inB (D.ts i) k) (D.ts i).ng = true from anyB_yes hj hin]; simp

theorem Good.some_part {D : EngD} (G : Good D) (i : Nat) (hi : i < D.nl) : ∃ p, p ≤ D.nb ∧ rtakesB D i (p : Nat) = true := by
  by_cases hz : (D.ts i).nr + (D.ts i).nw + (D.ts i).ng = 0
  · refine ⟨0, Nat.zero_le _, ?_⟩
    rw [G.takes hi, takesB, if_pos hz]; rfl
  · obtain ⟨k, hk, ht⟩ := G.touch_any hi hz
    refine ⟨homeOf D.nb D.fb k, home_le _ _ _, ?_⟩
    rw [rtakesB, anyB_yes (p := fun k' => touchB (D.ts i) k' && ((homeOf D.nb D.fb k' : Int) == (homeOf D.nb D.fb k : Int))) hk (by simp [ht])]; rfl

theorem firstYes_congr {p q : Nat → Bool} : ∀ (m i : Nat), (∀ j, i ≤ j → j < i + m → p j = q j) → firstYes p m i = firstYes q m i
  | 0, _, _ => rfl
  | m + 1, i, h => by
    unfold firstYes
    rw [h i (Nat.le_refl _) (by omega), firstYes_congr m (i + 1) (fun j h1 h2 => h j (by omega) (by omega))]
theorem Good.next {D : EngD} (G : Good D) (p : Nat) : rnextOf D p = nextOf D p :=
  firstYes_congr D.nl 0 (fun j _ hj => G.takes (by omega) p)
end Go.Proofs.YtldeiiffabfmeaaGreatDoor
