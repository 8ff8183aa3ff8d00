/- The contracts of takesPart and of what it calls. -/
import Derived.Test.YtldeiiffabfmeaaGreatDoorH
set_option linter.unusedVariables false
set_option linter.unusedSimpArgs false
namespace Go.Proofs.YtldeiiffabfmeaaGreatDoor
open Go.RowKit

def reachB (nb : Nat) (fb : Nat → Int) (p lo hi : Int) : Bool := decide ((homeOf nb fb lo : Int) ≤ p) && decide (p ≤ (homeOf nb fb hi : Int))

set_option maxHeartbeats 400000 in
theorem reaches_any (bk bp e : Nat) (D : EngD) (vB vL : Value) (p lo hi : Int) (w : World) (h : IsKnown w e D vB vL)
    (hk : w.cell? ⟨bk, 0, none⟩ = some (.pointer (some ⟨e, 0, none⟩))) (hp : w.cell? ⟨bp, 0, none⟩ = some (.int .i64 p)) :
    Calls Tryz.prog 72 #[.agg #[.int .i64 lo, .int .i64 hi], .pointer (some ⟨bk, 0, none⟩), .pointer (some ⟨bp, 0, none⟩)] w fun e w' => e = .returned (.bool (reachB D.nb D.fb p lo hi)) ∧ Below w.heap.size w w' := by
  have h1 := h.below ((Below.refl _ _).alloc (Nat.le_refl _) (.cells #[.int .i64 lo, .int .i64 hi] 159))
  have lk : bk < w.heap.size := World.block_lt_of_cell? _ _ hk
  have lp : bp < w.heap.size := World.block_lt_of_cell? _ _ hp
  by_cases g : (homeOf D.nb D.fb lo : Int) ≤ p
  · go_enter Tryz.func72, Tryz.ntmps72
    go_wp2_with fail
    go_quiet ((go_at_call 71; exact Calls.quiet_of_same (home_any _ D vB vL _ _ (h1.below (below_drewN (Below.refl _ _) _)))))
    go_wp2_with fail
    go_ret
    exact ⟨ret_bool (by simp [reachB, g]), below_drewN ((Below.refl _ _).alloc (Nat.le_refl _) _) _⟩
  · have hd : decide ((homeOf D.nb D.fb lo : Int) ≤ p) = false := by simpa using g
    go_enter Tryz.func72, Tryz.ntmps72
    go_wp2_with fail
    go_quiet ((go_at_call 71; exact Calls.quiet_of_same (home_any _ D vB vL _ _ (h1.below (below_drewN (Below.refl _ _) _)))))
    go_wp2_with fail
    go_ret
    exact ⟨ret_bool (by simp [reachB, hd]), below_drewN ((Below.refl _ _).alloc (Nat.le_refl _) _) _⟩

set_option maxHeartbeats 400000 in
theorem indexF_any (v : Value) (n : Nat) (f : Nat → Int) (bk bp e : Nat) (D : EngD) (vB vL : Value) (p : Int) (w : World) (h : IsKnown w e D vB vL) (hv : RdI w v 1 n f)
    (hk : w.cell? ⟨bk, 0, none⟩ = some (.pointer (some ⟨e, 0, none⟩))) (hp : w.cell? ⟨bp, 0, none⟩ = some (.int .i64 p)) :
    Calls Tryz.prog 114 #[v, .func (.func 70) #[] #[.pointer (some ⟨bk, 0, none⟩), .pointer (some ⟨bp, 0, none⟩)]] w fun e w' => ∃ r : Int, e = .returned (.int .i64 r) ∧ decide (0 ≤ r) = anyB (fun i => (homeOf D.nb D.fb (f i) : Int) == p) n ∧ Below w.heap.size w w' := by
  have lk : bk < w.heap.size := World.block_lt_of_cell? _ _ hk
  have lp : bp < w.heap.size := World.block_lt_of_cell? _ _ hp
  obtain ⟨a, cap, rfl, hn, hc⟩ := hv
  go_enter Tryz.func114, Tryz.ntmps114
  go_wp2
  go_loopw [8] (fun i wr => ∃ k : Nat, k ≤ n ∧ i = .int .i64 k ∧ anyB (fun i => (homeOf D.nb D.fb (f i) : Int) == p) k = false ∧ Below w.heap.size w wr) (fun i _ => n - (intOf i).toNat)
  case atStart => exact ⟨0, Nat.zero_le _, rfl, rfl, Below.refl _ _⟩
  case round =>
    obtain ⟨k, hkn, rfl, hh, hbl⟩ := hrel
    by_cases hlt : k < n
    · obtain ⟨b, off, rfl, hb, hcell⟩ := hc (by omega)
      have c0 : wr.cell? ⟨b, off + k, none⟩ = some (.int .i64 (f k)) := by rw [hbl.cell (p := ⟨b, off + k, none⟩) hb, hcell _ (by omega)]
      have hk' : wr.cell? ⟨bk, 0, none⟩ = some (.pointer (some ⟨e, 0, none⟩)) := by rw [hbl.cell (p := ⟨bk, 0, none⟩) lk]; exact hk
      have hp' : wr.cell? ⟨bp, 0, none⟩ = some (.int .i64 p) := by rw [hbl.cell (p := ⟨bp, 0, none⟩) lp]; exact hp
      clear hc hcell
      have hyes : ((homeOf D.nb D.fb (f k) : Int) == p) = true → anyB (fun i => (homeOf D.nb D.fb (f i) : Int) == p) n = true := fun e => anyB_yes hlt e
      have hno : ((homeOf D.nb D.fb (f k) : Int) == p) = false → anyB (fun i => (homeOf D.nb D.fb (f i) : Int) == p) (k + 1) = false := fun e => anyB_step hh e
      cases hp1 : ((homeOf D.nb D.fb (f k) : Int) == p) with
      | true =>
        have HY : Hid (_ = _) := hyes hp1
        clear hyes hno
        go_wp2_with (go_at_call 70; refine (lies_any bk bp e D vB vL p _ _ (h.below hbl) hk' hp').mono ?_; rintro e w' ⟨rfl, hb2⟩)
        go_ret
        refine ⟨k, rfl, ?_, hbl.trans (hb2.mono hbl.size)⟩
        rw [HY.out]; simp
      | false =>
        have HN : Hid (_ = _) := hno hp1
        clear hyes hno
        go_wp2_with (go_at_call 70; refine (lies_any bk bp e D vB vL p _ _ (h.below hbl) hk' hp').mono ?_; rintro e w' ⟨rfl, hb2⟩)
        go_roundw
        case rel => exact ⟨k + 1, by omega, by go_num, HN.out, hbl.trans (hb2.mono hbl.size)⟩
        case measure => simp [intOf]; omega
    · go_wp2
      go_ret
      have : k = n := by omega
      subst this
      refine ⟨-1, rfl, ?_, hbl⟩
      rw [hh]; rfl
set_option maxHeartbeats 400000 in
theorem indexG_any (v : Value) (n : Nat) (f : Nat → Int) (bk bp e : Nat) (D : EngD) (vB vL : Value) (p : Int) (w : World) (h : IsKnown w e D vB vL) (hv : RdI w v 2 n f)
    (hk : w.cell? ⟨bk, 0, none⟩ = some (.pointer (some ⟨e, 0, none⟩))) (hp : w.cell? ⟨bp, 0, none⟩ = some (.int .i64 p)) :
    Calls Tryz.prog 115 #[v, .func (.func 72) #[] #[.pointer (some ⟨bk, 0, none⟩), .pointer (some ⟨bp, 0, none⟩)]] w fun e w' => ∃ r : Int, e = .returned (.int .i64 r) ∧ decide (0 ≤ r) = anyB (fun i => reachB D.nb D.fb p (f (2 * i)) (f (2 * i + 1))) n ∧ Below w.heap.size w w' := by
  have lk : bk < w.heap.size := World.block_lt_of_cell? _ _ hk
  have lp : bp < w.heap.size := World.block_lt_of_cell? _ _ hp
  obtain ⟨a, cap, rfl, hn, hc⟩ := hv
  go_enter Tryz.func115, Tryz.ntmps115
  go_wp2
  go_loopw [8] (fun i wr => ∃ k : Nat, k ≤ n ∧ i = .int .i64 k ∧ anyB (fun i => reachB D.nb D.fb p (f (2 * i)) (f (2 * i + 1))) k = false ∧ Below w.heap.size w wr) (fun i _ => n - (intOf i).toNat)
  case atStart => exact ⟨0, Nat.zero_le _, rfl, rfl, Below.refl _ _⟩
  case round =>
    obtain ⟨k, hkn, rfl, hh, hbl⟩ := hrel
    by_cases hlt : k < n
    · obtain ⟨b, off, rfl, hb, hcell⟩ := hc (by omega)
      have c0 : wr.cell? ⟨b, off + k * 2, none⟩ = some (.int .i64 (f (2 * k))) := by rw [hbl.cell (p := ⟨b, off + k * 2, none⟩) hb, hcell _ (by omega), Nat.mul_comm]
      have c1 : wr.cell? ⟨b, off + k * 2 + 1, none⟩ = some (.int .i64 (f (2 * k + 1))) := by rw [hbl.cell (p := ⟨b, off + k * 2 + 1, none⟩) hb, Nat.add_assoc, hcell _ (by omega), Nat.mul_comm]
      have hk' : wr.cell? ⟨bk, 0, none⟩ = some (.pointer (some ⟨e, 0, none⟩)) := by rw [hbl.cell (p := ⟨bk, 0, none⟩) lk]; exact hk
      have hp' : wr.cell? ⟨bp, 0, none⟩ = some (.int .i64 p) := by rw [hbl.cell (p := ⟨bp, 0, none⟩) lp]; exact hp
      clear hc hcell
      have hyes : (reachB D.nb D.fb p (f (2 * k)) (f (2 * k + 1))) = true → anyB (fun i => reachB D.nb D.fb p (f (2 * i)) (f (2 * i + 1))) n = true := fun e => anyB_yes hlt e
      have hno : (reachB D.nb D.fb p (f (2 * k)) (f (2 * k + 1))) = false → anyB (fun i => reachB D.nb D.fb p (f (2 * i)) (f (2 * i + 1))) (k + 1) = false := fun e => anyB_step hh e
      cases hp1 : (reachB D.nb D.fb p (f (2 * k)) (f (2 * k + 1))) with
      | true =>
        have HY : Hid (_ = _) := hyes hp1
        clear hyes hno
        go_wp2_with (go_at_call 72; refine (reaches_any bk bp e D vB vL p _ _ _ (h.below hbl) hk' hp').mono ?_; rintro e w' ⟨rfl, hb2⟩)
        go_ret
        refine ⟨k, rfl, ?_, hbl.trans (hb2.mono hbl.size)⟩
        rw [HY.out]; simp
      | false =>
        have HN : Hid (_ = _) := hno hp1
        clear hyes hno
        go_wp2_with (go_at_call 72; refine (reaches_any bk bp e D vB vL p _ _ _ (h.below hbl) hk' hp').mono ?_; rintro e w' ⟨rfl, hb2⟩)
        go_roundw
        case rel => exact ⟨k + 1, by omega, by go_num, HN.out, hbl.trans (hb2.mono hbl.size)⟩
        case measure => simp [intOf]; omega
    · go_wp2
      go_ret
      have : k = n := by omega
      subst this
      refine ⟨-1, rfl, ?_, hbl⟩
      rw [hh]; rfl

def liesB (D : EngD) (p : Int) (n : Nat) (f : Nat → Int) : Bool := anyB (fun i => (homeOf D.nb D.fb (f i) : Int) == p) n
def spansB (D : EngD) (p : Int) (n : Nat) (f : Nat → Int) : Bool := anyB (fun i => reachB D.nb D.fb p (f (2 * i)) (f (2 * i + 1))) n
def takesB (D : EngD) (i : Nat) (p : Int) : Bool :=
  if (D.ts i).nr + (D.ts i).nw + (D.ts i).ng = 0 then p == 0
  else liesB D p (D.ts i).nr (D.ts i).r || liesB D p (D.ts i).nw (D.ts i).wr || spansB D p (D.ts i).ng (D.ts i).g

set_option maxHeartbeats 400000 in
theorem containsF_any (v : Value) (n : Nat) (f : Nat → Int) (bk bp e : Nat) (D : EngD) (vB vL : Value) (p : Int) (w : World) (h : IsKnown w e D vB vL) (hv : RdI w v 1 n f)
    (hk : w.cell? ⟨bk, 0, none⟩ = some (.pointer (some ⟨e, 0, none⟩))) (hp : w.cell? ⟨bp, 0, none⟩ = some (.int .i64 p)) :
    Calls Tryz.prog 73 #[v, .func (.func 70) #[] #[.pointer (some ⟨bk, 0, none⟩), .pointer (some ⟨bp, 0, none⟩)]] w fun e w' => e = .returned (.bool (liesB D p n f)) ∧ Below w.heap.size w w' := by
  go_enter Tryz.func73, Tryz.ntmps73
  go_wp2_with (go_at_call 114; refine (indexF_any _ n f bk bp e D vB vL p _ h hv hk hp).mono ?_; rintro e w' ⟨r, rfl, hr, hb2⟩; have HR : Hid (_ = _) := hr; clear hr)
  go_ret
  exact ⟨ret_bool HR.out, hb2⟩

set_option maxHeartbeats 400000 in
theorem containsG_any (v : Value) (n : Nat) (f : Nat → Int) (bk bp e : Nat) (D : EngD) (vB vL : Value) (p : Int) (w : World) (h : IsKnown w e D vB vL) (hv : RdI w v 2 n f)
    (hk : w.cell? ⟨bk, 0, none⟩ = some (.pointer (some ⟨e, 0, none⟩))) (hp : w.cell? ⟨bp, 0, none⟩ = some (.int .i64 p)) :
    Calls Tryz.prog 74 #[v, .func (.func 72) #[] #[.pointer (some ⟨bk, 0, none⟩), .pointer (some ⟨bp, 0, none⟩)]] w fun e w' => e = .returned (.bool (spansB D p n f)) ∧ Below w.heap.size w w' := by
  go_enter Tryz.func74, Tryz.ntmps74
  go_wp2_with (go_at_call 115; refine (indexG_any _ n f bk bp e D vB vL p _ h hv hk hp).mono ?_; rintro e w' ⟨r, rfl, hr, hb2⟩; have HR : Hid (_ = _) := hr; clear hr)
  go_ret
  exact ⟨ret_bool HR.out, hb2⟩

set_option maxHeartbeats 2000000 in
theorem takesPart_any (e : Nat) (D : EngD) (vB vL : Value) (i : Nat) (p : Int) (hi : i < D.nl) (w : World) (h : IsKnown w e D vB vL) :
    Calls Tryz.prog 43 #[.pointer (some ⟨e, 0, none⟩), .int .i64 i, .int .i64 p] w fun e w' => e = .returned (.bool (takesB D i p)) ∧ Below w.heap.size w w' := by
  have hlt := h.lt
  have h0 := h.c0
  have h4 := h.c4
  obtain ⟨a, cap, rfl, hn, hc⟩ := id h.l
  obtain ⟨b, off, rfl, hb, vs, hcell, ht⟩ := hc (by omega)
  have c0 : w.cell? ⟨b, off + i * 4, none⟩ = some (vs (i * 4)) := by rw [hcell _ (by omega)]
  have c1 : w.cell? ⟨b, off + i * 4 + 1, none⟩ = some (vs (i * 4 + 1)) := by rw [Nat.add_assoc, hcell _ (by omega)]
  have c2 : w.cell? ⟨b, off + i * 4 + 2, none⟩ = some (vs (i * 4 + 2)) := by rw [Nat.add_assoc, hcell _ (by omega)]
  have c3 : w.cell? ⟨b, off + i * 4 + 3, none⟩ = some (vs (i * 4 + 3)) := by rw [Nat.add_assoc, hcell _ (by omega)]
  have hT := ht i hi
  generalize vs (i * 4) = x0 at *
  generalize vs (i * 4 + 1) = x1 at *
  generalize vs (i * 4 + 2) = x2 at *
  generalize vs (i * 4 + 3) = x3 at *
  clear hc hcell ht
  obtain ⟨a0, p0, rfl, m0, -⟩ := id hT.r
  obtain ⟨a1, p1, rfl, m1, -⟩ := id hT.wr
  obtain ⟨a2, p2, rfl, m2, -⟩ := id hT.g
  obtain ⟨a3, p3, rfl, m3, -⟩ := id hT.c
  have hb3 : Below w.heap.size w (((w.alloc (.cells #[.pointer (some ⟨e, 0, none⟩)] 122)).alloc (.cells #[.int .i64 p] 3)).alloc (.cells #[.slice a0 (D.ts i).nr p0, .slice a1 (D.ts i).nw p1, .slice a2 (D.ts i).ng p2, .slice a3 (D.ts i).nc p3] 91)) :=
    (((Below.refl _ _).alloc (Nat.le_refl _) _).alloc (by simp) _).alloc (by simp; omega) _
  have hK := h.below hb3
  have hT3 := hT.below hb3
  by_cases hz : (D.ts i).nr + (D.ts i).nw + (D.ts i).ng = 0
  · have hd : takesB D i p = (p == 0) := by simp [takesB, hz]
    have HD : Hid (_ = _) := hd
    have e1 : (((D.ts i).nr : Int) + (D.ts i).nw + (D.ts i).ng == 0) = true := by simp; omega
    clear hd
    go_enter Tryz.func43, Tryz.ntmps43
    go_wp2_with fail
    go_ret
    exact ⟨ret_bool HD.out.symm, hb3⟩
  · have e1 : (((D.ts i).nr : Int) + (D.ts i).nw + (D.ts i).ng == 0) = false := by simp; omega
    have hd : takesB D i p = (liesB D p (D.ts i).nr (D.ts i).r || liesB D p (D.ts i).nw (D.ts i).wr || spansB D p (D.ts i).ng (D.ts i).g) := by simp only [takesB, if_neg hz]
    have HD : Hid (_ = _) := hd
    clear hd hz
    cases q1 : liesB D p (D.ts i).nr (D.ts i).r with
    | true =>
      go_enter Tryz.func43, Tryz.ntmps43
      go_wp2_with fail
      refine (containsF_any _ (D.ts i).nr (D.ts i).r (w.heap.size) (w.heap.size + 1) e D vB _ p _ hK hT3.r (by go_simp) (by go_simp)).mono ?_
      rintro e' w4 ⟨rfl, hb4⟩
      go_wp2_with fail
      go_ret
      exact ⟨ret_bool (by rw [HD.out, q1]; simp), hb3.trans (hb4.mono (by simp; omega))⟩
    | false =>
      go_enter Tryz.func43, Tryz.ntmps43
      go_wp2_with fail
      refine (containsF_any _ (D.ts i).nr (D.ts i).r (w.heap.size) (w.heap.size + 1) e D vB _ p _ hK hT3.r (by go_simp) (by go_simp)).mono ?_
      rintro e' w4 ⟨rfl, hb4⟩
      have z4 : w.heap.size + 3 ≤ w4.heap.size := by have := hb4.size; simpa using this
      have hK4 := hK.below hb4
      have hT4 := hT3.below hb4
      have hbw4 := hb3.trans (hb4.mono (by simp; omega))
      obtain ⟨hc, hf⟩ := bcell hb4
      have k0 : w4.cell? ⟨w.heap.size, 0, none⟩ = some (.pointer (some ⟨e, 0, none⟩)) := by rw [hc _ _ (by simp; omega)]; go_simp
      have k1 : w4.cell? ⟨w.heap.size + 1, 0, none⟩ = some (.int .i64 p) := by rw [hc _ _ (by simp)]; go_simp
      have j1 : w4.cell? ⟨w.heap.size + 2, 1, none⟩ = some (.slice a1 (D.ts i).nw p1) := by rw [hc _ _ (by simp)]; go_simp
      have j2 : w4.cell? ⟨w.heap.size + 2, 2, none⟩ = some (.slice a2 (D.ts i).ng p2) := by rw [hc _ _ (by simp)]; go_simp
      clear hc hf
      cases q2 : liesB D p (D.ts i).nw (D.ts i).wr with
      | true =>
        go_wp2_with fail
        refine (containsF_any _ (D.ts i).nw (D.ts i).wr (w.heap.size) (w.heap.size + 1) e D vB _ p _ hK4 hT4.wr k0 k1).mono ?_
        rintro e' w5 ⟨rfl, hb5⟩
        go_wp2_with fail
        go_ret
        exact ⟨ret_bool (by rw [HD.out, q2]; simp), hbw4.trans (hb5.mono (by omega))⟩
      | false =>
        go_wp2_with fail
        refine (containsF_any _ (D.ts i).nw (D.ts i).wr (w.heap.size) (w.heap.size + 1) e D vB _ p _ hK4 hT4.wr k0 k1).mono ?_
        rintro e' w5 ⟨rfl, hb5⟩
        have z5 : w.heap.size + 3 ≤ w5.heap.size := by have := hb5.size; omega
        have hK5 := hK4.below hb5
        have hT5 := hT4.below hb5
        have hbw5 := hbw4.trans (hb5.mono (by omega))
        obtain ⟨hc, hf⟩ := bcell hb5
        have k0' : w5.cell? ⟨w.heap.size, 0, none⟩ = some (.pointer (some ⟨e, 0, none⟩)) := by rw [hc _ _ (by omega)]; exact k0
        have k1' : w5.cell? ⟨w.heap.size + 1, 0, none⟩ = some (.int .i64 p) := by rw [hc _ _ (by omega)]; exact k1
        have j2' : w5.cell? ⟨w.heap.size + 2, 2, none⟩ = some (.slice a2 (D.ts i).ng p2) := by rw [hc _ _ (by omega)]; exact j2
        clear hc hf
        go_wp2_with fail
        refine (containsG_any _ (D.ts i).ng (D.ts i).g (w.heap.size) (w.heap.size + 1) e D vB _ p _ hK5 hT5.g k0' k1').mono ?_
        rintro e' w6 ⟨rfl, hb6⟩
        go_wp2_with fail
        go_ret
        exact ⟨ret_bool (by rw [HD.out, q1, q2]; simp), hbw5.trans (hb6.mono (by omega))⟩

/-- The first from i on, of m more, at which p holds; else i + m. -/
def firstYes (p : Nat → Bool) : Nat → Nat → Nat
  | 0, i => i
  | m + 1, i => if p i then i else firstYes p m (i + 1)
def nextOf (D : EngD) (p : Int) : Nat := firstYes (fun i => takesB D i p) D.nl 0
theorem firstYes_at {p : Nat → Bool} : ∀ (m i k : Nat), i ≤ k → k < i + m → (∀ j, i ≤ j → j < k → p j = false) → p k = true → firstYes p m i = k
  | 0, i, k, h1, h2, _, _ => by omega
  | m + 1, i, k, h1, h2, h3, h4 => by
    unfold firstYes
    by_cases e : i = k
    · subst e; rw [if_pos h4]
    · rw [if_neg (by simp [h3 i (Nat.le_refl _) (by omega)])]
      exact firstYes_at m (i + 1) k (by omega) (by omega) (fun j h h' => h3 j (by omega) h') h4
theorem firstYes_end {p : Nat → Bool} : ∀ (m i : Nat), (∀ j, i ≤ j → j < i + m → p j = false) → firstYes p m i = i + m
  | 0, i, _ => rfl
  | m + 1, i, h => by
    unfold firstYes
    rw [if_neg (by simp [h i (Nat.le_refl _) (by omega)]), firstYes_end m (i + 1) (fun j h1 h2 => h j (by omega) (by omega))]
    omega

set_option maxHeartbeats 1000000 in
theorem knext_any (e : Nat) (D : EngD) (vB vL : Value) (p : Int) (w : World) (h : IsKnown w e D vB vL) :
    Calls Tryz.prog 102 #[.pointer (some ⟨e, 0, none⟩), .int .i64 p, .int .i64 0] w fun e w' => e = .returned (.int .i64 (nextOf D p : Nat)) ∧ Below w.heap.size w w' := by
  have hlt := h.lt
  obtain ⟨a, cap, rfl, hn, -⟩ := id h.l
  go_enter Tryz.func102, Tryz.ntmps102
  go_wp2
  go_loopw [7] (fun i wr => ∃ k : Nat, k ≤ D.nl ∧ i = .int .i64 k ∧ anyB (fun i => takesB D i p) k = false ∧ Below w.heap.size w wr) (fun i _ => D.nl - (intOf i).toNat)
  case atStart => exact ⟨0, Nat.zero_le _, rfl, rfl, Below.refl _ _⟩
  case round =>
    obtain ⟨k, hk, rfl, hh, hbl⟩ := hrel
    have hK := h.below hbl
    have c4 := hK.c4
    by_cases hkn : k < D.nl
    · cases hp : takesB D k p with
      | true =>
        have HN : Hid (nextOf D p = k) := firstYes_at D.nl 0 k (by omega) (by omega) (fun j _ hj => anyB_none hh j hj) hp
        go_wp2_with (go_at_call 43; refine (takesPart_any _ D vB _ k p hkn _ hK).mono ?_; rintro e' w' ⟨rfl, hb2⟩)
        go_ret
        exact ⟨by rw [HN.out]; rfl, hbl.trans (hb2.mono hbl.size)⟩
      | false =>
        go_wp2_with (go_at_call 43; refine (takesPart_any _ D vB _ k p hkn _ hK).mono ?_; rintro e' w' ⟨rfl, hb2⟩)
        go_roundw
        case rel => exact ⟨k + 1, by omega, by go_num, anyB_step hh hp, hbl.trans (hb2.mono hbl.size)⟩
        case measure => simp [intOf]; omega
    · have HN : Hid (nextOf D p = D.nl) := by
        have := firstYes_end (p := fun i => takesB D i p) D.nl 0 (fun j _ hj => anyB_none hh j (by omega))
        simpa [nextOf, Hid] using this
      go_wp2_with fail
      go_ret
      exact ⟨by rw [HN.out]; rfl, hbl⟩
end Go.Proofs.YtldeiiffabfmeaaGreatDoor
