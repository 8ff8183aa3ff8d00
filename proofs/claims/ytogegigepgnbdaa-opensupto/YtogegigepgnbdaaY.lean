/- The contract of newPartitions. -/
import Derived.Test.YtogegigepgnbdaaQ
import Derived.Test.YtogegigepgnbdaaR
import Derived.Deep.RegionHeld3
import Derived.Deep.DeepCutAuto
set_option linter.unusedVariables false
set_option linter.unusedSimpArgs false
namespace Go.Proofs.Ytogegigepgnbdaa
open Go.RowKit Go.Maps

theorem Try.info135 : (Try.prog.info? 135).map (fun i => (i.zero, i.size, i.bytes)) = some (some (.agg #[.map none, .int .i64 0]), 2, 16) := by kernel_rfl

/-- What start puts into the partitions: the first n of its pairs. -/
def startHs (nb : Nat) (fb : Nat → Int) (fs : Nat → Int) : Nat → Nat → Nat → Bool
  | 0, _, _ => false
  | n + 1, p, k => if homeOf nb fb (fs (2 * n)) = p ∧ fs (2 * n) = k then true else startHs nb fb fs n p k
def startVl (nb : Nat) (fb : Nat → Int) (fs : Nat → Int) : Nat → Nat → Nat → Int
  | 0, _, _ => 0
  | n + 1, p, k => if homeOf nb fb (fs (2 * n)) = p ∧ fs (2 * n) = k then fs (2 * n + 1) else startVl nb fb fs n p k

theorem home_le' (nb : Nat) (fb : Nat → Int) (x : Int) : homeOf nb fb x ≤ nb := cntB_le _ _

theorem RowIs.apart' {w : World} {g T m : Nat} {c : Nat → Value} (h : RowIs w g T m c) {n b : Nat} {hs : Nat → Bool} {vl : Nat → Int} (h' : IsTabN n w b hs vl) : g ≠ b := by
  intro e
  subst e
  obtain ⟨cur, h1, _⟩ := h
  obtain ⟨_, ⟨es, clock, h2, _⟩, _⟩ := h'
  rw [h1] at h2
  cases h2

/-- The cells of the first k partitions. -/
def partC (D : EngD) (M : Nat → Nat) (k : Nat) (j : Nat) : Value :=
  if j % 2 = 0 then (if j < k * 2 then .map (some (M (j / 2))) else .map none) else (if j < k * 2 then .int .i64 (nextOf D ((j / 2 : Nat) : Int) : Nat) else .int .i64 0)
theorem partC_even (D : EngD) (M : Nat → Nat) {k p : Nat} (h : p < k) : partC D M k (p * 2) = .map (some (M p)) := by
  unfold partC; rw [if_pos (by omega), if_pos (by omega), show p * 2 / 2 = p from by omega]
theorem partC_odd (D : EngD) (M : Nat → Nat) {k p : Nat} (h : p < k) : partC D M k (p * 2 + 1) = .int .i64 (nextOf D (p : Int) : Nat) := by
  unfold partC; rw [if_neg (by omega), if_pos (by omega), show (p * 2 + 1) / 2 = p from by omega]
theorem partC_step (D : EngD) (M : Nat → Nat) (k m : Nat) (j : Nat) :
    (fun j => if j = k * 2 + 1 then .int .i64 (nextOf D (k : Int) : Nat) else (fun j => if j = k * 2 then .map (some m) else partC D M k j) j) j = partC D (upd M k m) (k + 1) j := by
  simp only [partC]
  by_cases h1 : j = k * 2 + 1
  · subst h1; rw [if_pos rfl, if_neg (by omega), if_pos (by omega), show (k * 2 + 1) / 2 = k from by omega]
  rw [if_neg h1]
  by_cases h2 : j = k * 2
  · subst h2; rw [if_pos rfl, if_pos (by omega), if_pos (by omega), show k * 2 / 2 = k from by omega, upd_same]
  rw [if_neg h2]
  by_cases h3 : j < k * 2
  · by_cases h4 : j % 2 = 0
    · rw [if_pos h4, if_pos h3, if_pos h4, if_pos (by omega), upd_other _ _ (by omega)]
    · rw [if_neg h4, if_pos h3, if_neg h4, if_pos (by omega)]
  · by_cases h4 : j % 2 = 0
    · rw [if_pos h4, if_neg h3, if_pos h4, if_neg (by omega)]
    · rw [if_neg h4, if_neg h3, if_neg h4, if_neg (by omega)]

set_option maxHeartbeats 2000000 in
theorem newPartitions_any (e : Nat) (D : EngD) (vB vL vS : Value) (ns : Nat) (fs : Nat → Int) (w : World) (h : IsKnown w e D vB vL) (hnb : D.nb ≤ 3) (hns : ns ≤ 40)
    (hS : RdI w vS 2 ns fs) (hkey : ∀ j, j < ns → 0 ≤ fs (2 * j) ∧ fs (2 * j) ≤ 99) (hwf : ∀ j, j < ns → (Lit.int .i64 (fs (2 * j + 1))).wf = true) :
    Calls Try.prog 21 #[.pointer (some ⟨e, 0, none⟩), vS] w fun r w' => ∃ (K : Nat) (M : Nat → Nat), r = .returned (.slice (some ⟨K, 0, none⟩) (D.nb + 1) (D.nb + 1)) ∧ w.heap.size ≤ K ∧ K < w'.heap.size ∧
      (∀ p, p ≤ D.nb → w'.cell? ⟨K, p * 2, none⟩ = some (.map (some (M p))) ∧ w'.cell? ⟨K, p * 2 + 1, none⟩ = some (.int .i64 (nextOf D (p : Nat) : Nat)) ∧ w.heap.size ≤ M p ∧ M p < w'.heap.size ∧
        IsTab w' (M p) (startHs D.nb D.fb fs ns p) (startVl D.nb D.fb fs ns p)) ∧ Below w.heap.size w w' := by
  have hlt := h.lt
  obtain ⟨aS, capS, rfl, -, hcS⟩ := id hS
  have zmod : ∀ j, (#[Value.map none, .int .i64 0] : Array Value)[j % 2]! = (if j % 2 = 0 then .map none else .int .i64 0) := by
    intro j
    have : j % 2 = 0 ∨ j % 2 = 1 := by omega
    rcases this with h | h <;> rw [h] <;> rfl
  obtain ⟨Mk, hmk, hM⟩ := make_run (P := Try.prog) 78 135 _ 2 16 Try.underlying78 Try.info135 (D.nb + 1) (by omega) (by unfold maxLen; omega) (fun j => if j % 2 = 0 then .map none else .int .i64 0) (fun j _ => zmod j)
  have hmk' : ∀ w, (Instr.makeSlice 78 (.int .i64 ((D.nb : Int) + 1)) (.int .i64 ((D.nb : Int) + 1))).run Try.prog w = .ok (.slice (some ⟨w.heap.size, 0, none⟩) (D.nb + 1) (D.nb + 1)) (w.alloc (.cells Mk 135)) := by
    intro w; have := hmk w; rwa [Int.natCast_add] at this
  clear hmk
  go_enter Try.func21, Try.ntmps21
  go_wp2_with (go_at_call 41; refine (count_any _ D vB vL _ h).mono ?_; rintro e w' ⟨rfl, rfl⟩)
  have hb0 : Below w'.heap.size w' (w'.alloc (.cells Mk 135)) := (Below.refl _ _).alloc (Nat.le_refl _) _
  have hR0 := hM w'
  go_loopw [14] (fun i wr => ∃ k : Nat, k ≤ D.nb + 1 ∧ i = .int .i64 k ∧ ∃ M : Nat → Nat, RowIs wr w'.heap.size 135 ((D.nb + 1) * 2) (partC D M k) ∧
    (∀ p, p < k → w'.heap.size < M p ∧ M p < wr.heap.size ∧ IsTabN 0 wr (M p) (fun _ => false) (fun _ => 0)) ∧ (∀ p q, p < q → q < k → M p < M q) ∧ Below w'.heap.size w' wr) (fun i _ => D.nb + 1 - (intOf i).toNat)
  case atStart =>
    refine ⟨0, Nat.zero_le _, rfl, fun _ => 0, hR0.congr (fun j _ => ?_), fun p hp => by omega, fun p q _ hq => by omega, hb0⟩
    simp only [partC, Nat.zero_mul, Nat.not_lt_zero, if_false]
  case round =>
    obtain ⟨k, hk, rfl, M, hrow, htab, hinc, hbl⟩ := hrel
    have hK := h.below hbl
    have hKlt := hrow.lt
    by_cases hkn : k < D.nb + 1
    · go_wp2_with fail
      refine (newTable_any _).mono ?_
      rintro r w1 ⟨m, rfl, hm1, hm2, hmt, hb1⟩
      go_wp2_with fail
      refine (knext_any _ D vB vL (k : Int) _ (hK.below hb1)).mono ?_
      rintro r w2 ⟨rfl, hb2⟩
      go_wp2_with fail
      refine (newLocks_any _ _).mono ?_
      rintro r w3 ⟨rfl, hb3⟩
      have b13 : Below wr.heap.size wr w3 := hb1.trans ((hb2.trans (hb3.mono hb2.size)).mono hb1.size)
      have b23 : Below w1.heap.size w1 w3 := hb2.trans (hb3.mono hb2.size)
      have hrow3 := hrow.below b13
      have c0 := hrow3.cell (j := k * 2) (by omega)
      have c1 := hrow3.cell (j := k * 2 + 1) (by omega)
      have f0 := hrow3.frozen
      generalize partC D M k (k * 2) = o0 at c0
      generalize partC D M k (k * 2 + 1) = o1 at c1
      generalize hN : ((nextOf D (k : Int) : Nat) : Int) = N at *
      have HN : Hid (_ = _) := hN
      clear hN
      go_wp2_with fail
      go_roundw
      case measure => simp [intOf]; omega
      case rel =>
        have z1 := hb1.size
        have z3 := b23.size
        refine ⟨k + 1, by omega, by go_num, upd M k m, ?_, ?_, ?_, ?_⟩
        · refine ((hrow3.setCell (k * 2) (.map (some m))).setCell (k * 2 + 1) (.int .i64 N)).congr (fun j _ => ?_)
          rw [← HN.out]; exact partC_step D M k m j
        · intro p hp
          by_cases e : p = k
          · subst e
            rw [upd_same]
            refine ⟨by omega, by simp; omega, ?_⟩
            refine hmt.block ?_
            rw [Below.heap_setCell _ _ _ _ (by simp; omega), Below.heap_setCell _ _ _ _ (by simp; omega), b23.block m hm2]
          · rw [upd_other _ _ e]
            obtain ⟨t1, t2, t3⟩ := htab p (by omega)
            refine ⟨t1, by simp; omega, t3.block ?_⟩
            rw [Below.heap_setCell _ _ _ _ (by simp; omega), Below.heap_setCell _ _ _ _ (by simp; omega), b13.block _ t2]
        · intro p q hpq hq
          by_cases e : q = k
          · subst e
            rw [upd_same, upd_other _ _ (by omega)]
            have := (htab p hpq).2.1
            omega
          · rw [upd_other _ _ e, upd_other _ _ (by omega)]
            exact hinc p q hpq (by omega)
        · exact ((hbl.trans (b13.mono hbl.size)).setCell (Nat.le_refl _) _).setCell (Nat.le_refl _) _
    · have hk1 : k = D.nb + 1 := by omega
      rw [hk1] at hrow htab hinc
      clear hk1 hK hKlt
      go_wp2_with fail
      go_loopw [29] (fun i wq => ∃ k : Nat, k ≤ ns ∧ i = .int .i64 k ∧ RowIs wq w'.heap.size 135 ((D.nb + 1) * 2) (partC D M (D.nb + 1)) ∧
        (∀ p, p < D.nb + 1 → M p < wq.heap.size ∧ IsTabN k wq (M p) (startHs D.nb D.fb fs k p) (startVl D.nb D.fb fs k p)) ∧ Below w'.heap.size w' wq) (fun i _ => ns - (intOf i).toNat)
      case atStart => exact ⟨0, Nat.zero_le _, rfl, hrow, fun p hp => ⟨(htab p hp).2.1, (htab p hp).2.2⟩, hbl⟩
      case round =>
        have hMlt := fun p hp => (htab p hp).1
        clear hrow htab hbl
        obtain ⟨i, hi, rfl, hrow, htab, hbl⟩ := hrel
        have hK := h.below hbl
        by_cases hin : i < ns
        · obtain ⟨bb, off, rfl, hbb, hcell⟩ := hcS (by omega)
          have e0 : wr.cell? ⟨bb, off + i * 2, none⟩ = some (.int .i64 (fs (2 * i))) := by rw [hbl.cell (p := ⟨bb, off + i * 2, none⟩) hbb, hcell _ (by omega), Nat.mul_comm]
          have e1 : wr.cell? ⟨bb, off + i * 2 + 1, none⟩ = some (.int .i64 (fs (2 * i + 1))) := by rw [hbl.cell (p := ⟨bb, off + i * 2 + 1, none⟩) hbb, Nat.add_assoc, hcell _ (by omega), Nat.mul_comm]
          clear hcell hcS
          obtain ⟨hk0, hk1⟩ := hkey i hin
          have hwfi := hwf i hin
          obtain ⟨kk, hkk⟩ : ∃ kk : Nat, fs (2 * i) = kk := ⟨(fs (2 * i)).toNat, by omega⟩
          have hk100 : kk < 100 := by omega
          have hHome := home_le' D.nb D.fb (kk : Int)
          rw [hkk] at e0
          have HKK : Hid (_ = _) := hkk
          clear hkk hk0 hk1 hkey hwf
          generalize hx : fs (2 * i + 1) = x at *
          have HX : Hid (_ = _) := hx
          clear hx
          have HK1 := hK.below ((Below.refl _ _).alloc (Nat.le_refl _) (.cells #[.int .i64 kk, .int .i64 x] 62))
          generalize hp : homeOf D.nb D.fb (kk : Int) = p at *
          have HP : Hid (_ = _) := hp
          clear hp
          have hrow1 := hrow.alloc (.cells #[.int .i64 kk, .int .i64 x] 62)
          have htab1 : ∀ p, p < D.nb + 1 → M p < (wr.alloc (.cells #[.int .i64 kk, .int .i64 x] 62)).heap.size ∧ IsTabN i (wr.alloc (.cells #[.int .i64 kk, .int .i64 x] 62)) (M p) (startHs D.nb D.fb fs i p) (startVl D.nb D.fb fs i p) :=
            fun p hp => ⟨by have := (htab p hp).1; simp; omega, (htab p hp).2.block (Below.heap_alloc _ _ _ (htab p hp).1)⟩
          have hbl1 := hbl.alloc hbl.size (.cells #[.int .i64 kk, .int .i64 x] 62)
          have r8 := rowIs_list wr [.int .i64 kk, .int .i64 x] 62
          have hwlt := hbl.size
          have hrl := hrow.lt
          clear hrow htab hbl hK
          go_wp2_with fail
          generalize wr.alloc (.cells #[.int .i64 kk, .int .i64 x] 62) = wk at *
          clear e0 e1
          have c80 : wk.cell? ⟨wr.heap.size, 0, none⟩ = some (.int .i64 kk) := r8.cell (j := 0) (by simp)
          have c81 : wk.cell? ⟨wr.heap.size, 1, none⟩ = some (.int .i64 x) := r8.cell (j := 1) (by simp)
          have cM : wk.cell? ⟨w'.heap.size, p * 2, none⟩ = some (.map (some (M p))) := by rw [hrow1.cell (j := p * 2) (by omega), partC_even D M (by omega)]
          have i1 : (0 : Int) ≤ (p : Int) := by omega
          have i2 : (p : Int) < (D.nb : Int) + 1 := by omega
          have i3 : (p : Int) < ((D.nb + 1 : Nat) : Int) := by omega
          have hTp := (htab1 p (by omega)).2
          have hlt1 := fun q hq => (htab1 q hq).1
          have hMp := hlt1 p (by omega)
          have hMpK := hMlt p (by omega)
          go_region_held3 (fun y => y.cell? ⟨wr.heap.size, 0, none⟩ = some (.int .i64 kk) ∧ y.cell? ⟨wr.heap.size, 1, none⟩ = some (.int .i64 x))
            (first
              | exact ⟨c80, c81⟩
              | (refine ⟨?_, ?_⟩ <;> (rw [World.cell?_of_block (hgrow.block _ (by exact r8.lt) (by intro e; injection e with e; have := r8.apart' hTp e; exact this))]; assumption)))
            (first
              | (go_at_call 45; refine (home_any _ D vB vL _ _ ?_).mono ?_; (exact HK1.below ((Below.refl _ _).drew)); rintro e y ⟨rfl, rfl⟩; rw [HP.out])
              | (go_at_call 46; refine (put_any w'.heap.size (p * 2) (M p) (startHs D.nb D.fb fs i p) (startVl D.nb D.fb fs i p) kk x _ hk100 hwfi i (by omega) ?_ ?_).mono ?_; (exact cM); (exact hTp); rintro e y ⟨rfl, hT', hgrow⟩))
          go_wp2_with fail
          go_roundw
          case measure => simp [intOf]; omega
          case rel =>
            have zg := hgrow.size
            have zk : wk.drew.heap.size = wk.heap.size := rfl
            refine ⟨i + 1, by omega, by go_num, hrow1.block (hgrow.block _ (by have := hrow1.lt; omega) (by intro e; injection e with e; omega)), fun q hq => ?_, (hbl1.drew).grown hgrow hbl1.size (fun k e => by injection e with e; omega)⟩
            have hfs : fs (2 * i) = (kk : Int) := HKK.out
            have hho : homeOf D.nb D.fb (fs (2 * i)) = p := by rw [hfs]; exact HP.out
            refine ⟨by have := hlt1 q hq; omega, ?_⟩
            by_cases e : q = p
            · subst e
              refine hT'.congr (fun k _ => ?_) (fun k _ _ => ?_)
              · rw [startHs, hho, hfs]
                by_cases e2 : k = kk
                · subst e2; rw [upd_same, if_pos ⟨rfl, rfl⟩]
                · rw [upd_other _ _ e2, if_neg (by omega)]
              · rw [startVl, hho, hfs]
                by_cases e2 : k = kk
                · subst e2; rw [upd_same, if_pos ⟨rfl, rfl⟩]; exact HX.out.symm
                · rw [upd_other _ _ e2, if_neg (by omega)]
            · have hne : M q ≠ M p := by
                rcases Nat.lt_or_gt_of_ne e with h1 | h1
                · have := hinc q p h1 (by omega); omega
                · have := hinc p q h1 (by omega); omega
              refine ((htab1 q hq).2.step.block (hgrow.block _ (by have := hlt1 q hq; omega) (by intro h'; injection h' with h'; exact hne h'))).congr (fun k _ => ?_) (fun k _ _ => ?_)
              · simp only [startHs, hho]; rw [if_neg (fun h' => e h'.1.symm)]
              · simp only [startVl, hho]; rw [if_neg (fun h' => e h'.1.symm)]
        · have hin' : i = ns := by omega
          have HIN : Hid (i = ns) := hin'
          clear hin'
          go_wp2_with fail
          go_ret
          have hin' := HIN.out
          subst hin'
          refine ⟨w'.heap.size, M, rfl, Nat.le_refl _, hrow.lt, fun p hp => ⟨?_, ?_, by have := hMlt p (by omega); omega, (htab p (by omega)).1, (htab p (by omega)).2.tab (by omega)⟩, hbl⟩
          · rw [hrow.cell (j := p * 2) (by omega), partC_even D M (by omega)]
          · rw [hrow.cell (j := p * 2 + 1) (by omega), partC_odd D M (by omega)]
end Go.Proofs.Ytogegigepgnbdaa
