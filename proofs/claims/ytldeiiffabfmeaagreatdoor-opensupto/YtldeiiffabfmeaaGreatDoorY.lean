/- The contract of newPartitions. -/
import Derived.Test.YtldeiiffabfmeaaGreatDoorQ
import Derived.Test.YtldeiiffabfmeaaGreatDoorRJ
import Derived.Deep.RegionHeld3
import Derived.Deep.DeepCutAuto
set_option linter.unusedVariables false
set_option linter.unusedSimpArgs false
namespace Go.Proofs.YtldeiiffabfmeaaGreatDoor
open Go.RowKit Go.Maps

theorem Tryz.info131 : (Tryz.prog.info? 131).map (fun i => (i.zero, i.size, i.bytes)) = some (some (.agg #[.map none, .pointer none, .int .i64 0, .int .i64 0, .slice none 0 0, .slice none 0 0, .slice none 0 0, .slice none 0 0, .slice none 0 0, .slice none 0 0]), 10, 176) := by kernel_rfl

/-- What start puts into the partitions: the first n of its pairs. -/
def startHs (nb : Nat) (fb : Nat → Int) (fs : Nat → Int) : Nat → Nat → Nat → Bool
  | 0, _, _ => false
  | n + 1, p, k => if homeOf nb fb (fs (2 * n)) = p ∧ fs (2 * n) = k then true else startHs nb fb fs n p k
def startVl (nb : Nat) (fb : Nat → Int) (fs : Nat → Int) : Nat → Nat → Nat → Int
  | 0, _, _ => 0
  | n + 1, p, k => if homeOf nb fb (fs (2 * n)) = p ∧ fs (2 * n) = k then fs (2 * n + 1) else startVl nb fb fs n p k

theorem home_le' (nb : Nat) (fb : Nat → Int) (x : Int) : homeOf nb fb x ≤ nb := cntB_le _ _

theorem RowIs.apart' {w : World} {g T m : Nat} {c : Nat → Value} (h : RowIs w g T m c) {n b : Nat} {hs : Nat → Bool} {vl : Nat → Int} (h' : IsTabN n w b hs vl) : g ≠ b := by
  intro e
  subst e
  obtain ⟨cur, h1, _⟩ := h
  obtain ⟨_, ⟨es, clock, h2, _⟩, _⟩ := h'
  rw [h1] at h2
  cases h2

/-- A partition's cells at first. -/
def partZ (r : Nat) : Value := if r = 0 then .map none else if r = 1 then .pointer none else if r = 2 ∨ r = 3 then .int .i64 0 else .slice none 0 0
def partV (D : EngD) (e : Nat) (M : Nat → Nat) (p r : Nat) : Value :=
  if r = 0 then .map (some (M p)) else if r = 1 then .pointer (some ⟨e, 0, none⟩) else if r = 2 then .int .i64 (p : Nat) else if r = 3 then .int .i64 (nextOf D (p : Int) : Nat) else .slice none 0 0
/-- The cells of the first k partitions. -/
def partC (D : EngD) (e : Nat) (M : Nat → Nat) (k : Nat) (j : Nat) : Value := if j < k * 10 then partV D e M (j / 10) (j % 10) else partZ (j % 10)
theorem partC_at (D : EngD) (e : Nat) (M : Nat → Nat) {k p r : Nat} (h : p < k) (hr : r < 10) : partC D e M k (p * 10 + r) = partV D e M p r := by
  unfold partC; rw [if_pos (by omega), show (p * 10 + r) / 10 = p from by omega, show (p * 10 + r) % 10 = r from by omega]
theorem partC_step (D : EngD) (e : Nat) (M : Nat → Nat) (k m : Nat) (f : Nat → Value) (hf : ∀ r, r < 10 → f (k * 10 + r) = partV D e (upd M k m) k r) (ho : ∀ j, j < k * 10 ∨ k * 10 + 10 ≤ j → f j = partC D e M k j) (j : Nat) :
    f j = partC D e (upd M k m) (k + 1) j := by
  by_cases h1 : j < k * 10
  · rw [ho j (.inl h1)]
    unfold partC
    rw [if_pos h1, if_pos (by omega)]
    unfold partV
    rw [upd_other _ _ (by omega)]
  · by_cases h2 : j < k * 10 + 10
    · obtain ⟨r, rfl⟩ : ∃ r, j = k * 10 + r := ⟨j - k * 10, by omega⟩
      rw [hf r (by omega), partC_at _ _ _ (by omega) (by omega)]
    · rw [ho j (.inr (by omega))]
      unfold partC
      rw [if_neg h1, if_neg (by omega)]

set_option maxHeartbeats 2000000 in
theorem newPartitions_any (e : Nat) (D : EngD) (vB vL vS : Value) (ns : Nat) (fs : Nat → Int) (w : World) (h : IsKnown w e D vB vL) (hnb : D.nb ≤ 3) (hns : ns ≤ 40)
    (hS : RdI w vS 2 ns fs) (hkey : ∀ j, j < ns → 0 ≤ fs (2 * j) ∧ fs (2 * j) ≤ 99) (hwf : ∀ j, j < ns → (Lit.int .i64 (fs (2 * j + 1))).wf = true) :
    Calls Tryz.prog 50 #[.pointer (some ⟨e, 0, none⟩), vS] w fun r w' => ∃ (K : Nat) (M : Nat → Nat), r = .returned (.slice (some ⟨K, 0, none⟩) (D.nb + 1) (D.nb + 1)) ∧ w.heap.size ≤ K ∧ K < w'.heap.size ∧
      (∀ p, p ≤ D.nb → (∀ r, r < 10 → w'.cell? ⟨K, p * 10 + r, none⟩ = some (partV D e M p r)) ∧ w.heap.size ≤ M p ∧ M p < w'.heap.size ∧
        IsTab w' (M p) (startHs D.nb D.fb fs ns p) (startVl D.nb D.fb fs ns p)) ∧ Below w.heap.size w w' := by
  have hlt := h.lt
  obtain ⟨aS, capS, rfl, -, hcS⟩ := id hS
  have zmod : ∀ j, (#[Value.map none, .pointer none, .int .i64 0, .int .i64 0, .slice none 0 0, .slice none 0 0, .slice none 0 0, .slice none 0 0, .slice none 0 0, .slice none 0 0] : Array Value)[j % 10]! = partZ (j % 10) := by
    intro j
    have : j % 10 < 10 := Nat.mod_lt _ (by omega)
    generalize j % 10 = r at *
    match r, this with
    | 0, _ | 1, _ | 2, _ | 3, _ | 4, _ | 5, _ | 6, _ | 7, _ | 8, _ | 9, _ => rfl
  obtain ⟨Mk, hmk, hM⟩ := make_run (P := Tryz.prog) 115 131 _ 10 176 Tryz.underlying115 Tryz.info131 (D.nb + 1) (by omega) (by unfold maxLen; omega) (fun j => partZ (j % 10)) (fun j _ => zmod j)
  have hmk' : ∀ w, (Instr.makeSlice 115 (.int .i64 ((D.nb : Int) + 1)) (.int .i64 ((D.nb : Int) + 1))).run Tryz.prog w = .ok (.slice (some ⟨w.heap.size, 0, none⟩) (D.nb + 1) (D.nb + 1)) (w.alloc (.cells Mk 131)) := by
    intro w; have := hmk w; rwa [Int.natCast_add] at this
  clear hmk
  go_enter Tryz.func50, Tryz.ntmps50
  go_wp2_with (go_at_call 68; refine (count_any _ D vB vL _ h).mono ?_; rintro e w' ⟨rfl, rfl⟩)
  have hb0 : Below w'.heap.size w' (w'.alloc (.cells Mk 131)) := (Below.refl _ _).alloc (Nat.le_refl _) _
  have hR0 := hM w'
  go_loopw [14] (fun i wr => ∃ k : Nat, k ≤ D.nb + 1 ∧ i = .int .i64 k ∧ ∃ M : Nat → Nat, RowIs wr w'.heap.size 131 ((D.nb + 1) * 10) (partC D e M k) ∧
    (∀ p, p < k → w'.heap.size < M p ∧ M p < wr.heap.size ∧ IsTabN 0 wr (M p) (fun _ => false) (fun _ => 0)) ∧ (∀ p q, p < q → q < k → M p < M q) ∧ Below w'.heap.size w' wr) (fun i _ => D.nb + 1 - (intOf i).toNat)
  case atStart =>
    refine ⟨0, Nat.zero_le _, rfl, fun _ => 0, hR0.congr (fun j _ => ?_), fun p hp => by omega, fun p q _ hq => by omega, hb0⟩
    simp only [partC, Nat.zero_mul, Nat.not_lt_zero, if_false]
  case round =>
    obtain ⟨k, hk, rfl, M, hrow, htab, hinc, hbl⟩ := hrel
    have hK := h.below hbl
    have hKlt := hrow.lt
    by_cases hkn : k < D.nb + 1
    · go_wp2_with fail
      refine (newTable_any _).mono ?_
      rintro r w1 ⟨m, rfl, hm1, hm2, hmt, hb1⟩
      go_wp2_with fail
      refine (newLocks_any _ D vB vL (k : Int) _ (hK.below hb1)).mono ?_
      rintro r w3 ⟨rfl, b23⟩
      have b13 : Below wr.heap.size wr w3 := hb1.trans (b23.mono hb1.size)
      have hrow3 := hrow.below b13
      have c0 := hrow3.cell (j := k * 10) (by omega)
      have c1 := hrow3.cell (j := k * 10 + 1) (by omega)
      have c2 := hrow3.cell (j := k * 10 + 2) (by omega)
      have c3 := hrow3.cell (j := k * 10 + 3) (by omega)
      have c4 := hrow3.cell (j := k * 10 + 4) (by omega)
      have c5 := hrow3.cell (j := k * 10 + 5) (by omega)
      have c6 := hrow3.cell (j := k * 10 + 6) (by omega)
      have c7 := hrow3.cell (j := k * 10 + 7) (by omega)
      have c8 := hrow3.cell (j := k * 10 + 8) (by omega)
      have c9 := hrow3.cell (j := k * 10 + 9) (by omega)
      have f0 := hrow3.frozen
      generalize partC D e M k (k * 10) = o0 at c0
      generalize partC D e M k (k * 10 + 1) = o1 at c1
      generalize partC D e M k (k * 10 + 2) = o2 at c2
      generalize partC D e M k (k * 10 + 3) = o3 at c3
      generalize partC D e M k (k * 10 + 4) = o4 at c4
      generalize partC D e M k (k * 10 + 5) = o5 at c5
      generalize partC D e M k (k * 10 + 6) = o6 at c6
      generalize partC D e M k (k * 10 + 7) = o7 at c7
      generalize partC D e M k (k * 10 + 8) = o8 at c8
      generalize partC D e M k (k * 10 + 9) = o9 at c9
      generalize hN : ((nextOf D (k : Int) : Nat) : Int) = N at *
      have HN : Hid (_ = _) := hN
      clear hN
      go_wp2_with fail
      go_roundw
      case measure => simp [intOf]; omega
      case rel =>
        have z1 := hb1.size
        have z3 := b23.size
        refine ⟨k + 1, by omega, by go_num, upd M k m, ?_, ?_, ?_, ?_⟩
        · refine ((((((((((hrow3.setCell (k * 10) (.map (some m))).setCell (k * 10 + 1) (.pointer (some ⟨e, 0, none⟩))).setCell (k * 10 + 2) (.int .i64 k)).setCell (k * 10 + 3) (.int .i64 N)).setCell (k * 10 + 4) (.slice none 0 0)).setCell (k * 10 + 5) (.slice none 0 0)).setCell (k * 10 + 6) (.slice none 0 0)).setCell (k * 10 + 7) (.slice none 0 0)).setCell (k * 10 + 8) (.slice none 0 0)).setCell (k * 10 + 9) (.slice none 0 0)).congr (fun j _ => ?_)
          refine partC_step D e M k m (fun j => if j = k * 10 + 9 then .slice none 0 0 else if j = k * 10 + 8 then .slice none 0 0 else if j = k * 10 + 7 then .slice none 0 0 else if j = k * 10 + 6 then .slice none 0 0 else if j = k * 10 + 5 then .slice none 0 0 else if j = k * 10 + 4 then .slice none 0 0 else if j = k * 10 + 3 then .int .i64 N else if j = k * 10 + 2 then .int .i64 k else if j = k * 10 + 1 then .pointer (some ⟨e, 0, none⟩) else if j = k * 10 then .map (some m) else partC D e M k j) (fun r hr => ?_) (fun j hj => ?_) j
          · rw [← HN.out]
            match r, hr with
            | 0, _ | 1, _ | 2, _ | 3, _ | 4, _ | 5, _ | 6, _ | 7, _ | 8, _ | 9, _ => simp [partV, upd_same]
          · simp only [if_neg (show ¬ j = k * 10 + 9 by omega), if_neg (show ¬ j = k * 10 + 8 by omega), if_neg (show ¬ j = k * 10 + 7 by omega), if_neg (show ¬ j = k * 10 + 6 by omega), if_neg (show ¬ j = k * 10 + 5 by omega), if_neg (show ¬ j = k * 10 + 4 by omega), if_neg (show ¬ j = k * 10 + 3 by omega), if_neg (show ¬ j = k * 10 + 2 by omega), if_neg (show ¬ j = k * 10 + 1 by omega), if_neg (show ¬ j = k * 10 by omega)]
        · intro p hp
          by_cases e : p = k
          · subst e
            rw [upd_same]
            refine ⟨by omega, by simp; omega, ?_⟩
            refine hmt.block ?_
            iterate 10 rw [Below.heap_setCell _ _ _ _ (by simp; omega)]
            rw [b23.block m hm2]
          · rw [upd_other _ _ e]
            obtain ⟨t1, t2, t3⟩ := htab p (by omega)
            refine ⟨t1, by simp; omega, t3.block ?_⟩
            iterate 10 rw [Below.heap_setCell _ _ _ _ (by simp; omega)]
            rw [b13.block _ t2]
        · intro p q hpq hq
          by_cases e : q = k
          · subst e
            rw [upd_same, upd_other _ _ (by omega)]
            have := (htab p hpq).2.1
            omega
          · rw [upd_other _ _ e, upd_other _ _ (by omega)]
            exact hinc p q hpq (by omega)
        · exact (((((((((((hbl.trans (b13.mono hbl.size)).setCell (Nat.le_refl _) _).setCell (Nat.le_refl _) _).setCell (Nat.le_refl _) _).setCell (Nat.le_refl _) _).setCell (Nat.le_refl _) _).setCell (Nat.le_refl _) _).setCell (Nat.le_refl _) _).setCell (Nat.le_refl _) _).setCell (Nat.le_refl _) _).setCell (Nat.le_refl _) _)
    · have hk1 : k = D.nb + 1 := by omega
      rw [hk1] at hrow htab hinc
      clear hk1 hK hKlt
      go_wp2_with fail
      go_loopw [28] (fun i wq => ∃ k : Nat, k ≤ ns ∧ i = .int .i64 k ∧ RowIs wq w'.heap.size 131 ((D.nb + 1) * 10) (partC D e M (D.nb + 1)) ∧
        (∀ p, p < D.nb + 1 → M p < wq.heap.size ∧ IsTabN k wq (M p) (startHs D.nb D.fb fs k p) (startVl D.nb D.fb fs k p)) ∧ Below w'.heap.size w' wq) (fun i _ => ns - (intOf i).toNat)
      case atStart => exact ⟨0, Nat.zero_le _, rfl, hrow, fun p hp => ⟨(htab p hp).2.1, (htab p hp).2.2⟩, hbl⟩
      case round =>
        have hMlt := fun p hp => (htab p hp).1
        clear hrow htab hbl
        obtain ⟨i, hi, rfl, hrow, htab, hbl⟩ := hrel
        have hK := h.below hbl
        by_cases hin : i < ns
        · obtain ⟨bb, off, rfl, hbb, hcell⟩ := hcS (by omega)
          have e0 : wr.cell? ⟨bb, off + i * 2, none⟩ = some (.int .i64 (fs (2 * i))) := by rw [hbl.cell (p := ⟨bb, off + i * 2, none⟩) hbb, hcell _ (by omega), Nat.mul_comm]
          have e1 : wr.cell? ⟨bb, off + i * 2 + 1, none⟩ = some (.int .i64 (fs (2 * i + 1))) := by rw [hbl.cell (p := ⟨bb, off + i * 2 + 1, none⟩) hbb, Nat.add_assoc, hcell _ (by omega), Nat.mul_comm]
          clear hcell hcS
          obtain ⟨hk0, hk1⟩ := hkey i hin
          have hwfi := hwf i hin
          obtain ⟨kk, hkk⟩ : ∃ kk : Nat, fs (2 * i) = kk := ⟨(fs (2 * i)).toNat, by omega⟩
          have hk100 : kk < 100 := by omega
          have hHome := home_le' D.nb D.fb (kk : Int)
          rw [hkk] at e0
          have HKK : Hid (_ = _) := hkk
          clear hkk hk0 hk1 hkey hwf
          generalize hx : fs (2 * i + 1) = x at *
          have HX : Hid (_ = _) := hx
          clear hx
          have HK1 := hK.below ((Below.refl _ _).alloc (Nat.le_refl _) (.cells #[.int .i64 kk, .int .i64 x] 81))
          generalize hp : homeOf D.nb D.fb (kk : Int) = p at *
          have HP : Hid (_ = _) := hp
          clear hp
          have hrow1 := hrow.alloc (.cells #[.int .i64 kk, .int .i64 x] 81)
          have htab1 : ∀ p, p < D.nb + 1 → M p < (wr.alloc (.cells #[.int .i64 kk, .int .i64 x] 81)).heap.size ∧ IsTabN i (wr.alloc (.cells #[.int .i64 kk, .int .i64 x] 81)) (M p) (startHs D.nb D.fb fs i p) (startVl D.nb D.fb fs i p) :=
            fun p hp => ⟨by have := (htab p hp).1; simp; omega, (htab p hp).2.block (Below.heap_alloc _ _ _ (htab p hp).1)⟩
          have hbl1 := hbl.alloc hbl.size (.cells #[.int .i64 kk, .int .i64 x] 81)
          have r8 := rowIs_list wr [.int .i64 kk, .int .i64 x] 81
          have hwlt := hbl.size
          have hrl := hrow.lt
          clear hrow htab hbl hK
          go_wp2_with fail
          generalize wr.alloc (.cells #[.int .i64 kk, .int .i64 x] 81) = wk at *
          clear e0 e1
          have c80 : wk.cell? ⟨wr.heap.size, 0, none⟩ = some (.int .i64 kk) := r8.cell (j := 0) (by simp)
          have c81 : wk.cell? ⟨wr.heap.size, 1, none⟩ = some (.int .i64 x) := r8.cell (j := 1) (by simp)
          have cM : wk.cell? ⟨w'.heap.size, p * 10, none⟩ = some (.map (some (M p))) := by rw [hrow1.cell (j := p * 10) (by omega)]; exact congrArg some (partC_at D e M (r := 0) (show p < D.nb + 1 by omega) (by omega))
          have i1 : (0 : Int) ≤ (p : Int) := by omega
          have i2 : (p : Int) < (D.nb : Int) + 1 := by omega
          have i3 : (p : Int) < ((D.nb + 1 : Nat) : Int) := by omega
          have hTp := (htab1 p (by omega)).2
          have hlt1 := fun q hq => (htab1 q hq).1
          have hMp := hlt1 p (by omega)
          have hMpK := hMlt p (by omega)
          go_region_held3 (fun y => y.cell? ⟨wr.heap.size, 0, none⟩ = some (.int .i64 kk) ∧ y.cell? ⟨wr.heap.size, 1, none⟩ = some (.int .i64 x))
            (first
              | exact ⟨c80, c81⟩
              | (refine ⟨?_, ?_⟩ <;> (rw [World.cell?_of_block (hgrow.block _ (by exact r8.lt) (by intro e; injection e with e; have := r8.apart' hTp e; exact this))]; assumption)))
            (first
              | (go_at_call 71; refine (home_any _ D vB vL _ _ ?_).mono ?_; (exact HK1.below ((Below.refl _ _).drew)); rintro e y ⟨rfl, rfl⟩; rw [HP.out])
              | (go_at_call 85; refine (put_any w'.heap.size (p * 10) (M p) (startHs D.nb D.fb fs i p) (startVl D.nb D.fb fs i p) kk x _ hk100 hwfi i (by omega) ?_ ?_).mono ?_; (exact cM); (exact hTp); rintro e y ⟨rfl, hT', hgrow⟩))
          go_wp2_with fail
          go_roundw
          case measure => simp [intOf]; omega
          case rel =>
            have zg := hgrow.size
            have zk : wk.drew.heap.size = wk.heap.size := rfl
            refine ⟨i + 1, by omega, by go_num, hrow1.block (hgrow.block _ (by have := hrow1.lt; omega) (by intro e; injection e with e; omega)), fun q hq => ?_, (hbl1.drew).grown hgrow hbl1.size (fun k e => by injection e with e; omega)⟩
            have hfs : fs (2 * i) = (kk : Int) := HKK.out
            have hho : homeOf D.nb D.fb (fs (2 * i)) = p := by rw [hfs]; exact HP.out
            refine ⟨by have := hlt1 q hq; omega, ?_⟩
            by_cases e : q = p
            · subst e
              refine hT'.congr (fun k _ => ?_) (fun k _ _ => ?_)
              · rw [startHs, hho, hfs]
                by_cases e2 : k = kk
                · subst e2; rw [upd_same, if_pos ⟨rfl, rfl⟩]
                · rw [upd_other _ _ e2, if_neg (by omega)]
              · rw [startVl, hho, hfs]
                by_cases e2 : k = kk
                · subst e2; rw [upd_same, if_pos ⟨rfl, rfl⟩]; exact HX.out.symm
                · rw [upd_other _ _ e2, if_neg (by omega)]
            · have hne : M q ≠ M p := by
                rcases Nat.lt_or_gt_of_ne e with h1 | h1
                · have := hinc q p h1 (by omega); omega
                · have := hinc p q h1 (by omega); omega
              refine ((htab1 q hq).2.step.block (hgrow.block _ (by have := hlt1 q hq; omega) (by intro h'; injection h' with h'; exact hne h'))).congr (fun k _ => ?_) (fun k _ _ => ?_)
              · simp only [startHs, hho]; rw [if_neg (fun h' => e h'.1.symm)]
              · simp only [startVl, hho]; rw [if_neg (fun h' => e h'.1.symm)]
        · have hin' : i = ns := by omega
          have HIN : Hid (i = ns) := hin'
          clear hin'
          go_wp2_with fail
          go_ret
          have hin' := HIN.out
          subst hin'
          refine ⟨w'.heap.size, M, rfl, Nat.le_refl _, hrow.lt, fun p hp => ⟨fun r hr => ?_, by have := hMlt p (by omega); omega, (htab p (by omega)).1, (htab p (by omega)).2.tab (by omega)⟩, hbl⟩
          rw [hrow.cell (j := p * 10 + r) (by omega), partC_at D e M (by omega) hr]
end Go.Proofs.YtldeiiffabfmeaaGreatDoor
