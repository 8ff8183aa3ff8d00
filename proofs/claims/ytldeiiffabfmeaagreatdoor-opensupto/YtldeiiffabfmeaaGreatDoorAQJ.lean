/- Table of both engines, of any partition: the same pairs. -/
import Derived.Test.YtldeiiffabfmeaaGreatDoorAMJ
import Derived.BigQuiet
import Derived.Test.YtldeiiffabfmeaaGreatDoorAOJ
set_option linter.unusedVariables false
set_option linter.unusedSimpArgs false
namespace Go.Proofs.YtldeiiffabfmeaaGreatDoor
open Go.RowKit

/-- How many pairs Table tells. -/
def tabN (D : EngD) (hs : Nat → Nat → Bool) (p : Int) : Nat := if withinB p 0 D.nb then cntB (hs p.toNat) 100 else 0
/-- Their cells. -/
def tabX (D : EngD) (hs : Nat → Nat → Bool) (vl : Nat → Nat → Int) (p : Int) : List Value := if withinB p 0 D.nb then tabL (hs p.toNat) (vl p.toNat) 100 else []
theorem tabN_le (D : EngD) (hs : Nat → Nat → Bool) (p : Int) : tabN D hs p ≤ 100 := by
  unfold tabN; split
  · exact cntB_le _ _
  · omega
theorem tabL_int (hs : Nat → Bool) (vl : Nat → Int) : ∀ k, ∀ v, v ∈ tabL hs vl k → ∃ x, v = .int .i64 x
  | 0, v, h => by simp [tabL] at h
  | k + 1, v, h => by
    unfold tabL at h
    rw [List.mem_append] at h
    rcases h with h | h
    · exact tabL_int hs vl k v h
    · split at h
      · simp at h; rcases h with rfl | rfl <;> exact ⟨_, rfl⟩
      · simp at h
theorem tabX_int (D : EngD) (hs : Nat → Nat → Bool) (vl : Nat → Nat → Int) (p : Int) : ∃ F : Nat → Int, ∀ j, j < (tabX D hs vl p).length → (tabX D hs vl p)[j]? = some (.int .i64 (F j)) := by
  refine ⟨fun j => intOf ((tabX D hs vl p).getD j undef), fun j hj => ?_⟩
  have hm : ∃ x, (tabX D hs vl p)[j] = .int .i64 x := by
    have h1 := List.getElem_mem hj
    unfold tabX at h1 ⊢
    by_cases e : withinB p 0 D.nb = true
    · simp only [e, if_true] at h1 ⊢
      exact tabL_int _ _ _ _ h1
    · exfalso; simp [tabX, e] at hj
  obtain ⟨x, hx⟩ := hm
  rw [List.getElem?_eq_getElem hj, hx]
  simp [List.getD, List.getElem?_eq_getElem hj, hx, intOf]
theorem own_of {w : World} {base e size n : Nat} {v : Value} {xs : List Value} (h : w.ownsRow base e size v n xs) : OwnL w base e size v n (fun j => xs.getD j undef) := by
  have hl : xs = (List.range (n * size)).map (fun j => xs.getD j undef) := by
    apply List.ext_getElem?
    intro j
    by_cases e : j < n * size
    · rw [List.getElem?_map, List.getElem?_range e]
      simp [List.getD, List.getElem?_eq_getElem (show j < xs.length by rw [h.1]; exact e)]
    · rw [List.getElem?_eq_none (by rw [h.1]; omega), List.getElem?_eq_none (by simp; omega)]
  unfold OwnL
  rw [← hl]
  exact h

section
variable (s e x : Nat) (D : EngD) (vB vL : Value) (K : Nat) (M : Nat → Nat) (hs : Nat → Nat → Bool) (vl : Nat → Nat → Int) (w : World)
theorem etab_all (p : Int) (h : IsEng w e D vB vL K M hs vl) :
    Calls Tryz.prog 23 #[.pointer (some ⟨e, 0, none⟩), .int .i64 p] w fun r w' => ∃ v, r = .returned (.tuple #[v, .int .i64 (okOr (withinB p 0 D.nb) 4)]) ∧ w'.ownsRow w.heap.size 81 2 v (tabN D hs p) (tabX D hs vl p) ∧ Below w.heap.size w w' := by
  cases q : withinB p 0 D.nb with
  | false =>
    refine (etable_no e D vB vL K M hs vl w p h q).mono ?_
    rintro r w' ⟨rfl, rfl⟩
    refine ⟨_, rfl, ?_, Below.refl _ _⟩
    simp only [tabN, tabX, q]
    exact World.ownsRow_nil _ _ _ _
  | true =>
    obtain ⟨a, b⟩ := within_iff.1 q
    obtain ⟨p', rfl⟩ := Int.eq_ofNat_of_zero_le a
    refine (etable_any e D vB vL K M hs vl w p' (by omega) h).mono ?_
    rintro r w' ⟨v, rfl, h1, h2⟩
    refine ⟨v, rfl, ?_, h2⟩
    simp only [tabN, tabX, q]
    exact h1
theorem rtab_all (p : Int) (h : IsRef w x D vB vL hs vl) :
    Calls Tryz.prog 94 #[.pointer (some ⟨x, 0, none⟩), .int .i64 p] w fun r w' => ∃ v, r = .returned (.tuple #[v, .int .i64 (okOr (withinB p 0 D.nb) 4)]) ∧ w'.ownsRow w.heap.size 81 2 v (tabN D hs p) (tabX D hs vl p) ∧ Below w.heap.size w w' := by
  cases q : withinB p 0 D.nb with
  | false =>
    refine (rtable_no x D vB vL hs vl w p h q).mono ?_
    rintro r w' ⟨rfl, rfl⟩
    refine ⟨_, rfl, ?_, Below.refl _ _⟩
    simp only [tabN, tabX, q]
    exact World.ownsRow_nil _ _ _ _
  | true =>
    obtain ⟨a, b⟩ := within_iff.1 q
    obtain ⟨p', rfl⟩ := Int.eq_ofNat_of_zero_le a
    refine (rtable_any x D vB vL hs vl w p' (by omega) h).mono ?_
    rintro r w' ⟨v, rfl, h1, h2⟩
    refine ⟨v, rfl, ?_, h2⟩
    simp only [tabN, tabX, q]
    exact h1
end
end Go.Proofs.YtldeiiffabfmeaaGreatDoor
/- One step of a script: Table of both engines. -/
namespace Go.Proofs.YtldeiiffabfmeaaGreatDoor
open Go.RowKit

section
variable (W s e x : Nat) (D : EngD) (vB vL vB' vL' : Value) (K : Nat) (M : Nat → Nat) (hs : Nat → Nat → Bool) (vl : Nat → Nat → Int) (w : World)

set_option maxRecDepth 20000 in
set_option maxHeartbeats 4000000 in
theorem tables_any (base np q : Nat) (cW vsP : Nat → Value) (ms : Nat → Int) (p : Int) (hr : Rec w base W np q cW vsP ms) (hnp : np ≤ 1000000) (hq : q ≤ 1000000) (h : IsSide w s e x D vB vL vB' vL' K M hs vl) :
    Calls Tryz.prog 57 #[.pointer (some ⟨W, 0, none⟩), .pointer (some ⟨s, 0, none⟩), .int .i64 p] w fun r w' => r = .returned (.bool true) ∧ ∃ cW' vsP' ms', Rec w' base W (np + 4) (q + 1) cW' vsP' ms' ∧ Went W cW cW' w w' ∧ Below base w w' := by
  have g0 := h.c0
  have g1 := h.c1
  have hlt := h.lt
  go_enter Tryz.func57, Tryz.ntmps57
  go_wp2_with fail
  refine (etab_all e D vB vL K M hs vl w p h.e).mono ?_
  rintro r w1 ⟨v, rfl, ho1, hb1⟩
  have h1 := h.below hb1
  have g1' := h1.c1
  have hlt1 := h1.lt
  clear g0 g1
  have hN := tabN_le D hs p
  obtain ⟨F, hF⟩ := tabX_int D hs vl p
  have hX : (tabX D hs vl p).length = tabN D hs p * 2 := ho1.1
  have hR1 : RdI w1 v 2 (tabN D hs p) F := ownsRow_rd ho1 (by omega) (fun j hj => hF j (by omega))
  have hO1 := own_of ho1
  generalize hn : tabN D hs p = n at *
  go_wp2_with fail
  refine (rtab_all x D vB' vL' hs vl w1 p h1.r).mono ?_
  rintro r w2 ⟨v2, rfl, ho2, hb2⟩
  rw [hn] at ho2
  have hR2 : RdI w2 v2 2 n F := ownsRow_rd ho2 (by omega) (fun j hj => hF j (by omega))
  have hR1' := hR1.below hb2
  have hO1' := hO1.below hb2
  have b2 : Below w.heap.size w w2 := hb1.trans (hb2.mono hb1.size)
  clear g1' hR1 hO1 ho1 ho2 hF hX hb1 hb2 h1 hlt1 hn
  obtain ⟨a1, p1, rfl, -, hc1⟩ := id hR1'
  obtain ⟨a2, p2, rfl, -, hc2⟩ := id hR2
  generalize okOr (withinB p 0 D.nb) 4 = er at *
  go_wp2_with fail
  go_loopw [11] (fun i wq => ∃ k : Nat, k ≤ n ∧ i = .int .i64 k ∧ Below w2.heap.size w2 wq) (fun i _ => n - (intOf i).toNat)
  case atStart => exact ⟨0, Nat.zero_le _, rfl, Below.refl _ _⟩
  case round =>
    obtain ⟨k, hk, rfl, hb⟩ := hrel
    by_cases hkn : k < n
    · obtain ⟨d1, o1, rfl, l1, cell1⟩ := hc1 (by omega)
      obtain ⟨d2, o2, rfl, l2, cell2⟩ := hc2 (by omega)
      have y0 : wr.cell? ⟨d1, o1 + k * 2, none⟩ = some (.int .i64 (F (k * 2))) := by rw [hb.cell (p := ⟨d1, o1 + k * 2, none⟩) l1, cell1 _ (by omega)]
      have y1 : wr.cell? ⟨d1, o1 + k * 2 + 1, none⟩ = some (.int .i64 (F (k * 2 + 1))) := by rw [hb.cell (p := ⟨d1, o1 + k * 2 + 1, none⟩) l1, Nat.add_assoc, cell1 _ (by omega)]
      have z0 : wr.cell? ⟨d2, o2 + k * 2, none⟩ = some (.int .i64 (F (k * 2))) := by rw [hb.cell (p := ⟨d2, o2 + k * 2, none⟩) l2, cell2 _ (by omega)]
      have z1 : wr.cell? ⟨d2, o2 + k * 2 + 1, none⟩ = some (.int .i64 (F (k * 2 + 1))) := by rw [hb.cell (p := ⟨d2, o2 + k * 2 + 1, none⟩) l2, Nat.add_assoc, cell2 _ (by omega)]
      generalize F (k * 2) = f0 at *
      generalize F (k * 2 + 1) = f1 at *
      clear cell1 cell2 hc1 hc2 hR1' hR2 hO1' hr h
      go_wp2_with fail
      go_quiet (fail)
      go_wp2_with fail
      go_roundw
      case rel => exact ⟨k + 1, by omega, by go_num, below_drewN hb _⟩
      case measure => simp [intOf]; omega
    · have hkn' : decide (k < n) = false := by simpa using hkn
      have hO := hO1'.below hb
      have b3 : Below w.heap.size w wr := b2.trans (hb.mono b2.size)
      have hkp := (hr.below b3).kp (by omega)
      clear hc1 hc2 hR1' hR2 hO1' hb
      go_wp2_with fail
      refine (kept_any W wr hkp).mono ?_
      rintro r w4 ⟨rfl, hb4⟩
      have hO4 := hO.below hb4
      have b4 : Below w.heap.size w w4 := b3.trans (hb4.mono b3.size)
      clear hkp hO b3 hb4
      go_wp2_with fail
      refine (keep_any w w4 base W np q n cW vsP _ ms _ hr b4 hO4 hN hnp hq).mono ?_
      rintro r w5 ⟨rfl, fin⟩
      clear hr hO4 b4 h
      go_wp2_with fail
      go_ret
      exact ⟨rfl, fin⟩
end
end Go.Proofs.YtldeiiffabfmeaaGreatDoor
/- One step of a script: Table. -/
namespace Go.Proofs.YtldeiiffabfmeaaGreatDoor
open Go.RowKit

section
variable (W s e x : Nat) (D : EngD) (vB vL vB' vL' : Value) (K : Nat) (M : Nat → Nat) (hs : Nat → Nat → Bool) (vl : Nat → Nat → Int) (w : World)

set_option maxRecDepth 20000 in
set_option maxHeartbeats 4000000 in
theorem step_table (base np q : Nat) (cW vsP : Nat → Value) (ms : Nat → Int) (p : Int) (hr : Rec w base W np q cW vsP ms) (hnp : np ≤ 1000000) (hq : q ≤ 1000000) (h : SideS W cW w s e x D vB vL vB' vL' K M hs vl) :
    Calls Tryz.prog 31 #[.pointer (some ⟨W, 0, none⟩), .pointer (some ⟨s, 0, none⟩), .agg #[.int .i64 3, .int .i64 p, .int .i64 0, .int .i64 0, .bool false]] w fun r w' => r = .returned (.bool true) ∧ ∃ cW' vsP' ms', Rec w' base W (np + 4) (q + 1) cW' vsP' ms' ∧ SideS W cW' w' s e x D vB vL vB' vL' K M hs vl ∧ Below base w w' := by
  have b1 : Below w.heap.size w (w.alloc (.cells #[.int .i64 3, .int .i64 p, .int .i64 0, .int .i64 0, .bool false] 105)) := (Below.refl _ _).alloc (Nat.le_refl _) _
  have h1 := h.went (Went.of_below b1)
  have r1 := rowIs_list w [.int .i64 3, .int .i64 p, .int .i64 0, .int .i64 0, .bool false] 105
  have t0 : (w.alloc (.cells #[.int .i64 3, .int .i64 p, .int .i64 0, .int .i64 0, .bool false] 105)).cell? ⟨w.heap.size, 0, none⟩ = some (.int .i64 3) := r1.cell (j := 0) (by simp)
  have t1 : (w.alloc (.cells #[.int .i64 3, .int .i64 p, .int .i64 0, .int .i64 0, .bool false] 105)).cell? ⟨w.heap.size, 1, none⟩ = some (.int .i64 p) := r1.cell (j := 1) (by simp)
  clear r1
  have hr1 := hr.below b1
  have hbw : Below base w (w.alloc (.cells #[.int .i64 3, .int .i64 p, .int .i64 0, .int .i64 0, .bool false] 105)) := b1.mono (by have := hr.lt; have := hr.x.lt; omega)
  clear h hr b1
  go_enter Tryz.func31, Tryz.ntmps31
  go_wp2_with fail
  generalize w.alloc (.cells #[.int .i64 3, .int .i64 p, .int .i64 0, .int .i64 0, .bool false] 105) = w1 at *
  refine (tables_any W s e x D vB vL vB' vL' K M hs vl w1 base np q cW vsP ms p hr1 hnp hq h1.side).mono ?_
  rintro r w2 ⟨rfl, cW', vsP', ms', hr2, wt, b2⟩
  have h2 := h1.went wt
  have b3 := hbw.trans b2
  clear h1 hr1 t0 t1 wt
  go_wp2_with fail
  go_ret
  exact ⟨rfl, cW', vsP', ms', hr2, h2, b3⟩
end
end Go.Proofs.YtldeiiffabfmeaaGreatDoor
