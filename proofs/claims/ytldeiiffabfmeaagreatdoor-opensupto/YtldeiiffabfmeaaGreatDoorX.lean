/- The contract of newKnown. -/
import Derived.Test.YtldeiiffabfmeaaGreatDoorQ
import Derived.Test.YtldeiiffabfmeaaGreatDoorRJ
import Derived.Deep.RegionHeld3
import Derived.Deep.DeepCutAuto
set_option linter.unusedVariables false
set_option linter.unusedSimpArgs false
namespace Go.Proofs.YtldeiiffabfmeaaGreatDoor
open Go.RowKit

/-- Four values more. -/
def newVs (k : Nat) (vs : Nat → Value) (a b c d : Value) (j : Nat) : Value :=
  if j = k * 4 + 3 then d else if j = k * 4 + 2 then c else if j = k * 4 + 1 then b else if j = k * 4 then a else vs j
theorem newVs_0 (k : Nat) (vs : Nat → Value) (a b c d : Value) : newVs k vs a b c d (k * 4) = a := by
  unfold newVs; rw [if_neg (by omega), if_neg (by omega), if_neg (by omega), if_pos rfl]
theorem newVs_1 (k : Nat) (vs : Nat → Value) (a b c d : Value) : newVs k vs a b c d (k * 4 + 1) = b := by
  unfold newVs; rw [if_neg (by omega), if_neg (by omega), if_pos rfl]
theorem newVs_2 (k : Nat) (vs : Nat → Value) (a b c d : Value) : newVs k vs a b c d (k * 4 + 2) = c := by
  unfold newVs; rw [if_neg (by omega), if_pos rfl]
theorem newVs_3 (k : Nat) (vs : Nat → Value) (a b c d : Value) : newVs k vs a b c d (k * 4 + 3) = d := by
  unfold newVs; rw [if_pos rfl]
theorem newVs_old (k : Nat) (vs : Nat → Value) (a b c d : Value) {j : Nat} (h : j < k * 4) : newVs k vs a b c d j = vs j := by
  unfold newVs; rw [if_neg (by omega), if_neg (by omega), if_neg (by omega), if_neg (by omega)]
theorem newVs_row (k : Nat) (vs : Nat → Value) (a b c d : Value) (j : Nat) :
    (fun j => if j = k * 4 + 3 then d else (fun j => if j = k * 4 + 2 then c else (fun j => if j = k * 4 + 1 then b else (fun j => if j = k * 4 then a else (fun j => if j < k * 4 then vs j else .slice none 0 0) j) j) j) j) j =
    (if j < (k + 1) * 4 then newVs k vs a b c d j else .slice none 0 0) := by
  simp only [newVs]
  by_cases h3 : j = k * 4 + 3
  · rw [if_pos h3, if_pos (by omega), if_pos h3]
  rw [if_neg h3]
  by_cases h2 : j = k * 4 + 2
  · rw [if_pos h2, if_pos (by omega), if_neg h3, if_pos h2]
  rw [if_neg h2]
  by_cases h1 : j = k * 4 + 1
  · rw [if_pos h1, if_pos (by omega), if_neg h3, if_neg h2, if_pos h1]
  rw [if_neg h1]
  by_cases h0 : j = k * 4
  · rw [if_pos h0, if_pos (by omega), if_neg h3, if_neg h2, if_neg h1, if_pos h0]
  rw [if_neg h0]
  by_cases hl : j < k * 4
  · rw [if_pos hl, if_pos (by omega), if_neg h3, if_neg h2, if_neg h1, if_neg h0]
  · rw [if_neg hl, if_neg (by omega)]

set_option maxHeartbeats 2000000 in
theorem newKnown_any (vB vL : Value) (a b c : Int) (nb : Nat) (fb : Nat → Int) (nl : Nat) (ts : Nat → TxnD) (w : World) (hB : RdI w vB 1 nb fb) (hL : RdL w vL nl ts) :
    Calls Tryz.prog 49 #[.agg #[vB, .int .i64 a, .int .i64 b, .int .i64 c], vL] w fun e w' => ∃ vB' vL', e = .returned (.agg #[vB', .int .i64 a, .int .i64 b, .int .i64 c, vL']) ∧ RdIS (fun b => w.heap.size ≤ b) w' vB' 1 nb fb ∧ RdLS (fun b => w.heap.size ≤ b) w' vL' nl ts ∧ Below w.heap.size w w' := by
  obtain ⟨aB, capB, rfl, hnb, -⟩ := id hB
  obtain ⟨aL, capL, rfl, hnl, hcL⟩ := id hL
  have hb0 : Below w.heap.size w ((w.alloc (.cells #[.slice aB nb capB, .int .i64 a, .int .i64 b, .int .i64 c] 24)).alloc (.cells #[.slice none 0 0, .int .i64 0, .int .i64 0, .int .i64 0, .slice none 0 0] 114)) :=
    ((Below.refl _ _).alloc (Nat.le_refl _) _).alloc (by simp) _
  go_enter Tryz.func49, Tryz.ntmps49
  go_wp2_with fail
  refine (cloneI_any _ nb fb _ (hB.below hb0)).mono ?_
  rintro e w2 ⟨vB', rfl, hB', hb2⟩
  have hB2 := hB'.mono (S' := fun b => w.heap.size ≤ b) (fun b h => by simp at h; omega)
  have r24 := (((rowIs_list w [.slice aB nb capB, .int .i64 a, .int .i64 b, .int .i64 c] 24).alloc (.cells #[.slice none 0 0, .int .i64 0, .int .i64 0, .int .i64 0, .slice none 0 0] 114))).below hb2
  have r76 := (rowIs_list (w.alloc (.cells #[.slice aB nb capB, .int .i64 a, .int .i64 b, .int .i64 c] 24)) [.slice none 0 0, .int .i64 0, .int .i64 0, .int .i64 0, .slice none 0 0] 114).below hb2
  have hbw := hb0.trans (hb2.mono (by simp; omega))
  have hz2 : w.heap.size + 2 ≤ w2.heap.size := by have := hb2.size; simpa using this
  clear hb2 hb0
  obtain ⟨aB', capB', rfl, -, -⟩ := id hB'
  have r24' := r24.setCell_list 0 (.slice aB' nb capB')
  have r76' : RowIs (w2.setCell ⟨w.heap.size, 0, none⟩ (.slice aB' nb capB')) (w.heap.size + 1) 114 5 (lc [.slice none 0 0, .int .i64 0, .int .i64 0, .int .i64 0, .slice none 0 0]) := by
    have := r76.setCell_other (a := ⟨w.heap.size, 0, none⟩) (by simp) (.slice aB' nb capB')
    simpa using this
  have hB3 := hB'.keep (w' := w2.setCell ⟨w.heap.size, 0, none⟩ (.slice aB' nb capB')) ((Keeps.refl _ _).setCell (by simp; omega) _)
  have hb3 := hbw.setCell (p := ⟨w.heap.size, 0, none⟩) (Nat.le_refl _) (.slice aB' nb capB')
  have d0 := r24.cell (j := 0) (by simp)
  have f0 := r24.frozen 0
  have hz3 : w.heap.size + 2 ≤ (w2.setCell ⟨w.heap.size, 0, none⟩ (.slice aB' nb capB')).heap.size := by simpa using hz2
  clear r24 r76 hB' hB2 hbw
  go_wp2_with fail
  generalize w2.setCell ⟨w.heap.size, 0, none⟩ (.slice aB' nb capB') = w3 at *
  clear d0 f0 hz2 w2
  clear hcL
  have zmod : ∀ j, (#[Value.slice none 0 0, .slice none 0 0, .slice none 0 0, .slice none 0 0] : Array Value)[j % 4]! = .slice none 0 0 := by
    intro j
    have : j % 4 = 0 ∨ j % 4 = 1 ∨ j % 4 = 2 ∨ j % 4 = 3 := by omega
    rcases this with h | h | h | h <;> rw [h] <;> rfl
  obtain ⟨M, hmk, hM⟩ := make_run (P := Tryz.prog) 25 91 _ 4 96 Tryz.underlying25 Tryz.info91 nl (by omega) (by unfold maxLen; omega) (fun _ => .slice none 0 0) (fun j _ => zmod j)
  have d0 : w3.cell? ⟨w.heap.size, 0, none⟩ = some (.slice aB' nb capB') := r24'.cell (j := 0) (by simp)
  have d1 : w3.cell? ⟨w.heap.size, 1, none⟩ = some (.int .i64 a) := r24'.cell (j := 1) (by simp)
  have d2 : w3.cell? ⟨w.heap.size, 2, none⟩ = some (.int .i64 b) := r24'.cell (j := 2) (by simp)
  have d3 : w3.cell? ⟨w.heap.size, 3, none⟩ = some (.int .i64 c) := r24'.cell (j := 3) (by simp)
  have hal1 : ∀ x o, (w3.alloc x).cell? ⟨w.heap.size, o, none⟩ = w3.cell? ⟨w.heap.size, o, none⟩ := fun x o => World.cell?_alloc_lt _ _ _ (by simp; omega)
  have hal2 : ∀ x y o, ((w3.alloc x).alloc y).cell? ⟨w.heap.size, o, none⟩ = w3.cell? ⟨w.heap.size, o, none⟩ := fun x y o => by
    rw [World.cell?_alloc_lt _ _ _ (by simp; omega)]; exact hal1 x o
  go_cut [5] (fun s5 wx => ∃ g5 gL, s5 = .pointer (some ⟨g5, 0, none⟩) ∧ w.heap.size + 2 ≤ g5 ∧ w.heap.size + 2 ≤ gL ∧
    RowIs wx g5 114 5 (lc [.slice aB' nb capB', .int .i64 a, .int .i64 b, .int .i64 c, .slice (some ⟨gL, 0, none⟩) nl nl]) ∧ RowIs wx gL 91 (nl * 4) (fun _ => .slice none 0 0) ∧
    RowIs wx (w.heap.size + 1) 114 5 (lc [.slice none 0 0, .int .i64 0, .int .i64 0, .int .i64 0, .slice none 0 0]) ∧ RdIS (fun b => w.heap.size + 2 ≤ b ∧ b ≠ g5 ∧ b ≠ gL) wx (.slice aB' nb capB') 1 nb fb ∧ Below w.heap.size w wx)
  case first =>
    go_region
    all_goals go_wp2_with fail
    all_goals go_meet
    case rel =>
      refine ⟨w3.heap.size + 1, w3.heap.size, rfl, by omega, by omega, ?_, ?_, ?_, ?_, ?_⟩
      · have := rowIs_list (w3.alloc (.cells M 91)) [.slice aB' nb capB', .int .i64 a, .int .i64 b, .int .i64 c, .slice (some ⟨w3.heap.size, 0, none⟩) nl nl] 114
        rw [World.size_alloc] at this
        exact this
      · exact (hM w3).alloc _
      · exact (r76'.alloc _).alloc _
      · exact ((hB3.lt.keep (((Keeps.refl _ _).alloc _).alloc _)).keep ⟨Nat.le_refl _, fun _ _ _ => rfl⟩).mono (fun b h => ⟨by simpa using h.1, by have := h.2; omega, by have := h.2; omega⟩)
      · exact ((hb3.alloc (by omega) _).alloc (by simp; omega) _).drew
    case rel =>
      refine ⟨w3.heap.size, w3.heap.size + 1, rfl, by omega, by omega, ?_, ?_, ?_, ?_, ?_⟩
      · exact (rowIs_list w3 [.slice aB' nb capB', .int .i64 a, .int .i64 b, .int .i64 c, .slice (some ⟨w3.heap.size + 1, 0, none⟩) nl nl] 114).alloc (.cells M 91)
      · have := hM (w3.alloc (.cells #[.slice aB' nb capB', .int .i64 a, .int .i64 b, .int .i64 c, .slice (some ⟨w3.heap.size + 1, 0, none⟩) nl nl] 114))
        rw [World.size_alloc] at this
        exact this
      · exact (r76'.alloc _).alloc _
      · exact ((hB3.lt.keep (((Keeps.refl _ _).alloc _).alloc _)).keep ⟨Nat.le_refl _, fun _ _ _ => rfl⟩).mono (fun b h => ⟨by simpa using h.1, by have := h.2; omega, by have := h.2; omega⟩)
      · exact ((hb3.alloc (by omega) _).alloc (by simp; omega) _).drew
  case rest =>
    obtain ⟨g5, gL, rfl, h5, hgL, r5, rL, rR, hB4, hb4⟩ := hcut
    have hne : g5 ≠ gL := r5.apart rL (by decide)
    have hlt5 := r5.lt
    have hltL := rL.lt
    have hLS : 0 < nl → ∃ b off, aL = some ⟨b, off, none⟩ ∧ b < w.heap.size ∧ ∃ vs : Nat → Value, (∀ j, j < nl * 4 → w.cell? ⟨b, off + j, none⟩ = some (vs j)) ∧
        ∀ i, i < nl → RdTS (fun b => b < w.heap.size) w (vs (i * 4)) (vs (i * 4 + 1)) (vs (i * 4 + 2)) (vs (i * 4 + 3)) (ts i) := by
      intro h0
      obtain ⟨_, _, e, _, hc⟩ := id hL
      injection e with e1 e2 e3
      subst e1
      obtain ⟨bb, off, rfl, hlt, vs, hcell, ht⟩ := hc h0
      exact ⟨bb, off, rfl, hlt, vs, hcell, fun i hi => (ht i hi).all⟩
    go_wp2_with fail
    go_loopw [19] (fun i wr => ∃ k : Nat, k ≤ nl ∧ i = .int .i64 k ∧ ∃ vs : Nat → Value, RowIs wr gL 91 (nl * 4) (fun j => if j < k * 4 then vs j else .slice none 0 0) ∧
      (∀ i, i < k → RdTS (fun b => wc.heap.size ≤ b) wr (vs (i * 4)) (vs (i * 4 + 1)) (vs (i * 4 + 2)) (vs (i * 4 + 3)) (ts i)) ∧
      RowIs wr g5 114 5 (lc [.slice aB' nb capB', .int .i64 a, .int .i64 b, .int .i64 c, .slice (some ⟨gL, 0, none⟩) nl nl]) ∧
      RowIs wr (w.heap.size + 1) 114 5 (lc [.slice none 0 0, .int .i64 0, .int .i64 0, .int .i64 0, .slice none 0 0]) ∧ RdIS (fun b => w.heap.size + 2 ≤ b ∧ b ≠ g5 ∧ b ≠ gL) wr (.slice aB' nb capB') 1 nb fb ∧ Below w.heap.size w wr ∧ wc.heap.size ≤ wr.heap.size) (fun i _ => nl - (intOf i).toNat)
    case atStart => exact ⟨0, Nat.zero_le _, rfl, fun _ => .slice none 0 0, rL.congr (fun j _ => by simp), fun i hi => by omega, r5, rR, hB4, hb4, Nat.le_refl _⟩
    case round =>
      clear rL r5 rR hB4 hb4
      obtain ⟨k, hk, rfl, vs, rL, hvs, r5, rR, hB4, hb4, hsz⟩ := hrel
      by_cases hlt : k < nl
      · obtain ⟨bb, off, rfl, hbb, us, hcell, ht⟩ := hLS (by omega)
        have e0 : wr.cell? ⟨bb, off + k * 4, none⟩ = some (us (k * 4)) := by rw [hb4.cell (p := ⟨bb, off + k * 4, none⟩) hbb, hcell _ (by omega)]
        have e1 : wr.cell? ⟨bb, off + k * 4 + 1, none⟩ = some (us (k * 4 + 1)) := by rw [hb4.cell (p := ⟨bb, off + k * 4 + 1, none⟩) hbb, Nat.add_assoc, hcell _ (by omega)]
        have e2 : wr.cell? ⟨bb, off + k * 4 + 2, none⟩ = some (us (k * 4 + 2)) := by rw [hb4.cell (p := ⟨bb, off + k * 4 + 2, none⟩) hbb, Nat.add_assoc, hcell _ (by omega)]
        have e3 : wr.cell? ⟨bb, off + k * 4 + 3, none⟩ = some (us (k * 4 + 3)) := by rw [hb4.cell (p := ⟨bb, off + k * 4 + 3, none⟩) hbb, Nat.add_assoc, hcell _ (by omega)]
        have hT := (ht k hlt).keep ⟨hb4.size, fun b h _ => hb4.block b h⟩
        generalize us (k * 4) = x0 at *
        generalize us (k * 4 + 1) = x1 at *
        generalize us (k * 4 + 2) = x2 at *
        generalize us (k * 4 + 3) = x3 at *
        clear hcell ht hLS
        obtain ⟨a0, p0, rfl, -, -⟩ := id hT.r
        obtain ⟨a1, p1, rfl, -, -⟩ := id hT.wr
        obtain ⟨a2, p2, rfl, -, -⟩ := id hT.g
        obtain ⟨a3, p3, rfl, -, -⟩ := id hT.c
        have r7 := rowIs_list wr [.slice a0 (ts k).nr p0, .slice a1 (ts k).nw p1, .slice a2 (ts k).ng p2, .slice a3 (ts k).nc p3] 91
        have rL1 := rL.alloc (.cells #[.slice a0 (ts k).nr p0, .slice a1 (ts k).nw p1, .slice a2 (ts k).ng p2, .slice a3 (ts k).nc p3] 91)
        have r51 := r5.alloc (.cells #[.slice a0 (ts k).nr p0, .slice a1 (ts k).nw p1, .slice a2 (ts k).ng p2, .slice a3 (ts k).nc p3] 91)
        have rR1 := rR.alloc (.cells #[.slice a0 (ts k).nr p0, .slice a1 (ts k).nw p1, .slice a2 (ts k).ng p2, .slice a3 (ts k).nc p3] 91)
        have hK1 : ∀ S, Keeps S wr (wr.alloc (.cells #[.slice a0 (ts k).nr p0, .slice a1 (ts k).nw p1, .slice a2 (ts k).ng p2, .slice a3 (ts k).nc p3] 91)) := fun S => (Keeps.refl _ _).alloc _
        have hT1 := hT.keep (hK1 _)
        have hB1 := hB4.keep (hK1 _)
        have hb1 := hb4.alloc (Nat.le_trans (by omega) hb4.size) (.cells #[.slice a0 (ts k).nr p0, .slice a1 (ts k).nw p1, .slice a2 (ts k).ng p2, .slice a3 (ts k).nc p3] 91)
        have hvs1 := fun i hi => (hvs i hi).keep (hK1 _)
        have hsz1 : wr.heap.size + 1 = (wr.alloc (.cells #[.slice a0 (ts k).nr p0, .slice a1 (ts k).nw p1, .slice a2 (ts k).ng p2, .slice a3 (ts k).nc p3] 91)).heap.size := by simp
        clear hK1 rL r5 rR hT hB4 hb4 hvs
        go_wp2_with fail
        generalize hwk : wr.alloc (.cells #[.slice a0 (ts k).nr p0, .slice a1 (ts k).nw p1, .slice a2 (ts k).ng p2, .slice a3 (ts k).nc p3] 91) = wk at *
        clear hwk e0 e1 e2 e3
        have c5 : wk.cell? ⟨g5, 4, none⟩ = some (.slice (some ⟨gL, 0, none⟩) nl nl) := r51.cell (j := 4) (by simp)
        have c70 : wk.cell? ⟨wr.heap.size, 0, none⟩ = some (.slice a0 (ts k).nr p0) := r7.cell (j := 0) (by simp)
        have c71 : wk.cell? ⟨wr.heap.size, 1, none⟩ = some (.slice a1 (ts k).nw p1) := r7.cell (j := 1) (by simp)
        have c72 : wk.cell? ⟨wr.heap.size, 2, none⟩ = some (.slice a2 (ts k).ng p2) := r7.cell (j := 2) (by simp)
        have c73 : wk.cell? ⟨wr.heap.size, 3, none⟩ = some (.slice a3 (ts k).nc p3) := r7.cell (j := 3) (by simp)
        have hKS : ∀ w' w'', (Keeps (fun b => b ≠ gL) wk w' ∧ w'.cell? ⟨g5, 4, none⟩ = some (.slice (some ⟨gL, 0, none⟩) nl nl) ∧ w'.cell? ⟨wr.heap.size, 0, none⟩ = some (.slice a0 (ts k).nr p0) ∧ w'.cell? ⟨wr.heap.size, 1, none⟩ = some (.slice a1 (ts k).nw p1) ∧ w'.cell? ⟨wr.heap.size, 2, none⟩ = some (.slice a2 (ts k).ng p2) ∧ w'.cell? ⟨wr.heap.size, 3, none⟩ = some (.slice a3 (ts k).nc p3)) → Keeps (fun b => b ≠ gL) w' w'' →
            (Keeps (fun b => b ≠ gL) wk w'' ∧ w''.cell? ⟨g5, 4, none⟩ = some (.slice (some ⟨gL, 0, none⟩) nl nl) ∧ w''.cell? ⟨wr.heap.size, 0, none⟩ = some (.slice a0 (ts k).nr p0) ∧ w''.cell? ⟨wr.heap.size, 1, none⟩ = some (.slice a1 (ts k).nw p1) ∧ w''.cell? ⟨wr.heap.size, 2, none⟩ = some (.slice a2 (ts k).ng p2) ∧ w''.cell? ⟨wr.heap.size, 3, none⟩ = some (.slice a3 (ts k).nc p3)) := by
          rintro w' w'' ⟨h1, h2, h3, h4, h5, h6⟩ hk'
          have l1 : g5 < w'.heap.size := World.block_lt_of_cell? _ _ h2
          have l2 : wr.heap.size < w'.heap.size := World.block_lt_of_cell? _ _ h3
          exact ⟨h1.trans hk', by rw [hk'.cell hne l1]; exact h2, by rw [hk'.cell (by omega) l2]; exact h3, by rw [hk'.cell (by omega) l2]; exact h4, by rw [hk'.cell (by omega) l2]; exact h5, by rw [hk'.cell (by omega) l2]; exact h6⟩
        have HKS := hKS
        clear hKS
        have hdr : Below wk.heap.size wk wk.drew := (Below.refl _ _).drew
        have hqL : ∀ y, Below wk.heap.size wk y → ∀ j, j < 4 → y.cell? ⟨gL, k * 4 + j, none⟩ = some (.slice none 0 0) := by
          intro y hy j hj
          have := (rL1.below hy).cell (j := k * 4 + j) (by omega)
          rw [if_neg (by omega)] at this
          exact this
        go_region_held3 (fun w' => Keeps (fun b => b ≠ gL) wk w' ∧ w'.cell? ⟨g5, 4, none⟩ = some (.slice (some ⟨gL, 0, none⟩) nl nl) ∧ w'.cell? ⟨wr.heap.size, 0, none⟩ = some (.slice a0 (ts k).nr p0) ∧ w'.cell? ⟨wr.heap.size, 1, none⟩ = some (.slice a1 (ts k).nw p1) ∧ w'.cell? ⟨wr.heap.size, 2, none⟩ = some (.slice a2 (ts k).ng p2) ∧ w'.cell? ⟨wr.heap.size, 3, none⟩ = some (.slice a3 (ts k).nc p3))
          (first
            | exact ⟨⟨Nat.le_refl _, fun _ _ _ => rfl⟩, c5, c70, c71, c72, c73⟩
            | (refine HKS wk _ ⟨Keeps.refl _ _, c5, c70, c71, c72, c73⟩ (Keeps.of_below ?_); assumption)
            | (refine HKS wk _ ⟨Keeps.refl _ _, c5, c70, c71, c72, c73⟩ (((((Keeps.of_below ?_).setCell ?_ _).setCell ?_ _).setCell ?_ _).setCell ?_ _); assumption; (all_goals simp)))
          (first
            | (go_at_call_of 80 (Value.slice a0 (ts k).nr p0); refine (cloneI_any _ (ts k).nr (ts k).r _ ?_).mono ?_; (exact (hT1.keep ⟨Nat.le_refl _, fun _ _ _ => rfl⟩).rd.r); rintro e y1 ⟨v', rfl, hv1, hb1⟩; obtain ⟨A1, P1, rfl, -, -⟩ := id hv1; have hch1 : Below wk.heap.size wk y1 := hdr.trans hb1)
            | (go_at_call_of 80 (Value.slice a1 (ts k).nw p1); refine (cloneI_any _ (ts k).nw (ts k).wr _ ?_).mono ?_; (exact (hT1.rd.below hch1).wr); rintro e y2 ⟨v', rfl, hv2, hb2⟩; obtain ⟨A2, P2, rfl, -, -⟩ := id hv2; have hch2 : Below wk.heap.size wk y2 := hch1.trans (hb2.mono hch1.size))
            | (go_at_call_of 81 (Value.slice a2 (ts k).ng p2); refine (cloneR_any _ (ts k).ng (ts k).g _ ?_).mono ?_; (exact (hT1.rd.below hch2).g); rintro e y3 ⟨v', rfl, hv3, hb3⟩; obtain ⟨A3, P3, rfl, -, -⟩ := id hv3; have hch3 : Below wk.heap.size wk y3 := hch2.trans (hb3.mono hch2.size))
            | (go_at_call_of 82 (Value.slice a3 (ts k).nc p3); refine (cloneC_any _ (ts k).nc (ts k).c _ ?_).mono ?_; (exact (hT1.rd.below hch3).c); rintro e y4 ⟨v', rfl, hv4, hb4⟩; obtain ⟨A4, P4, rfl, -, -⟩ := id hv4; have hch4 : Below wk.heap.size wk y4 := hch3.trans (hb4.mono hch3.size); have q0 : y4.cell? ⟨gL, k * 4, none⟩ = some (.slice none 0 0) := hqL y4 hch4 0 (by omega); have q1 := hqL y4 hch4 1 (by omega); have q2 := hqL y4 hch4 2 (by omega); have q3 := hqL y4 hch4 3 (by omega); have qf := (rL1.below hch4).frozen))
        go_wp2_with fail
        go_roundw
        case measure => simp [intOf]; omega
        case rel =>
          have z1 := hch1.size
          have z2 := hch2.size
          have z3 := hch3.size
          have z4 := hch4.size
          have k4 : ∀ S : Nat → Prop, ¬ S gL → Keeps S wk ((((y4.setCell ⟨gL, k * 4, none⟩ (.slice A1 (ts k).nr P1)).setCell ⟨gL, k * 4 + 1, none⟩ (.slice A2 (ts k).nw P2)).setCell ⟨gL, k * 4 + 2, none⟩ (.slice A3 (ts k).ng P3)).setCell ⟨gL, k * 4 + 3, none⟩ (.slice A4 (ts k).nc P4)) :=
            fun S h => ((((Keeps.of_below hch4).setCell h _).setCell h _).setCell h _).setCell h _
          have k41 : ∀ y, Below y.heap.size y y4 → ∀ S : Nat → Prop, ¬ S gL → Keeps S y ((((y4.setCell ⟨gL, k * 4, none⟩ (.slice A1 (ts k).nr P1)).setCell ⟨gL, k * 4 + 1, none⟩ (.slice A2 (ts k).nw P2)).setCell ⟨gL, k * 4 + 2, none⟩ (.slice A3 (ts k).ng P3)).setCell ⟨gL, k * 4 + 3, none⟩ (.slice A4 (ts k).nc P4)) :=
            fun y hy S h => ((((Keeps.of_below hy).setCell h _).setCell h _).setCell h _).setCell h _
          have y34 : Below y3.heap.size y3 y4 := hb4
          have y24 : Below y2.heap.size y2 y4 := hb3.trans (hb4.mono hb3.size)
          have y14 : Below y1.heap.size y1 y4 := hb2.trans (y24.mono hb2.size)
          have y44 : Below y4.heap.size y4 y4 := Below.refl _ _
          have zd : wk.drew.heap.size = wk.heap.size := rfl
          refine ⟨k + 1, by omega, by go_num, newVs k vs (.slice A1 (ts k).nr P1) (.slice A2 (ts k).nw P2) (.slice A3 (ts k).ng P3) (.slice A4 (ts k).nc P4), ?_, ?_, ?_, ?_, ?_, ?_, ?_⟩
          · refine ((((rL1.below hch4).setCell (k * 4) _).setCell (k * 4 + 1) _).setCell (k * 4 + 2) _).setCell (k * 4 + 3) _ |>.congr fun j _ => newVs_row k vs _ _ _ _ j
          · intro i hi
            by_cases e : i = k
            · subst e
              rw [newVs_0, newVs_1, newVs_2, newVs_3]
              exact ⟨(hv1.mono (fun b h => by simp [zd] at h; omega)).keep (k41 y1 y14 _ (by omega)), (hv2.mono (fun b h => Nat.le_trans (by omega) h)).keep (k41 y2 y24 _ (by omega)), (hv3.mono (fun b h => Nat.le_trans (by omega) h)).keep (k41 y3 y34 _ (by omega)), (hv4.mono (fun b h => Nat.le_trans (by omega) h)).keep (k41 y4 y44 _ (by omega))⟩
            · rw [newVs_old _ _ _ _ _ _ (by omega), newVs_old _ _ _ _ _ _ (by omega), newVs_old _ _ _ _ _ _ (by omega), newVs_old _ _ _ _ _ _ (by omega)]
              exact (hvs1 i (by omega)).keep (k4 _ (by omega))
          · exact ((((r51.below hch4).setCell_other hne _).setCell_other hne _).setCell_other hne _).setCell_other hne _
          · have hnR : w.heap.size + 1 ≠ gL := by omega
            exact ((((rR1.below hch4).setCell_other hnR _).setCell_other hnR _).setCell_other hnR _).setCell_other hnR _
          · exact hB1.keep (k4 _ (by omega))
          · have hgw : w.heap.size ≤ gL := by omega
            exact (((((‹Below w.heap.size w wk›).trans (hch4.mono (by omega))).setCell hgw _).setCell hgw _).setCell hgw _).setCell hgw _
          · simp; omega
      · have hkn : k = nl := by omega
        have e5 : ∀ j, j < 5 → _ := fun j hj => r5.cell (j := j) hj
        have t0 : wr.cell? ⟨g5, 0, none⟩ = some (.slice aB' nb capB') := e5 0 (by omega)
        have t1 : wr.cell? ⟨g5, 1, none⟩ = some (.int .i64 a) := e5 1 (by omega)
        have t2 : wr.cell? ⟨g5, 2, none⟩ = some (.int .i64 b) := e5 2 (by omega)
        have t3 : wr.cell? ⟨g5, 3, none⟩ = some (.int .i64 c) := e5 3 (by omega)
        have t4 : wr.cell? ⟨g5, 4, none⟩ = some (.slice (some ⟨gL, 0, none⟩) nl nl) := e5 4 (by omega)
        have eR : ∀ j, j < 5 → _ := fun j hj => rR.cell (j := j) hj
        have s0 : wr.cell? ⟨w.heap.size + 1, 0, none⟩ = some (.slice none 0 0) := eR 0 (by omega)
        have s1 : wr.cell? ⟨w.heap.size + 1, 1, none⟩ = some (.int .i64 0) := eR 1 (by omega)
        have s2 : wr.cell? ⟨w.heap.size + 1, 2, none⟩ = some (.int .i64 0) := eR 2 (by omega)
        have s3 : wr.cell? ⟨w.heap.size + 1, 3, none⟩ = some (.int .i64 0) := eR 3 (by omega)
        have s4 : wr.cell? ⟨w.heap.size + 1, 4, none⟩ = some (.slice none 0 0) := eR 4 (by omega)
        have fR := rR.frozen
        clear e5 eR
        have HKN : Hid (k = nl) := hkn
        clear hkn
        go_wp2_with fail
        refine bodyPost_ret (v := .agg #[.slice aB' nb capB', .int .i64 a, .int .i64 b, .int .i64 c, .slice (some ⟨gL, 0, none⟩) nl nl]) (by simp [results, Tryz.results49, go_sem, s0, s1, s2, s3, s4]) rfl ⟨_, _, rfl, ?_, ?_, ?_⟩
        · refine (hB4.keep (((((Keeps.refl _ _).setCell ?_ _).setCell ?_ _).setCell ?_ _).setCell ?_ _ |>.setCell ?_ _)).mono (fun b h => by omega)
          all_goals simp
        · have hkn := HKN.out
          subst hkn
          have hK : ∀ S : Nat → Prop, ¬ S (w.heap.size + 1) → Keeps S wr (((((wr.setCell ⟨w.heap.size + 1, 0, none⟩ (.slice aB' nb capB')).setCell ⟨w.heap.size + 1, 1, none⟩ (.int .i64 a)).setCell ⟨w.heap.size + 1, 2, none⟩ (.int .i64 b)).setCell ⟨w.heap.size + 1, 3, none⟩ (.int .i64 c)).setCell ⟨w.heap.size + 1, 4, none⟩ (.slice (some ⟨gL, 0, none⟩) k k)) :=
            fun S h => (((((Keeps.refl _ _).setCell h _).setCell h _).setCell h _).setCell h _).setCell h _
          refine ⟨_, _, rfl, hnl, fun _ => ⟨gL, 0, rfl, by omega, by simp; omega, vs, fun j hj => ?_, fun i hi => ((hvs i hi).keep (hK _ (by omega))).mono (fun b h => by omega)⟩⟩
          rw [Nat.zero_add, (hK (fun b => b = gL) (by omega)).cell rfl (by omega), rL.cell hj, if_pos hj]
        · have hg : w.heap.size ≤ w.heap.size + 1 := by omega
          exact ((((hb4.setCell hg _).setCell hg _).setCell hg _).setCell hg _).setCell hg _
end Go.Proofs.YtldeiiffabfmeaaGreatDoor
