/- A transaction that was handed in is as it was; it is turned over. -/
import Derived.Test.YtldeiiffabfmeaaGreatDoorAW
import Derived.Test.YtldeiiffabfmeaaGreatDoorAOJ
import Derived.BigQuiet
import Derived.Deep.RegionLaw
import Derived.Deep.DeepCutAuto
set_option linter.unusedVariables false
set_option linter.unusedSimpArgs false
namespace Go.Proofs.YtldeiiffabfmeaaGreatDoor
open Go.RowKit

/-- A code as it is being turned over: the first i instructions are. -/
def mark4 (i : Nat) (c : Nat → Value) (j : Nat) : Value := if j < i * 4 then .int .i64 (codeF j) else c j
theorem mark4_step (i : Nat) (c : Nat → Value) (j : Nat) : (fun j => if j = i * 4 + 3 then .int .i64 0 else (fun j => if j = i * 4 + 2 then .int .i64 0 else (fun j => if j = i * 4 + 1 then .int .i64 0 else (fun j => if j = i * 4 then .int .i64 (-7) else mark4 i c j) j) j) j) j = mark4 (i + 1) c j := by
  simp only [mark4]
  by_cases e3 : j = i * 4 + 3
  · rw [if_pos e3, if_pos (by omega), e3, codeF3]
  · rw [if_neg e3]
    by_cases e2 : j = i * 4 + 2
    · rw [if_pos e2, if_pos (by omega), e2, codeF2]
    · rw [if_neg e2]
      by_cases e1 : j = i * 4 + 1
      · rw [if_pos e1, if_pos (by omega), e1, codeF1]
      · rw [if_neg e1]
        by_cases e0 : j = i * 4
        · rw [if_pos e0, if_pos (by omega), e0, codeF0]
        · rw [if_neg e0]
          by_cases e : j < i * 4
          · rw [if_pos e, if_pos (by omega)]
          · rw [if_neg e, if_neg (by omega)]

set_option maxRecDepth 20000 in
set_option maxHeartbeats 4000000 in
theorem returned_any (W base L L' k3 k4 g2 g5 g10 g15 : Nat) (cW : Nat → Value) (t : TxnD) (va vb vc vd : Value) (b0 b1 b2 b3 : Option Addr) (c0 c1 c2 c3 : Nat) (w : World)
    (hW : RowIs w W 37 9 cW) (hbW : base ≤ W) (hbL : base ≤ L)
    (h3 : TL w base (· < L) 22 3 1 (fun _ => -7) (cW 3) k3) (h4 : TL w base (· < L) 86 159 2 (fun _ => -7) (cW 4) k4) (h5 : TL w base (· < L) 87 161 4 codeF (cW 5) k4) (hk3 : k3 ≤ 900000) (hk4 : k4 ≤ 900000)
    (l2 : L ≤ g2 ∧ g2 < L') (l5 : L ≤ g5 ∧ g5 < L') (l10 : L ≤ g10 ∧ g10 < L') (l15 : L ≤ g15 ∧ g15 < L') (ne : g2 ≠ g5)
    (r2 : RowIs w g2 3 (t.nr + 1) (icell (cut t.nr t.r))) (r5 : RowIs w g5 3 (t.nw + 1) (icell (cut t.nw t.wr))) (r10 : RowIs w g10 159 ((t.ng + 1) * 2) (icell (cut (t.ng * 2) t.g))) (r15 : RowIs w g15 161 ((t.nc + 1) * 4) (icell (cut (t.nc * 4) t.c)))
    (ht : RdTS (fun b => b < base) w va vb vc vd t) (sm : Small t) :
    Calls Tryz.prog 29 #[.pointer (some ⟨W, 0, none⟩), .agg #[.slice (some ⟨g2, 0, none⟩) (t.nr + 1) (t.nr + 1), .slice (some ⟨g5, 0, none⟩) (t.nw + 1) (t.nw + 1), .slice (some ⟨g10, 0, none⟩) (t.ng + 1) (t.ng + 1), .slice (some ⟨g15, 0, none⟩) (t.nc + 1) (t.nc + 1)], .agg #[.slice b0 t.nr c0, .slice b1 t.nw c1, .slice b2 t.ng c2, .slice b3 t.nc c3], .agg #[va, vb, vc, vd]] w fun r w' => r = .returned (.bool true) ∧
      ∃ cW', RowIs w' W 37 9 cW' ∧ (∀ j, j ≠ 3 → j ≠ 4 → j ≠ 5 → cW' j = cW j) ∧ TL w' base (· < L') 22 3 1 (fun _ => -7) (cW' 3) (k3 + 2) ∧ TL w' base (· < L') 86 159 2 (fun _ => -7) (cW' 4) (k4 + 1) ∧ TL w' base (· < L') 87 161 4 codeF (cW' 5) (k4 + 1) ∧
      Keeps (RS W L L' cW) w w' ∧ Below base w w' ∧ (∀ q, q = 3 ∨ q = 4 ∨ q = 5 → (cW' q).ownBlock = (cW q).ownBlock ∨ ∃ b, (cW' q).ownBlock = some b ∧ w.heap.size ≤ b) := by
  obtain ⟨aa, pa, rfl, -, ha⟩ := id ht.r
  obtain ⟨ab, pb, rfl, -, hb⟩ := id ht.wr
  obtain ⟨ac, pc, rfl, -, hc⟩ := id ht.g
  obtain ⟨ad, pd, rfl, -, hd⟩ := id ht.c
  have hWl := hW.lt
  have z2 := r2.lt
  have z5 := r5.lt
  have z10 := r10.lt
  have z15 := r15.lt
  obtain ⟨s1, s2, s3, s4⟩ := sm
  have hbg10 : base ≤ g10 := by omega
  have hbg15 : base ≤ g15 := by omega
  have bA : Below w.heap.size w (((w.alloc (.cells #[.slice (some ⟨g2, 0, none⟩) (t.nr + 1) (t.nr + 1), .slice (some ⟨g5, 0, none⟩) (t.nw + 1) (t.nw + 1), .slice (some ⟨g10, 0, none⟩) (t.ng + 1) (t.ng + 1), .slice (some ⟨g15, 0, none⟩) (t.nc + 1) (t.nc + 1)] 89)).alloc (.cells #[.slice b0 t.nr c0, .slice b1 t.nw c1, .slice b2 t.ng c2, .slice b3 t.nc c3] 91)).alloc (.cells #[.slice aa t.nr pa, .slice ab t.nw pb, .slice ac t.ng pc, .slice ad t.nc pd] 91)) := (((Below.refl _ _).alloc (Nat.le_refl _) _).alloc (by simp) _).alloc (by simp; omega) _
  have rG : RowIs (((w.alloc (.cells #[.slice (some ⟨g2, 0, none⟩) (t.nr + 1) (t.nr + 1), .slice (some ⟨g5, 0, none⟩) (t.nw + 1) (t.nw + 1), .slice (some ⟨g10, 0, none⟩) (t.ng + 1) (t.ng + 1), .slice (some ⟨g15, 0, none⟩) (t.nc + 1) (t.nc + 1)] 89)).alloc (.cells #[.slice b0 t.nr c0, .slice b1 t.nw c1, .slice b2 t.ng c2, .slice b3 t.nc c3] 91)).alloc (.cells #[.slice aa t.nr pa, .slice ab t.nw pb, .slice ac t.ng pc, .slice ad t.nc pd] 91)) w.heap.size 89 4 (lc [.slice (some ⟨g2, 0, none⟩) (t.nr + 1) (t.nr + 1), .slice (some ⟨g5, 0, none⟩) (t.nw + 1) (t.nw + 1), .slice (some ⟨g10, 0, none⟩) (t.ng + 1) (t.ng + 1), .slice (some ⟨g15, 0, none⟩) (t.nc + 1) (t.nc + 1)]) := ((rowIs_list w [.slice (some ⟨g2, 0, none⟩) (t.nr + 1) (t.nr + 1), .slice (some ⟨g5, 0, none⟩) (t.nw + 1) (t.nw + 1), .slice (some ⟨g10, 0, none⟩) (t.ng + 1) (t.ng + 1), .slice (some ⟨g15, 0, none⟩) (t.nc + 1) (t.nc + 1)] 89).alloc _).alloc _
  have rX : RowIs (((w.alloc (.cells #[.slice (some ⟨g2, 0, none⟩) (t.nr + 1) (t.nr + 1), .slice (some ⟨g5, 0, none⟩) (t.nw + 1) (t.nw + 1), .slice (some ⟨g10, 0, none⟩) (t.ng + 1) (t.ng + 1), .slice (some ⟨g15, 0, none⟩) (t.nc + 1) (t.nc + 1)] 89)).alloc (.cells #[.slice b0 t.nr c0, .slice b1 t.nw c1, .slice b2 t.ng c2, .slice b3 t.nc c3] 91)).alloc (.cells #[.slice aa t.nr pa, .slice ab t.nw pb, .slice ac t.ng pc, .slice ad t.nc pd] 91)) (w.heap.size + 1) 91 4 (lc [.slice b0 t.nr c0, .slice b1 t.nw c1, .slice b2 t.ng c2, .slice b3 t.nc c3]) := by
    have := (rowIs_list (w.alloc (.cells #[.slice (some ⟨g2, 0, none⟩) (t.nr + 1) (t.nr + 1), .slice (some ⟨g5, 0, none⟩) (t.nw + 1) (t.nw + 1), .slice (some ⟨g10, 0, none⟩) (t.ng + 1) (t.ng + 1), .slice (some ⟨g15, 0, none⟩) (t.nc + 1) (t.nc + 1)] 89)) [.slice b0 t.nr c0, .slice b1 t.nw c1, .slice b2 t.ng c2, .slice b3 t.nc c3] 91).alloc (.cells #[.slice aa t.nr pa, .slice ab t.nw pb, .slice ac t.ng pc, .slice ad t.nc pd] 91)
    rw [World.size_alloc] at this
    exact this
  have rT : RowIs (((w.alloc (.cells #[.slice (some ⟨g2, 0, none⟩) (t.nr + 1) (t.nr + 1), .slice (some ⟨g5, 0, none⟩) (t.nw + 1) (t.nw + 1), .slice (some ⟨g10, 0, none⟩) (t.ng + 1) (t.ng + 1), .slice (some ⟨g15, 0, none⟩) (t.nc + 1) (t.nc + 1)] 89)).alloc (.cells #[.slice b0 t.nr c0, .slice b1 t.nw c1, .slice b2 t.ng c2, .slice b3 t.nc c3] 91)).alloc (.cells #[.slice aa t.nr pa, .slice ab t.nw pb, .slice ac t.ng pc, .slice ad t.nc pd] 91)) (w.heap.size + 1 + 1) 91 4 (lc [.slice aa t.nr pa, .slice ab t.nw pb, .slice ac t.ng pc, .slice ad t.nc pd]) := by
    have := rowIs_list ((w.alloc (.cells #[.slice (some ⟨g2, 0, none⟩) (t.nr + 1) (t.nr + 1), .slice (some ⟨g5, 0, none⟩) (t.nw + 1) (t.nw + 1), .slice (some ⟨g10, 0, none⟩) (t.ng + 1) (t.ng + 1), .slice (some ⟨g15, 0, none⟩) (t.nc + 1) (t.nc + 1)] 89)).alloc (.cells #[.slice b0 t.nr c0, .slice b1 t.nw c1, .slice b2 t.ng c2, .slice b3 t.nc c3] 91)) [.slice aa t.nr pa, .slice ab t.nw pb, .slice ac t.ng pc, .slice ad t.nc pd] 91
    rw [World.size_alloc, World.size_alloc] at this
    exact this
  have x0 : (((w.alloc (.cells #[.slice (some ⟨g2, 0, none⟩) (t.nr + 1) (t.nr + 1), .slice (some ⟨g5, 0, none⟩) (t.nw + 1) (t.nw + 1), .slice (some ⟨g10, 0, none⟩) (t.ng + 1) (t.ng + 1), .slice (some ⟨g15, 0, none⟩) (t.nc + 1) (t.nc + 1)] 89)).alloc (.cells #[.slice b0 t.nr c0, .slice b1 t.nw c1, .slice b2 t.ng c2, .slice b3 t.nc c3] 91)).alloc (.cells #[.slice aa t.nr pa, .slice ab t.nw pb, .slice ac t.ng pc, .slice ad t.nc pd] 91)).cell? ⟨w.heap.size + 1, 0, none⟩ = some (.slice b0 t.nr c0) := rX.cell (j := 0) (by omega)
  have x1 : (((w.alloc (.cells #[.slice (some ⟨g2, 0, none⟩) (t.nr + 1) (t.nr + 1), .slice (some ⟨g5, 0, none⟩) (t.nw + 1) (t.nw + 1), .slice (some ⟨g10, 0, none⟩) (t.ng + 1) (t.ng + 1), .slice (some ⟨g15, 0, none⟩) (t.nc + 1) (t.nc + 1)] 89)).alloc (.cells #[.slice b0 t.nr c0, .slice b1 t.nw c1, .slice b2 t.ng c2, .slice b3 t.nc c3] 91)).alloc (.cells #[.slice aa t.nr pa, .slice ab t.nw pb, .slice ac t.ng pc, .slice ad t.nc pd] 91)).cell? ⟨w.heap.size + 1, 1, none⟩ = some (.slice b1 t.nw c1) := rX.cell (j := 1) (by omega)
  have x2 : (((w.alloc (.cells #[.slice (some ⟨g2, 0, none⟩) (t.nr + 1) (t.nr + 1), .slice (some ⟨g5, 0, none⟩) (t.nw + 1) (t.nw + 1), .slice (some ⟨g10, 0, none⟩) (t.ng + 1) (t.ng + 1), .slice (some ⟨g15, 0, none⟩) (t.nc + 1) (t.nc + 1)] 89)).alloc (.cells #[.slice b0 t.nr c0, .slice b1 t.nw c1, .slice b2 t.ng c2, .slice b3 t.nc c3] 91)).alloc (.cells #[.slice aa t.nr pa, .slice ab t.nw pb, .slice ac t.ng pc, .slice ad t.nc pd] 91)).cell? ⟨w.heap.size + 1, 2, none⟩ = some (.slice b2 t.ng c2) := rX.cell (j := 2) (by omega)
  have x3 : (((w.alloc (.cells #[.slice (some ⟨g2, 0, none⟩) (t.nr + 1) (t.nr + 1), .slice (some ⟨g5, 0, none⟩) (t.nw + 1) (t.nw + 1), .slice (some ⟨g10, 0, none⟩) (t.ng + 1) (t.ng + 1), .slice (some ⟨g15, 0, none⟩) (t.nc + 1) (t.nc + 1)] 89)).alloc (.cells #[.slice b0 t.nr c0, .slice b1 t.nw c1, .slice b2 t.ng c2, .slice b3 t.nc c3] 91)).alloc (.cells #[.slice aa t.nr pa, .slice ab t.nw pb, .slice ac t.ng pc, .slice ad t.nc pd] 91)).cell? ⟨w.heap.size + 1, 3, none⟩ = some (.slice b3 t.nc c3) := rX.cell (j := 3) (by omega)
  have t0 : (((w.alloc (.cells #[.slice (some ⟨g2, 0, none⟩) (t.nr + 1) (t.nr + 1), .slice (some ⟨g5, 0, none⟩) (t.nw + 1) (t.nw + 1), .slice (some ⟨g10, 0, none⟩) (t.ng + 1) (t.ng + 1), .slice (some ⟨g15, 0, none⟩) (t.nc + 1) (t.nc + 1)] 89)).alloc (.cells #[.slice b0 t.nr c0, .slice b1 t.nw c1, .slice b2 t.ng c2, .slice b3 t.nc c3] 91)).alloc (.cells #[.slice aa t.nr pa, .slice ab t.nw pb, .slice ac t.ng pc, .slice ad t.nc pd] 91)).cell? ⟨w.heap.size + 1 + 1, 0, none⟩ = some (.slice aa t.nr pa) := rT.cell (j := 0) (by omega)
  have t1 : (((w.alloc (.cells #[.slice (some ⟨g2, 0, none⟩) (t.nr + 1) (t.nr + 1), .slice (some ⟨g5, 0, none⟩) (t.nw + 1) (t.nw + 1), .slice (some ⟨g10, 0, none⟩) (t.ng + 1) (t.ng + 1), .slice (some ⟨g15, 0, none⟩) (t.nc + 1) (t.nc + 1)] 89)).alloc (.cells #[.slice b0 t.nr c0, .slice b1 t.nw c1, .slice b2 t.ng c2, .slice b3 t.nc c3] 91)).alloc (.cells #[.slice aa t.nr pa, .slice ab t.nw pb, .slice ac t.ng pc, .slice ad t.nc pd] 91)).cell? ⟨w.heap.size + 1 + 1, 1, none⟩ = some (.slice ab t.nw pb) := rT.cell (j := 1) (by omega)
  have t2 : (((w.alloc (.cells #[.slice (some ⟨g2, 0, none⟩) (t.nr + 1) (t.nr + 1), .slice (some ⟨g5, 0, none⟩) (t.nw + 1) (t.nw + 1), .slice (some ⟨g10, 0, none⟩) (t.ng + 1) (t.ng + 1), .slice (some ⟨g15, 0, none⟩) (t.nc + 1) (t.nc + 1)] 89)).alloc (.cells #[.slice b0 t.nr c0, .slice b1 t.nw c1, .slice b2 t.ng c2, .slice b3 t.nc c3] 91)).alloc (.cells #[.slice aa t.nr pa, .slice ab t.nw pb, .slice ac t.ng pc, .slice ad t.nc pd] 91)).cell? ⟨w.heap.size + 1 + 1, 2, none⟩ = some (.slice ac t.ng pc) := rT.cell (j := 2) (by omega)
  have t3 : (((w.alloc (.cells #[.slice (some ⟨g2, 0, none⟩) (t.nr + 1) (t.nr + 1), .slice (some ⟨g5, 0, none⟩) (t.nw + 1) (t.nw + 1), .slice (some ⟨g10, 0, none⟩) (t.ng + 1) (t.ng + 1), .slice (some ⟨g15, 0, none⟩) (t.nc + 1) (t.nc + 1)] 89)).alloc (.cells #[.slice b0 t.nr c0, .slice b1 t.nw c1, .slice b2 t.ng c2, .slice b3 t.nc c3] 91)).alloc (.cells #[.slice aa t.nr pa, .slice ab t.nw pb, .slice ac t.ng pc, .slice ad t.nc pd] 91)).cell? ⟨w.heap.size + 1 + 1, 3, none⟩ = some (.slice ad t.nc pd) := rT.cell (j := 3) (by omega)
  have y0 : (((w.alloc (.cells #[.slice (some ⟨g2, 0, none⟩) (t.nr + 1) (t.nr + 1), .slice (some ⟨g5, 0, none⟩) (t.nw + 1) (t.nw + 1), .slice (some ⟨g10, 0, none⟩) (t.ng + 1) (t.ng + 1), .slice (some ⟨g15, 0, none⟩) (t.nc + 1) (t.nc + 1)] 89)).alloc (.cells #[.slice b0 t.nr c0, .slice b1 t.nw c1, .slice b2 t.ng c2, .slice b3 t.nc c3] 91)).alloc (.cells #[.slice aa t.nr pa, .slice ab t.nw pb, .slice ac t.ng pc, .slice ad t.nc pd] 91)).cell? ⟨w.heap.size, 0, none⟩ = some (.slice (some ⟨g2, 0, none⟩) (t.nr + 1) (t.nr + 1)) := rG.cell (j := 0) (by omega)
  go_enter Tryz.func29, Tryz.ntmps29
  go_wp2_with fail
  generalize (((w.alloc (.cells #[.slice (some ⟨g2, 0, none⟩) (t.nr + 1) (t.nr + 1), .slice (some ⟨g5, 0, none⟩) (t.nw + 1) (t.nw + 1), .slice (some ⟨g10, 0, none⟩) (t.ng + 1) (t.ng + 1), .slice (some ⟨g15, 0, none⟩) (t.nc + 1) (t.nc + 1)] 89)).alloc (.cells #[.slice b0 t.nr c0, .slice b1 t.nw c1, .slice b2 t.ng c2, .slice b3 t.nc c3] 91)).alloc (.cells #[.slice aa t.nr pa, .slice ab t.nw pb, .slice ac t.ng pc, .slice ad t.nc pd] 91)) = wA at *
  have own3 : ∀ g, (cW 3).ownBlock = some g → g < w.heap.size := fun g hg => by obtain ⟨_, ho, _⟩ := h3; exact (ho.lt g hg).2
  have own4 : ∀ g, (cW 4).ownBlock = some g → g < w.heap.size := fun g hg => by obtain ⟨_, ho, _⟩ := h4; exact (ho.lt g hg).2
  have own5 : ∀ g, (cW 5).ownBlock = some g → g < w.heap.size := fun g hg => by obtain ⟨_, ho, _⟩ := h5; exact (ho.lt g hg).2
  have hWA := hW.below bA
  have q2 := r2.below bA
  have q5 := r5.below bA
  have q10 := r10.below bA
  have q15 := r15.below bA
  have q3 := h3.below bA
  have q4 := h4.below bA
  have q5' := h5.below bA
  have htA := ht.keep (Keeps.of_below bA)
  refine (retInts_tl W g2 t.nr k3 base (· < L) cW t.r _ wA hWA q3 (by omega) hbW (by omega) (by omega) q2 s1 htA.r).mono ?_
  rintro r w1 ⟨rfl, v3, rW1, tl1, k1, bl1, loc1⟩
  have sz1 := k1.size
  have szA := bA.size
  have kk1 : ∀ b, w.heap.size ≤ b → b < wA.heap.size → w1.heap[b]? = wA.heap[b]? := fun b h1 h2 => k1.block b ⟨by omega, by omega, fun e => by have := own3 b e; omega⟩ h2
  have rG1 := rG.block (kk1 _ (Nat.le_refl _) rG.lt)
  have rT1 := rT.block (kk1 _ (by omega) rT.lt)
  have p5 := q5.block (k1.block g5 ⟨fun e => hWA.apart q5 (by decide) e.symm, fun e => ne e.symm, fun e => by obtain ⟨_, ho, _⟩ := q3; exact ho.apart q5 (by decide) e⟩ q5.lt)
  have p10 := q10.block (k1.block g10 ⟨fun e => hWA.apart q10 (by decide) e.symm, q10.apart q2 (by decide), fun e => by obtain ⟨_, ho, _⟩ := q3; exact ho.apart q10 (by decide) e⟩ q10.lt)
  have p15 := q15.block (k1.block g15 ⟨fun e => hWA.apart q15 (by decide) e.symm, q15.apart q2 (by decide), fun e => by obtain ⟨_, ho, _⟩ := q3; exact ho.apart q15 (by decide) e⟩ q15.lt)
  have ht1 := htA.keep (S := fun b => b < base) ⟨bl1.size, fun b hb _ => bl1.block b hb⟩
  have y1 : w1.cell? ⟨w.heap.size, 1, none⟩ = some (.slice (some ⟨g5, 0, none⟩) (t.nw + 1) (t.nw + 1)) := rG1.cell (j := 1) (by omega)
  have u1 : w1.cell? ⟨w.heap.size + 1 + 1, 1, none⟩ = some (.slice ab t.nw pb) := rT1.cell (j := 1) (by omega)
  clear x0 x1 x2 x3 t0 t1 t2 t3 y0 rX
  go_wp2_with fail
  refine (retInts_tl W g5 t.nw (k3 + 1) base (fun b => b < L ∨ b = g2) (upd cW 3 v3) t.wr _ w1 rW1 tl1 (by omega) hbW (by omega) (fun h => h.elim (fun h => Nat.not_lt.2 l5.1 h) (fun h => ne h.symm)) p5 s2 ht1.wr).mono ?_
  rintro r w2 ⟨rfl, v3', rW2, tl2, k2, bl2, loc2⟩
  have sz2 := k2.size
  have e33 : upd cW 3 v3 3 = v3 := upd_same _ _ _
  rw [e33] at k2 loc2
  have own3' : ∀ g, v3.ownBlock = some g → g < w.heap.size ∨ wA.heap.size ≤ g := fun g hg => by
    rcases loc1 with e | ⟨b, e, hb⟩
    · left; exact own3 g (by rw [← e]; exact hg)
    · right; rw [e] at hg; injection hg with hg; omega
  have kk2 : ∀ b, w.heap.size ≤ b → b < wA.heap.size → w2.heap[b]? = w1.heap[b]? := fun b h1 h2 => k2.block b ⟨by omega, by omega, fun e => by have := own3' b e; omega⟩ (by omega)
  have rG2 := rG1.block (kk2 _ (Nat.le_refl _) rG.lt)
  have rT2 := rT1.block (kk2 _ (by omega) rT.lt)
  have o10 := p10.block (k2.block g10 ⟨fun e => hWA.apart q10 (by decide) e.symm, p10.apart p5 (by decide), fun e => by obtain ⟨_, ho, _⟩ := tl1; exact ho.apart p10 (by decide) e⟩ p10.lt)
  have o15 := p15.block (k2.block g15 ⟨fun e => hWA.apart q15 (by decide) e.symm, p15.apart p5 (by decide), fun e => by obtain ⟨_, ho, _⟩ := tl1; exact ho.apart p15 (by decide) e⟩ p15.lt)
  have ht2 := ht1.keep (S := fun b => b < base) ⟨bl2.size, fun b hb _ => bl2.block b hb⟩
  have zG2 := rG2.lt
  have zT2 := rT2.lt
  clear y1 u1 rG rT rG1 rT1 kk1 kk2
  go_wp2_with fail
  go_loopw [11] (fun i wq => ∃ m : Nat, m ≤ t.ng + 1 ∧ i = .int .i64 m ∧ RowIs wq g10 159 ((t.ng + 1) * 2) (markC (-7) m (icell (cut (t.ng * 2) t.g))) ∧ Keeps (fun b => b ≠ g10) w2 wq ∧ Below base w2 wq) (fun i _ => t.ng + 1 - (intOf i).toNat)
  case atStart => exact ⟨0, Nat.zero_le _, rfl, o10.congr (fun j _ => (if_neg (by omega)).symm), Keeps.refl _ _, Below.refl _ _⟩
  case round =>
    obtain ⟨m, hm, rfl, rg, kg, bg⟩ := hrel
    have a2 : wr.cell? ⟨w.heap.size, 2, none⟩ = some (.slice (some ⟨g10, 0, none⟩) (t.ng + 1) (t.ng + 1)) := by rw [kg.cell (b := w.heap.size) (by omega) zG2]; exact rG2.cell (j := 2) (by omega)
    have a3 : wr.cell? ⟨w.heap.size + 1 + 1, 2, none⟩ = some (.slice ac t.ng pc) := by rw [kg.cell (b := w.heap.size + 1 + 1) (by omega) zT2]; exact rT2.cell (j := 2) (by omega)
    have zGr : w.heap.size < wr.heap.size := by have := kg.size; omega
    have zTr : w.heap.size + 1 + 1 < wr.heap.size := by have := kg.size; omega
    have zgr := rg.lt
    by_cases hmn : m < t.ng + 1
    · have hfz := rg.frozen
      have n1 : w.heap.size ≠ g10 := by omega
      have n2 : w.heap.size + 1 + 1 ≠ g10 := by omega
      by_cases hin : m < t.ng
      · obtain ⟨bb, off, rfl, hbs, hbb, hcell⟩ := hc (by omega)
        have hlb : bb < wr.heap.size := by have := kg.size; have := bl1.size; have := bl2.size; omega
        have nb : bb ≠ g10 := by omega
        have e0 : wr.cell? ⟨bb, off + m * 2, none⟩ = some (.int .i64 (t.g (m * 2))) := by
          rw [bg.cell (p := ⟨bb, off + m * 2, none⟩) hbs, bl2.cell (p := ⟨bb, off + m * 2, none⟩) hbs, bl1.cell (p := ⟨bb, off + m * 2, none⟩) hbs, bA.cell (p := ⟨bb, off + m * 2, none⟩) hbb]; exact hcell _ (by omega)
        have e1 : wr.cell? ⟨bb, off + m * 2 + 1, none⟩ = some (.int .i64 (t.g (m * 2 + 1))) := by
          rw [bg.cell (p := ⟨bb, off + m * 2 + 1, none⟩) hbs, bl2.cell (p := ⟨bb, off + m * 2 + 1, none⟩) hbs, bl1.cell (p := ⟨bb, off + m * 2 + 1, none⟩) hbs, bA.cell (p := ⟨bb, off + m * 2 + 1, none⟩) hbb, Nat.add_assoc]; exact hcell _ (by omega)
        have d0 : wr.cell? ⟨g10, m * 2, none⟩ = some (.int .i64 (t.g (m * 2))) := by rw [rg.cell (by omega), markC, if_neg (by omega), icell, cut, if_pos (by omega)]
        have d1 : wr.cell? ⟨g10, m * 2 + 1, none⟩ = some (.int .i64 (t.g (m * 2 + 1))) := by rw [rg.cell (by omega), markC, if_neg (by omega), icell, cut, if_pos (by omega)]
        generalize t.g (m * 2) = f0 at *
        generalize t.g (m * 2 + 1) = f1 at *
        clear hcell hc ha hb hd rG2 rT2 o10 o15 p10 p15 p5 q10 q15 q2 q3 q4 q5 q5' ht1 ht2 htA ht hWA tl1 tl2 rW1 rW2 k1 k2 bl1 bl2 h3 h4 h5 hW r2 r5 r10 r15 bA loc1 loc2 own3 own4 own5 own3' e33
        go_wp2_with fail
        have A2 : (wr.alloc (.cells #[.int .i64 f0, .int .i64 f1] 159)).cell? ⟨w.heap.size, 2, none⟩ = some (.slice (some ⟨g10, 0, none⟩) (t.ng + 1) (t.ng + 1)) := by rw [World.cell?_alloc_lt _ _ _ (by exact zGr)]; exact a2
        have D0 : (wr.alloc (.cells #[.int .i64 f0, .int .i64 f1] 159)).cell? ⟨g10, m * 2, none⟩ = some (.int .i64 f0) := by rw [World.cell?_alloc_lt _ _ _ (by exact zgr)]; exact d0
        have D1 : (wr.alloc (.cells #[.int .i64 f0, .int .i64 f1] 159)).cell? ⟨g10, m * 2 + 1, none⟩ = some (.int .i64 f1) := by rw [World.cell?_alloc_lt _ _ _ (by exact zgr)]; exact d1
        have R0 : (wr.alloc (.cells #[.int .i64 f0, .int .i64 f1] 159)).cell? ⟨wr.heap.size, 0, none⟩ = some (.int .i64 f0) := (rowIs_list wr [.int .i64 f0, .int .i64 f1] 159).cell (j := 0) (by simp)
        have R1 : (wr.alloc (.cells #[.int .i64 f0, .int .i64 f1] 159)).cell? ⟨wr.heap.size, 1, none⟩ = some (.int .i64 f1) := (rowIs_list wr [.int .i64 f0, .int .i64 f1] 159).cell (j := 1) (by simp)
        have rg' : RowIs (wr.alloc (.cells #[.int .i64 f0, .int .i64 f1] 159)) g10 159 ((t.ng + 1) * 2) _ := rg.alloc _
        have kg' : Keeps (fun b => b ≠ g10) w2 (wr.alloc (.cells #[.int .i64 f0, .int .i64 f1] 159)) := kg.alloc _
        have bg' : Below base w2 (wr.alloc (.cells #[.int .i64 f0, .int .i64 f1] 159)) := bg.alloc (by omega) _
        have FZ := rg'.frozen
        generalize (wr.alloc (.cells #[.int .i64 f0, .int .i64 f1] 159)) = wv at *
        clear rg kg bg a2 a3 d0 d1 hfz zGr zTr
        go_quiet (fail)
        go_wp2_with fail
        go_roundw
        case rel => exact ⟨m + 1, by omega, by go_num, ((((rg'.block rfl : RowIs (wv.drewN _) g10 159 _ _).setCell (m * 2) (.int .i64 (-7))).setCell (m * 2 + 1) (.int .i64 (-7)))).congr fun j _ => markC_step _ _ _ _, ((kg'.drewN _).setCell (by simp) _).setCell (by simp) _, ((below_drewN bg' _).setCell hbg10 _).setCell hbg10 _⟩
        case measure => simp [intOf]; omega
      · have hin' : decide (m < t.ng) = false := by simpa using hin
        have d0 : wr.cell? ⟨g10, m * 2, none⟩ = some (.int .i64 0) := by rw [rg.cell (by omega), markC, if_neg (by omega), icell, cut, if_neg (by omega)]
        have d1 : wr.cell? ⟨g10, m * 2 + 1, none⟩ = some (.int .i64 0) := by rw [rg.cell (by omega), markC, if_neg (by omega), icell, cut, if_neg (by omega)]
        clear hc ha hb hd rG2 rT2 o10 o15 p10 p15 p5 q10 q15 q2 q3 q4 q5 q5' ht1 ht2 htA ht hWA tl1 tl2 rW1 rW2 k1 k2 bl1 bl2 h3 h4 h5 hW r2 r5 r10 r15 bA loc1 loc2 own3 own4 own5 own3' e33
        go_wp2_with fail
        have A2 : (wr.alloc (.cells #[.int .i64 0, .int .i64 0] 159)).cell? ⟨w.heap.size, 2, none⟩ = some (.slice (some ⟨g10, 0, none⟩) (t.ng + 1) (t.ng + 1)) := by rw [World.cell?_alloc_lt _ _ _ (by exact zGr)]; exact a2
        have D0 : (wr.alloc (.cells #[.int .i64 0, .int .i64 0] 159)).cell? ⟨g10, m * 2, none⟩ = some (.int .i64 0) := by rw [World.cell?_alloc_lt _ _ _ (by exact zgr)]; exact d0
        have D1 : (wr.alloc (.cells #[.int .i64 0, .int .i64 0] 159)).cell? ⟨g10, m * 2 + 1, none⟩ = some (.int .i64 0) := by rw [World.cell?_alloc_lt _ _ _ (by exact zgr)]; exact d1
        have R0 : (wr.alloc (.cells #[.int .i64 0, .int .i64 0] 159)).cell? ⟨wr.heap.size, 0, none⟩ = some (.int .i64 0) := (rowIs_list wr [.int .i64 0, .int .i64 0] 159).cell (j := 0) (by simp)
        have R1 : (wr.alloc (.cells #[.int .i64 0, .int .i64 0] 159)).cell? ⟨wr.heap.size, 1, none⟩ = some (.int .i64 0) := (rowIs_list wr [.int .i64 0, .int .i64 0] 159).cell (j := 1) (by simp)
        have rg' : RowIs (wr.alloc (.cells #[.int .i64 0, .int .i64 0] 159)) g10 159 ((t.ng + 1) * 2) _ := rg.alloc _
        have kg' : Keeps (fun b => b ≠ g10) w2 (wr.alloc (.cells #[.int .i64 0, .int .i64 0] 159)) := kg.alloc _
        have bg' : Below base w2 (wr.alloc (.cells #[.int .i64 0, .int .i64 0] 159)) := bg.alloc (by omega) _
        have FZ := rg'.frozen
        generalize (wr.alloc (.cells #[.int .i64 0, .int .i64 0] 159)) = wv at *
        clear rg kg bg a2 a3 d0 d1 hfz zGr zTr
        go_quiet (fail)
        go_wp2_with fail
        go_roundw
        case rel => exact ⟨m + 1, by omega, by go_num, ((((rg'.block rfl : RowIs (wv.drewN _) g10 159 _ _).setCell (m * 2) (.int .i64 (-7))).setCell (m * 2 + 1) (.int .i64 (-7)))).congr fun j _ => markC_step _ _ _ _, ((kg'.drewN _).setCell (by simp) _).setCell (by simp) _, ((below_drewN bg' _).setCell hbg10 _).setCell hbg10 _⟩
        case measure => simp [intOf]; omega
    · have hmn' : decide (m < t.ng + 1) = false := by simpa using hmn
      have m10 : RowIs wr g10 159 ((t.ng + 1) * 2) (icell (fun _ => -7)) := rg.congr fun j hj => if_pos (by omega)
      have m15 : RowIs wr g15 161 ((t.nc + 1) * 4) (icell (cut (t.nc * 4) t.c)) := o15.block (kg.block g15 (o15.apart o10 (by decide)) o15.lt)
      have rGM := rG2.block (kg.block _ (by omega) zG2)
      have rTM := rT2.block (kg.block _ (by omega) zT2)
      clear a3 rg zTr zgr
      obtain ⟨wM, hwM⟩ : ∃ x, x = wr := ⟨_, rfl⟩
      subst hwM
      have kM := kg
      have bM := bg
      clear kg bg
      go_wp2_with fail
      clear hmn' hmn hm a2 zGr
      go_loopw [13] (fun i wq => ∃ m : Nat, m ≤ t.nc + 1 ∧ i = .int .i64 m ∧ RowIs wq g15 161 ((t.nc + 1) * 4) (mark4 m (icell (cut (t.nc * 4) t.c))) ∧ Keeps (fun b => b ≠ g15) wM wq ∧ Below base wM wq) (fun i _ => t.nc + 1 - (intOf i).toNat)
      case atStart => exact ⟨0, Nat.zero_le _, rfl, m15.congr (fun j _ => (if_neg (by omega)).symm), Keeps.refl _ _, Below.refl _ _⟩
      case round =>
        obtain ⟨m, hm, rfl, rg, kg, bg⟩ := hrel
        have zGM := rGM.lt
        have zTM := rTM.lt
        have a2 : wr.cell? ⟨w.heap.size, 3, none⟩ = some (.slice (some ⟨g15, 0, none⟩) (t.nc + 1) (t.nc + 1)) := by rw [kg.cell (b := w.heap.size) (by omega) zGM]; exact rGM.cell (j := 3) (by omega)
        have a3 : wr.cell? ⟨w.heap.size + 1 + 1, 3, none⟩ = some (.slice ad t.nc pd) := by rw [kg.cell (b := w.heap.size + 1 + 1) (by omega) zTM]; exact rTM.cell (j := 3) (by omega)
        have zGr : w.heap.size < wr.heap.size := by have := kg.size; omega
        have zTr : w.heap.size + 1 + 1 < wr.heap.size := by have := kg.size; omega
        have zgr := rg.lt
        by_cases hmn : m < t.nc + 1
        · have hfz := rg.frozen
          have n1 : w.heap.size ≠ g15 := by omega
          have n2 : w.heap.size + 1 + 1 ≠ g15 := by omega
          by_cases hin : m < t.nc
          · obtain ⟨bb, off, rfl, hbs, hbb, hcell⟩ := hd (by omega)
            have hlb : bb < wr.heap.size := by have := kg.size; have := kM.size; have := bl1.size; have := bl2.size; omega
            have nb : bb ≠ g15 := by omega
            have e0 : wr.cell? ⟨bb, off + m * 4, none⟩ = some (.int .i64 (t.c (m * 4))) := by rw [bg.cell (p := ⟨bb, off + m * 4, none⟩) hbs, bM.cell (p := ⟨bb, off + m * 4, none⟩) hbs, bl2.cell (p := ⟨bb, off + m * 4, none⟩) hbs, bl1.cell (p := ⟨bb, off + m * 4, none⟩) hbs, bA.cell (p := ⟨bb, off + m * 4, none⟩) hbb]; exact hcell _ (by omega)
            have e1 : wr.cell? ⟨bb, off + m * 4 + 1, none⟩ = some (.int .i64 (t.c (m * 4 + 1))) := by rw [bg.cell (p := ⟨bb, off + m * 4 + 1, none⟩) hbs, bM.cell (p := ⟨bb, off + m * 4 + 1, none⟩) hbs, bl2.cell (p := ⟨bb, off + m * 4 + 1, none⟩) hbs, bl1.cell (p := ⟨bb, off + m * 4 + 1, none⟩) hbs, bA.cell (p := ⟨bb, off + m * 4 + 1, none⟩) hbb, Nat.add_assoc]; exact hcell _ (by omega)
            have e2 : wr.cell? ⟨bb, off + m * 4 + 2, none⟩ = some (.int .i64 (t.c (m * 4 + 2))) := by rw [bg.cell (p := ⟨bb, off + m * 4 + 2, none⟩) hbs, bM.cell (p := ⟨bb, off + m * 4 + 2, none⟩) hbs, bl2.cell (p := ⟨bb, off + m * 4 + 2, none⟩) hbs, bl1.cell (p := ⟨bb, off + m * 4 + 2, none⟩) hbs, bA.cell (p := ⟨bb, off + m * 4 + 2, none⟩) hbb, Nat.add_assoc]; exact hcell _ (by omega)
            have e3 : wr.cell? ⟨bb, off + m * 4 + 3, none⟩ = some (.int .i64 (t.c (m * 4 + 3))) := by rw [bg.cell (p := ⟨bb, off + m * 4 + 3, none⟩) hbs, bM.cell (p := ⟨bb, off + m * 4 + 3, none⟩) hbs, bl2.cell (p := ⟨bb, off + m * 4 + 3, none⟩) hbs, bl1.cell (p := ⟨bb, off + m * 4 + 3, none⟩) hbs, bA.cell (p := ⟨bb, off + m * 4 + 3, none⟩) hbb, Nat.add_assoc]; exact hcell _ (by omega)
            have d0 : wr.cell? ⟨g15, m * 4, none⟩ = some (.int .i64 (t.c (m * 4))) := by rw [rg.cell (by omega), mark4, if_neg (by omega), icell, cut, if_pos (by omega)]
            have d1 : wr.cell? ⟨g15, m * 4 + 1, none⟩ = some (.int .i64 (t.c (m * 4 + 1))) := by rw [rg.cell (by omega), mark4, if_neg (by omega), icell, cut, if_pos (by omega)]
            have d2 : wr.cell? ⟨g15, m * 4 + 2, none⟩ = some (.int .i64 (t.c (m * 4 + 2))) := by rw [rg.cell (by omega), mark4, if_neg (by omega), icell, cut, if_pos (by omega)]
            have d3 : wr.cell? ⟨g15, m * 4 + 3, none⟩ = some (.int .i64 (t.c (m * 4 + 3))) := by rw [rg.cell (by omega), mark4, if_neg (by omega), icell, cut, if_pos (by omega)]
            generalize t.c (m * 4) = f0 at *
            generalize t.c (m * 4 + 1) = f1 at *
            generalize t.c (m * 4 + 2) = f2 at *
            generalize t.c (m * 4 + 3) = f3 at *
            clear hcell hc ha hb hd zGM zTM rG2 rT2 o10 o15 p10 p15 p5 q10 q15 q2 q3 q4 q5 q5' ht1 ht2 htA ht hWA tl1 tl2 rW1 rW2 k1 k2 bl1 bl2 h3 h4 h5 hW r2 r5 r10 r15 bA loc1 loc2 own3 own4 own5 own3' e33 m15 m10 kM bM rGM rTM
            go_wp2_with fail
            have A3 : (wr.alloc (.cells #[.int .i64 f0, .int .i64 f1, .int .i64 f2, .int .i64 f3] 161)).cell? ⟨w.heap.size, 3, none⟩ = some (.slice (some ⟨g15, 0, none⟩) (t.nc + 1) (t.nc + 1)) := by rw [World.cell?_alloc_lt _ _ _ (by exact zGr)]; exact a2
            have D0 : (wr.alloc (.cells #[.int .i64 f0, .int .i64 f1, .int .i64 f2, .int .i64 f3] 161)).cell? ⟨g15, m * 4, none⟩ = some (.int .i64 f0) := by rw [World.cell?_alloc_lt _ _ _ (by exact zgr)]; exact d0
            have D1 : (wr.alloc (.cells #[.int .i64 f0, .int .i64 f1, .int .i64 f2, .int .i64 f3] 161)).cell? ⟨g15, m * 4 + 1, none⟩ = some (.int .i64 f1) := by rw [World.cell?_alloc_lt _ _ _ (by exact zgr)]; exact d1
            have D2 : (wr.alloc (.cells #[.int .i64 f0, .int .i64 f1, .int .i64 f2, .int .i64 f3] 161)).cell? ⟨g15, m * 4 + 2, none⟩ = some (.int .i64 f2) := by rw [World.cell?_alloc_lt _ _ _ (by exact zgr)]; exact d2
            have D3 : (wr.alloc (.cells #[.int .i64 f0, .int .i64 f1, .int .i64 f2, .int .i64 f3] 161)).cell? ⟨g15, m * 4 + 3, none⟩ = some (.int .i64 f3) := by rw [World.cell?_alloc_lt _ _ _ (by exact zgr)]; exact d3
            have R0 : (wr.alloc (.cells #[.int .i64 f0, .int .i64 f1, .int .i64 f2, .int .i64 f3] 161)).cell? ⟨wr.heap.size, 0, none⟩ = some (.int .i64 f0) := (rowIs_list wr [.int .i64 f0, .int .i64 f1, .int .i64 f2, .int .i64 f3] 161).cell (j := 0) (by simp)
            have R1 : (wr.alloc (.cells #[.int .i64 f0, .int .i64 f1, .int .i64 f2, .int .i64 f3] 161)).cell? ⟨wr.heap.size, 1, none⟩ = some (.int .i64 f1) := (rowIs_list wr [.int .i64 f0, .int .i64 f1, .int .i64 f2, .int .i64 f3] 161).cell (j := 1) (by simp)
            have R2 : (wr.alloc (.cells #[.int .i64 f0, .int .i64 f1, .int .i64 f2, .int .i64 f3] 161)).cell? ⟨wr.heap.size, 2, none⟩ = some (.int .i64 f2) := (rowIs_list wr [.int .i64 f0, .int .i64 f1, .int .i64 f2, .int .i64 f3] 161).cell (j := 2) (by simp)
            have R3 : (wr.alloc (.cells #[.int .i64 f0, .int .i64 f1, .int .i64 f2, .int .i64 f3] 161)).cell? ⟨wr.heap.size, 3, none⟩ = some (.int .i64 f3) := (rowIs_list wr [.int .i64 f0, .int .i64 f1, .int .i64 f2, .int .i64 f3] 161).cell (j := 3) (by simp)
            have rg' : RowIs (wr.alloc (.cells #[.int .i64 f0, .int .i64 f1, .int .i64 f2, .int .i64 f3] 161)) g15 161 ((t.nc + 1) * 4) _ := rg.alloc _
            have kg' : Keeps (fun b => b ≠ g15) wM (wr.alloc (.cells #[.int .i64 f0, .int .i64 f1, .int .i64 f2, .int .i64 f3] 161)) := kg.alloc _
            have bg' : Below base wM (wr.alloc (.cells #[.int .i64 f0, .int .i64 f1, .int .i64 f2, .int .i64 f3] 161)) := bg.alloc (by omega) _
            have FZ := rg'.frozen
            generalize (wr.alloc (.cells #[.int .i64 f0, .int .i64 f1, .int .i64 f2, .int .i64 f3] 161)) = wv at *
            clear rg kg bg a2 a3 d0 d1 d2 d3 hfz zGr zTr
            go_quiet (fail)
            go_wp2_with fail
            go_roundw
            case rel => exact ⟨m + 1, by omega, by go_num, ((((((rg'.block rfl : RowIs (wv.drewN _) g15 161 _ _).setCell (m * 4) (.int .i64 (-7))).setCell (m * 4 + 1) (.int .i64 0)).setCell (m * 4 + 2) (.int .i64 0)).setCell (m * 4 + 3) (.int .i64 0))).congr fun j _ => mark4_step _ _ _, ((((kg'.drewN _).setCell (by simp) _).setCell (by simp) _).setCell (by simp) _).setCell (by simp) _, ((((below_drewN bg' _).setCell hbg15 _).setCell hbg15 _).setCell hbg15 _).setCell hbg15 _⟩
            case measure => simp [intOf]; omega
          · have hin' : decide (m < t.nc) = false := by simpa using hin
            have d0 : wr.cell? ⟨g15, m * 4, none⟩ = some (.int .i64 0) := by rw [rg.cell (by omega), mark4, if_neg (by omega), icell, cut, if_neg (by omega)]
            have d1 : wr.cell? ⟨g15, m * 4 + 1, none⟩ = some (.int .i64 0) := by rw [rg.cell (by omega), mark4, if_neg (by omega), icell, cut, if_neg (by omega)]
            have d2 : wr.cell? ⟨g15, m * 4 + 2, none⟩ = some (.int .i64 0) := by rw [rg.cell (by omega), mark4, if_neg (by omega), icell, cut, if_neg (by omega)]
            have d3 : wr.cell? ⟨g15, m * 4 + 3, none⟩ = some (.int .i64 0) := by rw [rg.cell (by omega), mark4, if_neg (by omega), icell, cut, if_neg (by omega)]
            clear hc ha hb hd zGM zTM rG2 rT2 o10 o15 p10 p15 p5 q10 q15 q2 q3 q4 q5 q5' ht1 ht2 htA ht hWA tl1 tl2 rW1 rW2 k1 k2 bl1 bl2 h3 h4 h5 hW r2 r5 r10 r15 bA loc1 loc2 own3 own4 own5 own3' e33 m15 m10 kM bM rGM rTM
            go_wp2_with fail
            have A3 : (wr.alloc (.cells #[.int .i64 0, .int .i64 0, .int .i64 0, .int .i64 0] 161)).cell? ⟨w.heap.size, 3, none⟩ = some (.slice (some ⟨g15, 0, none⟩) (t.nc + 1) (t.nc + 1)) := by rw [World.cell?_alloc_lt _ _ _ (by exact zGr)]; exact a2
            have D0 : (wr.alloc (.cells #[.int .i64 0, .int .i64 0, .int .i64 0, .int .i64 0] 161)).cell? ⟨g15, m * 4, none⟩ = some (.int .i64 0) := by rw [World.cell?_alloc_lt _ _ _ (by exact zgr)]; exact d0
            have D1 : (wr.alloc (.cells #[.int .i64 0, .int .i64 0, .int .i64 0, .int .i64 0] 161)).cell? ⟨g15, m * 4 + 1, none⟩ = some (.int .i64 0) := by rw [World.cell?_alloc_lt _ _ _ (by exact zgr)]; exact d1
            have D2 : (wr.alloc (.cells #[.int .i64 0, .int .i64 0, .int .i64 0, .int .i64 0] 161)).cell? ⟨g15, m * 4 + 2, none⟩ = some (.int .i64 0) := by rw [World.cell?_alloc_lt _ _ _ (by exact zgr)]; exact d2
            have D3 : (wr.alloc (.cells #[.int .i64 0, .int .i64 0, .int .i64 0, .int .i64 0] 161)).cell? ⟨g15, m * 4 + 3, none⟩ = some (.int .i64 0) := by rw [World.cell?_alloc_lt _ _ _ (by exact zgr)]; exact d3
            have R0 : (wr.alloc (.cells #[.int .i64 0, .int .i64 0, .int .i64 0, .int .i64 0] 161)).cell? ⟨wr.heap.size, 0, none⟩ = some (.int .i64 0) := (rowIs_list wr [.int .i64 0, .int .i64 0, .int .i64 0, .int .i64 0] 161).cell (j := 0) (by simp)
            have R1 : (wr.alloc (.cells #[.int .i64 0, .int .i64 0, .int .i64 0, .int .i64 0] 161)).cell? ⟨wr.heap.size, 1, none⟩ = some (.int .i64 0) := (rowIs_list wr [.int .i64 0, .int .i64 0, .int .i64 0, .int .i64 0] 161).cell (j := 1) (by simp)
            have R2 : (wr.alloc (.cells #[.int .i64 0, .int .i64 0, .int .i64 0, .int .i64 0] 161)).cell? ⟨wr.heap.size, 2, none⟩ = some (.int .i64 0) := (rowIs_list wr [.int .i64 0, .int .i64 0, .int .i64 0, .int .i64 0] 161).cell (j := 2) (by simp)
            have R3 : (wr.alloc (.cells #[.int .i64 0, .int .i64 0, .int .i64 0, .int .i64 0] 161)).cell? ⟨wr.heap.size, 3, none⟩ = some (.int .i64 0) := (rowIs_list wr [.int .i64 0, .int .i64 0, .int .i64 0, .int .i64 0] 161).cell (j := 3) (by simp)
            have rg' : RowIs (wr.alloc (.cells #[.int .i64 0, .int .i64 0, .int .i64 0, .int .i64 0] 161)) g15 161 ((t.nc + 1) * 4) _ := rg.alloc _
            have kg' : Keeps (fun b => b ≠ g15) wM (wr.alloc (.cells #[.int .i64 0, .int .i64 0, .int .i64 0, .int .i64 0] 161)) := kg.alloc _
            have bg' : Below base wM (wr.alloc (.cells #[.int .i64 0, .int .i64 0, .int .i64 0, .int .i64 0] 161)) := bg.alloc (by omega) _
            have FZ := rg'.frozen
            generalize (wr.alloc (.cells #[.int .i64 0, .int .i64 0, .int .i64 0, .int .i64 0] 161)) = wv at *
            clear rg kg bg a2 a3 d0 d1 d2 d3 hfz zGr zTr
            go_quiet (fail)
            go_wp2_with fail
            go_roundw
            case rel => exact ⟨m + 1, by omega, by go_num, ((((((rg'.block rfl : RowIs (wv.drewN _) g15 161 _ _).setCell (m * 4) (.int .i64 (-7))).setCell (m * 4 + 1) (.int .i64 0)).setCell (m * 4 + 2) (.int .i64 0)).setCell (m * 4 + 3) (.int .i64 0))).congr fun j _ => mark4_step _ _ _, ((((kg'.drewN _).setCell (by simp) _).setCell (by simp) _).setCell (by simp) _).setCell (by simp) _, ((((below_drewN bg' _).setCell hbg15 _).setCell hbg15 _).setCell hbg15 _).setCell hbg15 _⟩
            case measure => simp [intOf]; omega
        · have hmn' : decide (m < t.nc + 1) = false := by simpa using hmn
          have m15' : RowIs wr g15 161 ((t.nc + 1) * 4) (icell codeF) := rg.congr fun j hj => if_pos (by omega)
          have n15W : g15 ≠ W := fun e => hWA.apart q15 (by decide) e.symm
          have n10W : g10 ≠ W := fun e => hWA.apart q10 (by decide) e.symm
          have n1015 : g10 ≠ g15 := q10.apart q15 (by decide)
          have m10' : RowIs wr g10 159 ((t.ng + 1) * 2) (icell (fun _ => -7)) := m10.block (kg.block g10 n1015 m10.lt)
          have szM := kM.size
          have szR := kg.size
          have KA : Keeps (fun b => b ≠ W ∧ b ≠ g2 ∧ b ≠ g5 ∧ b ≠ g10 ∧ b ≠ g15 ∧ (cW 3).ownBlock ≠ some b) wA wr := ⟨by omega, fun b ⟨h0, h2, h5, h10, h15, ho⟩ hl => by
            rw [kg.block b h15 (by omega), kM.block b h10 (by omega), k2.block b ⟨h0, h5, fun e => by
              rcases loc1 with e' | ⟨b', e', hb'⟩
              · exact ho (by rw [← e']; exact e)
              · rw [e'] at e; injection e with e; omega⟩ (by omega), k1.block b ⟨h0, h2, ho⟩ hl]⟩
          have KB : Keeps (fun b => b ≠ g10 ∧ b ≠ g15) w2 wr := (kM.mono fun b h => h.1).trans (kg.mono fun b h => h.2)
          have bR : Below base w wr := (((bA.mono (by omega)).trans bl1).trans bl2).trans (bM.trans bg)
          have T3 : TL wr base (fun b => (b < L ∨ b = g2) ∨ b = g5) 22 3 1 (fun _ => -7) v3' (k3 + 1 + 1) := tl2.keep KB (fun g hg => by
            obtain ⟨_, ho, _⟩ := tl2
            exact ⟨fun e => ho.apart o10 (by decide) (by rw [hg, e]), fun e => ho.apart o15 (by decide) (by rw [hg, e])⟩) (fun g m c _ hr => ⟨hr.apart o10 (by decide), hr.apart o15 (by decide)⟩)
          have T4 : TL wr base (· < L) 86 159 2 (fun _ => -7) (cW 4) k4 := q4.keep KA (fun g hg => by
            obtain ⟨_, ho, _⟩ := q4
            obtain ⟨_, ho3, _⟩ := q3
            exact ⟨fun e => ho.apart hWA (by decide) (by rw [hg, e]), fun e => ho.apart q2 (by decide) (by rw [hg, e]), fun e => ho.apart q5 (by decide) (by rw [hg, e]), fun e => ho.apart q10 (by decide) (by rw [hg, e]), fun e => ho.apart q15 (by decide) (by rw [hg, e]), ho.apart2 ho3 (by decide) hg⟩) (fun g m c hL hr => by
            obtain ⟨_, ho3, _⟩ := q3
            exact ⟨hr.apart hWA (by decide), hr.apart q2 (by decide), hr.apart q5 (by decide), by omega, hr.apart q15 (by decide), ho3.apart hr (by decide)⟩)
          have T5 : TL wr base (· < L) 87 161 4 codeF (cW 5) k4 := q5'.keep KA (fun g hg => by
            obtain ⟨_, ho, _⟩ := q5'
            obtain ⟨_, ho3, _⟩ := q3
            exact ⟨fun e => ho.apart hWA (by decide) (by rw [hg, e]), fun e => ho.apart q2 (by decide) (by rw [hg, e]), fun e => ho.apart q5 (by decide) (by rw [hg, e]), fun e => ho.apart q10 (by decide) (by rw [hg, e]), fun e => ho.apart q15 (by decide) (by rw [hg, e]), ho.apart2 ho3 (by decide) hg⟩) (fun g m c hL hr => by
            obtain ⟨_, ho3, _⟩ := q3
            exact ⟨hr.apart hWA (by decide), hr.apart q2 (by decide), hr.apart q5 (by decide), hr.apart q10 (by decide), by omega, ho3.apart hr (by decide)⟩)
          have RW : RowIs wr W 37 9 (upd cW 3 v3') := ((rW2.block (KB.block W ⟨fun e => n10W e.symm, fun e => n15W e.symm⟩ rW2.lt))).congr fun j _ => by
            simp only [upd]; split <;> rfl
          have rGr := rGM.block (kg.block _ (by omega) rGM.lt)
          have o3W : v3'.ownBlock = (cW 3).ownBlock ∨ ∃ b, v3'.ownBlock = some b ∧ wA.heap.size ≤ b := by
            rcases loc2 with e | ⟨b, e, hb⟩
            · rcases loc1 with e' | ⟨b, e', hb⟩
              · exact .inl (e.trans e')
              · exact .inr ⟨b, e.trans e', hb⟩
            · exact .inr ⟨b, e, by omega⟩
          have KW : Keeps (RS W L L' cW) w wr := (Keeps.of_below bA).trans (KA.mono fun b ⟨h1, h2, h3, h4, h5⟩ => ⟨h1, by omega, by omega, by omega, by omega, h3⟩)
          have dr : Below wr.heap.size wr wr.drew := (Below.refl _ _).drew
          obtain ⟨v4, w4, A4, C4, hv4, ap4, c4, f4, rW4, tl4, kp4, bl4, loc4⟩ := TL.push (w := wr.drew) (q := 4) (t := 33) (cW := upd cW 3 v3') (g := g10) (m := t.ng + 1) (T4.below dr) (by decide) (by decide) (by decide) Tryz.underlying33 elem44 rfl (RW.below dr) (by omega) (by omega) hbW (by omega) (by omega) (m10'.below dr)
          have T5' : TL (w4.setCell ⟨W, 4, none⟩ v4) base (· < L) 87 161 4 codeF (cW 5) k4 := (T5.below dr).keep kp4 (fun g hg => by
            obtain ⟨_, ho, _⟩ := T5
            obtain ⟨_, ho4, _⟩ := T4
            exact ⟨fun e => ho.apart RW (by decide) (by rw [hg, e]), ho.apart2 ho4 (by decide) hg⟩) (fun g m c hL hr => by
            obtain ⟨_, ho4, _⟩ := T4.below dr
            exact ⟨hr.apart (RW.below dr) (by decide), ho4.apart hr (by decide)⟩)
          have T3' : TL (w4.setCell ⟨W, 4, none⟩ v4) base (fun b => (b < L ∨ b = g2) ∨ b = g5) 22 3 1 (fun _ => -7) v3' (k3 + 1 + 1) := (T3.below dr).keep kp4 (fun g hg => by
            obtain ⟨_, ho, _⟩ := T3
            obtain ⟨_, ho4, _⟩ := T4
            exact ⟨fun e => ho.apart RW (by decide) (by rw [hg, e]), ho.apart2 ho4 (by decide) hg⟩) (fun g m c hL hr => by
            obtain ⟨_, ho4, _⟩ := T4.below dr
            exact ⟨hr.apart (RW.below dr) (by decide), ho4.apart hr (by decide)⟩)
          have own4w : ∀ b, (cW 4).ownBlock = some b → b < w.heap.size := own4
          have rG4 := (rGr.below dr).block (kp4.block _ ⟨by omega, fun e => by have := own4 _ e; omega⟩ (rGr.below dr).lt)
          have m15'' := (m15'.below dr).block (kp4.block _ ⟨n15W, fun e => by obtain ⟨_, ho4, _⟩ := T4.below dr; exact ho4.apart (m15'.below dr) (by decide) e⟩ (m15'.below dr).lt)
          have dr5 : Below (w4.setCell ⟨W, 4, none⟩ v4).heap.size (w4.setCell ⟨W, 4, none⟩ v4) (w4.setCell ⟨W, 4, none⟩ v4).drew := (Below.refl _ _).drew
          obtain ⟨v5, w5, A5, C5, hv5, ap5, c5, f5, rW5, tl5, kp5, bl5, loc5⟩ := TL.push (w := (w4.setCell ⟨W, 4, none⟩ v4).drew) (q := 5) (t := 34) (cW := upd (upd cW 3 v3') 4 v4) (g := g15) (m := t.nc + 1) (T5'.below dr5) (by decide) (by decide) (by decide) Tryz.underlying34 elem45 rfl (rW4.below dr5) (by omega) (by omega) hbW (by omega) (by omega) (m15''.below dr5)
          have e4 : upd cW 3 v3' 4 = cW 4 := upd_other _ _ (by decide)
          have e5 : upd (upd cW 3 v3') 4 v4 5 = cW 5 := by rw [upd_other _ _ (by decide), upd_other _ _ (by decide)]
          rw [e4] at ap4 c4 kp4 loc4
          rw [e5] at ap5 c5 kp5 loc5
          obtain ⟨Ac, Cc, hc4⟩ := h4.slice
          obtain ⟨Ad, Cd, hc5⟩ := h5.slice
          have KK : Keeps (fun b => b ≠ W ∧ (cW 4).ownBlock ≠ some b ∧ (cW 5).ownBlock ≠ some b) wr (w5.setCell ⟨W, 5, none⟩ v5) := ((Keeps.of_below dr).trans (kp4.mono fun b h => ⟨h.1, h.2.1⟩)).trans ((Keeps.of_below dr5).trans (kp5.mono fun b h => ⟨h.1, h.2.2⟩))
          have fin : ∃ cW', RowIs (w5.setCell ⟨W, 5, none⟩ v5) W 37 9 cW' ∧ (∀ j, j ≠ 3 → j ≠ 4 → j ≠ 5 → cW' j = cW j) ∧ TL (w5.setCell ⟨W, 5, none⟩ v5) base (· < L') 22 3 1 (fun _ => -7) (cW' 3) (k3 + 2) ∧ TL (w5.setCell ⟨W, 5, none⟩ v5) base (· < L') 86 159 2 (fun _ => -7) (cW' 4) (k4 + 1) ∧ TL (w5.setCell ⟨W, 5, none⟩ v5) base (· < L') 87 161 4 codeF (cW' 5) (k4 + 1) ∧
              Keeps (RS W L L' cW) w (w5.setCell ⟨W, 5, none⟩ v5) ∧ Below base w (w5.setCell ⟨W, 5, none⟩ v5) ∧ (∀ q, q = 3 ∨ q = 4 ∨ q = 5 → (cW' q).ownBlock = (cW q).ownBlock ∨ ∃ b, (cW' q).ownBlock = some b ∧ w.heap.size ≤ b) := by
            have E3 : upd (upd (upd cW 3 v3') 4 v4) 5 v5 3 = v3' := by simp [upd]
            have E4 : upd (upd (upd cW 3 v3') 4 v4) 5 v5 4 = v4 := by simp [upd]
            have E5 : upd (upd (upd cW 3 v3') 4 v4) 5 v5 5 = v5 := by simp [upd]
            refine ⟨_, rW5, fun j j3 j4 j5 => by rw [upd_other _ _ j5, upd_other _ _ j4, upd_other _ _ j3], ?_, ?_, ?_, ?_, ?_, ?_⟩
            · rw [E3]
              refine (((T3'.below dr5).keep kp5 (fun g hg => ?_) (fun g m c hL hr => ?_))).mono fun b h => ?_
              · obtain ⟨_, ho, _⟩ := T3'.below dr5
                obtain ⟨_, ho5, _⟩ := T5'.below dr5
                exact ⟨fun e => ho.apart (rW4.below dr5) (by decide) (by rw [hg, e]), ho.apart2 ho5 (by decide) hg⟩
              · obtain ⟨_, ho5, _⟩ := T5'.below dr5
                exact ⟨hr.apart (rW4.below dr5) (by decide), ho5.apart hr (by decide)⟩
              · rcases h with (h | h) | h
                · exact Nat.lt_of_lt_of_le h (Nat.le_of_lt (Nat.lt_of_le_of_lt l2.1 l2.2))
                · rw [h]; exact l2.2
                · rw [h]; exact l5.2
            · rw [E4]
              refine (((tl4.below dr5).keep kp5 (fun g hg => ?_) (fun g m c hL hr => ?_))).mono fun b h => ?_
              · obtain ⟨_, ho, _⟩ := tl4.below dr5
                obtain ⟨_, ho5, _⟩ := T5'.below dr5
                exact ⟨fun e => ho.apart (rW4.below dr5) (by decide) (by rw [hg, e]), ho.apart2 ho5 (by decide) hg⟩
              · obtain ⟨_, ho5, _⟩ := T5'.below dr5
                exact ⟨hr.apart (rW4.below dr5) (by decide), ho5.apart hr (by decide)⟩
              · rcases h with h | h
                · exact Nat.lt_of_lt_of_le h (Nat.le_of_lt (Nat.lt_of_le_of_lt l2.1 l2.2))
                · rw [h]; exact l10.2
            · rw [E5]
              refine tl5.mono fun b h => ?_
              rcases h with h | h
              · exact Nat.lt_of_lt_of_le h (Nat.le_of_lt (Nat.lt_of_le_of_lt l2.1 l2.2))
              · rw [h]; exact l15.2
            · exact KW.trans (KK.mono fun b h => ⟨h.1, h.2.2.2.1, h.2.2.2.2⟩)
            · exact ((bR.drew).trans bl4).drew.trans bl5
            · have hle : w.heap.size ≤ wr.heap.size := KW.size
              have hle2 : wr.heap.size ≤ (w4.setCell ⟨W, 4, none⟩ v4).heap.size := kp4.size
              rintro q (rfl | rfl | rfl)
              · rw [E3]; exact o3W.imp id fun ⟨b, h1, h2⟩ => ⟨b, h1, Nat.le_trans bA.size h2⟩
              · rw [E4]; exact loc4.imp id fun ⟨b, h1, h2⟩ => ⟨b, h1, Nat.le_trans hle h2⟩
              · rw [E5]; exact loc5.imp id fun ⟨b, h1, h2⟩ => ⟨b, h1, Nat.le_trans hle (Nat.le_trans hle2 h2)⟩
          have W4 : wr.cell? ⟨W, 4, none⟩ = some (.slice Ac k4 Cc) := by rw [RW.cell (by omega), e4, hc4]
          have W5 : (w4.setCell ⟨W, 4, none⟩ v4).cell? ⟨W, 5, none⟩ = some (.slice Ad k4 Cd) := by rw [rW4.cell (by omega), e5, hc5]
          have G4 : wr.cell? ⟨w.heap.size, 2, none⟩ = some (.slice (some ⟨g10, 0, none⟩) (t.ng + 1) (t.ng + 1)) := rGr.cell (j := 2) (by omega)
          have G5 : (w4.setCell ⟨W, 4, none⟩ v4).cell? ⟨w.heap.size, 3, none⟩ = some (.slice (some ⟨g15, 0, none⟩) (t.nc + 1) (t.nc + 1)) := rG4.cell (j := 3) (by omega)
          have zWr := RW.lt
          have zGr5 := rG4.lt
          have zW5 := rW4.lt
          rw [hc4] at ap4 c4
          rw [hc5] at ap5 c5
          subst hv4 hv5
          clear KK KW KA KB T3 T4 T5 T3' T5' tl4 tl5 rW4 rW5 kp4 kp5 bl4 bl5 loc4 loc5 RW rGr rG4 m15'' m15' m10' m10 m15 rg kg bg kM bM rGM rTM rG2 rT2 o10 o15 p10 p15 p5 q10 q15 q2 q3 q4 q5 q5' ht1 ht2 htA ht hWA tl1 tl2 rW1 rW2 k1 k2 bl1 bl2 h3 h4 h5 hW r2 r5 r10 r15 bA loc1 loc2 own3 own4 own5 own3' e33 hc ha hb hd hc4 hc5 e4 e5 dr dr5 bR o3W own4w
          go_wp2_with fail
          go_cut [] (fun wq => wq = w4.setCell ⟨W, 4, none⟩ (.slice A4 (k4 + 1) C4))
          case first =>
            clear W5 G5 zW5 zGr5 ap5 c5 f5 fin
            go_region_law (refine step_of_run rfl _ _ 33 rfl _ _ rfl rfl _ _ ap4 ?_)
            all_goals go_wp2_with fail
            all_goals go_meet
            all_goals rfl
          case rest =>
            subst hcut
            clear W4 G4 ap4 c4 f4
            generalize w4.setCell ⟨W, 4, none⟩ (.slice A4 (k4 + 1) C4) = wq at *
            go_wp2_with fail
            go_region_law (refine step_of_run rfl _ _ 34 rfl _ _ rfl rfl _ _ ap5 ?_)
            all_goals go_wp2_with fail
            all_goals go_ret
            all_goals exact ⟨rfl, fin⟩
end Go.Proofs.YtldeiiffabfmeaaGreatDoor
