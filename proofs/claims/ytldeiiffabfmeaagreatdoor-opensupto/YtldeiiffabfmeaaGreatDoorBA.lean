/- opens: New of both, of lists of the caller's. -/
import Derived.Test.YtldeiiffabfmeaaGreatDoorBE
import Derived.Deep.Cut
import Derived.BigQuiet
import Derived.Deep.DeepCutAuto
set_option linter.unusedVariables false
set_option linter.unusedSimpArgs false
namespace Go.Proofs.YtldeiiffabfmeaaGreatDoor
open Go.RowKit

/-- What stays as it is while the log is lent. -/
structure Kept0 (w wL wq : World) (W M0 BR CB nb : Nat) (fb : Nat → Int) (vM vC : List Value) : Prop where
  m : RowIs wq M0 28 6 (lc vM)
  b : RowIs wq BR 3 (nb + 1) (icell (cut nb fb))
  c : RowIs wq CB 24 4 (lc vC)
  x : RowIs wq W 37 9 (lc nil9)
  bl : Below M0 w wq
  sz : wL.heap.size ≤ wq.heap.size
theorem Kept0.below {w wL wq w' : World} {W M0 BR CB nb : Nat} {fb : Nat → Int} {vM vC : List Value} (h : Kept0 w wL wq W M0 BR CB nb fb vM vC) (hb : Below wq.heap.size wq w') (hM : M0 ≤ wL.heap.size) : Kept0 w wL w' W M0 BR CB nb fb vM vC :=
  ⟨h.m.below hb, h.b.below hb, h.c.below hb, h.x.below hb, h.bl.trans (hb.mono (Nat.le_trans hM h.sz)), Nat.le_trans h.sz hb.size⟩
theorem Kept0.keep {w wL wq w' : World} {W M0 BR CB nb : Nat} {fb : Nat → Int} {vM vC : List Value} {S : Nat → Prop} (h : Kept0 w wL wq W M0 BR CB nb fb vM vC) (hk : Keeps S wq w') (hb : Below M0 wq w') (hS : ∀ b T m c, b = M0 ∨ b = BR ∨ b = CB ∨ b = W → T = 28 ∨ T = 3 ∨ T = 24 ∨ T = 37 → RowIs wq b T m c → S b) : Kept0 w wL w' W M0 BR CB nb fb vM vC :=
  ⟨h.m.block (hk.block _ (hS _ _ _ _ (.inl rfl) (.inl rfl) h.m) h.m.lt), h.b.block (hk.block _ (hS _ _ _ _ (.inr (.inl rfl)) (.inr (.inl rfl)) h.b) h.b.lt), h.c.block (hk.block _ (hS _ _ _ _ (.inr (.inr (.inl rfl))) (.inr (.inr (.inl rfl))) h.c) h.c.lt), h.x.block (hk.block _ (hS _ _ _ _ (.inr (.inr (.inr rfl))) (.inr (.inr (.inr rfl))) h.x) h.x.lt), h.bl.trans hb, Nat.le_trans h.sz hk.size⟩

set_option maxRecDepth 20000 in
set_option maxHeartbeats 4000000 in
theorem opens_any (W base nb nl ns : Nat) (fb fs : Nat → Int) (ts : Nat → TxnD) (a b c : Int) (vB vL vS : Value) (w : World)
    (hW : RowIs w W 37 9 (lc nil9)) (hbW : base ≤ W)
    (hB : RdIS (fun b => b < base) w vB 1 nb fb) (hL : RdLS (fun b => b < base) w vL nl ts) (hS : RdIS (fun b => b < base) w vS 2 ns fs) (snb : nb ≤ 1048576) (snl : nl ≤ 250000) (sns : ns ≤ 1048576) (sm : ∀ i, i < nl → Small (ts i)) (hwf : ∀ j, j < ns → (Lit.int .i64 (fs (2 * j + 1))).wf = true) :
    Calls Tryz.prog 12 #[.pointer (some ⟨W, 0, none⟩), .agg #[vB, .int .i64 a, .int .i64 b, .int .i64 c, vL, vS]] w (OpensPost base W nb nl ns fb fs ts a b c w) := by
  obtain ⟨aB, pB, rfl, -, hcB⟩ := id hB
  obtain ⟨aL, pL, rfl, -, hcL⟩ := id hL
  obtain ⟨aS, pS, rfl, -, hcS⟩ := id hS
  have bM : Below w.heap.size w (w.alloc (.cells #[.slice aB nb pB, .int .i64 a, .int .i64 b, .int .i64 c, .slice aL nl pL, .slice aS ns pS] 28)) := (Below.refl _ _).alloc (Nat.le_refl _) _
  have rM : RowIs (w.alloc (.cells #[.slice aB nb pB, .int .i64 a, .int .i64 b, .int .i64 c, .slice aL nl pL, .slice aS ns pS] 28)) w.heap.size 28 6 (lc [.slice aB nb pB, .int .i64 a, .int .i64 b, .int .i64 c, .slice aL nl pL, .slice aS ns pS]) := rowIs_list w [.slice aB nb pB, .int .i64 a, .int .i64 b, .int .i64 c, .slice aL nl pL, .slice aS ns pS] 28
  have m0 : (w.alloc (.cells #[.slice aB nb pB, .int .i64 a, .int .i64 b, .int .i64 c, .slice aL nl pL, .slice aS ns pS] 28)).cell? ⟨w.heap.size, 0, none⟩ = some (.slice aB nb pB) := rM.cell (j := 0) (by omega)
  go_enter Tryz.func12, Tryz.ntmps12
  go_wp2_with fail
  generalize w.alloc (.cells #[.slice aB nb pB, .int .i64 a, .int .i64 b, .int .i64 c, .slice aL nl pL, .slice aS ns pS] 28) = w0 at *
  refine (lentInts_any _ nb fb w0 (hB.rd.below bM)).mono ?_
  rintro r w1 ⟨rfl, rB, sz1, b1⟩
  have rM1 := rM.below b1
  have k0 : w1.cell? ⟨w.heap.size, 0, none⟩ = some (.slice aB nb pB) := rM1.cell (j := 0) (by omega)
  have k1 : w1.cell? ⟨w.heap.size, 1, none⟩ = some (.int .i64 a) := rM1.cell (j := 1) (by omega)
  have k2 : w1.cell? ⟨w.heap.size, 2, none⟩ = some (.int .i64 b) := rM1.cell (j := 2) (by omega)
  have k3 : w1.cell? ⟨w.heap.size, 3, none⟩ = some (.int .i64 c) := rM1.cell (j := 3) (by omega)
  have k4 : w1.cell? ⟨w.heap.size, 4, none⟩ = some (.slice aL nl pL) := rM1.cell (j := 4) (by omega)
  have zM := rM1.lt
  obtain ⟨ML, hml, hML⟩ := make_run (P := Tryz.prog) 25 91 _ 4 96 Tryz.underlying25 Tryz.info91 (nl + 1) (by omega) (by unfold maxLen; omega) (fun _ => .slice none 0 0) (fun j _ => by
    have : j % 4 = 0 ∨ j % 4 = 1 ∨ j % 4 = 2 ∨ j % 4 = 3 := by omega
    rcases this with e | e | e | e <;> simp [Value.cells, e])
  clear m0 sz1
  have hne : w.heap.size ≠ w1.heap.size := by omega
  have A0 : ∀ x, (w1.alloc x).cell? ⟨w.heap.size, 0, none⟩ = some (.slice aB nb pB) := fun x => by rw [World.cell?_alloc_lt _ _ _ (by exact zM)]; exact k0
  have A4 : ∀ x, (w1.alloc x).cell? ⟨w.heap.size, 4, none⟩ = some (.slice aL nl pL) := fun x => by rw [World.cell?_alloc_lt _ _ _ (by exact zM)]; exact k4
  simp only [Int.natCast_add, Int.cast_ofNat_Int] at hml
  have bW1 : Below w.heap.size w w1 := bM.trans (b1.mono bM.size)
  have bL : Below w1.heap.size w1 ((w1.alloc (.cells #[.slice (some ⟨w0.heap.size, 0, none⟩) nb (nb + 1), .int .i64 a, .int .i64 b, .int .i64 c] 24)).alloc (.cells ML 91)) := ((Below.refl _ _).alloc (Nat.le_refl _) _).alloc (by simp) _
  have bWL : Below w.heap.size w ((w1.alloc (.cells #[.slice (some ⟨w0.heap.size, 0, none⟩) nb (nb + 1), .int .i64 a, .int .i64 b, .int .i64 c] 24)).alloc (.cells ML 91)) := bW1.trans (bL.mono bW1.size)
  have rL : RowIs ((w1.alloc (.cells #[.slice (some ⟨w0.heap.size, 0, none⟩) nb (nb + 1), .int .i64 a, .int .i64 b, .int .i64 c] 24)).alloc (.cells ML 91)) (w1.heap.size + 1) 91 ((nl + 1) * 4) (fun _ => .slice none 0 0) := by
    have := hML (w1.alloc (.cells #[.slice (some ⟨w0.heap.size, 0, none⟩) nb (nb + 1), .int .i64 a, .int .i64 b, .int .i64 c] 24))
    rw [World.size_alloc] at this
    exact this
  have rC : RowIs ((w1.alloc (.cells #[.slice (some ⟨w0.heap.size, 0, none⟩) nb (nb + 1), .int .i64 a, .int .i64 b, .int .i64 c] 24)).alloc (.cells ML 91)) w1.heap.size 24 4 (lc [.slice (some ⟨w0.heap.size, 0, none⟩) nb (nb + 1), .int .i64 a, .int .i64 b, .int .i64 c]) := (rowIs_list w1 [.slice (some ⟨w0.heap.size, 0, none⟩) nb (nb + 1), .int .i64 a, .int .i64 b, .int .i64 c] 24).alloc _
  have rML := rM1.below bL
  have rBL := rB.below bL
  have rWL := hW.below bWL
  have zBw : w.heap.size ≤ w0.heap.size := bM.size
  have hWlt : W < w.heap.size := hW.lt
  have zB1 : w0.heap.size < w1.heap.size := rB.lt
  clear hML rM rM1 rB hW b1
  go_wp2_with fail
  generalize ((w1.alloc (.cells #[.slice (some ⟨w0.heap.size, 0, none⟩) nb (nb + 1), .int .i64 a, .int .i64 b, .int .i64 c] 24)).alloc (.cells ML 91)) = wL at *
  generalize hCB : w1.heap.size = CB at *
  generalize hBR : w0.heap.size = BR at *
  generalize hM0 : w.heap.size = M0 at *
  have zL := rL.lt
  clear A0 A4 k0 k1 k2 k3 k4 bL bW1 bM
  go_loopw [9, 10] (fun gl iv wq => ∃ (i : Nat) (vu vx : Nat → Value) (lo hi : Nat → Nat), i ≤ nl ∧ iv = .int .i64 i ∧ LentI wL wq (CB + 1) nl i ts gl vu vx lo hi ∧ Kept0 w wL wq W M0 BR CB nb fb [.slice aB nb pB, .int .i64 a, .int .i64 b, .int .i64 c, .slice aL nl pL, .slice aS ns pS] [.slice (some ⟨BR, 0, none⟩) nb (nb + 1), .int .i64 a, .int .i64 b, .int .i64 c]) (fun _ iv _ => nl - (intOf iv).toNat)
  case atStart => exact ⟨0, fun _ => undef, fun _ => undef, fun _ => 0, fun _ => 0, Nat.zero_le _, rfl, ⟨ownL_nil _ _ _ _ _, rL.congr (fun j _ => (if_neg (by omega)).symm), fun k hk => by omega, fun k hk => by omega, fun k k' _ hk => by omega, fun k hk => by omega⟩, ⟨rML, rBL, rC, rWL, bWL, Nat.le_refl _⟩⟩
  case round =>
    obtain ⟨i, vu, vx, lo, hi, hi0, rfl, hI, hK0⟩ := hrel
    have qM := hK0.m
    have bq := hK0.bl
    have szq := hK0.sz
    have q4 : wr.cell? ⟨M0, 4, none⟩ = some (.slice aL nl pL) := qM.cell (j := 4) (by omega)
    obtain ⟨aG, pG, rfl⟩ := hI.g.slice
    by_cases hin : i < nl
    · obtain ⟨bb, off, rfl, hbs, hbb, vs, hcell, hrt⟩ := hcL (by omega)
      have e0 : wr.cell? ⟨bb, off + i * 4, none⟩ = some (vs (i * 4)) := by rw [bq.cell (p := ⟨bb, off + i * 4, none⟩) (by exact hbb)]; exact hcell _ (by omega)
      have e1 : wr.cell? ⟨bb, off + i * 4 + 1, none⟩ = some (vs (i * 4 + 1)) := by rw [bq.cell (p := ⟨bb, off + i * 4 + 1, none⟩) (by exact hbb), Nat.add_assoc]; exact hcell _ (by omega)
      have e2 : wr.cell? ⟨bb, off + i * 4 + 2, none⟩ = some (vs (i * 4 + 2)) := by rw [bq.cell (p := ⟨bb, off + i * 4 + 2, none⟩) (by exact hbb), Nat.add_assoc]; exact hcell _ (by omega)
      have e3 : wr.cell? ⟨bb, off + i * 4 + 3, none⟩ = some (vs (i * 4 + 3)) := by rw [bq.cell (p := ⟨bb, off + i * 4 + 3, none⟩) (by exact hbb), Nat.add_assoc]; exact hcell _ (by omega)
      have ht : RdT wr (vs (i * 4)) (vs (i * 4 + 1)) (vs (i * 4 + 2)) (vs (i * 4 + 3)) (ts i) := ((hrt i hin).rd).below (by rw [hM0]; exact bq)
      generalize vs (i * 4) = t0 at *
      generalize vs (i * 4 + 1) = t1 at *
      generalize vs (i * 4 + 2) = t2 at *
      generalize vs (i * 4 + 3) = t3 at *
      obtain ⟨ta0, tp0, rfl, -, -⟩ := id ht.r
      obtain ⟨ta1, tp1, rfl, -, -⟩ := id ht.wr
      obtain ⟨ta2, tp2, rfl, -, -⟩ := id ht.g
      obtain ⟨ta3, tp3, rfl, -, -⟩ := id ht.c
      clear hcell hrt hcL hcB hcS
      go_wp2_with fail
      refine (lent_any _ _ _ _ (ts i) wr ht).mono ?_
      rintro r wg ⟨g2, g5, g10, g15, b0, b1, b2, b3, c0, c1, c2, c3, rfl, hLe⟩
      have hg0 := hLe.gift c0 c1 c2 c3
      have bA : Below wg.heap.size wg ((wg.alloc (.cells #[.slice (some ⟨g2, 0, none⟩) ((ts i).nr + 1) ((ts i).nr + 1), .slice (some ⟨g5, 0, none⟩) ((ts i).nw + 1) ((ts i).nw + 1), .slice (some ⟨g10, 0, none⟩) ((ts i).ng + 1) ((ts i).ng + 1), .slice (some ⟨g15, 0, none⟩) ((ts i).nc + 1) ((ts i).nc + 1)] 89)).alloc (.cells #[.slice b0 (ts i).nr c0, .slice b1 (ts i).nw c1, .slice b2 (ts i).ng c2, .slice b3 (ts i).nc c3] 91)) := ((Below.refl _ _).alloc (Nat.le_refl _) _).alloc (by simp) _
      have szg := hLe.bl.size
      have bB : Below wr.heap.size wr ((wg.alloc (.cells #[.slice (some ⟨g2, 0, none⟩) ((ts i).nr + 1) ((ts i).nr + 1), .slice (some ⟨g5, 0, none⟩) ((ts i).nw + 1) ((ts i).nw + 1), .slice (some ⟨g10, 0, none⟩) ((ts i).ng + 1) ((ts i).ng + 1), .slice (some ⟨g15, 0, none⟩) ((ts i).nc + 1) ((ts i).nc + 1)] 89)).alloc (.cells #[.slice b0 (ts i).nr c0, .slice b1 (ts i).nw c1, .slice b2 (ts i).ng c2, .slice b3 (ts i).nc c3] 91)) := hLe.bl.trans (bA.mono szg)
      obtain ⟨gl', w3, A, C, hv, hap, K3, l3, hnext, KF, BF⟩ := hI.step hin (by omega) (B := M0) (by omega) (by have := rML.lt; omega) szq bB (hg0.below bA) ⟨szg, bA.size⟩ rfl rfl rfl rfl
      subst hv
      simp only [World.size_alloc] at hap
      have ownG : ∀ g, (Value.slice aG i pG).ownBlock = some g → g < wr.heap.size := fun g hg => (hI.g.lt g hg).2
      have ownL : ∀ g, (Value.slice aG i pG).ownBlock = some g → wL.heap.size ≤ g := fun g hg => (hI.g.lt g hg).1
      have rX2 : RowIs ((wg.alloc (.cells #[.slice (some ⟨g2, 0, none⟩) ((ts i).nr + 1) ((ts i).nr + 1), .slice (some ⟨g5, 0, none⟩) ((ts i).nw + 1) ((ts i).nw + 1), .slice (some ⟨g10, 0, none⟩) ((ts i).ng + 1) ((ts i).ng + 1), .slice (some ⟨g15, 0, none⟩) ((ts i).nc + 1) ((ts i).nc + 1)] 89)).alloc (.cells #[.slice b0 (ts i).nr c0, .slice b1 (ts i).nw c1, .slice b2 (ts i).ng c2, .slice b3 (ts i).nc c3] 91)) (wg.heap.size + 1) 91 4 (lc [.slice b0 (ts i).nr c0, .slice b1 (ts i).nw c1, .slice b2 (ts i).ng c2, .slice b3 (ts i).nc c3]) := by
        have := rowIs_list (wg.alloc (.cells #[.slice (some ⟨g2, 0, none⟩) ((ts i).nr + 1) ((ts i).nr + 1), .slice (some ⟨g5, 0, none⟩) ((ts i).nw + 1) ((ts i).nw + 1), .slice (some ⟨g10, 0, none⟩) ((ts i).ng + 1) ((ts i).ng + 1), .slice (some ⟨g15, 0, none⟩) ((ts i).nc + 1) ((ts i).nc + 1)] 89)) [.slice b0 (ts i).nr c0, .slice b1 (ts i).nw c1, .slice b2 (ts i).ng c2, .slice b3 (ts i).nc c3] 91
        rw [World.size_alloc] at this
        exact this
      have rX3 := rX2.block (K3.block _ (fun e => by have := ownG _ e; omega) rX2.lt)
      have y0 : w3.cell? ⟨wg.heap.size + 1, 0, none⟩ = some (.slice b0 (ts i).nr c0) := rX3.cell (j := 0) (by omega)
      have y1 : w3.cell? ⟨wg.heap.size + 1, 1, none⟩ = some (.slice b1 (ts i).nw c1) := rX3.cell (j := 1) (by omega)
      have y2 : w3.cell? ⟨wg.heap.size + 1, 2, none⟩ = some (.slice b2 (ts i).ng c2) := rX3.cell (j := 2) (by omega)
      have y3 : w3.cell? ⟨wg.heap.size + 1, 3, none⟩ = some (.slice b3 (ts i).nc c3) := rX3.cell (j := 3) (by omega)
      have f3 := l3.frozen
      have v0 := l3.cell (j := i * 4) (by omega)
      have v1 := l3.cell (j := i * 4 + 1) (by omega)
      have v2 := l3.cell (j := i * 4 + 2) (by omega)
      have v3 := l3.cell (j := i * 4 + 3) (by omega)
      have hK1 : Kept0 w wL ((((w3.setCell ⟨CB + 1, i * 4, none⟩ (.slice b0 (ts i).nr c0)).setCell ⟨CB + 1, i * 4 + 1, none⟩ (.slice b1 (ts i).nw c1)).setCell ⟨CB + 1, i * 4 + 2, none⟩ (.slice b2 (ts i).ng c2)).setCell ⟨CB + 1, i * 4 + 3, none⟩ (.slice b3 (ts i).nc c3)) W M0 BR CB nb fb [.slice aB nb pB, .int .i64 a, .int .i64 b, .int .i64 c, .slice (some ⟨bb, off, none⟩) nl pL, .slice aS ns pS] [.slice (some ⟨BR, 0, none⟩) nb (nb + 1), .int .i64 a, .int .i64 b, .int .i64 c] := (hK0.below bB (by have := rML.lt; omega)).keep KF BF (fun b T m cc hb hT hr => ⟨fun e => by
        have h1 := ownL _ e
        have h2 : b < wL.heap.size := by rcases hb with rfl | rfl | rfl | rfl; exact rML.lt; exact rBL.lt; exact rC.lt; exact rWL.lt
        omega, fun e => by
        have h3 := hI.l.below bB
        exact hr.apart h3 (by rcases hT with rfl | rfl | rfl | rfl <;> decide) e⟩)
      have rel' : ∃ (k : Nat) (vu vx : Nat → Value) (lo hi : Nat → Nat), k ≤ nl ∧ Value.int .i64 ((i : Int) + 1) = .int .i64 k ∧ LentI wL ((((w3.setCell ⟨CB + 1, i * 4, none⟩ (.slice b0 (ts i).nr c0)).setCell ⟨CB + 1, i * 4 + 1, none⟩ (.slice b1 (ts i).nw c1)).setCell ⟨CB + 1, i * 4 + 2, none⟩ (.slice b2 (ts i).ng c2)).setCell ⟨CB + 1, i * 4 + 3, none⟩ (.slice b3 (ts i).nc c3)) (CB + 1) nl k ts (.slice A (i + 1) C) vu vx lo hi ∧ Kept0 w wL ((((w3.setCell ⟨CB + 1, i * 4, none⟩ (.slice b0 (ts i).nr c0)).setCell ⟨CB + 1, i * 4 + 1, none⟩ (.slice b1 (ts i).nw c1)).setCell ⟨CB + 1, i * 4 + 2, none⟩ (.slice b2 (ts i).ng c2)).setCell ⟨CB + 1, i * 4 + 3, none⟩ (.slice b3 (ts i).nc c3)) W M0 BR CB nb fb [.slice aB nb pB, .int .i64 a, .int .i64 b, .int .i64 c, .slice (some ⟨bb, off, none⟩) nl pL, .slice aS ns pS] [.slice (some ⟨BR, 0, none⟩) nb (nb + 1), .int .i64 a, .int .i64 b, .int .i64 c] := by
        obtain ⟨vu', vx', lo', hi', hn⟩ := hnext
        exact ⟨i + 1, vu', vx', lo', hi', by omega, rfl, hn, hK1⟩
      clear hg0 bA bB hnext KF BF K3 ownG ownL rX2 rX3 l3 hI hK0 hK1 qM bq szq ht e0 e1 e2 e3 hLe q4 rML rBL rC rWL rL bWL hB hS sm hml
      go_wp2_with (at_builtin; refine wpList_append_run rfl _ _ 85 rfl _ _ rfl rfl _ _ hap ?_)
      go_roundw
      case rel => exact rel'
      case measure => simp [intOf]; omega
    · have hin' : decide (i < nl) = false := by simpa using hin
      have hil : i = nl := by omega
      obtain ⟨MS, hms, hMS⟩ := make_run (P := Tryz.prog) 26 81 _ 2 16 Tryz.underlying26 Tryz.info81 (ns + 1) (by omega) (by unfold maxLen; omega) (fun _ => .int .i64 0) (fun j _ => by
        have : j % 2 = 0 ∨ j % 2 = 1 := by omega
        rcases this with e | e <;> simp [Value.cells, e])
      simp only [Int.natCast_add, Int.cast_ofNat_Int] at hms
      have zM0 : M0 < wL.heap.size := rML.lt
      have bS : Below wr.heap.size wr (wr.alloc (.cells MS 81)) := (Below.refl _ _).alloc (Nat.le_refl _) _
      have rS0 := hMS wr
      have hKS := hK0.below bS (by omega)
      have hIS := hI.below bS
      have hSr : RdI (wr.alloc (.cells MS 81)) (.slice aS ns pS) 2 ns fs := hS.rd.below (by rw [hM0]; exact hKS.bl)
      obtain ⟨wc2, hcp, rS, szc, otc, bc⟩ := copy_run (P := Tryz.prog) (w := wr.alloc (.cells MS 81)) 26 26 81 Tryz.underlying26 2 (size_of_info Tryz.info81) wr.heap.size (ns + 1) (ns + 1) (.slice aS ns pS) ns (by omega) 81 _ _ rS0 (by omega) (icell fs) hSr.src
      have zwr : wL.heap.size ≤ wr.heap.size := hK0.sz
      have hKC : Kept0 w wL wc2 W M0 BR CB nb fb _ _ := hKS.keep (S := fun b => b ≠ wr.heap.size) ⟨by rw [szc]; exact Nat.le_refl _, fun b hb _ => otc b hb⟩ (bc.mono (by omega)) (fun b T m cc hb hT hr => by
        have h2 : b < wL.heap.size := by rcases hb with rfl | rfl | rfl | rfl; exact rML.lt; exact rBL.lt; exact rC.lt; exact rWL.lt
        omega)
      have hIC : LentI wL wc2 (CB + 1) nl i ts (.slice aG i pG) vu vx lo hi := by
        have hkp : Keeps (fun b => b ≠ wr.heap.size) (wr.alloc (.cells MS 81)) wc2 := ⟨by rw [szc]; exact Nat.le_refl _, fun b hb _ => otc b hb⟩
        have hzz : (wr.alloc (.cells MS 81)).heap.size = wr.heap.size + 1 := World.size_alloc _ _
        refine ⟨hIS.g.keep fun g hg => otc g (by have := (hI.g.lt g hg).2; omega), hIS.l.block (otc _ (by have := hI.l.lt; omega)), fun k hk => (hIS.at_ k hk).keep hkp (fun g T m c h1 h2 hr _ => by have := (hI.up k hk).2.2; omega), fun k hk => by have := hI.up k hk; have := szc; omega, hIS.ord, hIS.go⟩
      have rS' : RowIs wc2 wr.heap.size 81 ((ns + 1) * 2) (icell (cut (ns * 2) fs)) := rS.congr fun j _ => by
        simp only [icell, cut]; split <;> rfl
      have heqB := fun w => Lib.run_eql_slice_nil (P := Tryz.prog) w 22 _ aB nb pB 0 0 Tryz.underlying22
      have heqL := fun w => Lib.run_eql_slice_nil (P := Tryz.prog) w 25 _ aL nl pL 0 0 Tryz.underlying25
      have heqS := fun w => Lib.run_eql_slice_nil (P := Tryz.prog) w 26 _ aS ns pS 0 0 Tryz.underlying26
      have nB : aB.isNone = true → nb = 0 := fun e => by
        rcases Nat.eq_zero_or_pos nb with h0 | h0
        · exact h0
        · obtain ⟨_, _, e2, _⟩ := hcB h0; rw [e2] at e; cases e
      have nL : aL.isNone = true → nl = 0 := fun e => by
        rcases Nat.eq_zero_or_pos nl with h0 | h0
        · exact h0
        · obtain ⟨_, _, e2, _⟩ := hcL h0; rw [e2] at e; cases e
      have nS : aS.isNone = true → ns = 0 := fun e => by
        rcases Nat.eq_zero_or_pos ns with h0 | h0
        · exact h0
        · obtain ⟨_, _, e2, _⟩ := hcS h0; rw [e2] at e; cases e
      generalize aB.isNone = iB at *
      generalize aL.isNone = iL at *
      generalize aS.isNone = iS at *
      have c5 : (wr.alloc (.cells MS 81)).cell? ⟨M0, 5, none⟩ = some (.slice aS ns pS) := hKS.m.cell (j := 5) (by omega)
      have r5 : wr.cell? ⟨M0, 5, none⟩ = some (.slice aS ns pS) := hK0.m.cell (j := 5) (by omega)
      have d0 : wc2.cell? ⟨M0, 0, none⟩ = some (.slice aB nb pB) := hKC.m.cell (j := 0) (by omega)
      have d4 : wc2.cell? ⟨M0, 4, none⟩ = some (.slice aL nl pL) := hKC.m.cell (j := 4) (by omega)
      have d5 : wc2.cell? ⟨M0, 5, none⟩ = some (.slice aS ns pS) := hKC.m.cell (j := 5) (by omega)
      have zq : M0 < wL.heap.size ∧ BR < wL.heap.size ∧ CB < wL.heap.size ∧ W < wL.heap.size := ⟨rML.lt, rBL.lt, rC.lt, rWL.lt⟩
      have zLG : CB + 1 < wL.heap.size := zL
      have hups : ∀ k, k < i → hi k ≤ wr.heap.size := fun k hk => (hI.up k hk).2.2
      have hWM : W < M0 := hWlt
      clear hcB hcL hcS rML rBL rC rWL rL bWL hI hK0 hIS hKS rS rS0 hMS hSr otc bc bS q4 qM bq szq hml zL
      go_upto_if 88 with fail
      rename_i K1 hK1
      refine wp_join (tt := iB) 89 (fun _ wq => ∃ b' c', (b' = some ⟨BR, 0, none⟩ ∨ nb = 0) ∧ RowIs wq CB 24 4 (lc [.slice b' nb c', .int .i64 a, .int .i64 b, .int .i64 c]) ∧ Keeps (fun x => x ≠ CB) wc2 wq ∧ Below M0 wc2 wq) (by simp) rfl ?_ ?_ ?_
      · intro hib
        have hz := nB hib
        have hfz := hKC.c.frozen
        have oC : wc2.cell? ⟨CB, 0, none⟩ = some (.slice (some ⟨BR, 0, none⟩) nb (nb + 1)) := hKC.c.cell (j := 0) (by omega)
        have hset := hKC.c.setCell_list (xs := [.slice (some ⟨BR, 0, none⟩) nb (nb + 1), .int .i64 a, .int .i64 b, .int .i64 c]) 0 (.slice none 0 0)
        have post : ∃ b' c', (b' = some ⟨BR, 0, none⟩ ∨ nb = 0) ∧ RowIs (wc2.setCell ⟨CB, 0, none⟩ (.slice none 0 0)) CB 24 4 (lc [.slice b' nb c', .int .i64 a, .int .i64 b, .int .i64 c]) ∧ Keeps (fun x => x ≠ CB) wc2 (wc2.setCell ⟨CB, 0, none⟩ (.slice none 0 0)) ∧ Below M0 wc2 (wc2.setCell ⟨CB, 0, none⟩ (.slice none 0 0)) := ⟨none, 0, .inr hz, by rw [hz]; exact hset, (Keeps.refl _ _).setCell (by simp) _, (Below.refl _ _).setCell (by simp; omega) _⟩
        clear hKC hIC rS' heqB heqL heqS hcp hms nL nS nB hB hL hS sm hset hz hK1 hib hwf
        go_wp2_with fail
        exact ⟨_, rfl, post⟩
      · intro _
        exact ⟨_, _, .inl rfl, hKC.c, Keeps.refl _ _, Below.refl _ _⟩
      · intro u wc hcut
        obtain ⟨bB', cB', eB', rC1, k1, bl1⟩ := hcut
        simp only [Act.put, List.setIfInBounds_toArray, List.set_cons_succ, List.set_cons_zero]
        refine hK1 _ _ ?_
        clear hK1
        have nMC : M0 ≠ CB := by omega
        have rM1 := hKC.m.block (k1.block M0 nMC hKC.m.lt)
        have d4' : wc.cell? ⟨M0, 4, none⟩ = some (.slice aL nl pL) := rM1.cell (j := 4) (by omega)
        have d5' : wc.cell? ⟨M0, 5, none⟩ = some (.slice aS ns pS) := rM1.cell (j := 5) (by omega)
        have hMid : Veil (∀ (bL' bS' : Option Addr), (bL' = some ⟨CB + 1, 0, none⟩ ∨ nl = 0) → (bS' = some ⟨wr.heap.size, 0, none⟩ ∨ ns = 0) → Mid base W M0 BR CB (CB + 1) wr.heap.size nb nl ns fb fs ts a b c aB aL aS bB' bL' bS' pB pL pS cB' (.slice aG nl pG) vu vx lo hi w wL wc) := ⟨fun bL' bS' eL' eS' => by
          subst hil
          have bw : Below M0 w wc := hKC.bl.trans bl1
          have hbM : base ≤ M0 := by omega
          have kb : ∀ {v n k f}, RdIS (fun b => b < base) w v k n f → RdIS (fun b => b < base) wc v k n f := fun h => h.keep ⟨bw.size, fun b hb _ => bw.block b (by omega)⟩
          have zz : wr.heap.size < wc2.heap.size := rS'.lt
          have zk := k1.size
          have rx := hKC.x.block (k1.block W (hKC.x.apart hKC.c (by decide)) hKC.x.lt)
          have rb := hKC.b.block (k1.block BR (hKC.b.apart hKC.c (by decide)) hKC.b.lt)
          have rs := rS'.block (k1.block _ (rS'.apart hKC.c (by decide)) rS'.lt)
          have hI' : LentI wL wc (CB + 1) i i ts (.slice aG i pG) vu vx lo hi := ⟨hIC.g.keep fun g hg => k1.block g (fun e => hIC.g.apart hKC.c (by decide) (by rw [hg, e])) (hIC.g.lt g hg).2, hIC.l.block (k1.block _ (by omega) hIC.l.lt), fun k hk => (hIC.at_ k hk).keep k1 (fun g T m c h1 h2 hr hT => hr.apart hKC.c (by rcases hT with rfl | rfl | rfl <;> decide)), fun k hk => by have := hIC.up k hk; omega, hIC.ord, hIC.go⟩
          exact ⟨rx, hbW, rM1, rb, rC1, eB', hI', eL', rs, eS', bw.mono hbM, kb hB, hL.keep ⟨bw.size, fun b hb _ => bw.block b (by omega)⟩, kb hS, ⟨zq.2.2.2, zq.2.1, by omega, zq.1, by omega, by omega, by omega, by omega⟩, Nat.le_trans hKC.sz zk, ⟨fun k hk => hups k hk, by omega⟩⟩⟩
        clear d0 d4 d5 c5 r5 hKC hIC rS' rC1 k1 bl1 rM1 hB hL hS heqB nB
        go_upto_if 92 with fail
        rename_i K2 hK2
        refine wp_join (tt := iL) 14 (fun v wq => wq = wc ∧ ∃ b' c', v = .slice b' nl c' ∧ (b' = some ⟨CB + 1, 0, none⟩ ∨ nl = 0)) (by simp) rfl ?_ ?_ ?_
        · intro hib
          have post : ∃ (b' : Option Addr) (c' : Nat), Value.slice none 0 0 = .slice b' nl c' ∧ (b' = some ⟨CB + 1, 0, none⟩ ∨ nl = 0) := ⟨none, 0, by rw [nL hib], .inr (nL hib)⟩
          clear nL nS hMid hK2 hib heqL heqS hcp hms sm hwf
          go_wp2_with fail
          first | exact ⟨_, rfl, rfl, post⟩ | exact ⟨_, rfl, trivial, post⟩
        · intro _
          exact ⟨rfl, _, _, rfl, .inl rfl⟩
        · rintro u2 wq2 ⟨rfl, bL', cL', rfl, eL'⟩
          simp only [Act.put, List.setIfInBounds_toArray, List.set_cons_succ, List.set_cons_zero]
          refine hK2 _ _ ?_
          clear hK2 nL heqL
          go_upto_if 95 with fail
          rename_i K3 hK3
          refine wp_join (tt := iS) 15 (fun v wq => wq = wq2 ∧ ∃ b' c', v = .slice b' ns c' ∧ (b' = some ⟨wr.heap.size, 0, none⟩ ∨ ns = 0)) (by simp) rfl ?_ ?_ ?_
          · intro hib
            have post : ∃ (b' : Option Addr) (c' : Nat), Value.slice none 0 0 = .slice b' ns c' ∧ (b' = some ⟨wr.heap.size, 0, none⟩ ∨ ns = 0) := ⟨none, 0, by rw [nS hib], .inr (nS hib)⟩
            clear nS hMid hK3 hib heqS hcp hms sm hwf
            go_wp2_with fail
            first | exact ⟨_, rfl, rfl, post⟩ | exact ⟨_, rfl, trivial, post⟩
          · intro _
            exact ⟨rfl, _, _, rfl, .inl rfl⟩
          · rintro u3 wq3 ⟨rfl, bS', cS', rfl, eS'⟩
            simp only [Act.put, List.setIfInBounds_toArray, List.set_cons_succ, List.set_cons_zero]
            have hM := hMid.out bL' bS' eL' eS'
            subst hil
            exact hK3 _ _ (opens_mid base W M0 BR CB (CB + 1) wr.heap.size nb i ns fb fs ts a b c aB aL aS bB' bL' bS' aG pB pL pS cB' cL' cS' pG vu vx lo hi w wL wq3 hM snb snl sns sm hwf)
end Go.Proofs.YtldeiiffabfmeaaGreatDoor
