/- A transaction in lists of the caller's. -/
import Derived.Test.YtldeiiffabfmeaaGreatDoorAVzJ
import Derived.Deep.DeepCutAuto
import Derived.BigRegion
set_option linter.unusedVariables false
set_option linter.unusedSimpArgs false
namespace Go.Proofs.YtldeiiffabfmeaaGreatDoor
open Go.RowKit

theorem follows_mixed : Tryz.prog.follows .mixedOrders = true := by kernel_rfl

/-- What lent leaves: four rows with a place behind them, and the lists that lead to them. -/
structure LentIs (w w' : World) (t : TxnD) (g2 g5 g10 g15 : Nat) (b0 b1 b2 b3 : Option Addr) : Prop where
  n2 : w.heap.size ≤ g2
  n5 : w.heap.size ≤ g5
  n10 : w.heap.size ≤ g10
  n15 : w.heap.size ≤ g15
  ne : g2 ≠ g5
  r2 : RowIs w' g2 3 (t.nr + 1) (icell (cut t.nr t.r))
  r5 : RowIs w' g5 3 (t.nw + 1) (icell (cut t.nw t.wr))
  r10 : RowIs w' g10 159 ((t.ng + 1) * 2) (icell (cut (t.ng * 2) t.g))
  r15 : RowIs w' g15 161 ((t.nc + 1) * 4) (icell (cut (t.nc * 4) t.c))
  e0 : b0 = some ⟨g2, 0, none⟩ ∨ t.nr = 0
  e1 : b1 = some ⟨g5, 0, none⟩ ∨ t.nw = 0
  e2 : b2 = some ⟨g10, 0, none⟩ ∨ t.ng = 0
  e3 : b3 = some ⟨g15, 0, none⟩ ∨ t.nc = 0
  bl : Below w.heap.size w w'

set_option maxRecDepth 20000 in
set_option maxHeartbeats 4000000 in
theorem lent_any (va vb vc vd : Value) (t : TxnD) (w : World) (h : RdT w va vb vc vd t) :
    Calls Tryz.prog 25 #[.agg #[va, vb, vc, vd]] w fun r w' => ∃ g2 g5 g10 g15 b0 b1 b2 b3 c0 c1 c2 c3, r = .returned (.tuple #[.agg #[.slice (some ⟨g2, 0, none⟩) (t.nr + 1) (t.nr + 1), .slice (some ⟨g5, 0, none⟩) (t.nw + 1) (t.nw + 1), .slice (some ⟨g10, 0, none⟩) (t.ng + 1) (t.ng + 1), .slice (some ⟨g15, 0, none⟩) (t.nc + 1) (t.nc + 1)], .agg #[.slice b0 t.nr c0, .slice b1 t.nw c1, .slice b2 t.ng c2, .slice b3 t.nc c3]]) ∧
      LentIs w w' t g2 g5 g10 g15 b0 b1 b2 b3 := by
  obtain ⟨a0, p0, rfl, hn0, -⟩ := id h.r
  obtain ⟨a1, p1, rfl, hn1, -⟩ := id h.wr
  obtain ⟨a2, p2, rfl, hn2, -⟩ := id h.g
  obtain ⟨a3, p3, rfl, hn3, -⟩ := id h.c
  have bW : Below w.heap.size w (((w.alloc (.cells #[.slice a0 t.nr p0, .slice a1 t.nw p1, .slice a2 t.ng p2, .slice a3 t.nc p3] 91)).alloc (.cells #[.slice none 0 0, .slice none 0 0, .slice none 0 0, .slice none 0 0] 89)).alloc (.cells #[.slice none 0 0, .slice none 0 0, .slice none 0 0, .slice none 0 0] 91)) :=
    (((Below.refl _ _).alloc (Nat.le_refl _) _).alloc (by simp) _).alloc (by simp; omega) _
  have rT : RowIs (((w.alloc (.cells #[.slice a0 t.nr p0, .slice a1 t.nw p1, .slice a2 t.ng p2, .slice a3 t.nc p3] 91)).alloc (.cells #[.slice none 0 0, .slice none 0 0, .slice none 0 0, .slice none 0 0] 89)).alloc (.cells #[.slice none 0 0, .slice none 0 0, .slice none 0 0, .slice none 0 0] 91)) w.heap.size 91 4 (lc [.slice a0 t.nr p0, .slice a1 t.nw p1, .slice a2 t.ng p2, .slice a3 t.nc p3]) := ((rowIs_list w [.slice a0 t.nr p0, .slice a1 t.nw p1, .slice a2 t.ng p2, .slice a3 t.nc p3] 91).alloc _).alloc _
  have r2 : RowIs (((w.alloc (.cells #[.slice a0 t.nr p0, .slice a1 t.nw p1, .slice a2 t.ng p2, .slice a3 t.nc p3] 91)).alloc (.cells #[.slice none 0 0, .slice none 0 0, .slice none 0 0, .slice none 0 0] 89)).alloc (.cells #[.slice none 0 0, .slice none 0 0, .slice none 0 0, .slice none 0 0] 91)) (w.heap.size + 1) 89 4 (lc [.slice none 0 0, .slice none 0 0, .slice none 0 0, .slice none 0 0]) := by
    have := (rowIs_list (w.alloc (.cells #[.slice a0 t.nr p0, .slice a1 t.nw p1, .slice a2 t.ng p2, .slice a3 t.nc p3] 91)) [.slice none 0 0, .slice none 0 0, .slice none 0 0, .slice none 0 0] 89).alloc (.cells #[.slice none 0 0, .slice none 0 0, .slice none 0 0, .slice none 0 0] 91)
    rw [World.size_alloc] at this
    exact this
  have r3 : RowIs (((w.alloc (.cells #[.slice a0 t.nr p0, .slice a1 t.nw p1, .slice a2 t.ng p2, .slice a3 t.nc p3] 91)).alloc (.cells #[.slice none 0 0, .slice none 0 0, .slice none 0 0, .slice none 0 0] 89)).alloc (.cells #[.slice none 0 0, .slice none 0 0, .slice none 0 0, .slice none 0 0] 91)) (w.heap.size + 1 + 1) 91 4 (lc [.slice none 0 0, .slice none 0 0, .slice none 0 0, .slice none 0 0]) := by
    have := rowIs_list ((w.alloc (.cells #[.slice a0 t.nr p0, .slice a1 t.nw p1, .slice a2 t.ng p2, .slice a3 t.nc p3] 91)).alloc (.cells #[.slice none 0 0, .slice none 0 0, .slice none 0 0, .slice none 0 0] 89)) [.slice none 0 0, .slice none 0 0, .slice none 0 0, .slice none 0 0] 91
    rw [World.size_alloc, World.size_alloc] at this
    exact this
  go_enter Tryz.func25, Tryz.ntmps25
  go_wp2_with fail
  generalize (((w.alloc (.cells #[.slice a0 t.nr p0, .slice a1 t.nw p1, .slice a2 t.ng p2, .slice a3 t.nc p3] 91)).alloc (.cells #[.slice none 0 0, .slice none 0 0, .slice none 0 0, .slice none 0 0] 89)).alloc (.cells #[.slice none 0 0, .slice none 0 0, .slice none 0 0, .slice none 0 0] 91)) = W0 at *
  generalize hH : W0.heap.size = H at *
  have hcell : ∀ wq, Below H W0 wq → wq.cell? ⟨w.heap.size, 0, none⟩ = some (.slice a0 t.nr p0) ∧ wq.cell? ⟨w.heap.size, 1, none⟩ = some (.slice a1 t.nw p1) ∧ wq.cell? ⟨w.heap.size, 2, none⟩ = some (.slice a2 t.ng p2) ∧ wq.cell? ⟨w.heap.size, 3, none⟩ = some (.slice a3 t.nc p3) := fun wq hq => by
    have hr : RowIs wq w.heap.size 91 4 _ := rT.below (hH ▸ hq)
    exact ⟨hr.cell (j := 0) (by omega), hr.cell (j := 1) (by omega), hr.cell (j := 2) (by omega), hr.cell (j := 3) (by omega)⟩
  have hrd : ∀ wq, Below H W0 wq → RdT wq (.slice a0 t.nr p0) (.slice a1 t.nw p1) (.slice a2 t.ng p2) (.slice a3 t.nc p3) t := fun wq hq => h.below (bW.trans (hq.mono (by rw [← hH]; exact bW.size)))
  obtain ⟨M1, hm1, hM1⟩ := make_run (P := Tryz.prog) 86 159 _ 2 16 Tryz.underlying86 Tryz.info159 (t.ng + 1) (by omega) (by unfold maxLen; omega) (fun _ => .int .i64 0) (fun j _ => by
    have : j % 2 = 0 ∨ j % 2 = 1 := by omega
    rcases this with e | e <;> simp [Value.cells, e])
  obtain ⟨M2, hm2, hM2⟩ := make_run (P := Tryz.prog) 87 161 _ 4 32 Tryz.underlying87 Tryz.info161 (t.nc + 1) (by omega) (by unfold maxLen; omega) (fun _ => .int .i64 0) (fun j _ => by
    have : j % 4 = 0 ∨ j % 4 = 1 ∨ j % 4 = 2 ∨ j % 4 = 3 := by omega
    rcases this with e | e | e | e <;> simp [Value.cells, e])
  rename_i K1 hK1
  refine wp_region_slots2 (P := Tryz.prog) _ follows_mixed (by kernel_rfl) (fun wq => Below H W0 wq) (LentR w.heap.size H t a0 a1 a2 a3 p0 p1 p2 p3) ?hloc ?hF ?hob ?hend
  case hF => exact (Below.refl _ _).drew
  case hloc =>
    intro k s s' wq hs hR
    clear hm1 hm2 hM1 hM2 hcell hrd hK1 h bW rT r2 r3
    match k, hs, hR with
    | 0, hs, hR => simp only [LentR] at hR ⊢; rw [← hs _ rfl 0 (.inl rfl)]; exact hR
    | 1, hs, hR => simp only [LentR] at hR ⊢; rw [← hs _ rfl 1 (.inl rfl)]; exact hR
    | 2, hs, hR => simp only [LentR] at hR ⊢; rw [← hs _ rfl 2 (.inl rfl)]; exact hR
    | 3, hs, hR => simp only [LentR] at hR ⊢; rw [← hs _ rfl 3 (.inl rfl)]; exact hR
    | 4, hs, hR => simp only [LentR] at hR ⊢; rw [← hs _ rfl 4 (.inl rfl)]; exact hR
    | 5, hs, hR => simp only [LentR] at hR ⊢; rw [← hs _ rfl 2 (.inr ⟨⟨2, .chain⟩, by simp, rfl, rfl⟩), ← hs _ rfl 5 (.inl rfl)]; exact hR
    | 6, hs, hR => simp only [LentR] at hR ⊢; rw [← hs _ rfl 6 (.inl rfl)]; exact hR
    | 7, hs, hR => simp only [LentR] at hR ⊢; rw [← hs _ rfl 7 (.inl rfl)]; exact hR
    | 8, hs, hR => simp only [LentR] at hR ⊢; rw [← hs _ rfl 8 (.inl rfl)]; exact hR
    | 9, hs, hR => simp only [LentR] at hR ⊢; rw [← hs _ rfl 9 (.inl rfl)]; exact hR
    | 10, hs, hR => simp only [LentR] at hR ⊢; rw [← hs _ rfl 10 (.inl rfl)]; exact hR
    | 11, hs, hR => simp only [LentR] at hR ⊢; rw [← hs _ rfl 11 (.inl rfl)]; exact hR
    | 12, hs, hR => simp only [LentR] at hR ⊢; rw [← hs _ rfl 12 (.inl rfl)]; exact hR
    | 13, hs, hR => simp only [LentR] at hR ⊢; rw [← hs _ rfl 13 (.inl rfl)]; exact hR
    | 14, hs, hR => simp only [LentR] at hR ⊢; rw [← hs _ rfl 14 (.inl rfl)]; exact hR
    | 15, hs, hR => simp only [LentR] at hR ⊢; rw [← hs _ rfl 15 (.inl rfl)]; exact hR
    | 16, hs, hR => simp only [LentR] at hR ⊢; rw [← hs _ rfl 2 (.inr ⟨⟨2, .data⟩, by simp, rfl, rfl⟩), ← hs _ rfl 5 (.inr ⟨⟨5, .data⟩, by simp, rfl, rfl⟩), ← hs _ rfl 10 (.inr ⟨⟨10, .data⟩, by simp, rfl, rfl⟩), ← hs _ rfl 15 (.inr ⟨⟨15, .data⟩, by simp, rfl, rfl⟩), ← hs _ rfl 16 (.inl rfl)]; exact hR
    | 17, hs, hR => simp only [LentR] at hR ⊢; rw [← hs _ rfl 17 (.inl rfl)]; exact hR
    | 18, hs, hR => simp only [LentR] at hR ⊢; rw [← hs _ rfl 16 (.inr ⟨⟨16, .data⟩, by simp, rfl, rfl⟩), ← hs _ rfl 17 (.inr ⟨⟨17, .data⟩, by simp, rfl, rfl⟩)]; exact hR
    | _ + 19, hs, hR => trivial
  case hob =>
    intro i o ho a wq hF hS haft
    have hsz : a.tmps.size = 76 := hS.size
    have e1 : a.eval (.tmp 1) = .pointer (some ⟨w.heap.size, 0, none⟩) := hS.out 1 (no_dst (by kernel_rfl))
    obtain ⟨hc0, hc1, hc2, hc3⟩ := hcell wq hF
    clear hcell hK1 rT r2 r3 bW
    match i, ho, haft with
    | 0, ho, haft =>
      obtain rfl := Option.some.inj (show some _ = some o from ho)
      exact wp_of_value (l1_0 a.eval wq w.heap.size _ _ _ _ _ _ e1) ⟨hF, fun k s _ h => h, _, rfl, slot_put _ (by rw [hsz]; decide)⟩
    | 1, ho, haft =>
      obtain rfl := Option.some.inj (show some _ = some o from ho)
      exact wp_of_value (l2_22 a.eval wq w.heap.size _ _ _ _ _ _ 0 _ _ _ (haft ⟨0, .data⟩ (by simp) rfl) hc0) ⟨hF, fun k s _ h => h, _, rfl, slot_put _ (by rw [hsz]; decide)⟩
    | 2, ho, haft =>
      obtain rfl := Option.some.inj (show some _ = some o from ho)
      have q := haft ⟨1, .data⟩ (by simp) rfl
      refine wp_of_enter (l3 wq _ _ _ _ _ _ a _ q) (lentInts_any _ t.nr t.r wq (hrd wq hF).r) ?_
      rintro r w'' ⟨rfl, hrow, _, hb⟩
      have hle : H ≤ wq.heap.size := by rw [← hH]; exact hF.size
      exact ⟨_, rfl, hF.trans (hb.mono hle), fun k s _ h => LentR.below hb k s h, _, rfl, wq.heap.size, slot_put _ (by rw [hsz]; decide), hle, hrow⟩
    | 3, ho, haft =>
      obtain rfl := Option.some.inj (show some _ = some o from ho)
      exact wp_of_value (l1_1 a.eval wq w.heap.size _ _ _ _ _ _ e1) ⟨hF, fun k s _ h => h, _, rfl, slot_put _ (by rw [hsz]; decide)⟩
    | 4, ho, haft =>
      obtain rfl := Option.some.inj (show some _ = some o from ho)
      exact wp_of_value (l2_22 a.eval wq w.heap.size _ _ _ _ _ _ 1 _ _ _ (haft ⟨3, .data⟩ (by simp) rfl) hc1) ⟨hF, fun k s _ h => h, _, rfl, slot_put _ (by rw [hsz]; decide)⟩
    | 5, ho, haft =>
      obtain rfl := Option.some.inj (show some _ = some o from ho)
      have q := haft ⟨4, .data⟩ (by simp) rfl
      obtain ⟨g, q1, q2, q3⟩ := haft ⟨2, .chain⟩ (by simp) rfl
      refine wp_of_enter (l3 wq _ _ _ _ _ _ a _ q) (lentInts_any _ t.nw t.wr wq (hrd wq hF).wr) ?_
      rintro r w'' ⟨rfl, hrow, _, hb⟩
      have hle : H ≤ wq.heap.size := by rw [← hH]; exact hF.size
      exact ⟨_, rfl, hF.trans (hb.mono hle), fun k s _ h => LentR.below hb k s h, _, rfl, g, wq.heap.size, (slot_other _ (by decide)).trans q1, by have := q3.lt; omega, slot_put _ (by rw [hsz]; decide), hle, hrow⟩
    | 6, ho, haft =>
      obtain rfl := Option.some.inj (show some _ = some o from ho)
      exact wp_of_value (l1_2 a.eval wq w.heap.size _ _ _ _ _ _ e1) ⟨hF, fun k s _ h => h, _, rfl, slot_put _ (by rw [hsz]; decide)⟩
    | 7, ho, haft =>
      obtain rfl := Option.some.inj (show some _ = some o from ho)
      exact wp_of_value (l2_44 a.eval wq w.heap.size _ _ _ _ _ _ 2 _ _ _ (haft ⟨6, .data⟩ (by simp) rfl) hc2) ⟨hF, fun k s _ h => h, _, rfl, slot_put _ (by rw [hsz]; decide)⟩
    | 8, ho, haft =>
      obtain rfl := Option.some.inj (show some _ = some o from ho)
      exact wp_of_value (l4_44 a.eval wq _ _ _ _ _ _ _ _ _ (haft ⟨7, .data⟩ (by simp) rfl)) ⟨hF, fun k s _ h => h, _, rfl, slot_put _ (by rw [hsz]; decide)⟩
    | 9, ho, haft =>
      obtain rfl := Option.some.inj (show some _ = some o from ho)
      exact wp_of_value (l5 a.eval wq _ _ _ _ _ _ _ _ hn2 (haft ⟨8, .data⟩ (by simp) rfl) rfl) ⟨hF, fun k s _ h => h, _, rfl, slot_put _ (by rw [hsz]; decide)⟩
    | 10, ho, haft =>
      obtain rfl := Option.some.inj (show some _ = some o from ho)
      have hle : H ≤ wq.heap.size := by rw [← hH]; exact hF.size
      exact wp_of_value (l6 a.eval wq _ _ _ _ _ _ 86 _ M1 _ (haft ⟨9, .data⟩ (by simp) rfl) hm1) ⟨hF.alloc hle _, fun k s _ h => LentR.below ((Below.refl _ _).alloc (Nat.le_refl _) _) k s h, _, rfl, wq.heap.size, slot_put _ (by rw [hsz]; decide), hle, hM1 wq⟩
    | 11, ho, haft =>
      obtain rfl := Option.some.inj (show some _ = some o from ho)
      exact wp_of_value (l1_3 a.eval wq w.heap.size _ _ _ _ _ _ e1) ⟨hF, fun k s _ h => h, _, rfl, slot_put _ (by rw [hsz]; decide)⟩
    | 12, ho, haft =>
      obtain rfl := Option.some.inj (show some _ = some o from ho)
      exact wp_of_value (l2_45 a.eval wq w.heap.size _ _ _ _ _ _ 3 _ _ _ (haft ⟨11, .data⟩ (by simp) rfl) hc3) ⟨hF, fun k s _ h => h, _, rfl, slot_put _ (by rw [hsz]; decide)⟩
    | 13, ho, haft =>
      obtain rfl := Option.some.inj (show some _ = some o from ho)
      exact wp_of_value (l4_45 a.eval wq _ _ _ _ _ _ _ _ _ (haft ⟨12, .data⟩ (by simp) rfl)) ⟨hF, fun k s _ h => h, _, rfl, slot_put _ (by rw [hsz]; decide)⟩
    | 14, ho, haft =>
      obtain rfl := Option.some.inj (show some _ = some o from ho)
      exact wp_of_value (l5 a.eval wq _ _ _ _ _ _ _ _ hn3 (haft ⟨13, .data⟩ (by simp) rfl) rfl) ⟨hF, fun k s _ h => h, _, rfl, slot_put _ (by rw [hsz]; decide)⟩
    | 15, ho, haft =>
      obtain rfl := Option.some.inj (show some _ = some o from ho)
      have hle : H ≤ wq.heap.size := by rw [← hH]; exact hF.size
      exact wp_of_value (l6 a.eval wq _ _ _ _ _ _ 87 _ M2 _ (haft ⟨14, .data⟩ (by simp) rfl) hm2) ⟨hF.alloc hle _, fun k s _ h => LentR.below ((Below.refl _ _).alloc (Nat.le_refl _) _) k s h, _, rfl, wq.heap.size, slot_put _ (by rw [hsz]; decide), hle, hM2 wq⟩
    | 16, ho, haft =>
      obtain rfl := Option.some.inj (show some _ = some o from ho)
      obtain ⟨g2, q2, -⟩ := haft ⟨2, .data⟩ (by simp) rfl
      obtain ⟨-, g5, -, -, q5, -⟩ := haft ⟨5, .data⟩ (by simp) rfl
      obtain ⟨g10, q10, -⟩ := haft ⟨10, .data⟩ (by simp) rfl
      obtain ⟨g15, q15, -⟩ := haft ⟨15, .data⟩ (by simp) rfl
      refine wp_of_value (l7 a.eval wq _ _ _ _ _ _ _ _ _ _ _ _ _ _ _ _ _ _ _ _ _ q2 q5 q10 q15) ⟨hF, fun k s _ h => h, _, rfl, ?_⟩
      refine (slot_put _ (by rw [hsz]; decide)).trans ?_
      have f2 : ∀ v, (a.put (some 22) v).tmps.getD 8 undef = _ := fun v => (slot_other v (by decide)).trans q2
      have f5 : ∀ v, (a.put (some 22) v).tmps.getD 11 undef = _ := fun v => (slot_other v (by decide)).trans q5
      have f10 : ∀ v, (a.put (some 22) v).tmps.getD 16 undef = _ := fun v => (slot_other v (by decide)).trans q10
      have f15 : ∀ v, (a.put (some 22) v).tmps.getD 21 undef = _ := fun v => (slot_other v (by decide)).trans q15
      refine congrArg Value.agg ?_
      show _ = #[(a.put (some 22) _).tmps.getD 8 undef, (a.put (some 22) _).tmps.getD 11 undef, (a.put (some 22) _).tmps.getD 16 undef, (a.put (some 22) _).tmps.getD 21 undef]
      rw [f2, f5, f10, f15]
    | 17, ho, haft =>
      obtain rfl := Option.some.inj (show some _ = some o from ho)
      have hle : H ≤ wq.heap.size := by rw [← hH]; exact hF.size
      exact wp_of_value (l8 a.eval wq _ _ _ _ _) ⟨hF.alloc hle _, fun k s _ h => LentR.below ((Below.refl _ _).alloc (Nat.le_refl _) _) k s h, _, rfl, wq.heap.size, _, slot_put _ (by rw [hsz]; decide), hle, rowIs_list wq [.slice none 0 0, .slice none 0 0, .slice none 0 0, .slice none 0 0] 89⟩
    | 18, ho, haft =>
      obtain rfl := Option.some.inj (show some _ = some o from ho)
      obtain ⟨g2, q2, -⟩ := haft ⟨2, .phase⟩ (by simp) rfl
      obtain ⟨-, g5, -, -, q5, -⟩ := haft ⟨5, .phase⟩ (by simp) rfl
      obtain ⟨g10, q10, -⟩ := haft ⟨10, .phase⟩ (by simp) rfl
      obtain ⟨g15, q15, -⟩ := haft ⟨15, .phase⟩ (by simp) rfl
      have q16 := haft ⟨16, .data⟩ (by simp) rfl
      simp only [LentR] at q16
      rw [q2, q5, q10, q15] at q16
      obtain ⟨G, c, q17, hG1, hG2⟩ := haft ⟨17, .data⟩ (by simp) rfl
      refine wp_of_skip (l9 a.eval wq _ _ _ _ _ _ _ G _ _ _ _ _ _ _ _ _ _ _ _ _ _ _ _ q17 q16 (hG2.cell (by omega)) (hG2.cell (by omega)) (hG2.cell (by omega)) (hG2.cell (by omega)) hG2.frozen) ?_
      have s1 := hG2.setCell 0 (.slice (some ⟨g2, 0, none⟩) (t.nr + 1) (t.nr + 1))
      have s2 := s1.setCell 1 (.slice (some ⟨g5, 0, none⟩) (t.nw + 1) (t.nw + 1))
      have s3 := s2.setCell 2 (.slice (some ⟨g10, 0, none⟩) (t.ng + 1) (t.ng + 1))
      have s4 := s3.setCell 3 (.slice (some ⟨g15, 0, none⟩) (t.nc + 1) (t.nc + 1))
      refine ⟨(((hF.setCell hG1 _).setCell hG1 _).setCell hG1 _).setCell hG1 _, fun k s hk hh => LentR.setCell s3 _ k s hk (LentR.setCell s2 _ k s hk (LentR.setCell s1 _ k s hk (LentR.setCell hG2 _ k s hk hh))), undef, rfl, G, _, _, _, _, q17, q16, s4.congr fun j hj => ?_⟩
      have : j = 0 ∨ j = 1 ∨ j = 2 ∨ j = 3 := by omega
      rcases this with rfl | rfl | rfl | rfl <;> rfl
    | n + 19, ho, haft => simp at ho
  case hend =>
    intro a wq hF hS hall
    obtain ⟨g2, q2, hg2, rw2⟩ := hall 2 (by simp)
    obtain ⟨g2', g5, q2', hne, q5, hg5, rw5⟩ := hall 5 (by simp)
    obtain ⟨g10, q10, hg10, rw10⟩ := hall 10 (by simp)
    obtain ⟨g15, q15, hg15, rw15⟩ := hall 15 (by simp)
    obtain ⟨G', c, q17', hG, -⟩ := hall 17 (by simp)
    obtain ⟨G, x1, x2, x3, x4, q17, q16', rwG⟩ := hall 18 (by simp)
    have q16 := hall 16 (by simp)
    have eG : G' = G := by rw [q17'] at q17; injection q17 with e; injection e with e; injection e
    have e2 : g2' = g2 := by rw [q2'] at q2; injection q2 with e; injection e with e; injection e
    subst eG e2
    simp only [LentR] at q16
    rw [q2, q5, q10, q15] at q16
    have hx : (Value.agg #[x1, x2, x3, x4]) = _ := q16'.symm.trans q16
    injection hx with hx
    injection hx with hx
    injection hx with h1 hx
    injection hx with h2 hx
    injection hx with h3 hx
    injection hx with h4 hx
    subst h1 h2 h3 h4
    have ha := same_patch [6, 7, 8, 9, 10, 11, 12, 13, 14, 15, 16, 17, 18, 19, 20, 21, 22, 4] hS (some_dst (by kernel_rfl))
    have z6 : a.tmps.getD 6 undef = _ := hall 0 (by simp)
    have z7 : a.tmps.getD 7 undef = _ := hall 1 (by simp)
    have z8 : a.tmps.getD 8 undef = _ := q2
    have z9 : a.tmps.getD 9 undef = _ := hall 3 (by simp)
    have z10 : a.tmps.getD 10 undef = _ := hall 4 (by simp)
    have z11 : a.tmps.getD 11 undef = _ := q5
    have z12 : a.tmps.getD 12 undef = _ := hall 6 (by simp)
    have z13 : a.tmps.getD 13 undef = _ := hall 7 (by simp)
    have z14 : a.tmps.getD 14 undef = _ := hall 8 (by simp)
    have z15 : a.tmps.getD 15 undef = _ := hall 9 (by simp)
    have z16 : a.tmps.getD 16 undef = _ := q10
    have z17 : a.tmps.getD 17 undef = _ := hall 11 (by simp)
    have z18 : a.tmps.getD 18 undef = _ := hall 12 (by simp)
    have z19 : a.tmps.getD 19 undef = _ := hall 13 (by simp)
    have z20 : a.tmps.getD 20 undef = _ := hall 14 (by simp)
    have z21 : a.tmps.getD 21 undef = _ := q15
    have z22 : a.tmps.getD 22 undef = _ := q16
    have z4 : a.tmps.getD 4 undef = _ := q17
    simp only [patch, List.foldl] at ha
    rw [z6, z7, z8, z9, z10, z11, z12, z13, z14, z15, z16, z17, z18, z19, z20, z21, z22, z4] at ha
    clear z6 z7 z8 z9 z10 z11 z12 z13 z14 z15 z16 z17 z18 z19 z20 z21 z22 z4 q2 q5 q10 q15 q16 q16' q17 q17' q2' hall hS hm1 hm2 hM1 hM2
    simp only [Act.put, List.setIfInBounds_toArray, List.set_cons_succ, List.set_cons_zero] at ha
    subst ha
    refine hK1 _ _ ?_
    obtain ⟨hc0, hc1, hc2, hc3⟩ := hcell wq hF
    have hT : w.heap.size < H := by rw [← hH]; exact rT.lt
    have n10G : g10 ≠ G' := rw10.apart rwG (by decide)
    have n15G : g15 ≠ G' := rw15.apart rwG (by decide)
    obtain ⟨w1, cp1, rc1, sz1, ot1, bc1⟩ := copy_run (P := Tryz.prog) (w := wq) 86 86 159 Tryz.underlying86 2 (size_of_info Tryz.info159) g10 (t.ng + 1) (t.ng + 1) (.slice a2 t.ng p2) t.ng (by omega) 159 _ _ rw10 (by omega) (icell t.g) (hrd wq hF).g.src
    have d2 : wq.cell? ⟨G', 2, none⟩ = some (.slice (some ⟨g10, 0, none⟩) (t.ng + 1) (t.ng + 1)) := rwG.cell (j := 2) (by omega)
    have F1 : Below H W0 w1 := hF.trans (bc1.mono hg10)
    have rG1 : RowIs w1 G' 89 4 _ := rwG.block (ot1 G' (fun e => n10G e.symm))
    have r15 := rw15.block (ot1 g15 (rw15.apart rw10 (by decide)))
    have d3 : w1.cell? ⟨G', 3, none⟩ = some (.slice (some ⟨g15, 0, none⟩) (t.nc + 1) (t.nc + 1)) := rG1.cell (j := 3) (by omega)
    obtain ⟨-, -, -, k3⟩ := hcell w1 F1
    obtain ⟨w2, cp2, rc2, sz2, ot2, bc2⟩ := copy_run (P := Tryz.prog) (w := w1) 87 87 161 Tryz.underlying87 4 (size_of_info Tryz.info161) g15 (t.nc + 1) (t.nc + 1) (.slice a3 t.nc p3) t.nc (by omega) 161 _ _ r15 (by omega) (icell t.c) (hrd w1 F1).c.src
    have F2 : Below H W0 w2 := F1.trans (bc2.mono hg15)
    have rG2 : RowIs w2 G' 89 4 _ := rG1.block (ot2 G' (fun e => n15G e.symm))
    have r10 := rc1.block (ot2 g10 (rw10.apart rw15 (by decide)))
    have r2' := (rw2.block (ot1 _ (rw2.apart rw10 (by decide)))).block (ot2 _ (rw2.apart rw15 (by decide)))
    have r5' := (rw5.block (ot1 _ (rw5.apart rw10 (by decide)))).block (ot2 _ (rw5.apart rw15 (by decide)))
    obtain ⟨j0, j1, j2, j3⟩ := hcell w2 F2
    have i0 : w2.cell? ⟨G', 0, none⟩ = some (.slice (some ⟨g2', 0, none⟩) (t.nr + 1) (t.nr + 1)) := rG2.cell (j := 0) (by omega)
    have i1 : w2.cell? ⟨G', 1, none⟩ = some (.slice (some ⟨g5, 0, none⟩) (t.nw + 1) (t.nw + 1)) := rG2.cell (j := 1) (by omega)
    have i2 : w2.cell? ⟨G', 2, none⟩ = some (.slice (some ⟨g10, 0, none⟩) (t.ng + 1) (t.ng + 1)) := rG2.cell (j := 2) (by omega)
    have i3 : w2.cell? ⟨G', 3, none⟩ = some (.slice (some ⟨g15, 0, none⟩) (t.nc + 1) (t.nc + 1)) := rG2.cell (j := 3) (by omega)
    clear rc1 rw2 rw5 rw10 rw15 r15 rwG rG1 ot1 ot2 bc1 bc2 sz1 sz2 hcell hrd hK1
    go_wp2_with fail
    have hrow : ∀ wx, Below w2.heap.size w2 wx → (wx.cell? ⟨G', 0, none⟩ = some (.slice (some ⟨g2', 0, none⟩) (t.nr + 1) (t.nr + 1)) ∧ wx.cell? ⟨G', 1, none⟩ = some (.slice (some ⟨g5, 0, none⟩) (t.nw + 1) (t.nw + 1)) ∧ wx.cell? ⟨G', 2, none⟩ = some (.slice (some ⟨g10, 0, none⟩) (t.ng + 1) (t.ng + 1)) ∧ wx.cell? ⟨G', 3, none⟩ = some (.slice (some ⟨g15, 0, none⟩) (t.nc + 1) (t.nc + 1))) ∧ wx.cell? ⟨w.heap.size, 0, none⟩ = some (.slice a0 t.nr p0) ∧ wx.cell? ⟨w.heap.size, 1, none⟩ = some (.slice a1 t.nw p1) ∧ wx.cell? ⟨w.heap.size, 2, none⟩ = some (.slice a2 t.ng p2) ∧ wx.cell? ⟨w.heap.size, 3, none⟩ = some (.slice a3 t.nc p3) := fun wx hx => by
      have zT : w.heap.size < w2.heap.size := by have := F2.size; rw [hH] at this; omega
      have hg := rG2.below hx
      exact ⟨⟨hg.cell (j := 0) (by omega), hg.cell (j := 1) (by omega), hg.cell (j := 2) (by omega), hg.cell (j := 3) (by omega)⟩, by rw [hx.cell (p := ⟨w.heap.size, 0, none⟩) zT]; exact j0, by rw [hx.cell (p := ⟨w.heap.size, 1, none⟩) zT]; exact j1, by rw [hx.cell (p := ⟨w.heap.size, 2, none⟩) zT]; exact j2, by rw [hx.cell (p := ⟨w.heap.size, 3, none⟩) zT]; exact j3⟩
    rename_i K2 hK2
    refine wp_region_slots2 (P := Tryz.prog) _ follows_mixed (by kernel_rfl) (fun wx => Below w2.heap.size w2 wx) (XR w.heap.size G' w2.heap.size g2' g5 g10 g15 t a0 a1 a2 a3 p0 p1 p2 p3) ?hloc ?hF ?hob ?hend
    case hF => exact (Below.refl _ _).drew
    case hloc =>
      intro k s s' wx hs hR
      clear hrow hK2 F1 F2 hF r10 rc2 r2' r5' rG2 cp1 cp2 h bW rT r2 r3
      match k, hs, hR with
      | 0, hs, hR => simp only [XR] at hR ⊢; rw [← hs _ rfl 0 (.inl rfl)]; exact hR
      | 1, hs, hR => simp only [XR] at hR ⊢; rw [← hs _ rfl 1 (.inl rfl)]; exact hR
      | 2, hs, hR => simp only [XR] at hR ⊢; rw [← hs _ rfl 2 (.inl rfl)]; exact hR
      | 3, hs, hR => simp only [XR] at hR ⊢; rw [← hs _ rfl 3 (.inl rfl)]; exact hR
      | 4, hs, hR => simp only [XR] at hR ⊢; rw [← hs _ rfl 4 (.inl rfl)]; exact hR
      | 5, hs, hR => simp only [XR] at hR ⊢; rw [← hs _ rfl 5 (.inl rfl)]; exact hR
      | 6, hs, hR => simp only [XR] at hR ⊢; rw [← hs _ rfl 6 (.inl rfl)]; exact hR
      | 7, hs, hR => simp only [XR] at hR ⊢; rw [← hs _ rfl 7 (.inl rfl)]; exact hR
      | 8, hs, hR => simp only [XR] at hR ⊢; rw [← hs _ rfl 8 (.inl rfl)]; exact hR
      | 9, hs, hR => simp only [XR] at hR ⊢; rw [← hs _ rfl 9 (.inl rfl)]; exact hR
      | 10, hs, hR => simp only [XR] at hR ⊢; rw [← hs _ rfl 10 (.inl rfl)]; exact hR
      | 11, hs, hR => simp only [XR] at hR ⊢; rw [← hs _ rfl 11 (.inl rfl)]; exact hR
      | 12, hs, hR => simp only [XR] at hR ⊢; rw [← hs _ rfl 12 (.inl rfl)]; exact hR
      | 13, hs, hR => simp only [XR] at hR ⊢; rw [← hs _ rfl 13 (.inl rfl)]; exact hR
      | 14, hs, hR => simp only [XR] at hR ⊢; rw [← hs _ rfl 14 (.inl rfl)]; exact hR
      | 15, hs, hR => simp only [XR] at hR ⊢; rw [← hs _ rfl 15 (.inl rfl)]; exact hR
      | 16, hs, hR => simp only [XR] at hR ⊢; rw [← hs _ rfl 16 (.inl rfl)]; exact hR
      | 17, hs, hR => simp only [XR] at hR ⊢; rw [← hs _ rfl 17 (.inl rfl)]; exact hR
      | 18, hs, hR => simp only [XR] at hR ⊢; rw [← hs _ rfl 18 (.inl rfl)]; exact hR
      | 19, hs, hR => simp only [XR] at hR ⊢; rw [← hs _ rfl 19 (.inl rfl)]; exact hR
      | 20, hs, hR => simp only [XR] at hR ⊢; rw [← hs _ rfl 20 (.inl rfl)]; exact hR
      | 21, hs, hR => simp only [XR] at hR ⊢; rw [← hs _ rfl 21 (.inl rfl)]; exact hR
      | 22, hs, hR => simp only [XR] at hR ⊢; rw [← hs _ rfl 22 (.inl rfl)]; exact hR
      | 23, hs, hR => simp only [XR] at hR ⊢; rw [← hs _ rfl 23 (.inl rfl)]; exact hR
      | 24, hs, hR => simp only [XR] at hR ⊢; rw [← hs _ rfl 24 (.inl rfl)]; exact hR
      | 25, hs, hR => simp only [XR] at hR ⊢; rw [← hs _ rfl 25 (.inl rfl)]; exact hR
      | 26, hs, hR => simp only [XR] at hR ⊢; rw [← hs _ rfl 25 (.inr ⟨⟨25, .data⟩, by simp, rfl, rfl⟩)]; exact hR
      | _ + 27, hs, hR => trivial
    case hob =>
      intro i o ho a wx hX hS haft
      have hsz : a.tmps.size = 76 := hS.size
      have e1 : a.eval (.tmp 1) = .pointer (some ⟨w.heap.size, 0, none⟩) := hS.out 1 (no_dst (by kernel_rfl))
      have e4 : a.eval (.tmp 4) = .pointer (some ⟨G', 0, none⟩) := hS.out 4 (no_dst (by kernel_rfl))
      obtain ⟨⟨i0, i1, i2, i3⟩, j0, j1, j2, j3⟩ := hrow wx hX
      have hle : w2.heap.size ≤ wx.heap.size := hX.size
      clear hrow hK2 F1 F2 hF r10 rc2 r2' r5' rG2 cp1 cp2 h bW rT r2 r3
      match i, ho, haft with
      | 0, ho, haft =>
        obtain rfl := Option.some.inj (show some _ = some o from ho)
        exact wp_of_value (m1_0 a.eval wx G' _ _ _ _ _ _ e4) ⟨hX, fun k s _ h => h, _, rfl, slot_put _ (by rw [hsz]; decide)⟩
      | 1, ho, haft =>
        obtain rfl := Option.some.inj (show some _ = some o from ho)
        exact wp_of_value (l2_22 a.eval wx G' _ _ _ _ _ _ 0 _ _ _ (haft ⟨0, .data⟩ (by simp) rfl) i0) ⟨hX, fun k s _ h => h, _, rfl, slot_put _ (by rw [hsz]; decide)⟩
      | 2, ho, haft =>
        obtain rfl := Option.some.inj (show some _ = some o from ho)
        exact wp_of_value (l1_0 a.eval wx w.heap.size _ _ _ _ _ _ e1) ⟨hX, fun k s _ h => h, _, rfl, slot_put _ (by rw [hsz]; decide)⟩
      | 3, ho, haft =>
        obtain rfl := Option.some.inj (show some _ = some o from ho)
        exact wp_of_value (l2_22 a.eval wx w.heap.size _ _ _ _ _ _ 0 _ _ _ (haft ⟨2, .data⟩ (by simp) rfl) j0) ⟨hX, fun k s _ h => h, _, rfl, slot_put _ (by rw [hsz]; decide)⟩
      | 4, ho, haft =>
        obtain rfl := Option.some.inj (show some _ = some o from ho)
        exact wp_of_value (l4_22 a.eval wx _ _ _ _ _ _ _ _ _ (haft ⟨3, .data⟩ (by simp) rfl)) ⟨hX, fun k s _ h => h, _, rfl, slot_put _ (by rw [hsz]; decide)⟩
      | 5, ho, haft =>
        obtain rfl := Option.some.inj (show some _ = some o from ho)
        exact wp_of_value (m2_22 a.eval wx _ _ _ _ _ _ _ _ _ hn0 (haft ⟨1, .data⟩ (by simp) rfl) (haft ⟨4, .data⟩ (by simp) rfl)) ⟨hX, fun k s _ h => h, _, rfl, slot_put _ (by rw [hsz]; decide)⟩
      | 6, ho, haft =>
        obtain rfl := Option.some.inj (show some _ = some o from ho)
        exact wp_of_value (m1_1 a.eval wx G' _ _ _ _ _ _ e4) ⟨hX, fun k s _ h => h, _, rfl, slot_put _ (by rw [hsz]; decide)⟩
      | 7, ho, haft =>
        obtain rfl := Option.some.inj (show some _ = some o from ho)
        exact wp_of_value (l2_22 a.eval wx G' _ _ _ _ _ _ 1 _ _ _ (haft ⟨6, .data⟩ (by simp) rfl) i1) ⟨hX, fun k s _ h => h, _, rfl, slot_put _ (by rw [hsz]; decide)⟩
      | 8, ho, haft =>
        obtain rfl := Option.some.inj (show some _ = some o from ho)
        exact wp_of_value (l1_1 a.eval wx w.heap.size _ _ _ _ _ _ e1) ⟨hX, fun k s _ h => h, _, rfl, slot_put _ (by rw [hsz]; decide)⟩
      | 9, ho, haft =>
        obtain rfl := Option.some.inj (show some _ = some o from ho)
        exact wp_of_value (l2_22 a.eval wx w.heap.size _ _ _ _ _ _ 1 _ _ _ (haft ⟨8, .data⟩ (by simp) rfl) j1) ⟨hX, fun k s _ h => h, _, rfl, slot_put _ (by rw [hsz]; decide)⟩
      | 10, ho, haft =>
        obtain rfl := Option.some.inj (show some _ = some o from ho)
        exact wp_of_value (l4_22 a.eval wx _ _ _ _ _ _ _ _ _ (haft ⟨9, .data⟩ (by simp) rfl)) ⟨hX, fun k s _ h => h, _, rfl, slot_put _ (by rw [hsz]; decide)⟩
      | 11, ho, haft =>
        obtain rfl := Option.some.inj (show some _ = some o from ho)
        exact wp_of_value (m2_22 a.eval wx _ _ _ _ _ _ _ _ _ hn1 (haft ⟨7, .data⟩ (by simp) rfl) (haft ⟨10, .data⟩ (by simp) rfl)) ⟨hX, fun k s _ h => h, _, rfl, slot_put _ (by rw [hsz]; decide)⟩
      | 12, ho, haft =>
        obtain rfl := Option.some.inj (show some _ = some o from ho)
        exact wp_of_value (m1_2 a.eval wx G' _ _ _ _ _ _ e4) ⟨hX, fun k s _ h => h, _, rfl, slot_put _ (by rw [hsz]; decide)⟩
      | 13, ho, haft =>
        obtain rfl := Option.some.inj (show some _ = some o from ho)
        exact wp_of_value (l2_44 a.eval wx G' _ _ _ _ _ _ 2 _ _ _ (haft ⟨12, .data⟩ (by simp) rfl) i2) ⟨hX, fun k s _ h => h, _, rfl, slot_put _ (by rw [hsz]; decide)⟩
      | 14, ho, haft =>
        obtain rfl := Option.some.inj (show some _ = some o from ho)
        exact wp_of_value (l1_2 a.eval wx w.heap.size _ _ _ _ _ _ e1) ⟨hX, fun k s _ h => h, _, rfl, slot_put _ (by rw [hsz]; decide)⟩
      | 15, ho, haft =>
        obtain rfl := Option.some.inj (show some _ = some o from ho)
        exact wp_of_value (l2_44 a.eval wx w.heap.size _ _ _ _ _ _ 2 _ _ _ (haft ⟨14, .data⟩ (by simp) rfl) j2) ⟨hX, fun k s _ h => h, _, rfl, slot_put _ (by rw [hsz]; decide)⟩
      | 16, ho, haft =>
        obtain rfl := Option.some.inj (show some _ = some o from ho)
        exact wp_of_value (l4_44 a.eval wx _ _ _ _ _ _ _ _ _ (haft ⟨15, .data⟩ (by simp) rfl)) ⟨hX, fun k s _ h => h, _, rfl, slot_put _ (by rw [hsz]; decide)⟩
      | 17, ho, haft =>
        obtain rfl := Option.some.inj (show some _ = some o from ho)
        exact wp_of_value (m2_44 a.eval wx _ _ _ _ _ _ _ _ _ hn2 (haft ⟨13, .data⟩ (by simp) rfl) (haft ⟨16, .data⟩ (by simp) rfl)) ⟨hX, fun k s _ h => h, _, rfl, slot_put _ (by rw [hsz]; decide)⟩
      | 18, ho, haft =>
        obtain rfl := Option.some.inj (show some _ = some o from ho)
        exact wp_of_value (m1_3 a.eval wx G' _ _ _ _ _ _ e4) ⟨hX, fun k s _ h => h, _, rfl, slot_put _ (by rw [hsz]; decide)⟩
      | 19, ho, haft =>
        obtain rfl := Option.some.inj (show some _ = some o from ho)
        exact wp_of_value (l2_45 a.eval wx G' _ _ _ _ _ _ 3 _ _ _ (haft ⟨18, .data⟩ (by simp) rfl) i3) ⟨hX, fun k s _ h => h, _, rfl, slot_put _ (by rw [hsz]; decide)⟩
      | 20, ho, haft =>
        obtain rfl := Option.some.inj (show some _ = some o from ho)
        exact wp_of_value (l1_3 a.eval wx w.heap.size _ _ _ _ _ _ e1) ⟨hX, fun k s _ h => h, _, rfl, slot_put _ (by rw [hsz]; decide)⟩
      | 21, ho, haft =>
        obtain rfl := Option.some.inj (show some _ = some o from ho)
        exact wp_of_value (l2_45 a.eval wx w.heap.size _ _ _ _ _ _ 3 _ _ _ (haft ⟨20, .data⟩ (by simp) rfl) j3) ⟨hX, fun k s _ h => h, _, rfl, slot_put _ (by rw [hsz]; decide)⟩
      | 22, ho, haft =>
        obtain rfl := Option.some.inj (show some _ = some o from ho)
        exact wp_of_value (l4_45 a.eval wx _ _ _ _ _ _ _ _ _ (haft ⟨21, .data⟩ (by simp) rfl)) ⟨hX, fun k s _ h => h, _, rfl, slot_put _ (by rw [hsz]; decide)⟩
      | 23, ho, haft =>
        obtain rfl := Option.some.inj (show some _ = some o from ho)
        exact wp_of_value (m2_45 a.eval wx _ _ _ _ _ _ _ _ _ hn3 (haft ⟨19, .data⟩ (by simp) rfl) (haft ⟨22, .data⟩ (by simp) rfl)) ⟨hX, fun k s _ h => h, _, rfl, slot_put _ (by rw [hsz]; decide)⟩
      | 24, ho, haft =>
        obtain rfl := Option.some.inj (show some _ = some o from ho)
        exact wp_of_value (m7 a.eval wx _ _ _ _ _ _ _ _ _ _ _ _ _ _ _ _ _ _ _ _ _ (haft ⟨5, .data⟩ (by simp) rfl) (haft ⟨11, .data⟩ (by simp) rfl) (haft ⟨17, .data⟩ (by simp) rfl) (haft ⟨23, .data⟩ (by simp) rfl)) ⟨hX, fun k s _ h => h, _, rfl, slot_put _ (by rw [hsz]; decide)⟩
      | 25, ho, haft =>
        obtain rfl := Option.some.inj (show some _ = some o from ho)
        exact wp_of_value (m8 a.eval wx _ _ _ _ _) ⟨hX.alloc hle _, fun k s _ h => XR.below ((Below.refl _ _).alloc (Nat.le_refl _) _) k s h, _, rfl, wx.heap.size, _, slot_put _ (by rw [hsz]; decide), hle, rowIs_list wx [.slice none 0 0, .slice none 0 0, .slice none 0 0, .slice none 0 0] 91⟩
      | 26, ho, haft =>
        obtain rfl := Option.some.inj (show some _ = some o from ho)
        have q24 := haft ⟨24, .data⟩ (by simp) rfl
        obtain ⟨X, c, q25, hX1, hX2⟩ := haft ⟨25, .data⟩ (by simp) rfl
        refine wp_of_skip (m9 a.eval wx _ _ _ _ _ _ _ X _ _ _ _ _ _ _ _ _ _ _ _ _ _ _ _ q25 q24 (hX2.cell (by omega)) (hX2.cell (by omega)) (hX2.cell (by omega)) (hX2.cell (by omega)) hX2.frozen) ?_
        have s1 := hX2.setCell 0 (.slice (some ⟨g2', 0, none⟩) t.nr (t.nr + 1))
        have s2 := s1.setCell 1 (.slice (some ⟨g5, 0, none⟩) t.nw (t.nw + 1))
        have s3 := s2.setCell 2 (.slice (some ⟨g10, 0, none⟩) t.ng (t.ng + 1))
        have s4 := s3.setCell 3 (.slice (some ⟨g15, 0, none⟩) t.nc (t.nc + 1))
        refine ⟨(((hX.setCell hX1 _).setCell hX1 _).setCell hX1 _).setCell hX1 _, fun k s hk hh => XR.setCell _ _ _ k s hk (XR.setCell _ _ _ k s hk (XR.setCell _ _ _ k s hk (XR.setCell _ _ _ k s hk hh))), undef, rfl, X, q25, s4.congr fun j hj => ?_⟩
        have : j = 0 ∨ j = 1 ∨ j = 2 ∨ j = 3 := by omega
        rcases this with rfl | rfl | rfl | rfl <;> rfl
      | n + 27, ho, haft => simp at ho
    case hend =>
      intro a wx hX hS hall
      obtain ⟨X, c, q25', hX1, -⟩ := hall 25 (by simp)
      obtain ⟨X', q25, rX⟩ := hall 26 (by simp)
      have eX : X = X' := by rw [q25'] at q25; injection q25 with e; injection e with e; injection e
      subst eX
      have ha := same_patch [33, 34, 35, 36, 37, 38, 39, 40, 41, 42, 43, 44, 45, 46, 47, 48, 49, 50, 51, 52, 53, 54, 55, 56, 57, 5] hS (some_dst (by kernel_rfl))
      have z33 : a.tmps.getD 33 undef = _ := hall 0 (by simp)
      have z34 : a.tmps.getD 34 undef = _ := hall 1 (by simp)
      have z35 : a.tmps.getD 35 undef = _ := hall 2 (by simp)
      have z36 : a.tmps.getD 36 undef = _ := hall 3 (by simp)
      have z37 : a.tmps.getD 37 undef = _ := hall 4 (by simp)
      have z38 : a.tmps.getD 38 undef = _ := hall 5 (by simp)
      have z39 : a.tmps.getD 39 undef = _ := hall 6 (by simp)
      have z40 : a.tmps.getD 40 undef = _ := hall 7 (by simp)
      have z41 : a.tmps.getD 41 undef = _ := hall 8 (by simp)
      have z42 : a.tmps.getD 42 undef = _ := hall 9 (by simp)
      have z43 : a.tmps.getD 43 undef = _ := hall 10 (by simp)
      have z44 : a.tmps.getD 44 undef = _ := hall 11 (by simp)
      have z45 : a.tmps.getD 45 undef = _ := hall 12 (by simp)
      have z46 : a.tmps.getD 46 undef = _ := hall 13 (by simp)
      have z47 : a.tmps.getD 47 undef = _ := hall 14 (by simp)
      have z48 : a.tmps.getD 48 undef = _ := hall 15 (by simp)
      have z49 : a.tmps.getD 49 undef = _ := hall 16 (by simp)
      have z50 : a.tmps.getD 50 undef = _ := hall 17 (by simp)
      have z51 : a.tmps.getD 51 undef = _ := hall 18 (by simp)
      have z52 : a.tmps.getD 52 undef = _ := hall 19 (by simp)
      have z53 : a.tmps.getD 53 undef = _ := hall 20 (by simp)
      have z54 : a.tmps.getD 54 undef = _ := hall 21 (by simp)
      have z55 : a.tmps.getD 55 undef = _ := hall 22 (by simp)
      have z56 : a.tmps.getD 56 undef = _ := hall 23 (by simp)
      have z57 : a.tmps.getD 57 undef = _ := hall 24 (by simp)
      have z5 : a.tmps.getD 5 undef = _ := q25
      simp only [patch, List.foldl] at ha
      rw [z33, z34, z35, z36, z37, z38, z39, z40, z41, z42, z43, z44, z45, z46, z47, z48, z49, z50, z51, z52, z53, z54, z55, z56, z57, z5] at ha
      clear z33 z34 z35 z36 z37 z38 z39 z40 z41 z42 z43 z44 z45 z46 z47 z48 z49 z50 z51 z52 z53 z54 z55 z56 z57 z5 q25 q25' hall hS hrow i0 i1 i2 i3 j0 j1 j2 j3 hc0 hc1 hc2 hc3 d2 d3 k3
      simp only [Act.put, List.setIfInBounds_toArray, List.set_cons_succ, List.set_cons_zero] at ha
      subst ha
      refine hK2 _ _ ?_
      clear hK2
      have zT : w.heap.size < w2.heap.size := by have := F2.size; rw [hH] at this; omega
      have nT : w.heap.size ≠ X := by omega
      have nG : G' ≠ X := by have := rG2.lt; omega
      have rTx : RowIs wx w.heap.size 91 4 _ := (rT.below (hH ▸ F2)).below hX
      have rGx : RowIs wx G' 89 4 _ := rG2.below hX
      have zTx := rTx.lt
      have zr : a0 = none → t.nr = 0 := fun e => by
        obtain ⟨_, _, e', _, hh⟩ := h.r
        injection e' with e1 _ _
        rcases Nat.eq_zero_or_pos t.nr with h0 | h0
        · exact h0
        · obtain ⟨_, _, e2, _⟩ := hh h0; rw [← e1, e] at e2; cases e2
      have zw : a1 = none → t.nw = 0 := fun e => by
        obtain ⟨_, _, e', _, hh⟩ := h.wr
        injection e' with e1 _ _
        rcases Nat.eq_zero_or_pos t.nw with h0 | h0
        · exact h0
        · obtain ⟨_, _, e2, _⟩ := hh h0; rw [← e1, e] at e2; cases e2
      have zg : a2 = none → t.ng = 0 := fun e => by
        obtain ⟨_, _, e', _, hh⟩ := h.g
        injection e' with e1 _ _
        rcases Nat.eq_zero_or_pos t.ng with h0 | h0
        · exact h0
        · obtain ⟨_, _, e2, _⟩ := hh h0; rw [← e1, e] at e2; cases e2
      have zc : a3 = none → t.nc = 0 := fun e => by
        obtain ⟨_, _, e', _, hh⟩ := h.c
        injection e' with e1 _ _
        rcases Nat.eq_zero_or_pos t.nc with h0 | h0
        · exact h0
        · obtain ⟨_, _, e2, _⟩ := hh h0; rw [← e1, e] at e2; cases e2
      have kx : Keeps (fun b => b ≠ X) wx wx := Keeps.refl _ _
      have rdall : ∀ wy, Keeps (fun b => b ≠ X) wx wy → wy.cell? ⟨w.heap.size, 0, none⟩ = some (.slice a0 t.nr p0) ∧ wy.cell? ⟨w.heap.size, 1, none⟩ = some (.slice a1 t.nw p1) ∧ wy.cell? ⟨w.heap.size, 2, none⟩ = some (.slice a2 t.ng p2) ∧ wy.cell? ⟨w.heap.size, 3, none⟩ = some (.slice a3 t.nc p3) := fun wy hk => by
        have hr := rTx.block (hk.block _ nT zTx)
        exact ⟨hr.cell (j := 0) (by omega), hr.cell (j := 1) (by omega), hr.cell (j := 2) (by omega), hr.cell (j := 3) (by omega)⟩
      have hgift : ∀ wy, Keeps (fun b => b ≠ X) wx wy → RowIs wy G' 89 4 (lc [.slice (some ⟨g2', 0, none⟩) (t.nr + 1) (t.nr + 1), .slice (some ⟨g5, 0, none⟩) (t.nw + 1) (t.nw + 1), .slice (some ⟨g10, 0, none⟩) (t.ng + 1) (t.ng + 1), .slice (some ⟨g15, 0, none⟩) (t.nc + 1) (t.nc + 1)]) := fun wy hk => rGx.block (hk.block _ nG rGx.lt)
      obtain ⟨y0, y1, y2, y3⟩ := rdall wx kx
      clear rTx rGx zTx
      refine wp_seq_k ?_
      intro K3 hK3
      go_cut [] (fun wy => ∃ b c, (b = some ⟨g2', 0, none⟩ ∨ t.nr = 0) ∧ RowIs wy X 91 4 (lc [.slice b t.nr c, .slice (some ⟨g5, 0, none⟩) t.nw (t.nw + 1), .slice (some ⟨g10, 0, none⟩) t.ng (t.ng + 1), .slice (some ⟨g15, 0, none⟩) t.nc (t.nc + 1)]) ∧ Keeps (fun b => b ≠ X) wx wy ∧ Below w2.heap.size w2 wy)
      case first =>
        have heq := fun w => Lib.run_eql_slice_nil (P := Tryz.prog) w 22 _ a0 t.nr p0 0 0 Tryz.underlying22
        have hfz := rX.frozen
        have oX := rX.cell (j := 0) (by omega)
        have hset := rX.setCell_list (xs := [.slice (some ⟨g2', 0, none⟩) t.nr (t.nr + 1), .slice (some ⟨g5, 0, none⟩) t.nw (t.nw + 1), .slice (some ⟨g10, 0, none⟩) t.ng (t.ng + 1), .slice (some ⟨g15, 0, none⟩) t.nc (t.nc + 1)]) 0 (.slice none 0 0)
        have hzz := zr
        clear rG2 r10 rc2 r2' r5' F1 F2 hF h bW rT r2 r3 cp1 cp2 rdall hgift zr zw zg zc
        rcases a0 with _ | ad
        · have post : ∃ b c, (b = some ⟨g2', 0, none⟩ ∨ t.nr = 0) ∧ RowIs (wx.setCell ⟨X, 0, none⟩ (.slice none 0 0)) X 91 4 (lc [.slice b t.nr c, .slice (some ⟨g5, 0, none⟩) t.nw (t.nw + 1), .slice (some ⟨g10, 0, none⟩) t.ng (t.ng + 1), .slice (some ⟨g15, 0, none⟩) t.nc (t.nc + 1)]) ∧ Keeps (fun b => b ≠ X) wx (wx.setCell ⟨X, 0, none⟩ (.slice none 0 0)) ∧ Below w2.heap.size w2 (wx.setCell ⟨X, 0, none⟩ (.slice none 0 0)) := ⟨none, 0, .inr (hzz rfl), by rw [hzz rfl]; exact hset, kx.setCell (by simp) _, hX.setCell hX1 _⟩
          clear hzz hset
          simp only [Option.isNone_none] at heq
          go_wp2_with fail
          go_meet
          exact post
        · clear hzz hset
          simp only [Option.isNone_some] at heq
          go_wp2_with fail
          go_meet
          exact ⟨_, _, .inl rfl, rX, kx, hX⟩
      case rest =>
        obtain ⟨b0, c0, eb0, rY0, kY0, hY⟩ := hcut
        refine hK3 _ _ ?_
        clear hK3
        clear y0 y1 y2 y3 kx
        clear hX
        obtain ⟨y0, y1, y2, y3⟩ := rdall wc kY0
        clear rX
        refine wp_seq_k ?_
        intro K3 hK3
        go_cut [] (fun wy => ∃ b c, (b = some ⟨g5, 0, none⟩ ∨ t.nw = 0) ∧ RowIs wy X 91 4 (lc [.slice b0 t.nr c0, .slice b t.nw c, .slice (some ⟨g10, 0, none⟩) t.ng (t.ng + 1), .slice (some ⟨g15, 0, none⟩) t.nc (t.nc + 1)]) ∧ Keeps (fun b => b ≠ X) wx wy ∧ Below w2.heap.size w2 wy)
        case first =>
          have heq := fun w => Lib.run_eql_slice_nil (P := Tryz.prog) w 22 _ a1 t.nw p1 0 0 Tryz.underlying22
          have hfz := rY0.frozen
          have oX := rY0.cell (j := 1) (by omega)
          have hset := rY0.setCell_list (xs := [.slice b0 t.nr c0, .slice (some ⟨g5, 0, none⟩) t.nw (t.nw + 1), .slice (some ⟨g10, 0, none⟩) t.ng (t.ng + 1), .slice (some ⟨g15, 0, none⟩) t.nc (t.nc + 1)]) 1 (.slice none 0 0)
          have hzz := zw
          clear rG2 r10 rc2 r2' r5' F1 F2 hF h bW rT r2 r3 cp1 cp2 rdall hgift zr zw zg zc
          rcases a1 with _ | ad
          · have post : ∃ b c, (b = some ⟨g5, 0, none⟩ ∨ t.nw = 0) ∧ RowIs (wc.setCell ⟨X, 1, none⟩ (.slice none 0 0)) X 91 4 (lc [.slice b0 t.nr c0, .slice b t.nw c, .slice (some ⟨g10, 0, none⟩) t.ng (t.ng + 1), .slice (some ⟨g15, 0, none⟩) t.nc (t.nc + 1)]) ∧ Keeps (fun b => b ≠ X) wx (wc.setCell ⟨X, 1, none⟩ (.slice none 0 0)) ∧ Below w2.heap.size w2 (wc.setCell ⟨X, 1, none⟩ (.slice none 0 0)) := ⟨none, 0, .inr (hzz rfl), by rw [hzz rfl]; exact hset, kY0.setCell (by simp) _, hY.setCell hX1 _⟩
            clear hzz hset
            simp only [Option.isNone_none] at heq
            go_wp2_with fail
            go_meet
            exact post
          · clear hzz hset
            simp only [Option.isNone_some] at heq
            go_wp2_with fail
            go_meet
            exact ⟨_, _, .inl rfl, rY0, kY0, hY⟩
        case rest =>
          obtain ⟨b1, c1, eb1, rY1, kY1, hY⟩ := hcut
          refine hK3 _ _ ?_
          clear hK3
          clear y0 y1 y2 y3 kY0
          
          obtain ⟨y0, y1, y2, y3⟩ := rdall wc kY1
          clear rY0
          refine wp_seq_k ?_
          intro K3 hK3
          go_cut [] (fun wy => ∃ b c, (b = some ⟨g10, 0, none⟩ ∨ t.ng = 0) ∧ RowIs wy X 91 4 (lc [.slice b0 t.nr c0, .slice b1 t.nw c1, .slice b t.ng c, .slice (some ⟨g15, 0, none⟩) t.nc (t.nc + 1)]) ∧ Keeps (fun b => b ≠ X) wx wy ∧ Below w2.heap.size w2 wy)
          case first =>
            have heq := fun w => Lib.run_eql_slice_nil (P := Tryz.prog) w 86 _ a2 t.ng p2 0 0 Tryz.underlying86
            have hfz := rY1.frozen
            have oX := rY1.cell (j := 2) (by omega)
            have hset := rY1.setCell_list (xs := [.slice b0 t.nr c0, .slice b1 t.nw c1, .slice (some ⟨g10, 0, none⟩) t.ng (t.ng + 1), .slice (some ⟨g15, 0, none⟩) t.nc (t.nc + 1)]) 2 (.slice none 0 0)
            have hzz := zg
            clear rG2 r10 rc2 r2' r5' F1 F2 hF h bW rT r2 r3 cp1 cp2 rdall hgift zr zw zg zc
            rcases a2 with _ | ad
            · have post : ∃ b c, (b = some ⟨g10, 0, none⟩ ∨ t.ng = 0) ∧ RowIs (wc.setCell ⟨X, 2, none⟩ (.slice none 0 0)) X 91 4 (lc [.slice b0 t.nr c0, .slice b1 t.nw c1, .slice b t.ng c, .slice (some ⟨g15, 0, none⟩) t.nc (t.nc + 1)]) ∧ Keeps (fun b => b ≠ X) wx (wc.setCell ⟨X, 2, none⟩ (.slice none 0 0)) ∧ Below w2.heap.size w2 (wc.setCell ⟨X, 2, none⟩ (.slice none 0 0)) := ⟨none, 0, .inr (hzz rfl), by rw [hzz rfl]; exact hset, kY1.setCell (by simp) _, hY.setCell hX1 _⟩
              clear hzz hset
              simp only [Option.isNone_none] at heq
              go_wp2_with fail
              go_meet
              exact post
            · clear hzz hset
              simp only [Option.isNone_some] at heq
              go_wp2_with fail
              go_meet
              exact ⟨_, _, .inl rfl, rY1, kY1, hY⟩
          case rest =>
            obtain ⟨b2, c2, eb2, rY2, kY2, hY⟩ := hcut
            refine hK3 _ _ ?_
            clear hK3
            clear y0 y1 y2 y3 kY1
            
            obtain ⟨y0, y1, y2, y3⟩ := rdall wc kY2
            clear rY1
            refine wp_seq_k ?_
            intro K3 hK3
            go_cut [] (fun wy => ∃ b c, (b = some ⟨g15, 0, none⟩ ∨ t.nc = 0) ∧ RowIs wy X 91 4 (lc [.slice b0 t.nr c0, .slice b1 t.nw c1, .slice b2 t.ng c2, .slice b t.nc c]) ∧ Keeps (fun b => b ≠ X) wx wy ∧ Below w2.heap.size w2 wy)
            case first =>
              have heq := fun w => Lib.run_eql_slice_nil (P := Tryz.prog) w 87 _ a3 t.nc p3 0 0 Tryz.underlying87
              have hfz := rY2.frozen
              have oX := rY2.cell (j := 3) (by omega)
              have hset := rY2.setCell_list (xs := [.slice b0 t.nr c0, .slice b1 t.nw c1, .slice b2 t.ng c2, .slice (some ⟨g15, 0, none⟩) t.nc (t.nc + 1)]) 3 (.slice none 0 0)
              have hzz := zc
              clear rG2 r10 rc2 r2' r5' F1 F2 hF h bW rT r2 r3 cp1 cp2 rdall hgift zr zw zg zc
              rcases a3 with _ | ad
              · have post : ∃ b c, (b = some ⟨g15, 0, none⟩ ∨ t.nc = 0) ∧ RowIs (wc.setCell ⟨X, 3, none⟩ (.slice none 0 0)) X 91 4 (lc [.slice b0 t.nr c0, .slice b1 t.nw c1, .slice b2 t.ng c2, .slice b t.nc c]) ∧ Keeps (fun b => b ≠ X) wx (wc.setCell ⟨X, 3, none⟩ (.slice none 0 0)) ∧ Below w2.heap.size w2 (wc.setCell ⟨X, 3, none⟩ (.slice none 0 0)) := ⟨none, 0, .inr (hzz rfl), by rw [hzz rfl]; exact hset, kY2.setCell (by simp) _, hY.setCell hX1 _⟩
                clear hzz hset
                simp only [Option.isNone_none] at heq
                go_wp2_with fail
                go_meet
                exact post
              · clear hzz hset
                simp only [Option.isNone_some] at heq
                go_wp2_with fail
                go_meet
                exact ⟨_, _, .inl rfl, rY2, kY2, hY⟩
            case rest =>
              obtain ⟨b3, c3, eb3, rY3, kY3, hY⟩ := hcut
              refine hK3 _ _ ?_
              clear hK3
              clear y0 y1 y2 y3 kY2
              
              obtain ⟨y0, y1, y2, y3⟩ := rdall wc kY3
              clear rY2
              have rG := hgift wc kY3
              have i0 : wc.cell? ⟨G', 0, none⟩ = some (.slice (some ⟨g2', 0, none⟩) (t.nr + 1) (t.nr + 1)) := rG.cell (j := 0) (by omega)
              have i1 : wc.cell? ⟨G', 1, none⟩ = some (.slice (some ⟨g5, 0, none⟩) (t.nw + 1) (t.nw + 1)) := rG.cell (j := 1) (by omega)
              have i2 : wc.cell? ⟨G', 2, none⟩ = some (.slice (some ⟨g10, 0, none⟩) (t.ng + 1) (t.ng + 1)) := rG.cell (j := 2) (by omega)
              have i3 : wc.cell? ⟨G', 3, none⟩ = some (.slice (some ⟨g15, 0, none⟩) (t.nc + 1) (t.nc + 1)) := rG.cell (j := 3) (by omega)
              have k0 : wc.cell? ⟨X, 0, none⟩ = some (.slice b0 t.nr c0) := rY3.cell (j := 0) (by omega)
              have k1 : wc.cell? ⟨X, 1, none⟩ = some (.slice b1 t.nw c1) := rY3.cell (j := 1) (by omega)
              have k2 : wc.cell? ⟨X, 2, none⟩ = some (.slice b2 t.ng c2) := rY3.cell (j := 2) (by omega)
              have k3 : wc.cell? ⟨X, 3, none⟩ = some (.slice b3 t.nc c3) := rY3.cell (j := 3) (by omega)
              have zH : w.heap.size + 1 + 1 < H := by rw [← hH]; exact r3.lt
              have zH2 : H ≤ w2.heap.size := by rw [← hH]; exact F2.size
              have m2 : RowIs wc (w.heap.size + 1) 89 4 _ := (r2.below (hH ▸ F2)).below hY
              have m3 : RowIs wc (w.heap.size + 1 + 1) 91 4 _ := (r3.below (hH ▸ F2)).below hY
              have fin : ∀ wz, Keeps (fun b => b ≠ w.heap.size + 1 ∧ b ≠ w.heap.size + 1 + 1) wc wz → Below w.heap.size wc wz → LentIs w wz t g2' g5 g10 g15 b0 b1 b2 b3 := fun wz hk hb => by
                have q2 := (r2'.below hY)
                have q5 := (r5'.below hY)
                have q10 := (r10.below hY)
                have q15 := (rc2.below hY)
                refine ⟨by omega, by omega, by omega, by omega, hne, q2.block (hk.block _ ⟨by omega, by omega⟩ q2.lt), q5.block (hk.block _ ⟨by omega, by omega⟩ q5.lt), (q10.block (hk.block _ ⟨by omega, by omega⟩ q10.lt)).congr fun j _ => ?_, (q15.block (hk.block _ ⟨by omega, by omega⟩ q15.lt)).congr fun j _ => ?_, eb0, eb1, eb2, eb3, ((bW.trans (F2.mono (by omega))).trans (hY.mono (by omega))).trans hb⟩
                · simp only [icell, cut]; split <;> rfl
                · simp only [icell, cut]; split <;> rfl
              generalize hB2 : w.heap.size + 1 = B2 at *
              generalize hB3 : B2 + 1 = B3 at *
              have n1 : G' ≠ B2 := by omega
              have n2 : G' ≠ B3 := by omega
              have n3 : X ≠ B2 := by omega
              have n4 : X ≠ B3 := by omega
              have n5 : B2 ≠ B3 := by omega
              have hw2 : w.heap.size ≤ B2 := by omega
              have hw3 : w.heap.size ≤ B3 := by omega
              have o0 := m2.cell (j := 0) (by omega)
              have o1 := m2.cell (j := 1) (by omega)
              have o2 := m2.cell (j := 2) (by omega)
              have o3 := m2.cell (j := 3) (by omega)
              have p0' := m3.cell (j := 0) (by omega)
              have p1' := m3.cell (j := 1) (by omega)
              have p2' := m3.cell (j := 2) (by omega)
              have p3' := m3.cell (j := 3) (by omega)
              have f2 := m2.frozen
              have f3 := m3.frozen
              have s0 := RowIs.setCell_list (xs := [.slice none 0 0, .slice none 0 0, .slice none 0 0, .slice none 0 0]) m2 0 (.slice (some ⟨g2', 0, none⟩) (t.nr + 1) (t.nr + 1))
              have s1 := RowIs.setCell_list (xs := [.slice (some ⟨g2', 0, none⟩) (t.nr + 1) (t.nr + 1), .slice none 0 0, .slice none 0 0, .slice none 0 0]) s0 1 (.slice (some ⟨g5, 0, none⟩) (t.nw + 1) (t.nw + 1))
              have s2 := RowIs.setCell_list (xs := [.slice (some ⟨g2', 0, none⟩) (t.nr + 1) (t.nr + 1), .slice (some ⟨g5, 0, none⟩) (t.nw + 1) (t.nw + 1), .slice none 0 0, .slice none 0 0]) s1 2 (.slice (some ⟨g10, 0, none⟩) (t.ng + 1) (t.ng + 1))
              have s3 := RowIs.setCell_list (xs := [.slice (some ⟨g2', 0, none⟩) (t.nr + 1) (t.nr + 1), .slice (some ⟨g5, 0, none⟩) (t.nw + 1) (t.nw + 1), .slice (some ⟨g10, 0, none⟩) (t.ng + 1) (t.ng + 1), .slice none 0 0]) s2 3 (.slice (some ⟨g15, 0, none⟩) (t.nc + 1) (t.nc + 1))
              have fB2 : RowIs ((((((((wc.setCell ⟨B2, 0, none⟩ (.slice (some ⟨g2', 0, none⟩) (t.nr + 1) (t.nr + 1))).setCell ⟨B2, 1, none⟩ (.slice (some ⟨g5, 0, none⟩) (t.nw + 1) (t.nw + 1))).setCell ⟨B2, 2, none⟩ (.slice (some ⟨g10, 0, none⟩) (t.ng + 1) (t.ng + 1))).setCell ⟨B2, 3, none⟩ (.slice (some ⟨g15, 0, none⟩) (t.nc + 1) (t.nc + 1))).setCell ⟨B3, 0, none⟩ (.slice b0 t.nr c0)).setCell ⟨B3, 1, none⟩ (.slice b1 t.nw c1)).setCell ⟨B3, 2, none⟩ (.slice b2 t.ng c2)).setCell ⟨B3, 3, none⟩ (.slice b3 t.nc c3)) B2 89 4 (lc [.slice (some ⟨g2', 0, none⟩) (t.nr + 1) (t.nr + 1), .slice (some ⟨g5, 0, none⟩) (t.nw + 1) (t.nw + 1), .slice (some ⟨g10, 0, none⟩) (t.ng + 1) (t.ng + 1), .slice (some ⟨g15, 0, none⟩) (t.nc + 1) (t.nc + 1)]) := (((s3.setCell_other n5 _).setCell_other n5 _).setCell_other n5 _).setCell_other n5 _
              have m3' : RowIs ((((wc.setCell ⟨B2, 0, none⟩ (.slice (some ⟨g2', 0, none⟩) (t.nr + 1) (t.nr + 1))).setCell ⟨B2, 1, none⟩ (.slice (some ⟨g5, 0, none⟩) (t.nw + 1) (t.nw + 1))).setCell ⟨B2, 2, none⟩ (.slice (some ⟨g10, 0, none⟩) (t.ng + 1) (t.ng + 1))).setCell ⟨B2, 3, none⟩ (.slice (some ⟨g15, 0, none⟩) (t.nc + 1) (t.nc + 1))) B3 91 4 (lc [.slice none 0 0, .slice none 0 0, .slice none 0 0, .slice none 0 0]) := (((m3.setCell_other (Ne.symm n5) _).setCell_other (Ne.symm n5) _).setCell_other (Ne.symm n5) _).setCell_other (Ne.symm n5) _
              have t0 := RowIs.setCell_list (xs := [.slice none 0 0, .slice none 0 0, .slice none 0 0, .slice none 0 0]) m3' 0 (.slice b0 t.nr c0)
              have t1 := RowIs.setCell_list (xs := [.slice b0 t.nr c0, .slice none 0 0, .slice none 0 0, .slice none 0 0]) t0 1 (.slice b1 t.nw c1)
              have t2 := RowIs.setCell_list (xs := [.slice b0 t.nr c0, .slice b1 t.nw c1, .slice none 0 0, .slice none 0 0]) t1 2 (.slice b2 t.ng c2)
              have t3 := RowIs.setCell_list (xs := [.slice b0 t.nr c0, .slice b1 t.nw c1, .slice b2 t.ng c2, .slice none 0 0]) t2 3 (.slice b3 t.nc c3)
              have fB3 : RowIs ((((((((wc.setCell ⟨B2, 0, none⟩ (.slice (some ⟨g2', 0, none⟩) (t.nr + 1) (t.nr + 1))).setCell ⟨B2, 1, none⟩ (.slice (some ⟨g5, 0, none⟩) (t.nw + 1) (t.nw + 1))).setCell ⟨B2, 2, none⟩ (.slice (some ⟨g10, 0, none⟩) (t.ng + 1) (t.ng + 1))).setCell ⟨B2, 3, none⟩ (.slice (some ⟨g15, 0, none⟩) (t.nc + 1) (t.nc + 1))).setCell ⟨B3, 0, none⟩ (.slice b0 t.nr c0)).setCell ⟨B3, 1, none⟩ (.slice b1 t.nw c1)).setCell ⟨B3, 2, none⟩ (.slice b2 t.ng c2)).setCell ⟨B3, 3, none⟩ (.slice b3 t.nc c3)) B3 91 4 (lc [.slice b0 t.nr c0, .slice b1 t.nw c1, .slice b2 t.ng c2, .slice b3 t.nc c3]) := t3
              have fk : Keeps (fun b => b ≠ B2 ∧ b ≠ B3) wc ((((((((wc.setCell ⟨B2, 0, none⟩ (.slice (some ⟨g2', 0, none⟩) (t.nr + 1) (t.nr + 1))).setCell ⟨B2, 1, none⟩ (.slice (some ⟨g5, 0, none⟩) (t.nw + 1) (t.nw + 1))).setCell ⟨B2, 2, none⟩ (.slice (some ⟨g10, 0, none⟩) (t.ng + 1) (t.ng + 1))).setCell ⟨B2, 3, none⟩ (.slice (some ⟨g15, 0, none⟩) (t.nc + 1) (t.nc + 1))).setCell ⟨B3, 0, none⟩ (.slice b0 t.nr c0)).setCell ⟨B3, 1, none⟩ (.slice b1 t.nw c1)).setCell ⟨B3, 2, none⟩ (.slice b2 t.ng c2)).setCell ⟨B3, 3, none⟩ (.slice b3 t.nc c3)) := ((((((((Keeps.refl _ _).setCell (by simp) _).setCell (by simp) _).setCell (by simp) _).setCell (by simp) _).setCell (by simp) _).setCell (by simp) _).setCell (by simp) _).setCell (by simp) _
              have fb : Below w.heap.size wc ((((((((wc.setCell ⟨B2, 0, none⟩ (.slice (some ⟨g2', 0, none⟩) (t.nr + 1) (t.nr + 1))).setCell ⟨B2, 1, none⟩ (.slice (some ⟨g5, 0, none⟩) (t.nw + 1) (t.nw + 1))).setCell ⟨B2, 2, none⟩ (.slice (some ⟨g10, 0, none⟩) (t.ng + 1) (t.ng + 1))).setCell ⟨B2, 3, none⟩ (.slice (some ⟨g15, 0, none⟩) (t.nc + 1) (t.nc + 1))).setCell ⟨B3, 0, none⟩ (.slice b0 t.nr c0)).setCell ⟨B3, 1, none⟩ (.slice b1 t.nw c1)).setCell ⟨B3, 2, none⟩ (.slice b2 t.ng c2)).setCell ⟨B3, 3, none⟩ (.slice b3 t.nc c3)) := ((((((((Below.refl _ _).setCell hw2 _).setCell hw2 _).setCell hw2 _).setCell hw2 _).setCell hw3 _).setCell hw3 _).setCell hw3 _).setCell hw3 _
              clear rG2 r10 rc2 r2' r5' F1 F2 hF h bW rT r2 r3 cp1 cp2 rdall hgift zr zw zg zc rY3 rG y0 y1 y2 y3 hY kY3 m2 m3 hB2 hB3 eb0 eb1 eb2 eb3 s0 s1 s2 s3 m3' t0 t1 t2 t3
              go_wp2_with fail
              go_region
              all_goals go_wp2_with fail
              generalize ((((((((wc.setCell ⟨B2, 0, none⟩ (.slice (some ⟨g2', 0, none⟩) (t.nr + 1) (t.nr + 1))).setCell ⟨B2, 1, none⟩ (.slice (some ⟨g5, 0, none⟩) (t.nw + 1) (t.nw + 1))).setCell ⟨B2, 2, none⟩ (.slice (some ⟨g10, 0, none⟩) (t.ng + 1) (t.ng + 1))).setCell ⟨B2, 3, none⟩ (.slice (some ⟨g15, 0, none⟩) (t.nc + 1) (t.nc + 1))).setCell ⟨B3, 0, none⟩ (.slice b0 t.nr c0)).setCell ⟨B3, 1, none⟩ (.slice b1 t.nw c1)).setCell ⟨B3, 2, none⟩ (.slice b2 t.ng c2)).setCell ⟨B3, 3, none⟩ (.slice b3 t.nc c3)) = wf at *
              have e0 : wf.drew.cell? ⟨B2, 0, none⟩ = some (.slice (some ⟨g2', 0, none⟩) (t.nr + 1) (t.nr + 1)) := fB2.cell (j := 0) (by omega)
              have e1 : wf.drew.cell? ⟨B2, 1, none⟩ = some (.slice (some ⟨g5, 0, none⟩) (t.nw + 1) (t.nw + 1)) := fB2.cell (j := 1) (by omega)
              have e2 : wf.drew.cell? ⟨B2, 2, none⟩ = some (.slice (some ⟨g10, 0, none⟩) (t.ng + 1) (t.ng + 1)) := fB2.cell (j := 2) (by omega)
              have e3 : wf.drew.cell? ⟨B2, 3, none⟩ = some (.slice (some ⟨g15, 0, none⟩) (t.nc + 1) (t.nc + 1)) := fB2.cell (j := 3) (by omega)
              have h0 : wf.drew.cell? ⟨B3, 0, none⟩ = some (.slice b0 t.nr c0) := fB3.cell (j := 0) (by omega)
              have h1 : wf.drew.cell? ⟨B3, 1, none⟩ = some (.slice b1 t.nw c1) := fB3.cell (j := 1) (by omega)
              have h2 : wf.drew.cell? ⟨B3, 2, none⟩ = some (.slice b2 t.ng c2) := fB3.cell (j := 2) (by omega)
              have h3 : wf.drew.cell? ⟨B3, 3, none⟩ = some (.slice b3 t.nc c3) := fB3.cell (j := 3) (by omega)
              refine bodyPost_ret (v := .tuple #[.agg #[.slice (some ⟨g2', 0, none⟩) (t.nr + 1) (t.nr + 1), .slice (some ⟨g5, 0, none⟩) (t.nw + 1) (t.nw + 1), .slice (some ⟨g10, 0, none⟩) (t.ng + 1) (t.ng + 1), .slice (some ⟨g15, 0, none⟩) (t.nc + 1) (t.nc + 1)], .agg #[.slice b0 t.nr c0, .slice b1 t.nw c1, .slice b2 t.ng c2, .slice b3 t.nc c3]]) (by simp [results, Tryz.results25, go_sem, e0, e1, e2, e3, h0, h1, h2, h3]) rfl ?_
              exact ⟨_, _, _, _, _, _, _, _, _, _, _, _, rfl, fin _ ⟨fk.size, fk.block⟩ fb.drew⟩
end Go.Proofs.YtldeiiffabfmeaaGreatDoor
