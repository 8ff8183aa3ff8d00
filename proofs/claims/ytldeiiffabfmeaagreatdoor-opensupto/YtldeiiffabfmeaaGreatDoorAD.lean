/- The contract of the document's New. -/
import Derived.Test.YtldeiiffabfmeaaGreatDoorZ
import Derived.Test.YtldeiiffabfmeaaGreatDoorAC
import Derived.Test.YtldeiiffabfmeaaGreatDoorAE
import Derived.Deep.RegionLaw
import Derived.Deep.DeepCutAuto
set_option linter.unusedVariables false
set_option linter.unusedSimpArgs false
namespace Go.Proofs.YtldeiiffabfmeaaGreatDoor
open Go.RowKit

/-- The document's engine while its log is copied: k transactions are there. -/
structure LogInv (w : World) (X k nb : Nat) (fb : Nat → Int) (ts : Nat → TxnD) (cX : Nat → Value) (vB vLog : Value) (vs : Nat → Value) (wq : World) : Prop where
  x : RowIs wq X 156 97998 (upd cX 5 vLog)
  lt : w.heap.size < X
  l : OwnL wq w.heap.size 91 4 vLog k vs
  t : ∀ i, i < k → RdTS (fun b => w.heap.size ≤ b ∧ b ≠ X ∧ vLog.ownBlock ≠ some b) wq (vs (i * 4)) (vs (i * 4 + 1)) (vs (i * 4 + 2)) (vs (i * 4 + 3)) (ts i)
  b : RdIS (fun b => w.heap.size ≤ b ∧ b ≠ X ∧ vLog.ownBlock ≠ some b) wq vB 1 nb fb
  bl : Below w.heap.size w wq
theorem LogInv.below {w : World} {X k nb : Nat} {fb : Nat → Int} {ts : Nat → TxnD} {cX : Nat → Value} {vB vLog : Value} {vs : Nat → Value} {wq wq' : World} (h : LogInv w X k nb fb ts cX vB vLog vs wq) (hb : Below wq.heap.size wq wq') : LogInv w X k nb fb ts cX vB vLog vs wq' :=
  ⟨h.x.below hb, h.lt, h.l.below hb, fun i hi => (h.t i hi).keep (.of_below hb), h.b.keep (.of_below hb), h.bl.trans (hb.mono h.bl.size)⟩

theorem more_old (k : Nat) (vs c : Nat → Value) {j : Nat} (h : j < k) : more k vs c j = vs j := if_pos h
theorem more_new (k : Nat) (vs c : Nat → Value) (j : Nat) : more k vs c (k + j) = c j := by
  unfold more; rw [if_neg (by omega), show k + j - k = j from by omega]

theorem more_new0 (k : Nat) (vs c : Nat → Value) : more k vs c k = c 0 := by
  unfold more; rw [if_neg (by omega), Nat.sub_self]

/-- One transaction more. -/
theorem LogInv.more {w : World} {X k nb : Nat} {fb : Nat → Int} {ts : Nat → TxnD} {cX : Nat → Value} {vB vLog : Value} {vs : Nat → Value} {wc w' : World} {T : Nat} {u0 u1 u2 u3 v' : Value}
    (hI : LogInv w X k nb fb ts cX vB vLog vs wc) (hT : T < wc.heap.size) (hXT : X < T) (hvT : ∀ g, vLog.ownBlock = some g → g < T) (hu : RdTS (fun b => T < b) wc u0 u1 u2 u3 (ts k))
    (hown : OwnL w' w.heap.size 91 4 v' (k + 1) (more (k * 4) vs (lc [u0, u1, u2, u3]))) (hgrow : (wc.alloc (.cells #[u0, u1, u2, u3] 91)).drew.grownBy w' vLog.ownBlock) (hloc : v'.ownBlock = vLog.ownBlock ∨ v'.ownBlock = some (wc.heap.size + 1)) :
    LogInv w X (k + 1) nb fb ts cX vB v' (more (k * 4) vs (lc [u0, u1, u2, u3])) (w'.setCell ⟨X, 5, none⟩ v') ∧ w'.cell? ⟨X, 5, none⟩ = some vLog ∧ w'.frozen? ⟨X, 5, none⟩ = false ∧ (∀ g T' m c, RowIs wc g T' m c → T' ≠ 91 → g ≠ X → RowIs (w'.setCell ⟨X, 5, none⟩ v') g T' m c) := by
  have hbA : Below wc.heap.size wc (wc.alloc (.cells #[u0, u1, u2, u3] 91)).drew := ((Below.refl _ _).alloc (Nat.le_refl _) _).drew
  have zA : (wc.alloc (.cells #[u0, u1, u2, u3] 91)).drew.heap.size = wc.heap.size + 1 := by simp
  have zg := hgrow.size
  have hrow : ∀ g T' m c, RowIs wc g T' m c → T' ≠ 91 → RowIs w' g T' m c := fun g T' m c h hT' =>
    (h.below hbA).block (hgrow.block g (by have := h.lt; omega) (fun e => hI.l.apart h hT' e.symm))
  have rX := hrow X 156 _ _ hI.x (by decide)
  have hne : v'.ownBlock ≠ some X := hown.apart rX (by decide)
  have kS : ∀ S : Nat → Prop, (∀ g, vLog.ownBlock = some g → ¬ S g) → ¬ S X → Keeps S wc (w'.setCell ⟨X, 5, none⟩ v') := fun S h1 h2 =>
    ((Keeps.of_below hbA).grown hgrow h1).setCell h2 _
  have loc : ∀ b, b < wc.heap.size → vLog.ownBlock ≠ some b → v'.ownBlock ≠ some b := fun b hb h => by
    rcases hloc with e | e
    · rw [e]; exact h
    · rw [e]; intro h'; injection h' with h'; omega
  have zX := hI.x.lt
  have zN := hI.bl.size
  have zlt := hI.lt
  refine ⟨⟨?_, hI.lt, ?_, fun i hi => ?_, ?_, ?_⟩, ?_, rX.frozen 5, fun g T' m c h hT' hg => (hrow g T' m c h hT').setCell_other (by simpa using hg) _⟩
  · refine (rX.setCell 5 v').congr fun j _ => ?_
    by_cases e : j = 5
    · subst e; rw [upd_same]; exact if_pos rfl
    · show (if j = 5 then v' else upd cX 5 vLog j) = upd cX 5 v' j
      rw [if_neg e, upd_other _ _ e, upd_other _ _ e]
  · exact hown.keep fun g hg => Below.heap_setCell _ _ _ _ (by intro e; exact hne (by rw [hg]; simp at e; rw [e]))
  · by_cases e : i = k
    · subst e
      rw [more_new0, more_new, more_new, more_new]
      refine ((hu.lt.keep (kS _ (fun g hg h => by have := hvT g hg; omega) (by omega))).mono fun b h => ⟨by omega, by omega, loc b h.2 (fun e => by have := hvT b e; omega)⟩)
    · rw [more_old _ _ _ (by omega), more_old _ _ _ (by omega), more_old _ _ _ (by omega), more_old _ _ _ (by omega)]
      exact (((hI.t i (by omega)).lt.keep (kS _ (fun g hg h => h.1.2.2 hg) (fun h => h.1.2.1 rfl))).mono fun b h => ⟨h.1.1, h.1.2.1, loc b h.2 h.1.2.2⟩)
  · exact ((hI.b.lt.keep (kS _ (fun g hg h => h.1.2.2 hg) (fun h => h.1.2.1 rfl))).mono fun b h => ⟨h.1.1, h.1.2.1, loc b h.2 h.1.2.2⟩)
  · refine ((hI.bl.trans (hbA.mono zN)).grown hgrow (by omega) (fun g hg => (hI.l.lt g hg).1)).setCell (by have := hI.lt; simp; omega) _
  · rw [rX.cell (j := 5) (by omega), upd_same]

/-- The document's engine when the first pairs of start are there. -/
def tableC (cX : Nat → Value) (nb : Nat) (fb fs : Nat → Int) : Nat → Nat → Value
  | 0 => cX
  | i + 1 => fun j => if j = 6 + homeOf nb fb (fs (2 * i)) * 200 + 100 + (fs (2 * i)).toNat then .int .i64 (fs (2 * i + 1)) else
      (fun j => if j = 6 + homeOf nb fb (fs (2 * i)) * 200 + (fs (2 * i)).toNat then .bool true else tableC cX nb fb fs i j) j
section
variable {cX : Nat → Value} {nb : Nat} {fb fs : Nat → Int} {ns : Nat} (hkey : ∀ j, j < ns → 0 ≤ fs (2 * j) ∧ fs (2 * j) ≤ 99) (hnb : nb ≤ 3)
theorem tableC_far (hkey : ∀ j, j < ns → 0 ≤ fs (2 * j) ∧ fs (2 * j) ≤ 99) (hnb : nb ≤ 3) {j : Nat} (hj : j < 6 ∨ 806 ≤ j) : ∀ i, i ≤ ns → tableC cX nb fb fs i j = cX j
  | 0, _ => rfl
  | i + 1, hi => by
    have hk := hkey i (by omega)
    have hh := home_le nb fb (fs (2 * i))
    simp only [tableC]
    rw [if_neg (by omega), if_neg (by omega), tableC_far hkey hnb hj i (by omega)]
theorem tableC_has (hkey : ∀ j, j < ns → 0 ≤ fs (2 * j) ∧ fs (2 * j) ≤ 99) (hnb : nb ≤ 3) (hz : ∀ p k, p < 4 → k < 100 → cX (6 + p * 200 + k) = .bool false) {p k : Nat} (hp : p < 4) (hk : k < 100) : ∀ i, i ≤ ns → tableC cX nb fb fs i (6 + p * 200 + k) = .bool (startHs nb fb fs i p k)
  | 0, _ => hz p k hp hk
  | i + 1, hi => by
    have hk' := hkey i (by omega)
    have hh := home_le nb fb (fs (2 * i))
    simp only [tableC, startHs]
    rw [if_neg (by omega)]
    by_cases e : homeOf nb fb (fs (2 * i)) = p ∧ fs (2 * i) = (k : Int)
    · rw [if_pos e, if_pos (by omega)]
    · rw [if_neg e, if_neg (by omega), tableC_has hkey hnb hz hp hk i (by omega)]
theorem tableC_val (hkey : ∀ j, j < ns → 0 ≤ fs (2 * j) ∧ fs (2 * j) ≤ 99) (hnb : nb ≤ 3) (hz : ∀ p k, p < 4 → k < 100 → cX (6 + p * 200 + 100 + k) = .int .i64 0) {p k : Nat} (hp : p < 4) (hk : k < 100) : ∀ i, i ≤ ns → tableC cX nb fb fs i (6 + p * 200 + 100 + k) = .int .i64 (startVl nb fb fs i p k)
  | 0, _ => hz p k hp hk
  | i + 1, hi => by
    have hk' := hkey i (by omega)
    have hh := home_le nb fb (fs (2 * i))
    simp only [tableC, startVl]
    by_cases e : homeOf nb fb (fs (2 * i)) = p ∧ fs (2 * i) = (k : Int)
    · rw [if_pos e, if_pos (by omega)]
    · rw [if_neg e, if_neg (by omega), if_neg (by omega), tableC_val hkey hnb hz hp hk i (by omega)]
end

section
variable (vB vL vS : Value) (a b c : Int) (nb : Nat) (fb : Nat → Int) (nl : Nat) (ts : Nat → TxnD) (ns : Nat) (fs : Nat → Int) (w : World)

set_option maxHeartbeats 2000000 in
theorem rnew_no (hB : RdI w vB 1 nb fb) (hL : RdL w vL nl ts) (hS : RdI w vS 2 ns fs) (hno : (newAt nb fb a b c nl ts ns fs).1 ≠ 0) :
    Calls Tryz.prog 27 #[.agg #[vB, .int .i64 a, .int .i64 b, .int .i64 c], vL, vS] w fun r w' => r = .returned (.tuple #[.pointer none, .int .i64 ((newAt nb fb a b c nl ts ns fs).1 : Nat), .int .i64 ((newAt nb fb a b c nl ts ns fs).2 : Nat)]) ∧ Below w.heap.size w w' := by
  have hb0 : Below w.heap.size w (w.alloc (.cells #[vB, .int .i64 a, .int .i64 b, .int .i64 c] 24)) := (Below.refl _ _).alloc (Nat.le_refl _) _
  generalize hx : (newAt nb fb a b c nl ts ns fs).1 = x at *
  generalize hy : (newAt nb fb a b c nl ts ns fs).2 = y at *
  have hx0 : ((x : Int) == 0) = false := by simp; omega
  go_enter Tryz.func27, Tryz.ntmps27
  go_wp2_with fail
  refine (rcheck_any _ _ _ nb fb a b c nl ts ns fs _ (hB.below hb0) (hL.below hb0) (hS.below hb0)).mono ?_
  rintro r w1 ⟨rfl, hb1⟩
  rw [hx, hy]
  clear hx hy
  go_wp2_with fail
  go_ret3
  exact ⟨rfl, hb0.trans (hb1.mono (by simp))⟩

set_option maxRecDepth 20000 in
set_option maxHeartbeats 4000000 in
theorem rnew_yes (hB : RdI w vB 1 nb fb) (hL : RdL w vL nl ts) (hS : RdI w vS 2 ns fs)
    (hc : configB nb fb a b c = true) (hl : logAt nl ts = none) (hs : startAt ns fs = none) :
    Calls Tryz.prog 27 #[.agg #[vB, .int .i64 a, .int .i64 b, .int .i64 c], vL, vS] w fun r w' => ∃ (x : Nat) (vB' vL' : Value), r = .returned (.tuple #[.pointer (some ⟨x, 0, none⟩), .int .i64 0, .int .i64 0]) ∧
      IsRefS (fun b => w.heap.size ≤ b) w' x ⟨nb, fb, nl, ts⟩ vB' vL' (startHs nb fb fs ns) (startVl nb fb fs ns) ∧ Below w.heap.size w w' := by
  have hb0 : Below w.heap.size w (w.alloc (.cells #[vB, .int .i64 a, .int .i64 b, .int .i64 c] 24)) := (Below.refl _ _).alloc (Nat.le_refl _) _
  have hnb := (config_ok hc).1
  have hnl := (log_ok hl).1
  have hns := (start_ok hs).1
  have hkey : ∀ j, j < ns → 0 ≤ fs (2 * j) ∧ fs (2 * j) ≤ 99 := fun j hj => rises_bound (start_ok hs).2 ns (Nat.le_refl _) j hj
  have hat := newAt_ok hc hl hs
  obtain ⟨aB, pB, rfl, -, -⟩ := id hB
  obtain ⟨cz, hzero, hZ⟩ := row102 (.slice aB nb pB) a b c ((nb : Int) + 1)
  go_enter Tryz.func27, Tryz.ntmps27
  go_wp2_with fail
  refine (rcheck_any _ _ _ nb fb a b c nl ts ns fs _ (hB.below hb0) (hL.below hb0) (hS.below hb0)).mono ?_
  rintro r w1 ⟨rfl, hb1⟩
  rw [hat]
  have b1 := hb0.trans (hb1.mono (by simp))
  have r1 := (rowIs_list w [.slice aB nb pB, .int .i64 a, .int .i64 b, .int .i64 c] 24).below hb1
  have c0 : w1.cell? ⟨w.heap.size, 0, none⟩ = some (.slice aB nb pB) := r1.cell (j := 0) (by simp)
  have c1 : w1.cell? ⟨w.heap.size, 1, none⟩ = some (.int .i64 a) := r1.cell (j := 1) (by simp)
  have c2 : w1.cell? ⟨w.heap.size, 2, none⟩ = some (.int .i64 b) := r1.cell (j := 2) (by simp)
  have c3 : w1.cell? ⟨w.heap.size, 3, none⟩ = some (.int .i64 c) := r1.cell (j := 3) (by simp)
  clear hat hc hl hs
  have z1 := b1.size
  have zr1 := r1.lt
  have rX := hZ w1
  have bX := b1.alloc z1 (.cells (((((Tryz.zeroCells156.setIfInBounds 0 (.slice aB nb pB)).setIfInBounds 1 (.int .i64 a)).setIfInBounds 2 (.int .i64 b)).setIfInBounds 3 (.int .i64 c)).setIfInBounds 4 (.int .i64 ((nb : Int) + 1))) 156)
  have r24 := r1.alloc (.cells (((((Tryz.zeroCells156.setIfInBounds 0 (.slice aB nb pB)).setIfInBounds 1 (.int .i64 a)).setIfInBounds 2 (.int .i64 b)).setIfInBounds 3 (.int .i64 c)).setIfInBounds 4 (.int .i64 ((nb : Int) + 1))) 156)
  go_wp2_with fail
  generalize w1.alloc (.cells (((((Tryz.zeroCells156.setIfInBounds 0 (.slice aB nb pB)).setIfInBounds 1 (.int .i64 a)).setIfInBounds 2 (.int .i64 b)).setIfInBounds 3 (.int .i64 c)).setIfInBounds 4 (.int .i64 ((nb : Int) + 1))) 156) = wx at *
  generalize w1.heap.size = X at *
  clear hZ c0 c1 c2 c3 r1 hb1 b1 hb0
  have hE : ∃ cE : Nat → Value, RowIs wx X 156 97998 cE ∧ ZeroEng cE ∧ cE 0 = .slice aB nb pB ∧ cE 4 = .int .i64 ((nb : Int) + 1) := by
    refine ⟨_, rX, ⟨?_, fun p k hp hk => ?_, fun p k hp hk => ?_, fun p i hp hi => ?_, fun p i hp hi => ?_, fun p q hp hq => ?_⟩, rfl, rfl⟩
    · exact hzero.l
    · rw [if_neg (by omega), if_neg (by omega), if_neg (by omega), if_neg (by omega), if_neg (by omega)]; exact hzero.t1 p k hp hk
    · rw [if_neg (by omega), if_neg (by omega), if_neg (by omega), if_neg (by omega), if_neg (by omega)]; exact hzero.t2 p k hp hk
    · rw [if_neg (by omega), if_neg (by omega), if_neg (by omega), if_neg (by omega), if_neg (by omega)]; exact hzero.s0 p i hp hi
    · rw [if_neg (by omega), if_neg (by omega), if_neg (by omega), if_neg (by omega), if_neg (by omega)]; exact hzero.s2 p i hp hi
    · rw [if_neg (by omega), if_neg (by omega), if_neg (by omega), if_neg (by omega), if_neg (by omega)]; exact hzero.m p q hp hq
  obtain ⟨cE, rE, hzE, hE0, hE4⟩ := hE
  clear rX hzero
  have x0 : wx.cell? ⟨X, 0, none⟩ = some (.slice aB nb pB) := by rw [rE.cell (j := 0) (by omega), hE0]
  have n0 : wx.cell? ⟨w.heap.size, 0, none⟩ = some (.slice aB nb pB) := r24.cell (j := 0) (by simp)
  have f0 := rE.frozen
  have hBx := hB.below bX
  have hXlt := rE.lt
  go_cut [] (fun wq => ∃ vB', RdIS (fun b => wx.heap.size ≤ b) wq vB' 1 nb fb ∧ RowIs wq X 156 97998 (upd cE 0 vB') ∧ Below w.heap.size w wq ∧ RowIs wq w.heap.size 24 4 (lc [.slice aB nb pB, .int .i64 a, .int .i64 b, .int .i64 c]))
  case first =>
    obtain ⟨vB', w5, hap, hB5, hb5⟩ := append0 (P := Tryz.prog) (w := wx.drew) 22 3 _ 1 8 Tryz.underlying22 Tryz.info3 (by omega) aB (.slice aB nb pB) nb fb (hBx.below ((Below.refl _ _).drew))
    obtain ⟨aB', pB', rfl, -, -⟩ := id hB5
    have k0 : w5.cell? ⟨X, 0, none⟩ = some (.slice aB nb pB) := by rw [hb5.cell (p := ⟨X, 0, none⟩) (by exact rE.lt)]; exact x0
    have kf : ∀ o, w5.frozen? ⟨X, o, none⟩ = false := fun o => by rw [hb5.frozen (p := ⟨X, o, none⟩) (by exact rE.lt)]; exact f0 o
    have fin : ∃ vB', RdIS (fun b => wx.heap.size ≤ b) (w5.setCell ⟨X, 0, none⟩ (.slice aB' nb pB')) vB' 1 nb fb ∧ RowIs (w5.setCell ⟨X, 0, none⟩ (.slice aB' nb pB')) X 156 97998 (upd cE 0 vB') ∧ Below w.heap.size w (w5.setCell ⟨X, 0, none⟩ (.slice aB' nb pB')) ∧ RowIs (w5.setCell ⟨X, 0, none⟩ (.slice aB' nb pB')) w.heap.size 24 4 (lc [.slice aB nb pB, .int .i64 a, .int .i64 b, .int .i64 c]) := by
      refine ⟨_, (hB5.mono (S' := fun b => wx.heap.size ≤ b) (fun b h => h)).keep ((Keeps.refl _ _).setCell (by simp; omega) _), ?_, ?_, ?_⟩
      · refine ((rE.below ((Below.refl _ _).drew)).below hb5 |>.setCell 0 _).congr fun j _ => ?_
        rfl
      · exact ((bX.drew).trans (hb5.mono (by simp; omega))).setCell (by simp; omega) _
      · exact ((r24.below ((Below.refl _ _).drew)).below hb5).setCell_other (by simp; omega) _
    cases aB with
    | none =>
      go_region_law (refine step_of_run rfl _ _ 22 rfl _ _ rfl rfl _ _ hap ?_)
      all_goals go_wp2_with fail
      all_goals go_meet
      all_goals exact fin
    | some ad =>
      go_region_law (refine step_of_run rfl _ _ 22 rfl _ _ rfl rfl _ _ hap ?_)
      all_goals go_wp2_with fail
      all_goals go_meet
      all_goals exact fin
  case rest =>
    obtain ⟨vB', hB5, r5, b5, r245⟩ := hcut
    obtain ⟨aL, pL, rfl, hnl', hcL⟩ := id hL
    obtain ⟨aB', pB', rfl, -, -⟩ := id hB5
    go_wp2_with fail
    go_loopw [12] (fun i wr => ∃ k : Nat, k ≤ nl ∧ i = .int .i64 k ∧ ∃ vLog vs, LogInv w X k nb fb ts (upd cE 0 (.slice aB' nb pB')) (.slice aB' nb pB') vLog vs wr ∧ RowIs wr w.heap.size 24 4 (lc [.slice aB nb pB, .int .i64 a, .int .i64 b, .int .i64 c])) (fun i _ => nl - (intOf i).toNat)
    case atStart =>
      refine ⟨0, Nat.zero_le _, rfl, .slice none 0 0, fun _ => .slice none 0 0, ⟨r5.congr fun j _ => ?_, by omega, ownL_nil _ _ _ _ _, fun i hi => by omega, hB5.mono (fun b h => ⟨by omega, by omega, by simp [Value.ownBlock]⟩), b5⟩, r245⟩
      by_cases e : j = 5
      · subst e; rw [upd_same, upd_other _ _ (by omega)]; exact hzE.l
      · rw [upd_other (upd cE 0 (.slice aB' nb pB')) _ e]
    case round =>
      clear r5 b5 r245 hB5
      obtain ⟨k, hk, rfl, vLog, vs, hI, r24⟩ := hrel
      by_cases hkn : k < nl
      · obtain ⟨bb, off, rfl, hbb, us, hcell, ht⟩ := hcL (by omega)
        have hbw := hI.bl
        have hT : RdT wr (us (k * 4)) (us (k * 4 + 1)) (us (k * 4 + 2)) (us (k * 4 + 3)) (ts k) := (ht k hkn).below hbw
        have hz := hbw.size
        have e0 : wr.cell? ⟨bb, off + k * 4, none⟩ = some (us (k * 4)) := by rw [hbw.cell (p := ⟨bb, off + k * 4, none⟩) hbb, hcell _ (by omega)]
        have e1 : wr.cell? ⟨bb, off + k * 4 + 1, none⟩ = some (us (k * 4 + 1)) := by rw [hbw.cell (p := ⟨bb, off + k * 4 + 1, none⟩) hbb, Nat.add_assoc, hcell _ (by omega)]
        have e2 : wr.cell? ⟨bb, off + k * 4 + 2, none⟩ = some (us (k * 4 + 2)) := by rw [hbw.cell (p := ⟨bb, off + k * 4 + 2, none⟩) hbb, Nat.add_assoc, hcell _ (by omega)]
        have e3 : wr.cell? ⟨bb, off + k * 4 + 3, none⟩ = some (us (k * 4 + 3)) := by rw [hbw.cell (p := ⟨bb, off + k * 4 + 3, none⟩) hbb, Nat.add_assoc, hcell _ (by omega)]
        generalize us (k * 4) = q0 at *
        generalize us (k * 4 + 1) = q1 at *
        generalize us (k * 4 + 2) = q2 at *
        generalize us (k * 4 + 3) = q3 at *
        clear hcell ht hcL
        obtain ⟨a0, p0, rfl, -, -⟩ := id hT.r
        obtain ⟨a1, p1, rfl, -, -⟩ := id hT.wr
        obtain ⟨a2, p2, rfl, -, -⟩ := id hT.g
        obtain ⟨a3, p3, rfl, -, -⟩ := id hT.c
        have hbr : bb < wr.heap.size := by omega
        have rT : RowIs (wr.alloc (.cells #[.slice none 0 0, .slice none 0 0, .slice none 0 0, .slice none 0 0] 91)) wr.heap.size 91 4 (lc [.slice none 0 0, .slice none 0 0, .slice none 0 0, .slice none 0 0]) := rowIs_list wr [.slice none 0 0, .slice none 0 0, .slice none 0 0, .slice none 0 0] 91
        have bT : Below wr.heap.size wr (wr.alloc (.cells #[.slice none 0 0, .slice none 0 0, .slice none 0 0, .slice none 0 0] 91)) := (Below.refl _ _).alloc (Nat.le_refl _) _
        go_wp2_with fail
        generalize wr.alloc (.cells #[.slice none 0 0, .slice none 0 0, .slice none 0 0, .slice none 0 0] 91) = wc at *
        have g0 : wc.cell? ⟨bb, off + k * 4, none⟩ = some (.slice a0 (ts k).nr p0) := by rw [bT.cell (p := ⟨bb, off + k * 4, none⟩) hbr]; exact e0
        have t0 : wc.cell? ⟨wr.heap.size, 0, none⟩ = some (.slice none 0 0) := rT.cell (j := 0) (by omega)
        have zT := rT.lt
        go_cut [] (fun wq => ∃ u0, RdIS (fun b => wr.heap.size < b) wq u0 1 (ts k).nr (ts k).r ∧ RowIs wq wr.heap.size 91 4 (lc [u0, .slice none 0 0, .slice none 0 0, .slice none 0 0]) ∧ Below wr.heap.size wr wq)
        case' first =>
          obtain ⟨v', w5, hap, hv5, hb5⟩ := append0 (P := Tryz.prog) (w := wc.drew) 22 3 _ 1 8 Tryz.underlying22 Tryz.info3 (by omega) none (.slice a0 (ts k).nr p0) (ts k).nr (ts k).r ((hT.r.below bT).below ((Below.refl _ _).drew))
          obtain ⟨A, Pp, rfl, -, -⟩ := id hv5
          have k0 : w5.cell? ⟨wr.heap.size, 0, none⟩ = some (.slice none 0 0) := by rw [hb5.cell (p := ⟨wr.heap.size, 0, none⟩) (by exact zT)]; exact t0
          have kf : w5.frozen? ⟨wr.heap.size, 0, none⟩ = false := by rw [hb5.frozen (p := ⟨wr.heap.size, 0, none⟩) (by exact zT)]; exact rT.frozen _
          have kk : Keeps (fun b => wr.heap.size < b) wc (w5.setCell ⟨wr.heap.size, 0, none⟩ (.slice A (ts k).nr Pp)) := ((Keeps.of_below ((Below.refl _ _).drew)).trans (Keeps.of_below hb5)).setCell (by simp) _
          have fin : ∃ u0, RdIS (fun b => wr.heap.size < b) (w5.setCell ⟨wr.heap.size, 0, none⟩ (.slice A (ts k).nr Pp)) u0 1 (ts k).nr (ts k).r ∧ RowIs (w5.setCell ⟨wr.heap.size, 0, none⟩ (.slice A (ts k).nr Pp)) wr.heap.size 91 4 (lc [u0, .slice none 0 0, .slice none 0 0, .slice none 0 0]) ∧ Below wr.heap.size wr (w5.setCell ⟨wr.heap.size, 0, none⟩ (.slice A (ts k).nr Pp)) := by
            refine ⟨_, (hv5.mono (S' := (fun b => wr.heap.size < b)) (fun b h => Nat.lt_of_lt_of_le zT h)).keep ((Keeps.refl _ _).setCell (by simp) _), ?_, (bT.drew.trans (hb5.mono (by simp; omega))).setCell (Nat.le_refl _) _⟩
            exact ((rT.below ((Below.refl _ _).drew)).below hb5).setCell_list (xs := [.slice none 0 0, .slice none 0 0, .slice none 0 0, .slice none 0 0]) 0 _
          go_region_law (refine step_of_run rfl _ _ 22 rfl _ _ rfl rfl _ _ hap ?_)
          all_goals go_wp2_with fail
          all_goals go_meet
          all_goals exact fin
        case' rest =>
          clear g0 t0 zT rT bT
          obtain ⟨u0, h0u, rT, bT⟩ := hcut
          go_wp2_with fail
        have g1 : wc.cell? ⟨bb, off + k * 4 + 1, none⟩ = some (.slice a1 (ts k).nw p1) := by rw [bT.cell (p := ⟨bb, off + k * 4 + 1, none⟩) hbr]; exact e1
        have t1 : wc.cell? ⟨wr.heap.size, 1, none⟩ = some (.slice none 0 0) := rT.cell (j := 1) (by omega)
        have zT := rT.lt
        go_cut [] (fun wq => ∃ u0 u1, RdIS (fun b => wr.heap.size < b) wq u0 1 (ts k).nr (ts k).r ∧ RdIS (fun b => wr.heap.size < b) wq u1 1 (ts k).nw (ts k).wr ∧ RowIs wq wr.heap.size 91 4 (lc [u0, u1, .slice none 0 0, .slice none 0 0]) ∧ Below wr.heap.size wr wq)
        case' first =>
          obtain ⟨v', w5, hap, hv5, hb5⟩ := append0 (P := Tryz.prog) (w := wc.drew) 22 3 _ 1 8 Tryz.underlying22 Tryz.info3 (by omega) none (.slice a1 (ts k).nw p1) (ts k).nw (ts k).wr ((hT.wr.below bT).below ((Below.refl _ _).drew))
          obtain ⟨A, Pp, rfl, -, -⟩ := id hv5
          have k0 : w5.cell? ⟨wr.heap.size, 1, none⟩ = some (.slice none 0 0) := by rw [hb5.cell (p := ⟨wr.heap.size, 1, none⟩) (by exact zT)]; exact t1
          have kf : w5.frozen? ⟨wr.heap.size, 1, none⟩ = false := by rw [hb5.frozen (p := ⟨wr.heap.size, 1, none⟩) (by exact zT)]; exact rT.frozen _
          have kk : Keeps (fun b => wr.heap.size < b) wc (w5.setCell ⟨wr.heap.size, 1, none⟩ (.slice A (ts k).nw Pp)) := ((Keeps.of_below ((Below.refl _ _).drew)).trans (Keeps.of_below hb5)).setCell (by simp) _
          have fin : ∃ u0 u1, RdIS (fun b => wr.heap.size < b) (w5.setCell ⟨wr.heap.size, 1, none⟩ (.slice A (ts k).nw Pp)) u0 1 (ts k).nr (ts k).r ∧ RdIS (fun b => wr.heap.size < b) (w5.setCell ⟨wr.heap.size, 1, none⟩ (.slice A (ts k).nw Pp)) u1 1 (ts k).nw (ts k).wr ∧ RowIs (w5.setCell ⟨wr.heap.size, 1, none⟩ (.slice A (ts k).nw Pp)) wr.heap.size 91 4 (lc [u0, u1, .slice none 0 0, .slice none 0 0]) ∧ Below wr.heap.size wr (w5.setCell ⟨wr.heap.size, 1, none⟩ (.slice A (ts k).nw Pp)) := by
            refine ⟨u0, _, h0u.keep kk, (hv5.mono (S' := (fun b => wr.heap.size < b)) (fun b h => Nat.lt_of_lt_of_le zT h)).keep ((Keeps.refl _ _).setCell (by simp) _), ?_, (bT.drew.trans (hb5.mono (by simp; omega))).setCell (Nat.le_refl _) _⟩
            exact ((rT.below ((Below.refl _ _).drew)).below hb5).setCell_list (xs := [u0, .slice none 0 0, .slice none 0 0, .slice none 0 0]) 1 _
          go_region_law (refine step_of_run rfl _ _ 22 rfl _ _ rfl rfl _ _ hap ?_)
          all_goals go_wp2_with fail
          all_goals go_meet
          all_goals exact fin
        case' rest =>
          clear g1 t1 zT rT bT h0u
          obtain ⟨u0, u1, h0u, h1u, rT, bT⟩ := hcut
          go_wp2_with fail
        have g2 : wc.cell? ⟨bb, off + k * 4 + 2, none⟩ = some (.slice a2 (ts k).ng p2) := by rw [bT.cell (p := ⟨bb, off + k * 4 + 2, none⟩) hbr]; exact e2
        have t2 : wc.cell? ⟨wr.heap.size, 2, none⟩ = some (.slice none 0 0) := rT.cell (j := 2) (by omega)
        have zT := rT.lt
        go_cut [] (fun wq => ∃ u0 u1 u2, RdIS (fun b => wr.heap.size < b) wq u0 1 (ts k).nr (ts k).r ∧ RdIS (fun b => wr.heap.size < b) wq u1 1 (ts k).nw (ts k).wr ∧ RdIS (fun b => wr.heap.size < b) wq u2 2 (ts k).ng (ts k).g ∧ RowIs wq wr.heap.size 91 4 (lc [u0, u1, u2, .slice none 0 0]) ∧ Below wr.heap.size wr wq)
        case' first =>
          obtain ⟨v', w5, hap, hv5, hb5⟩ := append0 (P := Tryz.prog) (w := wc.drew) 86 159 _ 2 16 Tryz.underlying86 Tryz.info159 (by omega) none (.slice a2 (ts k).ng p2) (ts k).ng (ts k).g ((hT.g.below bT).below ((Below.refl _ _).drew))
          obtain ⟨A, Pp, rfl, -, -⟩ := id hv5
          have k0 : w5.cell? ⟨wr.heap.size, 2, none⟩ = some (.slice none 0 0) := by rw [hb5.cell (p := ⟨wr.heap.size, 2, none⟩) (by exact zT)]; exact t2
          have kf : w5.frozen? ⟨wr.heap.size, 2, none⟩ = false := by rw [hb5.frozen (p := ⟨wr.heap.size, 2, none⟩) (by exact zT)]; exact rT.frozen _
          have kk : Keeps (fun b => wr.heap.size < b) wc (w5.setCell ⟨wr.heap.size, 2, none⟩ (.slice A (ts k).ng Pp)) := ((Keeps.of_below ((Below.refl _ _).drew)).trans (Keeps.of_below hb5)).setCell (by simp) _
          have fin : ∃ u0 u1 u2, RdIS (fun b => wr.heap.size < b) (w5.setCell ⟨wr.heap.size, 2, none⟩ (.slice A (ts k).ng Pp)) u0 1 (ts k).nr (ts k).r ∧ RdIS (fun b => wr.heap.size < b) (w5.setCell ⟨wr.heap.size, 2, none⟩ (.slice A (ts k).ng Pp)) u1 1 (ts k).nw (ts k).wr ∧ RdIS (fun b => wr.heap.size < b) (w5.setCell ⟨wr.heap.size, 2, none⟩ (.slice A (ts k).ng Pp)) u2 2 (ts k).ng (ts k).g ∧ RowIs (w5.setCell ⟨wr.heap.size, 2, none⟩ (.slice A (ts k).ng Pp)) wr.heap.size 91 4 (lc [u0, u1, u2, .slice none 0 0]) ∧ Below wr.heap.size wr (w5.setCell ⟨wr.heap.size, 2, none⟩ (.slice A (ts k).ng Pp)) := by
            refine ⟨u0, u1, _, h0u.keep kk, h1u.keep kk, (hv5.mono (S' := (fun b => wr.heap.size < b)) (fun b h => Nat.lt_of_lt_of_le zT h)).keep ((Keeps.refl _ _).setCell (by simp) _), ?_, (bT.drew.trans (hb5.mono (by simp; omega))).setCell (Nat.le_refl _) _⟩
            exact ((rT.below ((Below.refl _ _).drew)).below hb5).setCell_list (xs := [u0, u1, .slice none 0 0, .slice none 0 0]) 2 _
          go_region_law (refine step_of_run rfl _ _ 86 rfl _ _ rfl rfl _ _ hap ?_)
          all_goals go_wp2_with fail
          all_goals go_meet
          all_goals exact fin
        case' rest =>
          clear g2 t2 zT rT bT h0u h1u
          obtain ⟨u0, u1, u2, h0u, h1u, h2u, rT, bT⟩ := hcut
          go_wp2_with fail
        have g3 : wc.cell? ⟨bb, off + k * 4 + 3, none⟩ = some (.slice a3 (ts k).nc p3) := by rw [bT.cell (p := ⟨bb, off + k * 4 + 3, none⟩) hbr]; exact e3
        have t3 : wc.cell? ⟨wr.heap.size, 3, none⟩ = some (.slice none 0 0) := rT.cell (j := 3) (by omega)
        have zT := rT.lt
        go_cut [] (fun wq => ∃ u0 u1 u2 u3, RdIS (fun b => wr.heap.size < b) wq u0 1 (ts k).nr (ts k).r ∧ RdIS (fun b => wr.heap.size < b) wq u1 1 (ts k).nw (ts k).wr ∧ RdIS (fun b => wr.heap.size < b) wq u2 2 (ts k).ng (ts k).g ∧ RdIS (fun b => wr.heap.size < b) wq u3 4 (ts k).nc (ts k).c ∧ RowIs wq wr.heap.size 91 4 (lc [u0, u1, u2, u3]) ∧ Below wr.heap.size wr wq)
        case' first =>
          obtain ⟨v', w5, hap, hv5, hb5⟩ := append0 (P := Tryz.prog) (w := wc.drew) 87 161 _ 4 32 Tryz.underlying87 Tryz.info161 (by omega) none (.slice a3 (ts k).nc p3) (ts k).nc (ts k).c ((hT.c.below bT).below ((Below.refl _ _).drew))
          obtain ⟨A, Pp, rfl, -, -⟩ := id hv5
          have k0 : w5.cell? ⟨wr.heap.size, 3, none⟩ = some (.slice none 0 0) := by rw [hb5.cell (p := ⟨wr.heap.size, 3, none⟩) (by exact zT)]; exact t3
          have kf : w5.frozen? ⟨wr.heap.size, 3, none⟩ = false := by rw [hb5.frozen (p := ⟨wr.heap.size, 3, none⟩) (by exact zT)]; exact rT.frozen _
          have kk : Keeps (fun b => wr.heap.size < b) wc (w5.setCell ⟨wr.heap.size, 3, none⟩ (.slice A (ts k).nc Pp)) := ((Keeps.of_below ((Below.refl _ _).drew)).trans (Keeps.of_below hb5)).setCell (by simp) _
          have fin : ∃ u0 u1 u2 u3, RdIS (fun b => wr.heap.size < b) (w5.setCell ⟨wr.heap.size, 3, none⟩ (.slice A (ts k).nc Pp)) u0 1 (ts k).nr (ts k).r ∧ RdIS (fun b => wr.heap.size < b) (w5.setCell ⟨wr.heap.size, 3, none⟩ (.slice A (ts k).nc Pp)) u1 1 (ts k).nw (ts k).wr ∧ RdIS (fun b => wr.heap.size < b) (w5.setCell ⟨wr.heap.size, 3, none⟩ (.slice A (ts k).nc Pp)) u2 2 (ts k).ng (ts k).g ∧ RdIS (fun b => wr.heap.size < b) (w5.setCell ⟨wr.heap.size, 3, none⟩ (.slice A (ts k).nc Pp)) u3 4 (ts k).nc (ts k).c ∧ RowIs (w5.setCell ⟨wr.heap.size, 3, none⟩ (.slice A (ts k).nc Pp)) wr.heap.size 91 4 (lc [u0, u1, u2, u3]) ∧ Below wr.heap.size wr (w5.setCell ⟨wr.heap.size, 3, none⟩ (.slice A (ts k).nc Pp)) := by
            refine ⟨u0, u1, u2, _, h0u.keep kk, h1u.keep kk, h2u.keep kk, (hv5.mono (S' := (fun b => wr.heap.size < b)) (fun b h => Nat.lt_of_lt_of_le zT h)).keep ((Keeps.refl _ _).setCell (by simp) _), ?_, (bT.drew.trans (hb5.mono (by simp; omega))).setCell (Nat.le_refl _) _⟩
            exact ((rT.below ((Below.refl _ _).drew)).below hb5).setCell_list (xs := [u0, u1, u2, .slice none 0 0]) 3 _
          go_region_law (refine step_of_run rfl _ _ 87 rfl _ _ rfl rfl _ _ hap ?_)
          all_goals go_wp2_with fail
          all_goals go_meet
          all_goals exact fin
        case' rest =>
          clear g3 t3 zT rT bT h0u h1u h2u
          obtain ⟨u0, u1, u2, u3, h0u, h1u, h2u, h3u, rT, bT⟩ := hcut
          go_wp2_with fail
        obtain ⟨A0, P0, rfl, -, -⟩ := id h0u
        obtain ⟨A1, P1, rfl, -, -⟩ := id h1u
        obtain ⟨A2, P2, rfl, -, -⟩ := id h2u
        obtain ⟨A3, P3, rfl, -, -⟩ := id h3u
        have hIc := hI.below bT
        obtain ⟨aV, pV, rfl⟩ := hIc.l.slice
        have y5 : wc.cell? ⟨X, 5, none⟩ = some (.slice aV k pV) := by rw [hIc.x.cell (j := 5) (by omega), upd_same]
        have t0 : wc.cell? ⟨wr.heap.size, 0, none⟩ = some (.slice A0 (ts k).nr P0) := rT.cell (j := 0) (by omega)
        have t1 : wc.cell? ⟨wr.heap.size, 1, none⟩ = some (.slice A1 (ts k).nw P1) := rT.cell (j := 1) (by omega)
        have t2 : wc.cell? ⟨wr.heap.size, 2, none⟩ = some (.slice A2 (ts k).ng P2) := rT.cell (j := 2) (by omega)
        have t3 : wc.cell? ⟨wr.heap.size, 3, none⟩ = some (.slice A3 (ts k).nc P3) := rT.cell (j := 3) (by omega)
        have zT := rT.lt
        have hXr := hI.x.lt
        have hlo : OwnL (wc.alloc (.cells #[.slice A0 (ts k).nr P0, .slice A1 (ts k).nw P1, .slice A2 (ts k).ng P2, .slice A3 (ts k).nc P3] 91)).drew w.heap.size 91 4 (.slice aV k pV) k vs := (hIc.l.below ((Below.refl _ _).alloc (Nat.le_refl _) _)).below ((Below.refl _ _).drew)
        have rN : RowIs (wc.alloc (.cells #[.slice A0 (ts k).nr P0, .slice A1 (ts k).nw P1, .slice A2 (ts k).ng P2, .slice A3 (ts k).nc P3] 91)).drew wc.heap.size 91 4 (lc [.slice A0 (ts k).nr P0, .slice A1 (ts k).nw P1, .slice A2 (ts k).ng P2, .slice A3 (ts k).nc P3]) := rowIs_list wc [.slice A0 (ts k).nr P0, .slice A1 (ts k).nw P1, .slice A2 (ts k).ng P2, .slice A3 (ts k).nc P3] 91
        obtain ⟨v', w', hap, hown', hgrow, hloc⟩ := own_append (P := Tryz.prog) 25 91 _ 4 96 Tryz.underlying25 Tryz.info91 rfl (by omega) (by omega) w.heap.size k (.slice aV k pV) vs hlo (by omega) (by have := hIc.bl.size; simp; omega) wc.heap.size 1 (lc [.slice A0 (ts k).nr P0, .slice A1 (ts k).nw P1, .slice A2 (ts k).ng P2, .slice A3 (ts k).nc P3]) (fun j hj => rN.cell hj) (fun j hj => by
          have : j = 0 ∨ j = 1 ∨ j = 2 ∨ j = 3 := by omega
          rcases this with rfl | rfl | rfl | rfl <;> rfl)
        obtain ⟨aW, pW, rfl⟩ := hown'.slice
        obtain ⟨hI', q5, qf, hrows⟩ := hIc.more zT hXr (fun g hg => (hI.l.lt g hg).2) ⟨h0u, h1u, h2u, h3u⟩ hown' hgrow (by simpa using hloc)
        have r24' := hrows w.heap.size 24 4 _ (r24.below bT) (by decide) (by omega)
        have y5a : ∀ x, (wc.alloc x).cell? ⟨X, 5, none⟩ = some (.slice aV k pV) := fun x => by rw [World.cell?_alloc_lt _ _ _ (by exact hIc.x.lt)]; exact y5
        clear hrows hlo rN hown' hgrow hloc
        go_region_law (refine step_of_run rfl _ _ 25 rfl _ _ rfl rfl _ _ hap ?_)
        all_goals go_wp2_with fail
        all_goals go_roundw
        all_goals first
          | exact ⟨k + 1, by omega, by go_num, _, _, hI', r24'⟩
          | (simp [intOf]; omega)
      · have hk' : k = nl := by omega
        rw [hk'] at hI
        clear hk' hcL
        obtain ⟨aS, pS, rfl, -, hcS⟩ := id hS
        have hzl := hI.bl.size
        have hlt := hI.lt
        have hxl := hI.x.lt
        have hnl0 := r24.lt
        have hkeepname : ∃ wl, wl = wr := ⟨_, rfl⟩
        obtain ⟨wl, rfl⟩ := hkeepname
        go_wp2_with fail
        go_loopw [14] (fun i wq => ∃ m : Nat, m ≤ ns ∧ i = .int .i64 m ∧ RowIs wq X 156 97998 (tableC (upd (upd cE 0 (.slice aB' nb pB')) 5 vLog) nb fb fs m) ∧ Keeps (fun b => b ≠ X) wl wq ∧ Below w.heap.size w wq) (fun i _ => ns - (intOf i).toNat)
        case atStart => exact ⟨0, Nat.zero_le _, rfl, hI.x, Keeps.refl _ _, hI.bl⟩
        case round =>
          obtain ⟨m, hm, rfl, rX, kX, bw⟩ := hrel
          have hzX := rX.lt
          have hfz := rX.frozen
          by_cases hmn : m < ns
          · obtain ⟨bb, off, rfl, hbb, hcell⟩ := hcS (by omega)
            have hbr : bb < wr.heap.size := Nat.lt_of_lt_of_le hbb bw.size
            obtain ⟨kn, hkn⟩ : ∃ kn : Nat, fs (2 * m) = (kn : Int) := ⟨_, (Int.toNat_of_nonneg (hkey m hmn).1).symm⟩
            have hk99 := (hkey m hmn).2
            rw [hkn] at hk99
            have e0 : wr.cell? ⟨bb, off + m * 2, none⟩ = some (.int .i64 (kn : Int)) := by rw [bw.cell (p := ⟨bb, off + m * 2, none⟩) hbb, hcell _ (by omega), Nat.mul_comm, hkn]
            have e1 : wr.cell? ⟨bb, off + m * 2 + 1, none⟩ = some (.int .i64 (fs (2 * m + 1))) := by rw [bw.cell (p := ⟨bb, off + m * 2 + 1, none⟩) hbb, Nat.add_assoc, hcell _ (by omega), Nat.mul_comm]
            have n0 : wr.cell? ⟨w.heap.size, 0, none⟩ = some (.slice aB nb pB) := by rw [kX.cell (b := w.heap.size) (by omega) hnl0]; exact r24.cell (j := 0) (by omega)
            have hBr := hB.below bw
            have hhm := home_le nb fb (kn : Int)
            have hstep : ∀ j, (if j = 6 + homeOf nb fb (kn : Int) * 200 + 100 + kn then .int .i64 (fs (2 * m + 1)) else
      (fun j => if j = 6 + homeOf nb fb (kn : Int) * 200 + kn then .bool true else tableC (upd (upd cE 0 (.slice aB' nb pB')) 5 vLog) nb fb fs m j) j) = tableC (upd (upd cE 0 (.slice aB' nb pB')) 5 vLog) nb fb fs (m + 1) j := fun j => by
              simp only [tableC, hkn, Int.toNat_natCast]
            generalize fs (2 * m + 1) = V at *
            clear hcell hkn
            go_wp2_with fail
            go_quiet ((go_at_call 52; exact Calls.quiet_of_same (part_any _ nb fb _ _ hBr)))
            go_wp2_with fail
            generalize homeOf nb fb (kn : Int) = H at *
            have hx1 : ∃ o, wr.cell? ⟨X, 6 + H * 200 + kn, none⟩ = some o := ⟨_, rX.cell (by omega)⟩
            obtain ⟨o1, hx1⟩ := hx1
            have hbX : bb ≠ X := by
              intro e
              have := hI.lt
              omega
            go_region
            go_wp2_with fail
            have rX1 : RowIs ((wr.drewN (nq + 1)).setCell ⟨X, 6 + H * 200 + kn, none⟩ (.bool true)) X 156 97998 _ := RowIs.setCell (w := wr.drewN (nq + 1)) rX (6 + H * 200 + kn) (.bool true)
            have kX1 := (kX.drewN (nq + 1)).setCell (a := ⟨X, 6 + H * 200 + kn, none⟩) (by simp) (.bool true)
            have bw1 : Below w.heap.size w ((wr.drewN (nq + 1)).setCell ⟨X, 6 + H * 200 + kn, none⟩ (.bool true)) := Below.setCell (show Below w.heap.size w (wr.drewN (nq + 1)) from ⟨bw.os, bw.tape, bw.output, bw.size, bw.block⟩) (by simp; omega) _
            have kk : Keeps (fun b => b ≠ X) wr ((wr.drewN (nq + 1)).setCell ⟨X, 6 + H * 200 + kn, none⟩ (.bool true)) := ((Keeps.refl _ _).drewN _).setCell (by simp) _
            generalize (wr.drewN (nq + 1)).setCell ⟨X, 6 + H * 200 + kn, none⟩ (.bool true) = w2 at *
            have f0 : w2.cell? ⟨bb, off + m * 2, none⟩ = some (.int .i64 (kn : Int)) := by rw [kk.cell hbX hbr]; exact e0
            have f1 : w2.cell? ⟨bb, off + m * 2 + 1, none⟩ = some (.int .i64 V) := by rw [kk.cell hbX hbr]; exact e1
            have hx2 : ∃ o, w2.cell? ⟨X, 6 + H * 200 + 100 + kn, none⟩ = some o := ⟨_, rX1.cell (by omega)⟩
            obtain ⟨o2, hx2⟩ := hx2
            have hfz1 := rX1.frozen
            clear hx1 e0 e1 n0 hfz hcS
            go_region
            go_wp2_with fail
            go_roundw
            case rel =>
              refine ⟨m + 1, by omega, by go_num, ?_, ?_, ?_⟩
              · exact (((rX1.setCell _ _).congr fun j _ => hstep j)).below ((Below.refl _ _).drew)
              · exact (kX1.setCell (by simp) _).trans (Keeps.of_below ((Below.refl _ _).drew))
              · exact (bw1.setCell (by simp; omega) _).drew
            case measure => simp [intOf]; omega
          · have hm' : m = ns := by omega
            rw [hm'] at rX
            clear hm' hcS
            have hfar : ∀ j, j < 6 ∨ 806 ≤ j → tableC (upd (upd cE 0 (.slice aB' nb pB')) 5 vLog) nb fb fs ns j = upd (upd cE 0 (.slice aB' nb pB')) 5 vLog j := fun j hj => tableC_far hkey hnb hj ns (Nat.le_refl _)
            have hoC : ∀ j, 6 ≤ j → upd (upd cE 0 (.slice aB' nb pB')) 5 vLog j = cE j := fun j hj => by rw [upd_other _ _ (by omega), upd_other _ _ (by omega)]
            have hS' : ∀ b, (w.heap.size ≤ b ∧ b ≠ X ∧ vLog.ownBlock ≠ some b) → w.heap.size ≤ b := fun b h => h.1
            have hbb : RdIS (fun b => w.heap.size ≤ b ∧ b ≠ X ∧ vLog.ownBlock ≠ some b) wr (.slice aB' nb pB') 1 nb fb := hI.b.keep (kX.mono fun b h => h.2.1)
            have hll : RdLS (fun b => w.heap.size ≤ b) wr vLog nl ts := by
              obtain ⟨aV, pV, rfl⟩ := hI.l.slice
              refine ⟨aV, pV, rfl, by omega, fun h0 => ?_⟩
              obtain ⟨g, cap, hv, hg, hle, hglt, hcell⟩ := hI.l.at h0
              injection hv with hv1 hv2 hv3
              subst hv1
              have hgX : g ≠ X := fun e => hI.l.apart hI.x (by decide) (by rw [hg, e])
              refine ⟨g, 0, rfl, hle, Nat.lt_of_lt_of_le hglt kX.size, vs, fun j hj => ?_, fun i hi => ((hI.t i hi).keep (kX.mono fun b h => h.2.1)).mono hS'⟩
              rw [Nat.zero_add, kX.cell hgX hglt]; exact hcell j hj
            have hR : IsRefS (fun b => w.heap.size ≤ b) wr X ⟨nb, fb, nl, ts⟩ (.slice aB' nb pB') vLog (startHs nb fb fs ns) (startVl nb fb fs ns) := by
              refine ⟨⟨rX.lt, hnb, hnl, ?_, ?_, ?_, hbb.rd, hll.rd, fun p q hp hq => ?_, fun p q hp hq => ?_, fun p q hp hq => ?_, fun p q hp hq => ?_, fun p q hp hq => ?_⟩, z1, hbb.mono hS', hll⟩
              · rw [rX.cell (by omega), hfar _ (by omega), upd_other _ _ (by omega), upd_same]
              · rw [rX.cell (by omega), hfar _ (by omega), upd_other _ _ (by omega), upd_other _ _ (by omega), hE4]
              · rw [rX.cell (by omega), hfar _ (by omega), upd_same]
              · rw [rX.cell (by omega), tableC_has hkey hnb (fun p k hp hk => by rw [hoC _ (by omega), hzE.t1 p k hp hk]) hp hq ns (Nat.le_refl _)]
              · rw [rX.cell (by omega), tableC_val hkey hnb (fun p k hp hk => by rw [hoC _ (by omega), hzE.t2 p k hp hk]) hp hq ns (Nat.le_refl _)]
              · rw [rX.cell (by omega), hfar _ (by omega), hoC _ (by omega), hzE.s0 p q hp hq]
              · rw [rX.cell (by omega), hfar _ (by omega), hoC _ (by omega), hzE.s2 p q hp hq]
              · rw [rX.cell (by omega), hfar _ (by omega), hoC _ (by omega), hzE.m p q hp hq]
            clear hfz hfar hoC hS' hbb hll
            go_wp2_with fail
            go_ret3
            exact ⟨_, _, _, rfl, hR, bw⟩
end
end Go.Proofs.YtldeiiffabfmeaaGreatDoor
