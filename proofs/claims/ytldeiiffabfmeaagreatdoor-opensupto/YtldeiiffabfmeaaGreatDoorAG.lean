/- What the caller keeps: a list of the caller's record grows by one. -/
import Derived.Test.YtldeiiffabfmeaaGreatDoorAE
import Derived.Test.YtldeiiffabfmeaaGreatDoorAC
import Derived.Test.YtldeiiffabfmeaaGreatDoorZ
set_option linter.unusedVariables false
set_option linter.unusedSimpArgs false
namespace Go.Proofs.YtldeiiffabfmeaaGreatDoor
open Go.RowKit

section
variable {P : Program} {w : World} {ops : Array Oper} {rest : List Oper} {o : Oper} {a : Act} {Q : Exit → Act → World → Prop}
/-- An append whose run is known, in a list of operations. -/
theorem wpList_append_run (hg : o.guard = none) (s x : Operand) (t : TypeId)
    (ho : o.op = .call { callee := .builtin .append, args := #[s, x], argTypes := #[t, t] }) (v1 v2 : Value) (hs : a.eval s = v1) (hx : a.eval x = v2) (v' : Value) (w' : World)
    (hrun : ∀ ty, (Builtin.append_ #[t, t] ty #[v1, v2]).run P w = .ok v' w') (hK : wpList P ops Q rest (a.put o.dst v') w') : wpList P ops Q (o :: rest) a w := by
  refine wpList_plain hg fun K hK' => ?_
  unfold Oper.wp execOp
  simp only [ho, resolve, invoke, builtin, Sem.run_bind, Sem.run_pure, Result.andThen_ok, List.map_toArray, List.map_cons, List.map_nil, hs, hx, hrun]
  exact hK' _ _ hK
end

/-- One element more in a list of the caller's record at W. -/
theorem push {P : Program} (t e : TypeId) (z : Value) (bytes : Nat) (hT : 37 ≠ e) (ht : P.underlying t = some (.slice e)) (hinfo : (P.info? e).map (fun i => (i.zero, i.size, i.bytes)) = some (some z, 1, bytes)) (hzs : z.cells.size = 1) (hby : bytes ≤ 1000)
    (W i base k : Nat) (cW vs : Nat → Value) (vI x : Value) (w : World) (hx : x.oneCell' = true) (hW : RowIs w W 37 9 cW) (hi : i < 9) (hv : cW i = vI) (hI : OwnL w base e 1 vI k vs) (hk : k ≤ 100000000) (hb : base ≤ W) :
    ∃ v' w', (∀ ty, (Builtin.append_ #[t, t] ty #[vI, .slice (some ⟨w.heap.size, 0, none⟩) 1 1]).run P (w.alloc (.cells #[x] e)) = .ok v' w') ∧ w'.cell? ⟨W, i, none⟩ = some vI ∧ w'.frozen? ⟨W, i, none⟩ = false ∧
      RowIs (w'.setCell ⟨W, i, none⟩ v') W 37 9 (upd cW i v') ∧ OwnL (w'.setCell ⟨W, i, none⟩ v') base e 1 v' (k + 1) (more k vs (fun _ => x)) ∧ Keeps (fun b => b ≠ W ∧ vI.ownBlock ≠ some b) w (w'.setCell ⟨W, i, none⟩ v') ∧ Below base w (w'.setCell ⟨W, i, none⟩ v') ∧
      (v'.ownBlock = vI.ownBlock ∨ v'.ownBlock = some (w.heap.size + 1)) ∧ ∃ a cap, v' = .slice a (k + 1) cap := by
  have hbA : Below w.heap.size w (w.alloc (.cells #[x] e)) := (Below.refl _ _).alloc (Nat.le_refl _) _
  have zW := hW.lt
  have rN : RowIs (w.alloc (.cells #[x] e)) w.heap.size e 1 (lc [x]) := rowIs_list w [x] e
  obtain ⟨v', w', hrun, hown, hgrow, hloc⟩ := own_append (P := P) t e z 1 bytes ht hinfo hzs (by omega) hby base k vI vs (hI.below hbA) hk (by simp; omega) w.heap.size 1 (fun _ => x) (fun j hj => by
    have := rN.cell hj
    obtain rfl : j = 0 := by omega
    exact this) (fun _ _ => hx)
  have zg := hgrow.size
  have rW : RowIs w' W 37 9 cW := (hW.below hbA).block (hgrow.block W (by simp; omega) (fun e => hI.apart hW hT e.symm))
  have hne : v'.ownBlock ≠ some W := hown.apart rW hT
  refine ⟨v', w', hrun, by rw [rW.cell hi, hv], rW.frozen i, ?_, ?_, ?_, ?_, by simpa using hloc, hown.slice⟩
  · exact (rW.setCell i v').congr fun j _ => rfl
  · refine (hown.congr (fun j hj => by rw [Nat.mul_one])).keep fun g hg => Below.heap_setCell _ _ _ _ (by intro e; exact hne (by rw [hg]; simp at e; rw [e]))
  · exact ((Keeps.of_below hbA).grown hgrow (fun g hg h => h.2 hg)).setCell (by simp) _
  · exact ((hbA.mono (by omega)).grown hgrow (by simp; omega) (fun g hg => (hI.lt g hg).1)).setCell hb _

/-- A list of numbers, as an element. -/
theorem elem22 : (Tryz.prog.info? 22).map (fun i => (i.zero, i.size, i.bytes)) = some (some (.slice none 0 0), 1, 24) := by kernel_rfl

/-- A list of numbers as it is being turned over: the first i are. -/
def turnC (i : Nat) (c : Nat → Value) (j : Nat) : Value := if j < i then .int .i64 (-7) else c j

set_option maxRecDepth 20000 in
set_option maxHeartbeats 2000000 in
theorem retInts_any (W g n k base : Nat) (cW vs : Nat → Value) (f : Nat → Int) (vI vWant : Value) (w : World)
    (hW : RowIs w W 37 9 cW) (h3 : cW 3 = vI) (hI : OwnL w base 22 1 vI k vs) (hk : k ≤ 1000000) (hbW : base ≤ W) (hbg : base ≤ g)
    (hg : RowIs w g 3 (n + 1) (icell (cut n f))) (hn : n ≤ 1048577) (hw : RdIS (fun b => b ≠ g) w vWant 1 n f) :
    Calls Tryz.prog 28 #[.pointer (some ⟨W, 0, none⟩), .slice (some ⟨g, 0, none⟩) (n + 1) (n + 1), vWant] w fun r w' => r = .returned (.bool true) ∧ ∃ vI', RowIs w' W 37 9 (upd cW 3 vI') ∧
      OwnL w' base 22 1 vI' (k + 1) (more k vs (fun _ => .slice (some ⟨g, 0, none⟩) (n + 1) (n + 1))) ∧ RowIs w' g 3 (n + 1) (fun _ => .int .i64 (-7)) ∧ Keeps (fun b => b ≠ W ∧ b ≠ g ∧ vI.ownBlock ≠ some b) w w' ∧ Below base w w' ∧
      (vI'.ownBlock = vI.ownBlock ∨ ∃ b, vI'.ownBlock = some b ∧ w.heap.size ≤ b) := by
  have hWg : W ≠ g := hW.apart hg (by decide)
  have hIg : vI.ownBlock ≠ some g := hI.apart hg (by decide)
  obtain ⟨aI, pI, rfl⟩ := hI.slice
  obtain ⟨aw, pw, rfl, -, hcw⟩ := id hw
  go_enter Tryz.func28, Tryz.ntmps28
  go_wp2_with fail
  go_loopw [7] (fun i wq => ∃ m : Nat, m ≤ n + 1 ∧ i = .int .i64 m ∧ RowIs wq g 3 (n + 1) (turnC m (icell (cut n f))) ∧ Keeps (fun b => b ≠ g) w wq ∧ Below base w wq) (fun i _ => n + 1 - (intOf i).toNat)
  case atStart => exact ⟨0, Nat.zero_le _, rfl, hg.congr (fun j _ => (if_neg (by omega)).symm), Keeps.refl _ _, Below.refl _ _⟩
  case round =>
    obtain ⟨m, hm, rfl, rg, kg, bg⟩ := hrel
    by_cases hmn : m < n + 1
    · have hfz := rg.frozen
      have rg' : RowIs (wr.setCell ⟨g, m, none⟩ (.int .i64 (-7))) g 3 (n + 1) (turnC (m + 1) (icell (cut n f))) := (rg.setCell m (.int .i64 (-7))).congr fun j _ => by
        simp only [turnC]
        by_cases e : j = m
        · rw [if_pos e, if_pos (by omega)]
        · rw [if_neg e]
          by_cases e' : j < m
          · rw [if_pos e', if_pos (by omega)]
          · rw [if_neg e', if_neg (by omega)]
      have kg' : Keeps (fun b => b ≠ g) w (wr.setCell ⟨g, m, none⟩ (.int .i64 (-7))) := kg.setCell (by simp) _
      have bg' : Below base w (wr.setCell ⟨g, m, none⟩ (.int .i64 (-7))) := bg.setCell hbg _
      by_cases hin : m < n
      · obtain ⟨bb, off, rfl, hbs, hbb, hcell⟩ := hcw (by omega)
        have e0 : wr.cell? ⟨bb, off + m, none⟩ = some (.int .i64 (f m)) := by rw [kg.cell hbs hbb]; exact hcell m (by omega)
        have e1 : wr.cell? ⟨g, m, none⟩ = some (.int .i64 (f m)) := by rw [rg.cell hmn, turnC, if_neg (by omega), icell, cut, if_pos hin]
        clear hcw hcell rg kg bg
        generalize f m = x at *
        go_wp2_with fail
        go_roundw
        case rel => exact ⟨m + 1, by omega, by go_num, rg', kg', bg'⟩
        case measure => simp [intOf]; omega
      · have hmn' : m = n := by omega
        have e1 : wr.cell? ⟨g, m, none⟩ = some (.int .i64 0) := by rw [rg.cell hmn, turnC, if_neg (by omega), icell, cut, if_neg hin]
        have hin' : decide (m < n) = false := by simpa using hin
        clear hcw rg kg bg hmn'
        go_wp2_with fail
        go_roundw
        case rel => exact ⟨m + 1, by omega, by go_num, rg', kg', bg'⟩
        case measure => simp [intOf]; omega
    · have rg2 : RowIs wr g 3 (n + 1) (fun _ => .int .i64 (-7)) := rg.congr fun j hj => if_pos (by omega)
      have hWr : RowIs wr W 37 9 cW := hW.block (kg.block W hWg hW.lt)
      have hIr : OwnL wr base 22 1 (.slice aI k pI) k vs := hI.keep fun b hb => kg.block b (fun e => hIg (by rw [hb, e])) (hI.lt b hb).2
      obtain ⟨v', w', hap, q5, qf, rW', hI', kp, bp, hloc, A, Pp, rfl⟩ := push (P := Tryz.prog) 32 22 _ _ (by decide) Tryz.underlying32 elem22 rfl (by omega) W 3 base k cW vs (.slice aI k pI) (.slice (some ⟨g, 0, none⟩) (n + 1) (n + 1)) wr rfl hWr (by omega) h3 hIr (by omega) hbW
      have c3 : wr.cell? ⟨W, 3, none⟩ = some (.slice aI k pI) := by rw [hWr.cell (by omega), h3]
      have hzw := hWr.lt
      have c3' : ∀ x, (wr.alloc x).cell? ⟨W, 3, none⟩ = some (.slice aI k pI) := fun x => by rw [World.cell?_alloc_lt _ _ _ (by exact hzw)]; exact c3
      have fin : ∃ vI', RowIs (w'.setCell ⟨W, 3, none⟩ (.slice A (k + 1) Pp)) W 37 9 (upd cW 3 vI') ∧
        OwnL (w'.setCell ⟨W, 3, none⟩ (.slice A (k + 1) Pp)) base 22 1 vI' (k + 1) (more k vs (fun _ => .slice (some ⟨g, 0, none⟩) (n + 1) (n + 1))) ∧ RowIs (w'.setCell ⟨W, 3, none⟩ (.slice A (k + 1) Pp)) g 3 (n + 1) (fun _ => .int .i64 (-7)) ∧ Keeps (fun b => b ≠ W ∧ b ≠ g ∧ (Value.slice aI k pI).ownBlock ≠ some b) w (w'.setCell ⟨W, 3, none⟩ (.slice A (k + 1) Pp)) ∧ Below base w (w'.setCell ⟨W, 3, none⟩ (.slice A (k + 1) Pp)) ∧
        (vI'.ownBlock = (Value.slice aI k pI).ownBlock ∨ ∃ b, vI'.ownBlock = some b ∧ w.heap.size ≤ b) :=
        ⟨_, rW', hI', rg2.block (kp.block g ⟨fun e => hWg e.symm, hIg⟩ rg2.lt), (kg.mono fun b h => h.2.1).trans (kp.mono fun b h => ⟨h.1, h.2.2⟩), bg.trans bp, hloc.imp id fun h => ⟨_, h, by have := kg.size; omega⟩⟩
      clear hcw rg kg bg rg2 hI' kp bp hloc rW'
      go_wp2_with (at_builtin; refine wpList_append_run rfl _ _ 32 rfl _ _ rfl rfl _ _ hap ?_)
      go_ret
      exact ⟨rfl, fin⟩
end Go.Proofs.YtldeiiffabfmeaaGreatDoor
