/- The contract of the program's New. -/
import Derived.Test.YtldeiiffabfmeaaGreatDoorE
import Derived.Test.YtldeiiffabfmeaaGreatDoorG
import Derived.Test.YtldeiiffabfmeaaGreatDoorP
import Derived.Test.YtldeiiffabfmeaaGreatDoorX
import Derived.Test.YtldeiiffabfmeaaGreatDoorY
import Derived.Test.YtldeiiffabfmeaaGreatDoorRJ
set_option linter.unusedVariables false
set_option linter.unusedSimpArgs false
namespace Go.Proofs.YtldeiiffabfmeaaGreatDoor
open Go.RowKit

/-- What New answers where it refuses. -/
theorem newAt_log {nb : Nat} {fb : Nat → Int} {a b c : Int} {nl : Nat} {ts : Nat → TxnD} {k : Nat} (ns : Nat) (fs : Nat → Int) (h : configB nb fb a b c = true) (hl : logAt nl ts = some k) : newAt nb fb a b c nl ts ns fs = (2, k) := by
  unfold newAt; rw [if_pos h, hl]
theorem newAt_start {nb : Nat} {fb : Nat → Int} {a b c : Int} {nl : Nat} {ts : Nat → TxnD} {ns : Nat} {fs : Nat → Int} {k : Nat} (h : configB nb fb a b c = true) (hl : logAt nl ts = none) (hs : startAt ns fs = some k) : newAt nb fb a b c nl ts ns fs = (3, k) := by
  unfold newAt; rw [if_pos h, hl, hs]
theorem newAt_ok {nb : Nat} {fb : Nat → Int} {a b c : Int} {nl : Nat} {ts : Nat → TxnD} {ns : Nat} {fs : Nat → Int} (h : configB nb fb a b c = true) (hl : logAt nl ts = none) (hs : startAt ns fs = none) : newAt nb fb a b c nl ts ns fs = (0, 0) := by
  unfold newAt; rw [if_pos h, hl, hs]

theorem firstNo_none_all {p : Nat → Bool} : ∀ (m i : Nat), firstNo p m i = none → ∀ j, i ≤ j → j < i + m → p j = true
  | 0, i, _, j, h1, h2 => by omega
  | m + 1, i, h, j, h1, h2 => by
    unfold firstNo at h
    cases hp : p i with
    | false => rw [hp] at h; cases h
    | true =>
      rw [hp] at h
      by_cases e : j = i
      · rw [e]; exact hp
      · exact firstNo_none_all m (i + 1) h j (by omega) (by omega)
theorem log_ok {nl : Nat} {ts : Nat → TxnD} (h : logAt nl ts = none) : nl ≤ 24 ∧ allB (fun i => txnB (ts i)) nl = true := by
  unfold logAt at h
  by_cases h1 : 24 < nl
  · rw [if_pos h1] at h; cases h
  · rw [if_neg h1] at h
    exact ⟨by omega, allB_mk fun k hk => firstNo_none_all nl 0 h k (by omega) (by omega)⟩
theorem start_ok {ns : Nat} {fs : Nat → Int} (h : startAt ns fs = none) : ns ≤ 40 ∧ allB (risesB 0 (fun i => fs (2 * i))) ns = true := by
  unfold startAt at h
  by_cases h1 : 40 < ns
  · rw [if_pos h1] at h; cases h
  · rw [if_neg h1] at h
    exact ⟨by omega, allB_mk fun k hk => firstNo_none_all ns 0 h k (by omega) (by omega)⟩
theorem config_ok {nb : Nat} {fb : Nat → Int} {a b c : Int} (h : configB nb fb a b c = true) : nb ≤ 3 ∧ allB (risesB 1 fb) nb = true := by
  simp only [configB, boundsB, Bool.and_eq_true, decide_eq_true_eq] at h
  exact h.1.1.1
theorem rises_bound {lo : Int} {f : Nat → Int} {n : Nat} (h : allB (risesB lo f) n = true) : ∀ k, k ≤ n → ∀ j, j < k → lo ≤ f j ∧ f j ≤ 99 := by
  intro k
  induction k with
  | zero => intro _ j hj; omega
  | succ k ih =>
    intro hk j hj
    by_cases e : j = k
    · subst e
      have := allB_at h (k := j) (by omega)
      cases j with
      | zero => simp only [risesB, within_iff] at this; exact this
      | succ i => simp only [risesB, within_iff] at this; have := ih (by omega) i (by omega); omega
    · exact ih (by omega) j (by omega)
theorem good_of {nb : Nat} {fb : Nat → Int} {a b c : Int} {nl : Nat} {ts : Nat → TxnD} (h : configB nb fb a b c = true) (hl : logAt nl ts = none) : Good ⟨nb, fb, nl, ts⟩ :=
  ⟨(config_ok h).1, (log_ok hl).1, (config_ok h).2, (log_ok hl).2⟩

theorem follows_mixed0 : Tryz.prog.follows .mixedOrders = true := by kernel_rfl
theorem slot_put0 {a : Act} {d : Nat} (v : Value) (h : d < a.tmps.size) : (a.put (some d) v).tmps.getD d undef = v := by rw [getD_put, if_pos ⟨rfl, h⟩]
theorem Tryz.info75 : (Tryz.prog.info? 75).map (fun i => (i.zero, i.size, i.bytes)) = some (some (.agg #[.bool false, .bool false, .int .i64 0, .int .i64 0, .int .i64 0, .int .i64 0]), 6, 40) := by kernel_rfl
theorem zres_mod (j : Nat) : (#[Value.bool false, .bool false, .int .i64 0, .int .i64 0, .int .i64 0, .int .i64 0] : Array Value)[j % 6]! = zres j := by
  unfold zres
  have : j % 6 < 6 := Nat.mod_lt _ (by omega)
  generalize j % 6 = r at *
  match r, this with
  | 0, _ | 1, _ | 2, _ | 3, _ | 4, _ | 5, _ => rfl

section
variable (ev : Operand → Value) (w : World) (T : Nat) (d : Option Tmp) (ty : TypeId) (ps : String) (af : Array Edge) (g : Option (Nat × Bool)) (x x1 : Operand)
theorem z_move (v : Value) (h : ev x = v) : (execOp ev ⟨d, .move x, ty, ps, af, g⟩).run Tryz.prog w = .ok (.value v) w := by
  subst h; simp [execOp, go_sem]
theorem z_assign (v : Value) (h : ev x = v) : (execOp ev ⟨d, .assign x, ty, ps, af, g⟩).run Tryz.prog w = .ok (.value v) w := by
  subst h; simp [execOp, go_sem]
theorem z_l24 (v0 v1 v2 v3 : Value) (h : ev x = .pointer (some ⟨T, 0, none⟩)) (h0 : w.cell? ⟨T, 0, none⟩ = some v0) (h1 : w.cell? ⟨T, 1, none⟩ = some v1) (h2 : w.cell? ⟨T, 2, none⟩ = some v2) (h3 : w.cell? ⟨T, 3, none⟩ = some v3) : (execOp ev ⟨d, .load 24 x, ty, ps, af, g⟩).run Tryz.prog w = .ok (.value (.agg #[v0, v1, v2, v3])) w := by
  simp [execOp, go_sem, h, h0, h1, h2, h3]
theorem z_len25 (b : Option Addr) (n p : Nat) (h : ev x = .slice b n p) : (execOp ev ⟨d, .call { callee := .builtin .len, args := #[x], argTypes := #[25] }, ty, ps, af, g⟩).run Tryz.prog w = .ok (.value (.int .i64 n)) w := by
  simp [execOp, go_sem, h]
theorem z_make (n : Nat) (Mk : Array Value) (h : ev x = .int .i64 n) (hmk : ∀ w, (Instr.makeSlice 116 (.int .i64 (n : Nat)) (.int .i64 (n : Nat))).run Tryz.prog w = .ok (.slice (some ⟨w.heap.size, 0, none⟩) n n) (w.alloc (.cells Mk 75))) : (execOp ev ⟨d, .makeSlice 116 x x, ty, ps, af, g⟩).run Tryz.prog w = .ok (.value (.slice (some ⟨w.heap.size, 0, none⟩) n n)) (w.alloc (.cells Mk 75)) := by
  simp [execOp, go_sem, h, hmk]
theorem z_build (aB aL aR : Option Addr) (nb pB nl pL nr pR : Nat) (a b c : Int) (h : ev x = .agg #[.slice aB nb pB, .int .i64 a, .int .i64 b, .int .i64 c, .slice aL nl pL]) (h1 : ev x1 = .slice aR nr pR) : (execOp ev ⟨d, .build 118 #[(0, x), (2, x1)], ty, ps, af, g⟩).run Tryz.prog w = .ok (.value (.agg #[.slice aB nb pB, .int .i64 a, .int .i64 b, .int .i64 c, .slice aL nl pL, .slice none 0 0, .slice aR nr pR])) w := by
  simp [execOp, go_sem, h, h1]
theorem z_box (v0 v1 v2 v3 v4 v5 v6 : Value) (h : ev x = .agg #[v0, v1, v2, v3, v4, v5, v6]) : (execOp ev ⟨d, .box 118 x, ty, ps, af, g⟩).run Tryz.prog w = .ok (.value (.pointer (some ⟨w.heap.size, 0, none⟩))) (w.alloc (.cells #[v0, v1, v2, v3, v4, v5, v6] 118)) := by
  simp [execOp, go_sem, h]
theorem z_call49 (a : Act) (v1 v2 : Value) (t1 t2 : TypeId) (h : a.eval x = v1) (h1 : a.eval x1 = v2) : (execOp a.eval ⟨d, .call { callee := .value (.func 49), args := #[x, x1], argTypes := #[t1, t2] }, ty, ps, af, g⟩).run Tryz.prog w = .ok (.enter 49 #[v1, v2]) w := by
  subst h h1
  simp [execOp, go_sem]
end

/-- What the pieces of a new engine are. -/
def ZP (B E : Nat) (a b c : Int) (nb : Nat) (fb : Nat → Int) (nl : Nat) (ts : Nat → TxnD) (w : World) (aB aL : Option Addr) (pB pL R : Nat) : Prop :=
  RdIS (fun x => B ≤ x ∧ x < E) w (.slice aB nb pB) 1 nb fb ∧ RdLS (fun x => B ≤ x ∧ x < E) w (.slice aL nl pL) nl ts ∧ B ≤ R ∧ R < E ∧ RowIs w R 75 (nl * 6) zres ∧
    RowIs w E 118 7 (lc [.slice aB nb pB, .int .i64 a, .int .i64 b, .int .i64 c, .slice aL nl pL, .slice none 0 0, .slice (some ⟨R, 0, none⟩) nl nl])
def ZR (vB vL : Value) (a b c : Int) (nb : Nat) (fb : Nat → Int) (nl : Nat) (ts : Nat → TxnD) (B : Nat) : Nat → (Nat → Value) → World → Prop
  | 0, s, _ => s 0 = .agg #[vB, .int .i64 a, .int .i64 b, .int .i64 c]
  | 1, s, _ => s 1 = vL
  | 2, s, w => ∃ aB pB aL pL, s 2 = .agg #[.slice aB nb pB, .int .i64 a, .int .i64 b, .int .i64 c, .slice aL nl pL] ∧ RdIS (fun x => B ≤ x) w (.slice aB nb pB) 1 nb fb ∧ RdLS (fun x => B ≤ x) w (.slice aL nl pL) nl ts
  | 3, s, _ => s 3 = vL
  | 4, s, _ => s 4 = .int .i64 nl
  | 5, s, w => ∃ R, s 5 = .slice (some ⟨R, 0, none⟩) nl nl ∧ B ≤ R ∧ RowIs w R 75 (nl * 6) zres
  | 6, s, w => ∃ aB pB aL pL R, s 6 = .agg #[.slice aB nb pB, .int .i64 a, .int .i64 b, .int .i64 c, .slice aL nl pL, .slice none 0 0, .slice (some ⟨R, 0, none⟩) nl nl] ∧ RdIS (fun x => B ≤ x) w (.slice aB nb pB) 1 nb fb ∧ RdLS (fun x => B ≤ x) w (.slice aL nl pL) nl ts ∧ B ≤ R ∧ RowIs w R 75 (nl * 6) zres
  | 7, s, w => ∃ aB pB aL pL R E, s 7 = .pointer (some ⟨E, 0, none⟩) ∧ B ≤ E ∧ ZP B E a b c nb fb nl ts w aB aL pB pL R
  | 8, s, w => ∃ aB pB aL pL R E, s 8 = .pointer (some ⟨E, 0, none⟩) ∧ B ≤ E ∧ ZP B E a b c nb fb nl ts w aB aL pB pL R
  | _, _, _ => True
theorem ZR.below {vB vL : Value} {a b c : Int} {nb : Nat} {fb : Nat → Int} {nl : Nat} {ts : Nat → TxnD} {B : Nat} {w w' : World} (hb : Below w.heap.size w w') : ∀ k s, ZR vB vL a b c nb fb nl ts B k s w → ZR vB vL a b c nb fb nl ts B k s w'
  | 0, _, h | 1, _, h | 3, _, h | 4, _, h => h
  | 2, _, ⟨aB, pB, aL, pL, h1, h2, h3⟩ => ⟨aB, pB, aL, pL, h1, h2.keep (Keeps.of_below hb), h3.keep (Keeps.of_below hb)⟩
  | 5, _, ⟨R, h1, h2, h3⟩ => ⟨R, h1, h2, h3.below hb⟩
  | 6, _, ⟨aB, pB, aL, pL, R, h1, h2, h3, h4, h5⟩ => ⟨aB, pB, aL, pL, R, h1, h2.keep (Keeps.of_below hb), h3.keep (Keeps.of_below hb), h4, h5.below hb⟩
  | 7, _, ⟨aB, pB, aL, pL, R, E, h1, h2, h3, h4, h5, h6, h7, h8⟩ => ⟨aB, pB, aL, pL, R, E, h1, h2, h3.keep (Keeps.of_below hb), h4.keep (Keeps.of_below hb), h5, h6, h7.below hb, h8.below hb⟩
  | 8, _, ⟨aB, pB, aL, pL, R, E, h1, h2, h3, h4, h5, h6, h7, h8⟩ => ⟨aB, pB, aL, pL, R, E, h1, h2, h3.keep (Keeps.of_below hb), h4.keep (Keeps.of_below hb), h5, h6, h7.below hb, h8.below hb⟩
  | _ + 9, _, _ => trivial

section
variable (vB vL vS : Value) (a b c : Int) (nb : Nat) (fb : Nat → Int) (nl : Nat) (ts : Nat → TxnD) (ns : Nat) (fs : Nat → Int) (w : World) (hB : RdI w vB 1 nb fb) (hL : RdL w vL nl ts) (hS : RdI w vS 2 ns fs)

set_option maxHeartbeats 2000000 in
theorem enew_no (hB : RdI w vB 1 nb fb) (hL : RdL w vL nl ts) (hS : RdI w vS 2 ns fs) (hno : newAt nb fb a b c nl ts ns fs ≠ (0, 0)) :
    Calls Tryz.prog 26 #[.agg #[vB, .int .i64 a, .int .i64 b, .int .i64 c], vL, vS] w fun r w' => r = .returned (.tuple #[.pointer none, .int .i64 ((newAt nb fb a b c nl ts ns fs).1 : Nat), .int .i64 ((newAt nb fb a b c nl ts ns fs).2 : Nat)]) ∧ Below w.heap.size w w' := by
  have hb0 : Below w.heap.size w (w.alloc (.cells #[vB, .int .i64 a, .int .i64 b, .int .i64 c] 24)) := (Below.refl _ _).alloc (Nat.le_refl _) _
  cases hc : configB nb fb a b c with
  | false =>
    have HA : Hid (_ = _) := newAt_config hc nl ts ns fs
    go_enter Tryz.func26, Tryz.ntmps26
    go_wp2_with fail
    refine (config_any _ nb fb _ _ _ _ (hB.below hb0)).mono ?_
    rintro r w1 ⟨rfl, hb1⟩
    go_wp2_with fail
    go_ret3
    exact ⟨by rw [HA.out]; rfl, hb0.trans (hb1.mono (by simp))⟩
  | true =>
    cases hl : logAt nl ts with
    | some k =>
      have HA : Hid (_ = _) := newAt_log ns fs hc hl
      go_enter Tryz.func26, Tryz.ntmps26
      go_wp2_with fail
      refine (config_any _ nb fb _ _ _ _ (hB.below hb0)).mono ?_
      rintro r w1 ⟨rfl, hb1⟩
      have b1 := hb0.trans (hb1.mono (by simp))
      go_wp2_with fail
      refine (clog_any _ nl ts _ (hL.below b1)).mono ?_
      rintro r w2 ⟨rfl, hb2⟩
      have b2 := b1.trans (hb2.mono b1.size)
      go_wp2_with fail
      go_ret3
      exact ⟨by rw [HA.out]; rfl, b2⟩
    | none =>
      cases hs : startAt ns fs with
      | some k =>
        have HA : Hid (_ = _) := newAt_start hc hl hs
        go_enter Tryz.func26, Tryz.ntmps26
        go_wp2_with fail
        refine (config_any _ nb fb _ _ _ _ (hB.below hb0)).mono ?_
        rintro r w1 ⟨rfl, hb1⟩
        have b1 := hb0.trans (hb1.mono (by simp))
        go_wp2_with fail
        refine (clog_any _ nl ts _ (hL.below b1)).mono ?_
        rintro r w2 ⟨rfl, hb2⟩
        have b2 := b1.trans (hb2.mono b1.size)
        go_wp2_with fail
        refine (cstart_any _ ns fs _ (hS.below b2)).mono ?_
        rintro r w3 ⟨rfl, hb3⟩
        have b3 := b2.trans (hb3.mono b2.size)
        go_wp2_with fail
        go_ret3
        exact ⟨by rw [HA.out]; rfl, b3⟩
      | none => exact absurd (newAt_ok hc hl hs) hno

set_option maxRecDepth 20000 in
set_option maxHeartbeats 2000000 in
theorem enew_yes (hB : RdI w vB 1 nb fb) (hL : RdL w vL nl ts) (hS : RdI w vS 2 ns fs) (hwf : ∀ j, j < ns → (Lit.int .i64 (fs (2 * j + 1))).wf = true)
    (hc : configB nb fb a b c = true) (hl : logAt nl ts = none) (hs : startAt ns fs = none) :
    Calls Tryz.prog 26 #[.agg #[vB, .int .i64 a, .int .i64 b, .int .i64 c], vL, vS] w fun r w' => ∃ (e : Nat) (vB' vL' : Value) (K : Nat) (M : Nat → Nat), r = .returned (.tuple #[.pointer (some ⟨e, 0, none⟩), .int .i64 0, .int .i64 0]) ∧
      IsEngS (fun b => w.heap.size ≤ b) w' e ⟨nb, fb, nl, ts⟩ vB' vL' K M (startHs nb fb fs ns) (startVl nb fb fs ns) ∧ Below w.heap.size w w' := by
  have hb0 : Below w.heap.size w (w.alloc (.cells #[vB, .int .i64 a, .int .i64 b, .int .i64 c] 24)) := (Below.refl _ _).alloc (Nat.le_refl _) _
  have hnb := (config_ok hc).1
  have hnl := (log_ok hl).1
  have hns := (start_ok hs).1
  have hkey : ∀ j, j < ns → 0 ≤ fs (2 * j) ∧ fs (2 * j) ≤ 99 := fun j hj => rises_bound (start_ok hs).2 ns (Nat.le_refl _) j hj
  go_enter Tryz.func26, Tryz.ntmps26
  go_wp2_with fail
  refine (config_any _ nb fb _ _ _ _ (hB.below hb0)).mono ?_
  rintro r w1 ⟨rfl, hb1⟩
  have b1 := hb0.trans (hb1.mono (by simp))
  have r1 := (rowIs_list w [vB, .int .i64 a, .int .i64 b, .int .i64 c] 24).below hb1
  go_wp2_with fail
  refine (clog_any _ nl ts _ (hL.below b1)).mono ?_
  rintro r w2 ⟨rfl, hb2⟩
  have b2 := b1.trans (hb2.mono b1.size)
  have r2 := r1.below hb2
  go_wp2_with fail
  refine (cstart_any _ ns fs _ (hS.below b2)).mono ?_
  rintro r w3 ⟨rfl, hb3⟩
  have b3 := b2.trans (hb3.mono b2.size)
  have r3 := r2.below hb3
  have c0 : w3.cell? ⟨w.heap.size, 0, none⟩ = some vB := r3.cell (j := 0) (by simp)
  have c1 : w3.cell? ⟨w.heap.size, 1, none⟩ = some (.int .i64 a) := r3.cell (j := 1) (by simp)
  have c2 : w3.cell? ⟨w.heap.size, 2, none⟩ = some (.int .i64 b) := r3.cell (j := 2) (by simp)
  have c3 : w3.cell? ⟨w.heap.size, 3, none⟩ = some (.int .i64 c) := r3.cell (j := 3) (by simp)
  have z3 := b3.size
  clear r1 r2
  obtain ⟨aL0, pL0, rfl, hnl0, -⟩ := id hL
  obtain ⟨Mk, hmk, hM⟩ := make_run (P := Tryz.prog) 116 75 _ 6 40 Tryz.underlying116 Tryz.info75 nl (by omega) (by unfold maxLen; omega) zres (fun j _ => zres_mod j)
  go_wp2_with fail
  rename_i K1 hK1
  refine wp_region_slots2 (P := Tryz.prog) _ follows_mixed0 (by kernel_rfl) (fun wx => Below w3.heap.size w3 wx) (ZR vB (.slice aL0 nl pL0) a b c nb fb nl ts w3.heap.size) ?hloc ?hF ?hob ?hend
  case hF => exact (Below.refl _ _).drew
  case hloc =>
    intro k s s' wq hs hR
    match k, hs, hR with
    | 0, hs, hR => simp only [ZR] at hR ⊢; rw [← hs _ rfl 0 (.inl rfl)]; exact hR
    | 1, hs, hR => simp only [ZR] at hR ⊢; rw [← hs _ rfl 1 (.inl rfl)]; exact hR
    | 2, hs, hR => simp only [ZR] at hR ⊢; rw [← hs _ rfl 2 (.inl rfl)]; exact hR
    | 3, hs, hR => simp only [ZR] at hR ⊢; rw [← hs _ rfl 3 (.inl rfl)]; exact hR
    | 4, hs, hR => simp only [ZR] at hR ⊢; rw [← hs _ rfl 4 (.inl rfl)]; exact hR
    | 5, hs, hR => simp only [ZR] at hR ⊢; rw [← hs _ rfl 5 (.inl rfl)]; exact hR
    | 6, hs, hR => simp only [ZR] at hR ⊢; rw [← hs _ rfl 6 (.inl rfl)]; exact hR
    | 7, hs, hR => simp only [ZR] at hR ⊢; rw [← hs _ rfl 7 (.inl rfl)]; exact hR
    | 8, hs, hR => simp only [ZR] at hR ⊢; rw [← hs _ rfl 8 (.inl rfl)]; exact hR
    | _ + 9, hs, hR => trivial
  case hob =>
    intro io o ho act WW hX hS haft
    have hsz : act.tmps.size = 50 := hS.size
    have e1 : act.eval (.tmp 1) = .slice aL0 nl pL0 := hS.out 1 (no_dst (by kernel_rfl))
    have e3 : act.eval (.tmp 3) = .pointer (some ⟨w.heap.size, 0, none⟩) := hS.out 3 (no_dst (by kernel_rfl))
    have hle : w3.heap.size ≤ WW.heap.size := hX.size
    have rq := r3.below hX
    match io, ho, haft with
    | 0, ho, haft =>
      obtain rfl := Option.some.inj (show some _ = some o from ho)
      exact wp_of_value (z_l24 act.eval WW _ _ _ _ _ _ _ _ _ _ _ e3 (rq.cell (j := 0) (by simp)) (rq.cell (j := 1) (by simp)) (rq.cell (j := 2) (by simp)) (rq.cell (j := 3) (by simp))) ⟨hX, fun k s _ h => h, _, rfl, slot_put0 _ (by rw [hsz]; decide)⟩
    | 1, ho, haft =>
      obtain rfl := Option.some.inj (show some _ = some o from ho)
      exact wp_of_value (z_move act.eval WW _ _ _ _ _ _ _ e1) ⟨hX, fun k s _ h => h, _, rfl, slot_put0 _ (by rw [hsz]; decide)⟩
    | 2, ho, haft =>
      obtain rfl := Option.some.inj (show some _ = some o from ho)
      refine wp_of_enter (z_call49 WW _ _ _ _ _ _ _ act _ _ _ _ (haft ⟨0, .data⟩ (by simp) rfl) (haft ⟨1, .data⟩ (by simp) rfl)) (newKnown_any _ _ _ _ _ nb fb nl ts WW (hB.below (b3.trans (hX.mono b3.size))) (hL.below (b3.trans (hX.mono b3.size)))) ?_
      rintro r w'' ⟨vB', vL', rfl, hB', hL', hb⟩
      obtain ⟨aB', pB', rfl, -, -⟩ := id hB'
      obtain ⟨aL', pL', rfl, -, -⟩ := id hL'
      exact ⟨_, rfl, hX.trans (hb.mono hle), fun k s _ h => ZR.below hb k s h, _, rfl, aB', pB', aL', pL', slot_put0 _ (by rw [hsz]; decide), hB'.mono (fun x h => Nat.le_trans hle h), hL'.mono (fun x h => Nat.le_trans hle h)⟩
    | 3, ho, haft =>
      obtain rfl := Option.some.inj (show some _ = some o from ho)
      exact wp_of_value (z_move act.eval WW _ _ _ _ _ _ _ e1) ⟨hX, fun k s _ h => h, _, rfl, slot_put0 _ (by rw [hsz]; decide)⟩
    | 4, ho, haft =>
      obtain rfl := Option.some.inj (show some _ = some o from ho)
      exact wp_of_value (z_len25 act.eval WW _ _ _ _ _ _ _ _ _ (haft ⟨3, .data⟩ (by simp) rfl)) ⟨hX, fun k s _ h => h, _, rfl, slot_put0 _ (by rw [hsz]; decide)⟩
    | 5, ho, haft =>
      obtain rfl := Option.some.inj (show some _ = some o from ho)
      exact wp_of_value (z_make act.eval WW _ _ _ _ _ _ _ Mk (haft ⟨4, .data⟩ (by simp) rfl) hmk) ⟨hX.alloc hle _, fun k s _ h => ZR.below ((Below.refl _ _).alloc (Nat.le_refl _) _) k s h, _, rfl, WW.heap.size, slot_put0 _ (by rw [hsz]; decide), hle, hM WW⟩
    | 6, ho, haft =>
      obtain rfl := Option.some.inj (show some _ = some o from ho)
      obtain ⟨aB', pB', aL', pL', h1, h2, h3⟩ := haft ⟨2, .data⟩ (by simp) rfl
      obtain ⟨R, h4, h5, h6⟩ := haft ⟨5, .data⟩ (by simp) rfl
      exact wp_of_value (z_build act.eval WW _ _ _ _ _ _ _ _ _ _ _ _ _ _ _ _ _ _ _ h1 h4) ⟨hX, fun k s _ h => h, _, rfl, aB', pB', aL', pL', R, slot_put0 _ (by rw [hsz]; decide), h2, h3, h5, h6⟩
    | 7, ho, haft =>
      obtain rfl := Option.some.inj (show some _ = some o from ho)
      obtain ⟨aB', pB', aL', pL', R, h1, h2, h3, h5, h6⟩ := haft ⟨6, .data⟩ (by simp) rfl
      have hbx : Below WW.heap.size WW (WW.alloc (.cells #[.slice aB' nb pB', .int .i64 a, .int .i64 b, .int .i64 c, .slice aL' nl pL', .slice none 0 0, .slice (some ⟨R, 0, none⟩) nl nl] 118)) := (Below.refl _ _).alloc (Nat.le_refl _) _
      exact wp_of_value (z_box act.eval WW _ _ _ _ _ _ _ _ _ _ _ _ _ h1) ⟨hX.alloc hle _, fun k s _ h => ZR.below hbx k s h, _, rfl, aB', pB', aL', pL', R, WW.heap.size, slot_put0 _ (by rw [hsz]; decide), hle,
        h2.lt.keep (Keeps.of_below hbx), h3.lt.keep (Keeps.of_below hbx), h5, h6.lt, h6.below hbx, rowIs_list WW [.slice aB' nb pB', .int .i64 a, .int .i64 b, .int .i64 c, .slice aL' nl pL', .slice none 0 0, .slice (some ⟨R, 0, none⟩) nl nl] 118⟩
    | 8, ho, haft =>
      obtain rfl := Option.some.inj (show some _ = some o from ho)
      obtain ⟨aB', pB', aL', pL', R, E, h1, h2⟩ := haft ⟨7, .data⟩ (by simp) rfl
      exact wp_of_value (z_assign act.eval WW _ _ _ _ _ _ _ h1) ⟨hX, fun k s _ h => h, _, rfl, aB', pB', aL', pL', R, E, slot_put0 _ (by rw [hsz]; decide), h2⟩
    | n + 9, ho, haft => simp at ho
  case hend =>
    intro act w4 hX hS hall
    have ha := same_patch [33, 34, 35, 36, 37, 38, 39, 40, 13] hS (some_dst (by kernel_rfl))
    obtain ⟨aB', pB', aL', pL', R, E, h1, hE1, hB5, hL5, hR1, hR2, hR3, e4⟩ := hall 8 (by simp)
    have z13 : act.tmps.getD 13 undef = _ := h1
    simp only [patch, List.foldl] at ha
    rw [z13] at ha
    clear z13 h1 hall hS
    generalize act.tmps.getD 33 undef = y33 at ha
    generalize act.tmps.getD 34 undef = y34 at ha
    generalize act.tmps.getD 35 undef = y35 at ha
    generalize act.tmps.getD 36 undef = y36 at ha
    generalize act.tmps.getD 37 undef = y37 at ha
    generalize act.tmps.getD 38 undef = y38 at ha
    generalize act.tmps.getD 39 undef = y39 at ha
    generalize act.tmps.getD 40 undef = y40 at ha
    simp only [Act.put, List.setIfInBounds_toArray, List.set_cons_succ, List.set_cons_zero] at ha
    subst ha
    refine hK1 _ _ ?_
    clear hK1 hmk hM
    have b5 := b3.trans (hX.mono b3.size)
    have hK5 : IsKnown w4 E ⟨nb, fb, nl, ts⟩ (.slice aB' nb pB') (.slice aL' nl pL') := ⟨e4.lt, e4.cell (j := 0) (by simp), e4.cell (j := 4) (by simp), hB5.rd, hL5.rd⟩
    go_wp2_with fail
    refine (newPartitions_any _ ⟨nb, fb, nl, ts⟩ _ _ _ ns fs _ hK5 hnb hns (hS.below b5) hkey hwf).mono ?_
    rintro r w6 ⟨K, M, rfl, hKk1, hKk2, hparts, hb6⟩
    have e6 := e4.below hb6
    have z6 := hb6.size
    have d5 : w6.cell? ⟨E, 5, none⟩ = some (.slice none 0 0) := e6.cell (j := 5) (by simp)
    have f5 := e6.frozen 5
    go_wp2_with fail
    go_ret3
    have hElt := e4.lt
    have kk : ∀ S : Nat → Prop, ¬ S E → Keeps S w6 (w6.setCell ⟨E, 5, none⟩ (.slice (some ⟨K, 0, none⟩) (nb + 1) (nb + 1))) := fun S h => (Keeps.refl _ _).setCell h _
    have k6 : Keeps (fun x => w3.heap.size ≤ x ∧ x < E) w4 (w6.setCell ⟨E, 5, none⟩ (.slice (some ⟨K, 0, none⟩) (nb + 1) (nb + 1))) := (Keeps.of_below hb6).trans (kk _ (by omega))
    have hB6 := (hB5.keep k6).mono (S' := fun b => w.heap.size ≤ b) (fun b h => by omega)
    have hL6 := (hL5.keep k6).mono (S' := fun b => w.heap.size ≤ b) (fun b h => by omega)
    have e7 := RowIs.setCell_list (xs := [.slice aB' nb pB', .int .i64 a, .int .i64 b, .int .i64 c, .slice aL' nl pL', .slice none 0 0, .slice (some ⟨R, 0, none⟩) nl nl]) e6 5 (.slice (some ⟨K, 0, none⟩) (nb + 1) (nb + 1))
    have hKn : K ≠ E := by omega
    have hR6 : ∀ j, j < nl * 6 → (w6.setCell ⟨E, 5, none⟩ (.slice (some ⟨K, 0, none⟩) (nb + 1) (nb + 1))).cell? ⟨R, j, none⟩ = some (zres j) := fun j hj => by
      rw [World.cell?_setCell_other _ _ _ _ (fun h => absurd (congrArg Addr.block h) (by simp; omega))]
      exact (hR3.below hb6).cell hj
    have hRlt : R < (w6.setCell ⟨E, 5, none⟩ (.slice (some ⟨K, 0, none⟩) (nb + 1) (nb + 1))).heap.size := by simp; omega
    have pc : ∀ p r, p ≤ nb → r < 10 → (w6.setCell ⟨E, 5, none⟩ (.slice (some ⟨K, 0, none⟩) (nb + 1) (nb + 1))).cell? ⟨K, p * 10 + r, none⟩ = some (partV ⟨nb, fb, nl, ts⟩ E M p r) := fun p r hp hr => by
      rw [World.cell?_setCell_other _ _ _ _ (fun h => hKn (congrArg Addr.block h).symm)]; exact (hparts p hp).1 r hr
    refine ⟨E, _, _, K, M, rfl, ⟨⟨⟨by simp; omega, e7.cell (j := 0) (by simp), e7.cell (j := 4) (by simp), hB6.rd, hL6.rd⟩, hnb, hnl, e7.cell (j := 5) (by simp), ⟨R, e7.cell (j := 6) (by simp), hRlt, hR6⟩, by simpa using hKk2, fun p hp => pc p 0 hp (by omega), fun p hp => pc p 3 hp (by omega), fun p q hp hq => ?_, fun p hp => ?_, fun p hp => ?_⟩, by omega, hB6, hL6, by omega, fun p hp => ?_, ⟨R, e7.cell (j := 6) (by simp), by omega, hRlt, hR6⟩⟩, ?_⟩
    · have := pc p (4 + q) hp (by omega)
      rw [show p * 10 + (4 + q) = p * 10 + 4 + q from by omega] at this
      rw [this]
      unfold partV
      rw [if_neg (by omega), if_neg (by omega), if_neg (by omega), if_neg (by omega)]
    · obtain ⟨h2, h3, h4, h5⟩ := hparts p hp
      simpa using h4
    · obtain ⟨h2, h3, h4, h5⟩ := hparts p hp
      exact h5.block (Below.heap_setCell _ _ _ _ (by simp; omega))
    · obtain ⟨h2, h3, h4, h5⟩ := hparts p hp
      omega
    · exact (b5.trans (hb6.mono b5.size)).setCell (show w.heap.size ≤ E by omega) _
end
end Go.Proofs.YtldeiiffabfmeaaGreatDoor
