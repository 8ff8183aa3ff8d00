/- opens, cut into pieces: what a piece starts from and what all of it leaves. -/
import Derived.Test.YtldeiiffabfmeaaGreatDoorAX
import Derived.Test.YtldeiiffabfmeaaGreatDoorAYJ
import Derived.Test.YtldeiiffabfmeaaGreatDoorAD
import Derived.Test.YtldeiiffabfmeaaGreatDoorAVyJ
set_option linter.unusedVariables false
set_option linter.unusedSimpArgs false
namespace Go.Proofs.YtldeiiffabfmeaaGreatDoor
open Go.RowKit

/-- What follows behind the first n statements. -/
def tailOf : Nat → Code → Code
  | 0, c => c
  | n + 1, .seq _ b => tailOf n b
  | _ + 1, c => c
def bodyOf (f : Func) : Code := f.body.getD .skip

section
variable {P : Program} {Q : Exit → Act → World → Prop} {a : Act} {w : World}
/-- Both ways of an 'if' without 'else' that writes one slot, brought together. -/
theorem wp_join {c : Operand} {x : Code} {K : Act → World → Prop} {tt : Bool} (d : Nat) (R : Value → World → Prop) (hd : d < a.tmps.size) (hc : a.eval c = .bool tt) (htrue : tt = true → x.wp P (Exit.then (fun a' w' => ∃ u, a' = a.put (some d) u ∧ R u w') Q) a w) (hfalse : tt = false → R (a.tmps.getD d undef) w) (hrest : ∀ u wq, R u wq → K (a.put (some d) u) wq) : (Code.cond c x Code.skip).wp P (Exit.then K Q) a w := by
  refine wp_cond hc ?_
  cases tt with
  | false =>
    refine wp_skip ?_
    have h := hrest _ _ (hfalse rfl)
    have e : a.put (some d) (a.tmps.getD d undef) = a := by
      obtain ⟨ta, da⟩ := a
      simp only [Act.put]
      congr 1
      simp only at hd
      apply Array.ext
      · simp
      · intro i h1 h2
        rw [Array.getElem_setIfInBounds]
        split
        · rename_i e; subst e; simp [Array.getD, hd]
        · rfl
    rw [e] at h
    exact h
  | true =>
    refine Code.wp_mono ?_ (htrue rfl)
    intro e a' w' he
    cases e with
    | normal => obtain ⟨u, rfl, hr⟩ := he; exact hrest u w' hr
    | _ => exact he
end

/-- What opens leaves. -/
def OpensPost (base W nb nl ns : Nat) (fb fs : Nat → Int) (ts : Nat → TxnD) (a b c : Int) (w : World) (r : Ending) (w' : World) : Prop :=
  r = .returned (.bool true) ∧ Below base w w' ∧ ∃ cW, Rec w' base W 0 0 cW (fun _ => undef) (fun _ => 0) ∧
    ((newAt nb fb a b c nl ts ns fs ≠ (0, 0) ∧ cW 0 = .slice none 0 0) ∨
     (configB nb fb a b c = true ∧ logAt nl ts = none ∧ ∃ (S cap s e x : Nat) (vB vL vB' vL' : Value) (K : Nat) (M : Nat → Nat), cW 0 = .slice (some ⟨S, 0, none⟩) 1 cap ∧ w'.cell? ⟨S, 0, none⟩ = some (.pointer (some ⟨s, 0, none⟩)) ∧ SideS W cW w' s e x ⟨nb, fb, nl, ts⟩ vB vL vB' vL' K M (startHs nb fb fs ns) (startVl nb fb fs ns)))

/-- The two engines that New gave, or none. -/
def NewOut (S : Nat → Prop) (nb nl ns : Nat) (fb fs : Nat → Int) (ts : Nat → TxnD) (a b c : Int) (px py : Option Addr) (w : World) : Prop :=
  (newAt nb fb a b c nl ts ns fs ≠ (0, 0) ∧ px = none ∧ py = none) ∨
  (configB nb fb a b c = true ∧ logAt nl ts = none ∧ ∃ (e x : Nat) (vB vL vB' vL' : Value) (K : Nat) (M : Nat → Nat), px = some ⟨e, 0, none⟩ ∧ py = some ⟨x, 0, none⟩ ∧ IsEngS S w e ⟨nb, fb, nl, ts⟩ vB vL K M (startHs nb fb fs ns) (startVl nb fb fs ns) ∧ IsRefS S w x ⟨nb, fb, nl, ts⟩ vB' vL' (startHs nb fb fs ns) (startVl nb fb fs ns))
theorem NewOut.keep {S : Nat → Prop} {nb nl ns : Nat} {fb fs : Nat → Int} {ts : Nat → TxnD} {a b c : Int} {px py : Option Addr} {w w' : World} (h : NewOut S nb nl ns fb fs ts a b c px py w) (hk : Keeps S w w') : NewOut S nb nl ns fb fs ts a b c px py w' := by
  rcases h with h | ⟨h1, h2, e, x, vB, vL, vB', vL', K, M, h3, h4, h5, h6⟩
  · exact .inl h
  · exact .inr ⟨h1, h2, e, x, vB, vL, vB', vL', K, M, h3, h4, h5.keep hk, h6.keep hk⟩
end Go.Proofs.YtldeiiffabfmeaaGreatDoor
/- New of both, whatever comes in; single operations of the loop that looks at what went in. -/
namespace Go.Proofs.YtldeiiffabfmeaaGreatDoor
open Go.RowKit

theorem newAt_zero {nb : Nat} {fb : Nat → Int} {a b c : Int} {nl : Nat} {ts : Nat → TxnD} {ns : Nat} {fs : Nat → Int} (h : newAt nb fb a b c nl ts ns fs = (0, 0)) : configB nb fb a b c = true ∧ logAt nl ts = none ∧ startAt ns fs = none := by
  unfold newAt at h
  cases hc : configB nb fb a b c with
  | false => rw [hc] at h; simp at h
  | true =>
    rw [hc] at h
    cases hl : logAt nl ts with
    | some k => rw [hl] at h; simp at h
    | none =>
      rw [hl] at h
      cases hs : startAt ns fs with
      | some k => rw [hs] at h; simp at h
      | none => exact ⟨rfl, rfl, rfl⟩
theorem newAt_one {nb : Nat} {fb : Nat → Int} {a b c : Int} {nl : Nat} {ts : Nat → TxnD} {ns : Nat} {fs : Nat → Int} (h : newAt nb fb a b c nl ts ns fs ≠ (0, 0)) : (newAt nb fb a b c nl ts ns fs).1 ≠ 0 := by
  intro h0
  apply h
  unfold newAt at *
  cases hc : configB nb fb a b c with
  | false => rw [hc] at h0; simp at h0
  | true =>
    rw [hc] at h0
    cases hl : logAt nl ts with
    | some k => rw [hl] at h0; simp at h0
    | none =>
      rw [hl] at h0
      cases hs : startAt ns fs with
      | some k => rw [hs] at h0; simp at h0
      | none => simp

section
variable (vB vL vS : Value) (a b c : Int) (nb : Nat) (fb : Nat → Int) (nl : Nat) (ts : Nat → TxnD) (ns : Nat) (fs : Nat → Int) (w : World)
theorem enew_all (hB : RdI w vB 1 nb fb) (hL : RdL w vL nl ts) (hS : RdI w vS 2 ns fs) (hwf : ∀ j, j < ns → (Lit.int .i64 (fs (2 * j + 1))).wf = true) :
    Calls Tryz.prog 26 #[.agg #[vB, .int .i64 a, .int .i64 b, .int .i64 c], vL, vS] w fun r w' => ∃ px, r = .returned (.tuple #[.pointer px, .int .i64 ((newAt nb fb a b c nl ts ns fs).1 : Nat), .int .i64 ((newAt nb fb a b c nl ts ns fs).2 : Nat)]) ∧ Below w.heap.size w w' ∧
      ((newAt nb fb a b c nl ts ns fs ≠ (0, 0) ∧ px = none) ∨ (newAt nb fb a b c nl ts ns fs = (0, 0) ∧ ∃ (e : Nat) (vB' vL' : Value) (K : Nat) (M : Nat → Nat), px = some ⟨e, 0, none⟩ ∧ IsEngS (fun b => w.heap.size ≤ b) w' e ⟨nb, fb, nl, ts⟩ vB' vL' K M (startHs nb fb fs ns) (startVl nb fb fs ns))) := by
  by_cases h : newAt nb fb a b c nl ts ns fs = (0, 0)
  · obtain ⟨h1, h2, h3⟩ := newAt_zero h
    refine (enew_yes vB vL vS a b c nb fb nl ts ns fs w hB hL hS hwf h1 h2 h3).mono ?_
    rintro r w' ⟨e, vB', vL', K, M, rfl, hE, hb⟩
    exact ⟨_, by rw [h]; rfl, hb, .inr ⟨h, e, vB', vL', K, M, rfl, hE⟩⟩
  · refine (enew_no vB vL vS a b c nb fb nl ts ns fs w hB hL hS h).mono ?_
    rintro r w' ⟨rfl, hb⟩
    exact ⟨_, rfl, hb, .inl ⟨h, rfl⟩⟩
theorem rnew_all (hB : RdI w vB 1 nb fb) (hL : RdL w vL nl ts) (hS : RdI w vS 2 ns fs) :
    Calls Tryz.prog 27 #[.agg #[vB, .int .i64 a, .int .i64 b, .int .i64 c], vL, vS] w fun r w' => ∃ py, r = .returned (.tuple #[.pointer py, .int .i64 ((newAt nb fb a b c nl ts ns fs).1 : Nat), .int .i64 ((newAt nb fb a b c nl ts ns fs).2 : Nat)]) ∧ Below w.heap.size w w' ∧
      ((newAt nb fb a b c nl ts ns fs ≠ (0, 0) ∧ py = none) ∨ (newAt nb fb a b c nl ts ns fs = (0, 0) ∧ ∃ (x : Nat) (vB' vL' : Value), py = some ⟨x, 0, none⟩ ∧ IsRefS (fun b => w.heap.size ≤ b) w' x ⟨nb, fb, nl, ts⟩ vB' vL' (startHs nb fb fs ns) (startVl nb fb fs ns))) := by
  by_cases h : newAt nb fb a b c nl ts ns fs = (0, 0)
  · obtain ⟨h1, h2, h3⟩ := newAt_zero h
    refine (rnew_yes vB vL vS a b c nb fb nl ts ns fs w hB hL hS h1 h2 h3).mono ?_
    rintro r w' ⟨x, vB', vL', rfl, hE, hb⟩
    exact ⟨_, by rw [h]; rfl, hb, .inr ⟨h, x, vB', vL', rfl, hE⟩⟩
  · refine (rnew_no vB vL vS a b c nb fb nl ts ns fs w hB hL hS (newAt_one h)).mono ?_
    rintro r w' ⟨rfl, hb⟩
    exact ⟨_, rfl, hb, .inl ⟨h, rfl⟩⟩
end
theorem run_eql_52 (px : Option Addr) (w : World) : (binOp .eql 57 (.pointer px) (.pointer none)).run Tryz.prog w = .ok (.bool px.isNone) w := by
  cases px <;> first | (simp [go_sem]; done) | (simp [go_sem, binOp, Op.equal, Op.maxDepth, Op.equalIn]; done) | kernel_rfl
theorem run_eql_56 (px : Option Addr) (w : World) : (binOp .eql 96 (.pointer px) (.pointer none)).run Tryz.prog w = .ok (.bool px.isNone) w := by
  cases px <;> first | (simp [go_sem]; done) | (simp [go_sem, binOp, Op.equal, Op.maxDepth, Op.equalIn]; done) | kernel_rfl

section
variable (ev : Operand → Value) (w : World) (T : Nat) (d : Option Tmp) (ty : TypeId) (ps : String) (af : Array Edge) (g : Option (Nat × Bool)) (x x1 x2 x3 x4 : Operand)
theorem n_ix43 (o n p i : Nat) (hi : i < n) (hn : n ≤ 1048577) (h : ev x = .slice (some ⟨T, o, none⟩) n p) (h1 : ev x1 = .int .i64 i) : (execOp ev ⟨d, .indexAddr 85 x x1, ty, ps, af, g⟩).run Tryz.prog w = .ok (.value (.pointer (some ⟨T, o + i * 4, none⟩))) w := by
  simp [execOp, go_sem, h, h1, hi]
theorem n_ix25 (o n p i : Nat) (hi : i < n) (hn : n ≤ 1048577) (h : ev x = .slice (some ⟨T, o, none⟩) n p) (h1 : ev x1 = .int .i64 i) : (execOp ev ⟨d, .indexAddr 25 x x1, ty, ps, af, g⟩).run Tryz.prog w = .ok (.value (.pointer (some ⟨T, o + i * 4, none⟩))) w := by
  simp [execOp, go_sem, h, h1, hi]
theorem n_l47 (o : Nat) (v0 v1 v2 v3 : Value) (h : ev x = .pointer (some ⟨T, o, none⟩)) (h0 : w.cell? ⟨T, o, none⟩ = some v0) (h1 : w.cell? ⟨T, o + 1, none⟩ = some v1) (h2 : w.cell? ⟨T, o + 2, none⟩ = some v2) (h3 : w.cell? ⟨T, o + 3, none⟩ = some v3) : (execOp ev ⟨d, .load 89 x, ty, ps, af, g⟩).run Tryz.prog w = .ok (.value (.agg #[v0, v1, v2, v3])) w := by
  simp [execOp, go_sem, h, h0, h1, h2, h3]
theorem n_l49 (o : Nat) (v0 v1 v2 v3 : Value) (h : ev x = .pointer (some ⟨T, o, none⟩)) (h0 : w.cell? ⟨T, o, none⟩ = some v0) (h1 : w.cell? ⟨T, o + 1, none⟩ = some v1) (h2 : w.cell? ⟨T, o + 2, none⟩ = some v2) (h3 : w.cell? ⟨T, o + 3, none⟩ = some v3) : (execOp ev ⟨d, .load 91 x, ty, ps, af, g⟩).run Tryz.prog w = .ok (.value (.agg #[v0, v1, v2, v3])) w := by
  simp [execOp, go_sem, h, h0, h1, h2, h3]
theorem n_f28 (h : ev x = .pointer (some ⟨T, 0, none⟩)) : (execOp ev ⟨d, .fieldAddr 28 x 1, ty, ps, af, g⟩).run Tryz.prog w = .ok (.value (.pointer (some ⟨T, 4, none⟩))) w := by
  simp [execOp, go_sem, h]
theorem n_l25 (o : Nat) (b : Option Addr) (n p : Nat) (h : ev x = .pointer (some ⟨T, o, none⟩)) (hc : w.cell? ⟨T, o, none⟩ = some (.slice b n p)) : (execOp ev ⟨d, .load 25 x, ty, ps, af, g⟩).run Tryz.prog w = .ok (.value (.slice b n p)) w := by
  simp [execOp, go_sem, h, hc]
theorem n_call13 (a : Act) (v1 v2 v3 v4 : Value) (t1 t2 t3 t4 : TypeId) (h1 : a.eval x1 = v1) (h2 : a.eval x2 = v2) (h3 : a.eval x3 = v3) (h4 : a.eval x4 = v4) : (execOp a.eval ⟨d, .call { callee := .value (.func 29), args := #[x1, x2, x3, x4], argTypes := #[t1, t2, t3, t4] }, ty, ps, af, g⟩).run Tryz.prog w = .ok (.enter 29 #[v1, v2, v3, v4]) w := by
  subst h1 h2 h3 h4
  simp [execOp, go_sem]
end
end Go.Proofs.YtldeiiffabfmeaaGreatDoor
/- opens: the loop that looks at each transaction that went in. -/
namespace Go.Proofs.YtldeiiffabfmeaaGreatDoor
open Go.RowKit

/-- A record of the caller's in which nothing is kept yet. -/
def nil9 : List Value := [.slice none 0 0, .slice none 0 0, .slice none 0 0, .slice none 0 0, .slice none 0 0, .slice none 0 0, .slice none 0 0, .slice none 0 0, .int .i64 0]

/-- The first i transactions were looked at, and turned over. -/
structure LoopI (base W M0 LG SR nb nl ns N0 N1 : Nat) (fb fs : Nat → Int) (ts : Nat → TxnD) (a b c : Int) (vM : List Value) (gl : Value) (vu vx : Nat → Value) (lo hi : Nat → Nat) (px py : Option Addr) (w2 wL : World) (i Lb : Nat) (cW : Nat → Value) (wq : World) : Prop where
  x : RowIs wq W 37 9 cW
  same : ∀ j, j ≠ 3 → j ≠ 4 → j ≠ 5 → cW j = lc nil9 j
  t3 : TL wq base (· < Lb) 22 3 1 (fun _ => -7) (cW 3) (1 + 2 * i)
  t4 : TL wq base (· < Lb) 86 159 2 (fun _ => -7) (cW 4) i
  t5 : TL wq base (· < Lb) 87 161 4 codeF (cW 5) i
  lb : ∀ k, i ≤ k → k < nl → Lb ≤ lo k
  lbw : base ≤ Lb ∧ Lb ≤ N0
  g : OwnL wq wL.heap.size 89 4 gl nl vu
  l : RowIs wq LG 91 ((nl + 1) * 4) (logC nl vx)
  at_ : ∀ k, i ≤ k → k < nl → GiftAt wq (ts k) (lo k) (hi k) (vu (k * 4)) (vu (k * 4 + 1)) (vu (k * 4 + 2)) (vu (k * 4 + 3)) (vx (k * 4)) (vx (k * 4 + 1)) (vx (k * 4 + 2)) (vx (k * 4 + 3))
  s : RowIs wq SR 81 ((ns + 1) * 2) (icell (cut (ns * 2) fs))
  m : RowIs wq M0 28 6 (lc vM)
  bl : Below base w2 wq
  eng : NewOut (fun b => N0 ≤ b ∧ b < N1) nb nl ns fb fs ts a b c px py wq
  own : ∀ q, q = 3 ∨ q = 4 ∨ q = 5 → ∀ g, (cW q).ownBlock = some g → N1 ≤ g
  sz : N1 ≤ wq.heap.size

/-- What does not change: where all these lie. -/
structure Lie (base W M0 LG SR nl N0 N1 : Nat) (gl : Value) (lo hi : Nat → Nat) (wL : World) : Prop where
  w : W < wL.heap.size
  m : M0 < wL.heap.size
  l : LG < wL.heap.size
  s : ∀ k, k < nl → hi k ≤ SR
  sN : SR < N0
  up : ∀ k, k < nl → wL.heap.size ≤ lo k ∧ lo k ≤ hi k ∧ hi k ≤ N0
  ord : ∀ k k', k < k' → k' < nl → hi k ≤ lo k'
  go : ∀ k, k < nl → ∀ g, gl.ownBlock = some g → ¬ (lo k ≤ g ∧ g < hi k)
  gN : ∀ g, gl.ownBlock = some g → g < N0
  b : base ≤ wL.heap.size
  n : N0 ≤ N1

theorem LoopI.step {base W M0 LG SR nb nl ns N0 N1 : Nat} {fb fs : Nat → Int} {ts : Nat → TxnD} {a b c : Int} {vM : List Value} {gl : Value} {vu vx : Nat → Value} {lo hi : Nat → Nat} {px py : Option Addr} {w2 wL : World} {i Lb : Nat} {cW cW' : Nat → Value} {wq w' : World} (h : LoopI base W M0 LG SR nb nl ns N0 N1 fb fs ts a b c vM gl vu vx lo hi px py w2 wL i Lb cW wq) (H : Lie base W M0 LG SR nl N0 N1 gl lo hi wL) (hin : i < nl)
    (x : RowIs w' W 37 9 cW') (same : ∀ j, j ≠ 3 → j ≠ 4 → j ≠ 5 → cW' j = cW j) (t3 : TL w' base (· < hi i) 22 3 1 (fun _ => -7) (cW' 3) (1 + 2 * i + 2)) (t4 : TL w' base (· < hi i) 86 159 2 (fun _ => -7) (cW' 4) (i + 1)) (t5 : TL w' base (· < hi i) 87 161 4 codeF (cW' 5) (i + 1))
    (kp : Keeps (RS W (lo i) (hi i) cW) wq w') (bl : Below base wq w') (own : ∀ q, q = 3 ∨ q = 4 ∨ q = 5 → (cW' q).ownBlock = (cW q).ownBlock ∨ ∃ b, (cW' q).ownBlock = some b ∧ wq.heap.size ≤ b) :
    LoopI base W M0 LG SR nb nl ns N0 N1 fb fs ts a b c vM gl vu vx lo hi px py w2 wL (i + 1) (hi i) cW' w' := by
  have hup := H.up i hin
  have hb := H.b
  have o3 : ∀ g, (cW 3).ownBlock = some g → N1 ≤ g := h.own 3 (.inl rfl)
  have o4 : ∀ g, (cW 4).ownBlock = some g → N1 ≤ g := h.own 4 (.inr (.inl rfl))
  have o5 : ∀ g, (cW 5).ownBlock = some g → N1 ≤ g := h.own 5 (.inr (.inr rfl))
  have hn := H.n
  have hs : ∀ g, g ≠ W → (g < lo i ∨ hi i ≤ g) → g < N1 → RS W (lo i) (hi i) cW g := fun g h1 h2 h3 => ⟨h1, h2, fun e => by have := o3 g e; omega, fun e => by have := o4 g e; omega, fun e => by have := o5 g e; omega⟩
  refine ⟨x, fun j j3 j4 j5 => (same j j3 j4 j5).trans (h.same j j3 j4 j5), ?_, t4, t5, fun k hk hkn => H.ord i k (by omega) hkn, ⟨by omega, hup.2.2⟩, ?_, ?_, fun k hk hkn => ?_, ?_, ?_, h.bl.trans bl, ?_, fun q hq g hg => ?_, Nat.le_trans h.sz bl.size⟩
  · rw [show 1 + 2 * (i + 1) = 1 + 2 * i + 2 from by omega]; exact t3
  · exact h.g.keep fun g hg => kp.block g (hs g (fun e => h.g.apart h.x (by decide) (by rw [hg, e])) (by have := H.go i hin g hg; omega) (by have := H.gN g hg; omega)) (h.g.lt g hg).2
  · exact h.l.block (kp.block LG (hs LG (h.l.apart h.x (by decide)) (by have := H.l; omega) (by have := H.l; omega)) h.l.lt)
  · refine (h.at_ k (by omega) hkn).keep kp fun g T m c h1 h2 hr hT => ?_
    have := H.ord i k (by omega) hkn
    have := H.up k hkn
    exact hs g (hr.apart h.x (by rcases hT with rfl | rfl | rfl <;> decide)) (by omega) (by omega)
  · exact h.s.block (kp.block SR (hs SR (h.s.apart h.x (by decide)) (by have := H.s i hin; omega) (by have := H.sN; omega)) h.s.lt)
  · exact h.m.block (kp.block M0 (hs M0 (h.m.apart h.x (by decide)) (by have := H.m; omega) (by have := H.m; omega)) h.m.lt)
  · exact h.eng.keep (kp.mono fun b hb => hs b (by have := H.w; omega) (by omega) hb.2)
  · rcases own q hq with e | ⟨b', e, hb'⟩
    · exact h.own q hq g (by rw [← e]; exact hg)
    · rw [e] at hg; injection hg with hg; have := h.sz; omega
end Go.Proofs.YtldeiiffabfmeaaGreatDoor
