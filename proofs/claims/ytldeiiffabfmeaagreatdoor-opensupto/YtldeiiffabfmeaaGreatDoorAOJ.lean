/- The caller writes over a list that came out, and keeps it: the rounds, as plain facts. -/
import Derived.Test.YtldeiiffabfmeaaGreatDoorAMJ
set_option linter.unusedVariables false
set_option linter.unusedSimpArgs false
namespace Go.Proofs.YtldeiiffabfmeaaGreatDoor
open Go.RowKit

theorem elem26 : (Tryz.prog.info? 26).map (fun i => (i.zero, i.size, i.bytes)) = some (some (.slice none 0 0), 1, 24) := by kernel_rfl
theorem elem3 : (Tryz.prog.info? 3).map (fun i => (i.zero, i.size, i.bytes)) = some (some (.int .i64 0), 1, 8) := by kernel_rfl

/-- k rounds are done. -/
structure KI (wa : World) (base W np n P : Nat) (m : Int) (c0 vsP : Nat → Value) (ms : Nat → Int) (k : Nat) (lk : Value) (ck vsk : Nat → Value) (msk : Nat → Int) (wq : World) : Prop where
  x : RowIs wq W 37 9 ck
  p : OwnL wq base 26 1 (ck 1) (np + k) vsk
  mm : OwnL wq base 3 1 (ck 2) (np + k) (icell msk)
  same : ∀ j, j ≠ 1 → j ≠ 2 → ck j = c0 j
  went : Went W c0 ck wa wq
  bl : Below base wa wq
  old : ∀ i, i < np → vsk i = vsP i ∧ msk i = ms i
  own : OwnL wq wa.heap.size 81 2 lk (n + k) (fun _ => .int .i64 m)
  lp : lk.ownBlock ≠ some P
  pr : RowIs wq P 81 2 (fun _ => .int .i64 m)
  new : ∀ i, np ≤ i → i < np + k → msk i = m ∧ ∃ a ni cap, vsk i = .slice a ni cap ∧ ni ≤ n + k ∧ (0 < ni → ∃ b, a = some ⟨b, 0, none⟩ ∧ Out W ck b ∧ b < wq.heap.size ∧ ∀ j, j < ni * 2 → wq.cell? ⟨b, j, none⟩ = some (.int .i64 m))

theorem more_old' (k : Nat) (vs c : Nat → Value) {j : Nat} (h : j < k) : more k vs c j = vs j := if_pos h
theorem more_at (k : Nat) (vs c : Nat → Value) : more k vs c k = c 0 := by simp [more]

/-- One round more. -/
theorem KI.step {wa wr : World} {base W np n P k : Nat} {m : Int} {c0 vsP ck vsk : Nat → Value} {ms msk : Nat → Int} {lk : Value} (h : KI wa base W np n P m c0 vsP ms k lk ck vsk msk wr) (hbW : base ≤ W) (hW : W < wa.heap.size) (hnp : np ≤ 1000000) (hn : n ≤ 100) (hk : k < 4) :
    ∃ a1 p1 w1 a2 p2 w2 v3 w3,
      (∀ ty, (Builtin.append_ #[31, 31] ty #[ck 1, .slice (some ⟨wr.heap.size, 0, none⟩) 1 1]).run Tryz.prog (wr.alloc (.cells #[lk] 26)) = .ok (.slice a1 (np + k + 1) p1) w1) ∧ w1.cell? ⟨W, 1, none⟩ = some (ck 1) ∧ w1.frozen? ⟨W, 1, none⟩ = false ∧
      (∀ ty, (Builtin.append_ #[22, 22] ty #[ck 2, .slice (some ⟨w1.heap.size, 0, none⟩) 1 1]).run Tryz.prog ((w1.setCell ⟨W, 1, none⟩ (.slice a1 (np + k + 1) p1)).alloc (.cells #[.int .i64 m] 3)) = .ok (.slice a2 (np + k + 1) p2) w2) ∧ w2.cell? ⟨W, 2, none⟩ = some (ck 2) ∧ w2.frozen? ⟨W, 2, none⟩ = false ∧
      (w1.setCell ⟨W, 1, none⟩ (.slice a1 (np + k + 1) p1)).cell? ⟨W, 2, none⟩ = some (ck 2) ∧
      (w2.setCell ⟨W, 2, none⟩ (.slice a2 (np + k + 1) p2)).cell? ⟨P, 0, none⟩ = some (.int .i64 m) ∧ (w2.setCell ⟨W, 2, none⟩ (.slice a2 (np + k + 1) p2)).cell? ⟨P, 1, none⟩ = some (.int .i64 m) ∧
      (∀ ty, (Builtin.append_ #[26, 26] ty #[lk, .slice (some ⟨w2.heap.size, 0, none⟩) 1 1]).run Tryz.prog ((w2.setCell ⟨W, 2, none⟩ (.slice a2 (np + k + 1) p2)).alloc (.cells #[.int .i64 m, .int .i64 m] 81)) = .ok v3 w3) ∧
      ∃ ck' vsk' msk', KI wa base W np n P m c0 vsP ms (k + 1) v3 ck' vsk' msk' w3 := by
  have hWr := h.x.lt
  have hslk : ∃ a cap, lk = .slice a (n + k) cap := h.own.slice
  obtain ⟨aL, pL, hlk⟩ := hslk
  have hl1 : lk.oneCell' = true := by rw [hlk]; rfl
  obtain ⟨v1, w1, r1, q1, f1, x1, o1, k1, b1, l1, a1, p1, rfl⟩ := push (P := Tryz.prog) 31 26 _ _ (by decide) Tryz.underlying31 elem26 rfl (by omega) W 1 base (np + k) ck vsk (ck 1) lk wr hl1 h.x (by omega) rfl h.p (by omega) hbW
  have z1 := k1.size
  have hm1 : OwnL (w1.setCell ⟨W, 1, none⟩ (.slice a1 (np + k + 1) p1)) base 3 1 (ck 2) (np + k) (icell msk) := h.mm.keep fun g hg => k1.block g ⟨fun e => h.mm.apart h.x (by decide) (by rw [hg, e]), h.mm.apart2 h.p (by decide) hg⟩ (h.mm.lt g hg).2
  obtain ⟨v2, w2, r2, q2, f2, x2, o2, k2, b2, l2, a2, p2, rfl⟩ := push (P := Tryz.prog) 22 3 _ _ (by decide) Tryz.underlying22 elem3 rfl (by omega) W 2 base (np + k) (upd ck 1 (.slice a1 (np + k + 1) p1)) (icell msk) (ck 2) (.int .i64 m) (w1.setCell ⟨W, 1, none⟩ (.slice a1 (np + k + 1) p1)) rfl x1 (by omega) (by simp [upd]) hm1 (by omega) hbW
  have z2 := k2.size
  have s1 : (w1.setCell ⟨W, 1, none⟩ (.slice a1 (np + k + 1) p1)).heap.size = w1.heap.size := by simp
  have s2 : (w2.setCell ⟨W, 2, none⟩ (.slice a2 (np + k + 1) p2)).heap.size = w2.heap.size := by simp
  have r2' := r2
  rw [s1] at r2'
  have kk : ∀ b, Out W ck b → b < wr.heap.size → (w2.setCell ⟨W, 2, none⟩ (.slice a2 (np + k + 1) p2)).heap[b]? = wr.heap[b]? := fun b hb hl => by
    rw [k2.block b ⟨hb.1, hb.2.2⟩ (Nat.lt_of_lt_of_le hl z1), k1.block b ⟨hb.1, hb.2.1⟩ hl]
  have hPo : Out W ck P := ⟨fun e => h.x.apart h.pr (by decide) e.symm, h.p.apart h.pr (by decide), h.mm.apart h.pr (by decide)⟩
  have hP2 : RowIs (w2.setCell ⟨W, 2, none⟩ (.slice a2 (np + k + 1) p2)) P 81 2 (fun _ => .int .i64 m) := h.pr.block (kk P hPo h.pr.lt)
  have hlo : ∀ g, lk.ownBlock = some g → Out W ck g := fun g hg => ⟨fun e => h.own.apart h.x (by decide) (by rw [hg, e]), h.own.apart2 h.p (by decide) hg, h.own.apart2 h.mm (by decide) hg⟩
  have ho2 : OwnL (w2.setCell ⟨W, 2, none⟩ (.slice a2 (np + k + 1) p2)) wa.heap.size 81 2 lk (n + k) (fun _ => .int .i64 m) := h.own.keep fun g hg => kk g (hlo g hg) (h.own.lt g hg).2
  have hp2 : OwnL (w2.setCell ⟨W, 2, none⟩ (.slice a2 (np + k + 1) p2)) base 26 1 (.slice a1 (np + k + 1) p1) (np + k + 1) (more (np + k) vsk (fun _ => lk)) := o1.keep fun g hg => k2.block g ⟨fun e => o1.apart x1 (by decide) (by rw [hg, e]), o1.apart2 hm1 (by decide) hg⟩ (o1.lt g hg).2
  generalize hu2 : w2.setCell ⟨W, 2, none⟩ (.slice a2 (np + k + 1) p2) = u2 at *
  have bA : Below u2.heap.size u2 (u2.alloc (.cells #[.int .i64 m, .int .i64 m] 81)) := (Below.refl _ _).alloc (Nat.le_refl _) _
  have rN : RowIs (u2.alloc (.cells #[.int .i64 m, .int .i64 m] 81)) u2.heap.size 81 2 (lc [.int .i64 m, .int .i64 m]) := rowIs_list u2 [.int .i64 m, .int .i64 m] 81
  have hszW := h.went.k.size
  obtain ⟨v3, w3, r3, o3, g3, l3, e3⟩ := own_append_keeps (P := Tryz.prog) (w := u2.alloc (.cells #[.int .i64 m, .int .i64 m] 81)) 26 81 _ 2 16 Tryz.underlying26 Tryz.info81 rfl (by omega) (by omega) wa.heap.size (n + k) lk (fun _ => .int .i64 m) (ho2.below bA) (by omega) (by simp; omega) u2.heap.size 1 (fun _ => .int .i64 m) (fun j hj => by
    rw [rN.cell hj]
    have : j = 0 ∨ j = 1 := by omega
    rcases this with rfl | rfl <;> rfl) (fun _ _ => rfl)
  have z3 := g3.size
  have z3' : u2.heap.size < w3.heap.size := by simp at z3; omega
  have hsz : wr.heap.size ≤ u2.heap.size := Nat.le_trans z1 z2
  -- a block that is not the list's own is as it was
  have kb : ∀ b, b < u2.heap.size → lk.ownBlock ≠ some b → w3.heap[b]? = u2.heap[b]? := fun b hb hne => by
    rw [g3.block b (by simp; omega) (fun e => hne e.symm), bA.block b hb]
  have c1 : (upd (upd ck 1 (.slice a1 (np + k + 1) p1)) 2 (.slice a2 (np + k + 1) p2)) 1 = .slice a1 (np + k + 1) p1 := by simp [upd]
  have c2 : (upd (upd ck 1 (.slice a1 (np + k + 1) p1)) 2 (.slice a2 (np + k + 1) p2)) 2 = .slice a2 (np + k + 1) p2 := by simp [upd]
  have hgrow : Grow wr.heap.size W ck (upd (upd ck 1 (.slice a1 (np + k + 1) p1)) 2 (.slice a2 (np + k + 1) p2)) := by
    refine Out.grow ?_ ?_
    · rw [c1]; exact l1.imp id fun e => ⟨_, e, by omega⟩
    · rw [c2]; exact l2.imp id fun e => ⟨_, e, by omega⟩
  have hWn : ∀ T mm c, RowIs u2 W T mm c → T ≠ 81 → RowIs w3 W T mm c := fun T mm c hr hT => hr.block (kb W hr.lt (ho2.apart hr hT))
  refine ⟨a1, p1, w1, a2, p2, w2, v3, w3, r1, q1, f1, r2', q2, f2, by rw [x1.cell (by omega)]; simp [upd], ?_, ?_, ?_, upd (upd ck 1 (.slice a1 (np + k + 1) p1)) 2 (.slice a2 (np + k + 1) p2), more (np + k) vsk (fun _ => lk), fun i => if i < np + k then msk i else m, ?_⟩
  · rw [hu2]; exact hP2.cell (by omega)
  · rw [hu2]; exact hP2.cell (by omega)
  · rw [hu2, ← s2]; exact r3
  · refine ⟨hWn _ _ _ x2 (by decide), ?_, ?_, ?_, ?_, ?_, ?_, ?_, ?_, ?_, ?_⟩
    · rw [c1]; exact hp2.keep fun g hg => kb g (hp2.lt g hg).2 (hp2.apart2 ho2 (by decide) hg)
    · rw [c2]
      refine OwnL.congr (o2.keep fun g hg => kb g (o2.lt g hg).2 (o2.apart2 ho2 (by decide) hg)) fun j hj => ?_
      simp only [more, icell]
      by_cases e : j < np + k
      · rw [if_pos e, if_pos e]
      · rw [if_neg e, if_neg e]
    · intro j j1 j2
      rw [upd_other _ _ j2, upd_other _ _ j1]; exact h.same j j1 j2
    · refine ⟨⟨by omega, fun b hb hl => ?_⟩, fun b hl hb => hgrow b (by omega) (h.went.g b hl hb)⟩
      rw [kb b (by omega) (fun e => by have := (h.own.lt b e).1; omega), kk b (h.went.g b hl hb) (by omega)]
      exact h.went.k.block b hb hl
    · exact (((h.bl.trans b1).trans b2).trans (bA.mono (by omega))).grown g3 (by simp; omega) (fun g hg => by have := (h.own.lt g hg).1; omega)
    · intro i hi
      refine ⟨?_, ?_⟩
      · rw [more_old' _ _ _ (by omega)]; exact (h.old i hi).1
      · show (if i < np + k then msk i else m) = _
        rw [if_pos (by omega)]; exact (h.old i hi).2
    · exact o3.congr fun j hj => by simp only [more]; split <;> rfl
    · rcases l3 with e | e
      · rw [e]; exact h.lp
      · rw [e]; intro e'; injection e' with e'; have := h.pr.lt; simp at e'; omega
    · exact hP2.block (kb P hP2.lt h.lp)
    · intro i hi1 hi2
      by_cases e : i < np + k
      · obtain ⟨hm, a, ni, cap, hv, hni, hh⟩ := h.new i hi1 e
        refine ⟨by show (if i < np + k then msk i else m) = m; rw [if_pos e]; exact hm, a, ni, cap, by rw [more_old' _ _ _ e]; exact hv, by omega, fun h0 => ?_⟩
        obtain ⟨b, rfl, hbo, hbl, hcell⟩ := hh h0
        refine ⟨b, rfl, hgrow b hbl hbo, by omega, fun j hj => ?_⟩
        have e2 : u2.cell? ⟨b, j, none⟩ = some (.int .i64 m) := by rw [World.cell?_of_block (kk b hbo hbl)]; exact hcell j hj
        have e4 : (u2.alloc (.cells #[.int .i64 m, .int .i64 m] 81)).cell? ⟨b, j, none⟩ = some (.int .i64 m) := by rw [bA.cell (p := ⟨b, j, none⟩) (by show b < _; omega)]; exact e2
        by_cases eb : lk.ownBlock = some b
        · rw [e3 b eb j (by omega)]; exact e4
        · rw [World.cell?_of_block (kb b (by omega) eb)]; exact e2
      · have hi : i = np + k := by omega
        subst hi
        refine ⟨by show (if np + k < np + k then msk _ else m) = m; rw [if_neg (by omega)], aL, n + k, pL, by rw [more_at]; exact hlk, by omega, fun h0 => ?_⟩
        obtain ⟨g, cap, hv, hob, hg1, hg2, hcell⟩ := h.own.at h0
        have hag : aL = some ⟨g, 0, none⟩ := by rw [hlk] at hv; injection hv
        refine ⟨g, hag, hgrow g hg2 (hlo g hob), by omega, fun j hj => ?_⟩
        have e2 : u2.cell? ⟨g, j, none⟩ = some (.int .i64 m) := by rw [World.cell?_of_block (kk g (hlo g hob) hg2)]; exact hcell j hj
        rw [e3 g hob j hj, bA.cell (p := ⟨g, j, none⟩) (by show g < _; omega)]
        exact e2
end Go.Proofs.YtldeiiffabfmeaaGreatDoor
/- The caller writes over a list that came out, and keeps it. -/
namespace Go.Proofs.YtldeiiffabfmeaaGreatDoor
open Go.RowKit

/-- A list of pairs as it is being written over: the first i are. -/
def markC (m : Int) (i : Nat) (c : Nat → Value) (j : Nat) : Value := if j < i * 2 then .int .i64 m else c j
theorem markC_step (m : Int) (i : Nat) (c : Nat → Value) (j : Nat) : (fun j => if j = i * 2 + 1 then .int .i64 m else (fun j => if j = i * 2 then .int .i64 m else markC m i c j) j) j = markC m (i + 1) c j := by
  simp only [markC]
  by_cases e1 : j = i * 2 + 1
  · rw [if_pos e1, if_pos (by omega)]
  · rw [if_neg e1]
    by_cases e0 : j = i * 2
    · rw [if_pos e0, if_pos (by omega)]
    · rw [if_neg e0]
      by_cases e : j < i * 2
      · rw [if_pos e, if_pos (by omega)]
      · rw [if_neg e, if_neg (by omega)]

set_option maxRecDepth 20000 in
set_option maxHeartbeats 4000000 in
theorem keep_any (wa w : World) (base W np q n : Nat) (cW vsP vs : Nat → Value) (ms : Nat → Int) (l : Value) (hr : Rec wa base W np q cW vsP ms) (hb : Below wa.heap.size wa w) (hl : OwnL w wa.heap.size 81 2 l n vs) (hn : n ≤ 100) (hnp : np ≤ 1000000) (hq : q ≤ 1000000) :
    Calls Tryz.prog 95 #[.pointer (some ⟨W, 0, none⟩), l] w fun r w' => r = .returned (.tuple #[]) ∧ ∃ cW' vsP' ms', Rec w' base W (np + 4) (q + 1) cW' vsP' ms' ∧ Went W cW cW' wa w' ∧ Below base wa w' := by
  have hW := hr.x.lt
  have x0 := hr.x.below hb
  have c8 : w.cell? ⟨W, 8, none⟩ = some (.int .i64 (-(q : Int))) := by rw [x0.cell (by omega), hr.last]
  have f8 := x0.frozen
  have hzw := x0.lt
  obtain ⟨aL, pL, rfl⟩ := hl.slice
  have xz : RowIs ((w.setCell ⟨W, 8, none⟩ (.int .i64 (-(q : Int) - 1))).alloc (.cells #[.int .i64 (-(q : Int) - 1 - 1000), .int .i64 (-(q : Int) - 1 - 1000)] 81)) W 37 9 (upd cW 8 (.int .i64 (-(q : Int) - 1))) := ((x0.setCell 8 _).congr fun j _ => rfl).alloc _
  have pz : RowIs ((w.setCell ⟨W, 8, none⟩ (.int .i64 (-(q : Int) - 1))).alloc (.cells #[.int .i64 (-(q : Int) - 1 - 1000), .int .i64 (-(q : Int) - 1 - 1000)] 81)) w.heap.size 81 2 (fun _ => .int .i64 (-(q : Int) - 1 - 1000)) := by
    have h := rowIs_list (w.setCell ⟨W, 8, none⟩ (.int .i64 (-(q : Int) - 1))) [.int .i64 (-(q : Int) - 1 - 1000), .int .i64 (-(q : Int) - 1 - 1000)] 81
    have e : (w.setCell ⟨W, 8, none⟩ (.int .i64 (-(q : Int) - 1))).heap.size = w.heap.size := by simp
    rw [e] at h
    exact h.congr fun j hj => by
      have : j = 0 ∨ j = 1 := by simp at hj; omega
      rcases this with rfl | rfl <;> rfl
  have hlW : (Value.slice aL n pL).ownBlock ≠ some W := hl.apart x0 (by decide)
  have lz : OwnL ((w.setCell ⟨W, 8, none⟩ (.int .i64 (-(q : Int) - 1))).alloc (.cells #[.int .i64 (-(q : Int) - 1 - 1000), .int .i64 (-(q : Int) - 1 - 1000)] 81)) wa.heap.size 81 2 (.slice aL n pL) n vs := hl.keep fun g hg => by
    rw [Below.heap_alloc _ _ _ (by have := (hl.lt g hg).2; simp; omega)]
    exact Below.heap_setCell _ _ _ _ (by intro e; exact hlW (by rw [hg]; simp at e; rw [e]))
  have kz : Keeps (fun b => b ≠ W) w ((w.setCell ⟨W, 8, none⟩ (.int .i64 (-(q : Int) - 1))).alloc (.cells #[.int .i64 (-(q : Int) - 1 - 1000), .int .i64 (-(q : Int) - 1 - 1000)] 81)) := ((Keeps.refl _ _).setCell (by simp) _).alloc _
  have bz : Below base w ((w.setCell ⟨W, 8, none⟩ (.int .i64 (-(q : Int) - 1))).alloc (.cells #[.int .i64 (-(q : Int) - 1 - 1000), .int .i64 (-(q : Int) - 1 - 1000)] 81)) := ((Below.refl _ _).setCell hr.lt _).alloc (by have := hr.lt; simp; omega) _
  have hlP : (Value.slice aL n pL).ownBlock ≠ some w.heap.size := fun e => by have := (hl.lt _ e).2; omega
  have hPH := hb.size
  go_enter Tryz.func95, Tryz.ntmps95
  go_wp2_with fail
  generalize (w.setCell ⟨W, 8, none⟩ (.int .i64 (-(q : Int) - 1))).alloc (.cells #[.int .i64 (-(q : Int) - 1 - 1000), .int .i64 (-(q : Int) - 1 - 1000)] 81) = wz at *
  generalize hP : w.heap.size = P at *
  generalize hm : -(q : Int) - 1 - 1000 = m at *
  go_loopw [6] (fun i wq => ∃ k : Nat, k ≤ n ∧ i = .int .i64 k ∧ OwnL wq wa.heap.size 81 2 (.slice aL n pL) n (markC m k vs) ∧ Keeps (fun b => (Value.slice aL n pL).ownBlock ≠ some b) wz wq ∧ Below wa.heap.size wz wq) (fun i _ => n - (intOf i).toNat)
  case atStart => exact ⟨0, Nat.zero_le _, rfl, lz.congr (fun j _ => (if_neg (by omega)).symm), Keeps.refl _ _, Below.refl _ _⟩
  case round =>
    obtain ⟨k, hk, rfl, ok, kk, bk⟩ := hrel
    by_cases hkn : k < n
    · obtain ⟨g, cap, c, hv, hg, hle, hcm, hrow, hc⟩ := ok.row (by omega)
      injection hv with e1 e2 e3
      subst e1 e3
      have hfz := hrow.frozen
      have e0 : wr.cell? ⟨g, k * 2, none⟩ = some (c (k * 2)) := hrow.cell (by omega)
      have e1 : wr.cell? ⟨g, k * 2 + 1, none⟩ = some (c (k * 2 + 1)) := hrow.cell (by omega)
      have pq : RowIs wr P 81 2 (fun _ => .int .i64 m) := pz.block (kk.block P hlP pz.lt)
      have d0 : wr.cell? ⟨P, 0, none⟩ = some (.int .i64 m) := pq.cell (by omega)
      have d1 : wr.cell? ⟨P, 1, none⟩ = some (.int .i64 m) := pq.cell (by omega)
      have rw' : RowIs ((wr.setCell ⟨g, k * 2, none⟩ (.int .i64 m)).setCell ⟨g, k * 2 + 1, none⟩ (.int .i64 m)) g 81 (pL * 2) (markC m (k + 1) c) := (((hrow.setCell (k * 2) (.int .i64 m)).setCell (k * 2 + 1) (.int .i64 m))).congr fun j hj => by
        rw [← markC_step]
        have : markC m k c j = c j := by
          simp only [markC]
          split
          · rename_i h; rw [hc j (by omega), markC, if_pos h]
          · rfl
        simp only [this]
      have ow' : OwnL ((wr.setCell ⟨g, k * 2, none⟩ (.int .i64 m)).setCell ⟨g, k * 2 + 1, none⟩ (.int .i64 m)) wa.heap.size 81 2 (.slice (some ⟨g, 0, none⟩) n pL) n (markC m (k + 1) vs) := (rw'.own hle hcm hg).congr fun j hj => by
        simp only [markC]
        split
        · rfl
        · rename_i h; rw [hc j hj, markC, if_neg (by omega)]
      have kw' : Keeps (fun b => (Value.slice (some ⟨g, 0, none⟩) n pL).ownBlock ≠ some b) wz ((wr.setCell ⟨g, k * 2, none⟩ (.int .i64 m)).setCell ⟨g, k * 2 + 1, none⟩ (.int .i64 m)) := (kk.setCell (by simp [Value.ownBlock]) _).setCell (by simp [Value.ownBlock]) _
      have bw' : Below wa.heap.size wz ((wr.setCell ⟨g, k * 2, none⟩ (.int .i64 m)).setCell ⟨g, k * 2 + 1, none⟩ (.int .i64 m)) := (bk.setCell hg _).setCell hg _
      clear hrow hc ok kk bk pq rw' pz lz kz bz xz hr hb x0 hm hl hlW hlP c8 f8
      go_wp2_with fail
      go_roundw
      case rel => exact ⟨k + 1, by omega, by go_num, ow', kw', bw'⟩
      case measure => simp [intOf]; omega
    · have hkn' : k = n := by omega
      have ow : OwnL wr wa.heap.size 81 2 (.slice aL n pL) n (fun _ => .int .i64 m) := ok.congr fun j hj => if_pos (by omega)
      have hWp : P ≠ W := by omega
      have hr1 : ∀ g, (cW 1).ownBlock = some g → g < wa.heap.size := fun g hg => (hr.p.lt g hg).2
      have hr2 : ∀ g, (cW 2).ownBlock = some g → g < wa.heap.size := fun g hg => (hr.m.lt g hg).2
      have hbk : ∀ b, b < wa.heap.size → b ≠ W → wr.heap[b]? = wa.heap[b]? := fun b hlt hne => by
        rw [kk.block b (fun e => by have := (ok.lt b e).1; omega) (by have := kz.size; omega), kz.block b hne (by omega), hb.block b hlt]
      have hz1 := kz.size
      have hz2 := kk.size
      have st : KI wa base W np n P m (upd cW 8 (.int .i64 (-(q : Int) - 1))) vsP ms 0 (.slice aL n pL) (upd cW 8 (.int .i64 (-(q : Int) - 1))) vsP ms wr := by
        refine ⟨xz.block (kk.block W hlW xz.lt), ?_, ?_, fun j _ _ => rfl, ⟨⟨by omega, fun b ho hlt => hbk b hlt ho.1⟩, fun b _ h => h⟩, ((hb.mono (by have := hr.lt; omega)).trans bz).trans (bk.mono (by have := hr.lt; omega)), fun i _ => ⟨rfl, rfl⟩, ow, hlP, pz.block (kk.block P hlP pz.lt), fun i h1 h2 => by omega⟩
        · exact hr.p.keep fun g hg => hbk g (hr1 g hg) (fun e => hr.p.apart hr.x (by decide) (by rw [hg, e]))
        · exact hr.m.keep fun g hg => hbk g (hr2 g hg) (fun e => hr.m.apart hr.x (by decide) (by rw [hg, e]))
      have fin : ∀ lk ck vsk msk w', KI wa base W np n P m (upd cW 8 (.int .i64 (-(q : Int) - 1))) vsP ms 4 lk ck vsk msk w' → ∃ cW' vsP' ms', Rec w' base W (np + 4) (q + 1) cW' vsP' ms' ∧ Went W cW cW' wa w' ∧ Below base wa w' := fun lk ck vsk msk w' h => by
        have wt : Went W cW ck wa w' := ⟨h.went.k, h.went.g⟩
        refine ⟨ck, vsk, msk, ⟨h.x, hr.lt, h.p, h.mm, fun i hi => ?_, ?_, ?_, ?_, ?_, ?_, ?_⟩, wt, h.bl⟩
        · by_cases e : i < np
          · obtain ⟨e1, e2⟩ := h.old i e
            rw [e1, e2]
            exact (hr.rp i e).imp fun _ r => r.went wt
          · obtain ⟨hm', a, ni, cap, hv, hni, hh⟩ := h.new i (by omega) hi
            refine ⟨ni, a, cap, hv, by omega, fun h0 => ?_⟩
            obtain ⟨b, rfl, ho, hlt, hcell⟩ := hh h0
            exact ⟨b, 0, rfl, ho, hlt, fun j hj => by rw [Nat.zero_add, hcell j hj, hm']⟩
        · rw [h.same 3 (by decide) (by decide)]; exact hr.i.went wt
        · rw [h.same 4 (by decide) (by decide)]; exact hr.r.went wt
        · rw [h.same 5 (by decide) (by decide)]; exact hr.c.went wt
        · rw [h.same 6 (by decide) (by decide)]; exact hr.l.went wt
        · rw [h.same 7 (by decide) (by decide)]; exact hr.s.went wt
        · rw [h.same 8 (by decide) (by decide), upd_same]; congr 1; omega
      have hbW := hr.lt
      generalize upd cW 8 (.int .i64 (-(q : Int) - 1)) = c0 at *
      clear ok kk bk pz lz kz bz xz hr hb x0 hm hl hlW hlP c8 f8 ow hr1 hr2 hbk hkn' hz1 hz2 hP
      go_wp2_with fail
      go_loopw [1, 7] (fun lk i wq => ∃ (k : Nat) (ck vsk : Nat → Value) (msk : Nat → Int), k ≤ 4 ∧ i = .int .i64 k ∧ KI wa base W np n P m c0 vsP ms k lk ck vsk msk wq) (fun _ i _ => 4 - (intOf i).toNat)
      case atStart => exact ⟨0, c0, vsP, ms, by omega, rfl, st⟩
      case round =>
        clear st
        obtain ⟨k, ck, vsk, msk, hk4, rfl, hK⟩ := hrel
        by_cases hk3 : k < 4
        · obtain ⟨a1, p1, w1, a2, p2, w2, v3, w3, r1, q1, f1, r2, q2, f2, d2, d5, d6, r3, hnext⟩ := hK.step hbW hW hnp hn hk3
          have c1 : wr.cell? ⟨W, 1, none⟩ = some (ck 1) := hK.x.cell (by omega)
          obtain ⟨A1, P1, hc1⟩ := hK.p.slice
          obtain ⟨A2, P2, hc2⟩ := hK.mm.slice
          obtain ⟨A3, P3, rfl⟩ := hK.own.slice
          have h3 : ∃ a cap, v3 = .slice a (n + (k + 1)) cap := by obtain ⟨_, _, _, hx⟩ := hnext; exact hx.own.slice
          obtain ⟨A4, P4, rfl⟩ := h3
          rw [hc1] at r1 q1 c1
          rw [hc2] at r2 q2 d2
          have hn' : ∃ (k' : Nat) (ck vsk : Nat → Value) (msk : Nat → Int), k' ≤ 4 ∧ Value.int .i64 ((k : Int) + 1) = .int .i64 k' ∧ KI wa base W np n P m c0 vsP ms k' (.slice A4 (n + (k + 1)) P4) ck vsk msk w3 := by
            obtain ⟨ck', vsk', msk', hx⟩ := hnext
            exact ⟨k + 1, ck', vsk', msk', by omega, rfl, hx⟩
          clear hK hnext hc1 hc2 fin
          go_wp2_with (at_builtin; first | refine wpList_append_run rfl _ _ 31 rfl _ _ rfl rfl _ _ r1 ?_ | refine wpList_append_run rfl _ _ 22 rfl _ _ rfl rfl _ _ r2 ?_ | refine wpList_append_run rfl _ _ 26 rfl _ _ rfl rfl _ _ r3 ?_)
          go_roundw
          case rel => exact hn'
          case measure => simp [intOf]; omega
        · have : k = 4 := by omega
          subst this
          have fin' := fin _ _ _ _ _ hK
          clear fin hK
          go_wp2_with fail
          go_end0
          exact ⟨rfl, fin'⟩
end Go.Proofs.YtldeiiffabfmeaaGreatDoor
