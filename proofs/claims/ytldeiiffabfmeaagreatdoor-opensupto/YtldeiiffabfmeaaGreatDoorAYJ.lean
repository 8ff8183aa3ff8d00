/- What was lent, transaction by transaction. -/
import Derived.Test.YtldeiiffabfmeaaGreatDoorAW
import Derived.Test.YtldeiiffabfmeaaGreatDoorAOJ
set_option linter.unusedVariables false
set_option linter.unusedSimpArgs false
namespace Go.Proofs.YtldeiiffabfmeaaGreatDoor
open Go.RowKit

/-- A transaction as it was lent: four rows between lo and hi; u: the gift's lists, x: the lists that go in. -/
def GiftAt (w : World) (t : TxnD) (lo hi : Nat) (u0 u1 u2 u3 x0 x1 x2 x3 : Value) : Prop :=
  ∃ g2 g5 g10 g15 b0 b1 b2 b3 c0 c1 c2 c3, (u0 = .slice (some ⟨g2, 0, none⟩) (t.nr + 1) (t.nr + 1) ∧ u1 = .slice (some ⟨g5, 0, none⟩) (t.nw + 1) (t.nw + 1) ∧ u2 = .slice (some ⟨g10, 0, none⟩) (t.ng + 1) (t.ng + 1) ∧ u3 = .slice (some ⟨g15, 0, none⟩) (t.nc + 1) (t.nc + 1)) ∧
    (x0 = .slice b0 t.nr c0 ∧ x1 = .slice b1 t.nw c1 ∧ x2 = .slice b2 t.ng c2 ∧ x3 = .slice b3 t.nc c3) ∧
    ((lo ≤ g2 ∧ g2 < hi) ∧ (lo ≤ g5 ∧ g5 < hi) ∧ (lo ≤ g10 ∧ g10 < hi) ∧ (lo ≤ g15 ∧ g15 < hi)) ∧ g2 ≠ g5 ∧
    (RowIs w g2 3 (t.nr + 1) (icell (cut t.nr t.r)) ∧ RowIs w g5 3 (t.nw + 1) (icell (cut t.nw t.wr)) ∧ RowIs w g10 159 ((t.ng + 1) * 2) (icell (cut (t.ng * 2) t.g)) ∧ RowIs w g15 161 ((t.nc + 1) * 4) (icell (cut (t.nc * 4) t.c))) ∧
    ((b0 = some ⟨g2, 0, none⟩ ∨ t.nr = 0) ∧ (b1 = some ⟨g5, 0, none⟩ ∨ t.nw = 0) ∧ (b2 = some ⟨g10, 0, none⟩ ∨ t.ng = 0) ∧ (b3 = some ⟨g15, 0, none⟩ ∨ t.nc = 0))
theorem GiftAt.keep {w w' : World} {t : TxnD} {lo hi : Nat} {u0 u1 u2 u3 x0 x1 x2 x3 : Value} {S : Nat → Prop} (h : GiftAt w t lo hi u0 u1 u2 u3 x0 x1 x2 x3) (hk : Keeps S w w') (hS : ∀ g T m c, lo ≤ g → g < hi → RowIs w g T m c → T = 3 ∨ T = 159 ∨ T = 161 → S g) : GiftAt w' t lo hi u0 u1 u2 u3 x0 x1 x2 x3 := by
  obtain ⟨g2, g5, g10, g15, b0, b1, b2, b3, c0, c1, c2, c3, hu, hx, hl, hne, ⟨r2, r5, r10, r15⟩, he⟩ := h
  exact ⟨g2, g5, g10, g15, b0, b1, b2, b3, c0, c1, c2, c3, hu, hx, hl, hne, ⟨r2.block (hk.block _ (hS _ _ _ _ hl.1.1 hl.1.2 r2 (.inl rfl)) r2.lt), r5.block (hk.block _ (hS _ _ _ _ hl.2.1.1 hl.2.1.2 r5 (.inl rfl)) r5.lt), r10.block (hk.block _ (hS _ _ _ _ hl.2.2.1.1 hl.2.2.1.2 r10 (.inr (.inl rfl))) r10.lt), r15.block (hk.block _ (hS _ _ _ _ hl.2.2.2.1 hl.2.2.2.2 r15 (.inr (.inr rfl))) r15.lt)⟩, he⟩
theorem GiftAt.below {w w' : World} {t : TxnD} {lo hi : Nat} {u0 u1 u2 u3 x0 x1 x2 x3 : Value} (h : GiftAt w t lo hi u0 u1 u2 u3 x0 x1 x2 x3) (hb : Below w.heap.size w w') : GiftAt w' t lo hi u0 u1 u2 u3 x0 x1 x2 x3 :=
  h.keep (S := fun _ => True) (Keeps.of_below hb) (fun _ _ _ _ _ _ _ _ => trivial)
theorem LentIs.gift {w w' : World} {t : TxnD} {g2 g5 g10 g15 : Nat} {b0 b1 b2 b3 : Option Addr} (h : LentIs w w' t g2 g5 g10 g15 b0 b1 b2 b3) (c0 c1 c2 c3 : Nat) : GiftAt w' t w.heap.size w'.heap.size (.slice (some ⟨g2, 0, none⟩) (t.nr + 1) (t.nr + 1)) (.slice (some ⟨g5, 0, none⟩) (t.nw + 1) (t.nw + 1)) (.slice (some ⟨g10, 0, none⟩) (t.ng + 1) (t.ng + 1)) (.slice (some ⟨g15, 0, none⟩) (t.nc + 1) (t.nc + 1)) (.slice b0 t.nr c0) (.slice b1 t.nw c1) (.slice b2 t.ng c2) (.slice b3 t.nc c3) :=
  ⟨g2, g5, g10, g15, b0, b1, b2, b3, c0, c1, c2, c3, ⟨rfl, rfl, rfl, rfl⟩, ⟨rfl, rfl, rfl, rfl⟩, ⟨⟨h.n2, h.r2.lt⟩, ⟨h.n5, h.r5.lt⟩, ⟨h.n10, h.r10.lt⟩, ⟨h.n15, h.r15.lt⟩⟩, h.ne, ⟨h.r2, h.r5, h.r10, h.r15⟩, ⟨h.e0, h.e1, h.e2, h.e3⟩⟩

theorem rd_lent {w : World} {b : Option Addr} {g T m n k c : Nat} {f : Nat → Int} (hr : RowIs w g T m (icell (cut (n * k) f))) (hm : n * k ≤ m) (hn : n ≤ 1048577) (he : b = some ⟨g, 0, none⟩ ∨ n = 0) : RdI w (.slice b n c) k n f := by
  rcases he with rfl | rfl
  · exact hr.rd c hn hm fun j hj => by rw [icell, cut, if_pos hj]
  · exact ⟨_, _, rfl, by omega, fun h => by omega⟩
/-- What goes in reads as the transaction. -/
theorem GiftAt.rd {w : World} {t : TxnD} {lo hi : Nat} {u0 u1 u2 u3 x0 x1 x2 x3 : Value} (h : GiftAt w t lo hi u0 u1 u2 u3 x0 x1 x2 x3) (sm : Small t) : RdT w x0 x1 x2 x3 t := by
  obtain ⟨g2, g5, g10, g15, b0, b1, b2, b3, c0, c1, c2, c3, -, ⟨rfl, rfl, rfl, rfl⟩, -, -, ⟨r2, r5, r10, r15⟩, ⟨e0, e1, e2, e3⟩⟩ := h
  have := sm.r; have := sm.wr; have := sm.g; have := sm.c
  exact ⟨rd_lent (r2.congr fun j _ => by rw [Nat.mul_one]) (by omega) (by omega) e0, rd_lent (r5.congr fun j _ => by rw [Nat.mul_one]) (by omega) (by omega) e1, rd_lent r10 (by omega) (by omega) e2, rd_lent r15 (by omega) (by omega) e3⟩

/-- The log's cells when the first i transactions are there. -/
def logC (i : Nat) (vx : Nat → Value) (j : Nat) : Value := if j < i * 4 then vx j else .slice none 0 0

/-- The first i transactions are lent: gl: the gifts, LG: the log that goes in. -/
structure LentI (w0 wq : World) (LG nl i : Nat) (ts : Nat → TxnD) (gl : Value) (vu vx : Nat → Value) (lo hi : Nat → Nat) : Prop where
  g : OwnL wq w0.heap.size 89 4 gl i vu
  l : RowIs wq LG 91 ((nl + 1) * 4) (logC i vx)
  at_ : ∀ k, k < i → GiftAt wq (ts k) (lo k) (hi k) (vu (k * 4)) (vu (k * 4 + 1)) (vu (k * 4 + 2)) (vu (k * 4 + 3)) (vx (k * 4)) (vx (k * 4 + 1)) (vx (k * 4 + 2)) (vx (k * 4 + 3))
  up : ∀ k, k < i → w0.heap.size ≤ lo k ∧ lo k ≤ hi k ∧ hi k ≤ wq.heap.size
  ord : ∀ k k', k < k' → k' < i → hi k ≤ lo k'
  go : ∀ k, k < i → ∀ g, gl.ownBlock = some g → ¬ (lo k ≤ g ∧ g < hi k)
theorem LentI.below {w0 wq w' : World} {LG nl i : Nat} {ts : Nat → TxnD} {gl : Value} {vu vx : Nat → Value} {lo hi : Nat → Nat} (h : LentI w0 wq LG nl i ts gl vu vx lo hi) (hb : Below wq.heap.size wq w') : LentI w0 w' LG nl i ts gl vu vx lo hi :=
  ⟨h.g.below hb, h.l.below hb, fun k hk => (h.at_ k hk).below hb, fun k hk => by have := h.up k hk; have := hb.size; omega, h.ord, h.go⟩
/-- The log that goes in reads as the log. -/
theorem LentI.rd {w0 wq : World} {LG nl : Nat} {ts : Nat → TxnD} {gl : Value} {vu vx : Nat → Value} {lo hi : Nat → Nat} (h : LentI w0 wq LG nl nl ts gl vu vx lo hi) (hn : nl ≤ 1048577) (sm : ∀ i, i < nl → Small (ts i)) {b : Option Addr} {c : Nat} (he : b = some ⟨LG, 0, none⟩ ∨ nl = 0) : RdL wq (.slice b nl c) nl ts := by
  refine ⟨b, c, rfl, hn, fun h0 => ?_⟩
  rcases he with rfl | he
  · refine ⟨LG, 0, rfl, h.l.lt, vx, fun j hj => ?_, fun i hi => (h.at_ i hi).rd (sm i hi)⟩
    rw [Nat.zero_add, h.l.cell (by omega), logC, if_pos (by omega)]
  · omega
end Go.Proofs.YtldeiiffabfmeaaGreatDoor
/- One transaction more is lent. -/
namespace Go.Proofs.YtldeiiffabfmeaaGreatDoor
open Go.RowKit

theorem elem47 : (Tryz.prog.info? 89).map (fun i => (i.zero, i.size, i.bytes)) = some (some (.agg #[.slice none 0 0, .slice none 0 0, .slice none 0 0, .slice none 0 0]), 4, 96) := by kernel_rfl

theorem logC_step (i : Nat) (vx : Nat → Value) (x0 x1 x2 x3 : Value) (j : Nat) :
    (fun j => if j = i * 4 + 3 then x3 else (fun j => if j = i * 4 + 2 then x2 else (fun j => if j = i * 4 + 1 then x1 else (fun j => if j = i * 4 then x0 else logC i vx j) j) j) j) j = logC (i + 1) (more (i * 4) vx (lc [x0, x1, x2, x3])) j := by
  simp only [logC, more]
  by_cases e3 : j = i * 4 + 3
  · rw [if_pos e3, if_pos (by omega), if_neg (by omega), e3, show i * 4 + 3 - i * 4 = 3 from by omega]; rfl
  · rw [if_neg e3]
    by_cases e2 : j = i * 4 + 2
    · rw [if_pos e2, if_pos (by omega), if_neg (by omega), e2, show i * 4 + 2 - i * 4 = 2 from by omega]; rfl
    · rw [if_neg e2]
      by_cases e1 : j = i * 4 + 1
      · rw [if_pos e1, if_pos (by omega), if_neg (by omega), e1, show i * 4 + 1 - i * 4 = 1 from by omega]; rfl
      · rw [if_neg e1]
        by_cases e0 : j = i * 4
        · rw [if_pos e0, if_pos (by omega), if_neg (by omega), e0, show i * 4 - i * 4 = 0 from by omega]; rfl
        · rw [if_neg e0]
          by_cases e : j < i * 4
          · rw [if_pos e, if_pos (by omega), if_pos e]
          · rw [if_neg e, if_neg (by omega)]

theorem LentI.step {w0 wr w2 : World} {LG nl i : Nat} {ts : Nat → TxnD} {gl : Value} {vu vx : Nat → Value} {lo hi : Nat → Nat} (h : LentI w0 wr LG nl i ts gl vu vx lo hi) (hin : i < nl) (hn : nl ≤ 1048577) {B : Nat} (h0 : B ≤ LG) (hB0 : B ≤ w0.heap.size) (hw0 : w0.heap.size ≤ wr.heap.size) (hb : Below wr.heap.size wr w2) {hh : Nat} {u0 u1 u2 u3 x0 x1 x2 x3 : Value} (hg : GiftAt w2 (ts i) wr.heap.size hh u0 u1 u2 u3 x0 x1 x2 x3) (hhh : wr.heap.size ≤ hh ∧ hh ≤ w2.heap.size) (o0 : u0.oneCell' = true) (o1 : u1.oneCell' = true) (o2 : u2.oneCell' = true) (o3 : u3.oneCell' = true) :
    ∃ gl' w3 A C, gl' = .slice A (i + 1) C ∧ (∀ ty, (Builtin.append_ #[85, 85] ty #[gl, .slice (some ⟨w2.heap.size, 0, none⟩) 1 1]).run Tryz.prog (w2.alloc (.cells #[u0, u1, u2, u3] 89)) = .ok gl' w3) ∧
      Keeps (fun b => gl.ownBlock ≠ some b) w2 w3 ∧ RowIs w3 LG 91 ((nl + 1) * 4) (logC i vx) ∧
      (∃ vu' vx' lo' hi', LentI w0 ((((w3.setCell ⟨LG, i * 4, none⟩ x0).setCell ⟨LG, i * 4 + 1, none⟩ x1).setCell ⟨LG, i * 4 + 2, none⟩ x2).setCell ⟨LG, i * 4 + 3, none⟩ x3) LG nl (i + 1) ts gl' vu' vx' lo' hi') ∧
      Keeps (fun b => gl.ownBlock ≠ some b ∧ b ≠ LG) w2 ((((w3.setCell ⟨LG, i * 4, none⟩ x0).setCell ⟨LG, i * 4 + 1, none⟩ x1).setCell ⟨LG, i * 4 + 2, none⟩ x2).setCell ⟨LG, i * 4 + 3, none⟩ x3) ∧
      Below B w2 ((((w3.setCell ⟨LG, i * 4, none⟩ x0).setCell ⟨LG, i * 4 + 1, none⟩ x1).setCell ⟨LG, i * 4 + 2, none⟩ x2).setCell ⟨LG, i * 4 + 3, none⟩ x3) := by
  have hs := hb.size
  have og := h.g.below hb
  have ol := h.l.below hb
  have bA : Below w2.heap.size w2 (w2.alloc (.cells #[u0, u1, u2, u3] 89)) := (Below.refl _ _).alloc (Nat.le_refl _) _
  have rN : RowIs (w2.alloc (.cells #[u0, u1, u2, u3] 89)) w2.heap.size 89 4 (lc [u0, u1, u2, u3]) := rowIs_list w2 [u0, u1, u2, u3] 89
  obtain ⟨gl', w3, hrun, hown, hgrow, hloc⟩ := own_append (P := Tryz.prog) (w := w2.alloc (.cells #[u0, u1, u2, u3] 89)) 85 89 _ 4 96 Tryz.underlying85 elem47 rfl (by omega) (by omega) w0.heap.size i gl vu (og.below bA) (by omega) (by simp; omega) w2.heap.size 1 (lc [u0, u1, u2, u3]) (fun j hj => rN.cell hj) (fun j hj => by
    have : j = 0 ∨ j = 1 ∨ j = 2 ∨ j = 3 := by omega
    rcases this with rfl | rfl | rfl | rfl
    · exact o0
    · exact o1
    · exact o2
    · exact o3)
  obtain ⟨A, C, hv⟩ := hown.slice
  have z3 := hgrow.size
  have z3' : w2.heap.size < w3.heap.size := by simp at z3; omega
  have K3 : Keeps (fun b => gl.ownBlock ≠ some b) w2 w3 := (Keeps.of_below bA).grown hgrow (fun g hg h => h hg)
  have l3 : RowIs w3 LG 91 ((nl + 1) * 4) (logC i vx) := ol.block (K3.block LG (og.apart ol (by decide)) ol.lt)
  have B3 : Below B w2 w3 := (bA.mono (by omega)).grown hgrow (by simp; omega) (fun g hg => Nat.le_trans hB0 (og.lt g hg).1)
  have ne' : gl'.ownBlock ≠ some LG := hown.apart l3 (by decide)
  have KF : Keeps (fun b => gl.ownBlock ≠ some b ∧ b ≠ LG) w2 ((((w3.setCell ⟨LG, i * 4, none⟩ x0).setCell ⟨LG, i * 4 + 1, none⟩ x1).setCell ⟨LG, i * 4 + 2, none⟩ x2).setCell ⟨LG, i * 4 + 3, none⟩ x3) :=
    (((((K3.mono fun b h => h.1)).setCell (by simp) _).setCell (by simp) _).setCell (by simp) _).setCell (by simp) _
  have hlo : ∀ g, gl'.ownBlock = some g → ((((w3.setCell ⟨LG, i * 4, none⟩ x0).setCell ⟨LG, i * 4 + 1, none⟩ x1).setCell ⟨LG, i * 4 + 2, none⟩ x2).setCell ⟨LG, i * 4 + 3, none⟩ x3).heap[g]? = w3.heap[g]? := fun g hgb => by
    have hne : g ≠ LG := fun e => ne' (by rw [hgb, e])
    rw [Below.heap_setCell _ _ _ _ hne, Below.heap_setCell _ _ _ _ hne, Below.heap_setCell _ _ _ _ hne, Below.heap_setCell _ _ _ _ hne]
  refine ⟨gl', w3, A, C, hv, hrun, K3, l3, ⟨more (i * 4) vu (lc [u0, u1, u2, u3]), more (i * 4) vx (lc [x0, x1, x2, x3]), fun k => if k = i then wr.heap.size else lo k, fun k => if k = i then hh else hi k, ?_, ?_, ?_, ?_, ?_, ?_⟩, KF, (((B3.setCell h0 _).setCell h0 _).setCell h0 _).setCell h0 _⟩
  · exact hown.keep hlo
  · exact ((((l3.setCell (i * 4) x0).setCell (i * 4 + 1) x1).setCell (i * 4 + 2) x2).setCell (i * 4 + 3) x3).congr fun j _ => logC_step i vx x0 x1 x2 x3 j
  · intro k hk
    have hrow : ∀ g T m c, RowIs w2 g T m c → T = 3 ∨ T = 159 ∨ T = 161 → gl.ownBlock ≠ some g ∧ g ≠ LG := fun g T m c hr hT => ⟨og.apart hr (by rcases hT with rfl | rfl | rfl <;> decide), hr.apart ol (by rcases hT with rfl | rfl | rfl <;> decide)⟩
    by_cases e : k = i
    · subst e
      simp only [if_true]
      have m0 : ∀ (vs : Nat → Value) (a b c d : Value), more (k * 4) vs (lc [a, b, c, d]) (k * 4) = a ∧ more (k * 4) vs (lc [a, b, c, d]) (k * 4 + 1) = b ∧ more (k * 4) vs (lc [a, b, c, d]) (k * 4 + 2) = c ∧ more (k * 4) vs (lc [a, b, c, d]) (k * 4 + 3) = d := fun vs a b c d => by
        simp only [more]
        refine ⟨?_, ?_, ?_, ?_⟩
        · rw [if_neg (by omega), Nat.sub_self]; rfl
        · rw [if_neg (by omega), show k * 4 + 1 - k * 4 = 1 from by omega]; rfl
        · rw [if_neg (by omega), show k * 4 + 2 - k * 4 = 2 from by omega]; rfl
        · rw [if_neg (by omega), show k * 4 + 3 - k * 4 = 3 from by omega]; rfl
      rw [(m0 vu u0 u1 u2 u3).1, (m0 vu u0 u1 u2 u3).2.1, (m0 vu u0 u1 u2 u3).2.2.1, (m0 vu u0 u1 u2 u3).2.2.2, (m0 vx x0 x1 x2 x3).1, (m0 vx x0 x1 x2 x3).2.1, (m0 vx x0 x1 x2 x3).2.2.1, (m0 vx x0 x1 x2 x3).2.2.2]
      exact hg.keep KF fun g T m c _ _ hr hT => hrow g T m c hr hT
    · have hki : k < i := by omega
      rw [if_neg e, if_neg e, more_old' _ _ _ (by omega), more_old' _ _ _ (by omega), more_old' _ _ _ (by omega), more_old' _ _ _ (by omega), more_old' _ _ _ (by omega), more_old' _ _ _ (by omega), more_old' _ _ _ (by omega), more_old' _ _ _ (by omega)]
      exact ((h.at_ k hki).below hb).keep KF fun g T m c _ _ hr hT => hrow g T m c hr hT
  · intro k hk
    have hsF : w2.heap.size ≤ ((((w3.setCell ⟨LG, i * 4, none⟩ x0).setCell ⟨LG, i * 4 + 1, none⟩ x1).setCell ⟨LG, i * 4 + 2, none⟩ x2).setCell ⟨LG, i * 4 + 3, none⟩ x3).heap.size := KF.size
    by_cases e : k = i
    · subst e; simp only [if_true]; omega
    · rw [if_neg e, if_neg e]; have := h.up k (by omega); omega
  · intro k k' h1 h2
    have e1 : k ≠ i := by omega
    rw [if_neg e1]
    by_cases e : k' = i
    · subst e; rw [if_pos rfl]; exact (h.up k (by omega)).2.2
    · rw [if_neg e]; exact h.ord k k' h1 (by omega)
  · intro k hk g hgb hin
    have hloc' : gl.ownBlock = some g ∨ g = w2.heap.size + 1 := by
      rcases hloc with e | e
      · exact .inl (e ▸ hgb)
      · right; rw [e] at hgb; injection hgb with hgb; rw [← hgb]; simp
    by_cases e : k = i
    · subst e
      simp only [if_true] at hin
      rcases hloc' with e' | e'
      · have := (h.g.lt g e').2; omega
      · omega
    · rw [if_neg e, if_neg e] at hin
      rcases hloc' with e' | e'
      · exact h.go k (by omega) g e' hin
      · have := h.up k (by omega); omega
end Go.Proofs.YtldeiiffabfmeaaGreatDoor
