/- A transaction in lists of the caller's: what each operation of the great region leaves. -/
import Derived.Test.YtldeiiffabfmeaaGreatDoorRJ
import Derived.Test.YtldeiiffabfmeaaGreatDoorAVyJ
set_option linter.unusedVariables false
set_option linter.unusedSimpArgs false
namespace Go.Proofs.YtldeiiffabfmeaaGreatDoor
open Go.RowKit

/-- What slot k holds, once its operation is done. -/
def LentR (T H : Nat) (t : TxnD) (a0 a1 a2 a3 : Option Addr) (p0 p1 p2 p3 : Nat) (k : Nat) (s : Nat → Value) (wq : World) : Prop :=
  match k with
  | 0 => s 0 = .pointer (some ⟨T, 0, none⟩)
  | 1 => s 1 = .slice a0 t.nr p0
  | 2 => ∃ g, s 2 = .slice (some ⟨g, 0, none⟩) (t.nr + 1) (t.nr + 1) ∧ H ≤ g ∧ RowIs wq g 3 (t.nr + 1) (icell (cut t.nr t.r))
  | 3 => s 3 = .pointer (some ⟨T, 1, none⟩)
  | 4 => s 4 = .slice a1 t.nw p1
  | 5 => ∃ g g', s 2 = .slice (some ⟨g, 0, none⟩) (t.nr + 1) (t.nr + 1) ∧ g ≠ g' ∧ s 5 = .slice (some ⟨g', 0, none⟩) (t.nw + 1) (t.nw + 1) ∧ H ≤ g' ∧ RowIs wq g' 3 (t.nw + 1) (icell (cut t.nw t.wr))
  | 6 => s 6 = .pointer (some ⟨T, 2, none⟩)
  | 7 => s 7 = .slice a2 t.ng p2
  | 8 => s 8 = .int .i64 t.ng
  | 9 => s 9 = .int .i64 ((t.ng : Int) + 1)
  | 10 => ∃ g, s 10 = .slice (some ⟨g, 0, none⟩) (t.ng + 1) (t.ng + 1) ∧ H ≤ g ∧ RowIs wq g 159 ((t.ng + 1) * 2) (fun _ => .int .i64 0)
  | 11 => s 11 = .pointer (some ⟨T, 3, none⟩)
  | 12 => s 12 = .slice a3 t.nc p3
  | 13 => s 13 = .int .i64 t.nc
  | 14 => s 14 = .int .i64 ((t.nc : Int) + 1)
  | 15 => ∃ g, s 15 = .slice (some ⟨g, 0, none⟩) (t.nc + 1) (t.nc + 1) ∧ H ≤ g ∧ RowIs wq g 161 ((t.nc + 1) * 4) (fun _ => .int .i64 0)
  | 16 => s 16 = .agg #[s 2, s 5, s 10, s 15]
  | 17 => ∃ g c, s 17 = .pointer (some ⟨g, 0, none⟩) ∧ H ≤ g ∧ RowIs wq g 89 4 c
  | 18 => ∃ g x1 x2 x3 x4, s 17 = .pointer (some ⟨g, 0, none⟩) ∧ s 16 = .agg #[x1, x2, x3, x4] ∧ RowIs wq g 89 4 (lc [x1, x2, x3, x4])
  | _ => True
theorem LentR.below {T H : Nat} {t : TxnD} {a0 a1 a2 a3 : Option Addr} {p0 p1 p2 p3 : Nat} {w w' : World} (hb : Below w.heap.size w w') : ∀ (k : Nat) (s : Nat → Value), LentR T H t a0 a1 a2 a3 p0 p1 p2 p3 k s w → LentR T H t a0 a1 a2 a3 p0 p1 p2 p3 k s w'
  | 0, _, h => h
  | 1, _, h => h
  | 2, _, h => by obtain ⟨g, h1, h2, h3⟩ := h; exact ⟨g, h1, h2, h3.below hb⟩
  | 3, _, h => h
  | 4, _, h => h
  | 5, _, h => by obtain ⟨g, g', h1, h2, h3, h4, h5⟩ := h; exact ⟨g, g', h1, h2, h3, h4, h5.below hb⟩
  | 6, _, h => h
  | 7, _, h => h
  | 8, _, h => h
  | 9, _, h => h
  | 10, _, h => by obtain ⟨g, h1, h2, h3⟩ := h; exact ⟨g, h1, h2, h3.below hb⟩
  | 11, _, h => h
  | 12, _, h => h
  | 13, _, h => h
  | 14, _, h => h
  | 15, _, h => by obtain ⟨g, h1, h2, h3⟩ := h; exact ⟨g, h1, h2, h3.below hb⟩
  | 16, _, h => h
  | 17, _, h => by obtain ⟨g, c, h1, h2, h3⟩ := h; exact ⟨g, c, h1, h2, h3.below hb⟩
  | 18, _, h => by obtain ⟨g, x1, x2, x3, x4, h1, h2, h3⟩ := h; exact ⟨g, x1, x2, x3, x4, h1, h2, h3.below hb⟩
  | _ + 19, _, _ => trivial
theorem LentR.setCell {T H : Nat} {t : TxnD} {a0 a1 a2 a3 : Option Addr} {p0 p1 p2 p3 : Nat} {w : World} {G i : Nat} {c : Nat → Value} (hG : RowIs w G 89 4 c) (u : Value) : ∀ (k : Nat) (s : Nat → Value), k ≠ 18 → LentR T H t a0 a1 a2 a3 p0 p1 p2 p3 k s w → LentR T H t a0 a1 a2 a3 p0 p1 p2 p3 k s (w.setCell ⟨G, i, none⟩ u)
  | 0, _, _, h => h
  | 1, _, _, h => h
  | 2, _, _, h => by obtain ⟨g, h1, h2, h3⟩ := h; exact ⟨g, h1, h2, h3.setCell_other (h3.apart hG (by decide)) u⟩
  | 3, _, _, h => h
  | 4, _, _, h => h
  | 5, _, _, h => by obtain ⟨g, g', h1, h2, h3, h4, h5⟩ := h; exact ⟨g, g', h1, h2, h3, h4, h5.setCell_other (h5.apart hG (by decide)) u⟩
  | 6, _, _, h => h
  | 7, _, _, h => h
  | 8, _, _, h => h
  | 9, _, _, h => h
  | 10, _, _, h => by obtain ⟨g, h1, h2, h3⟩ := h; exact ⟨g, h1, h2, h3.setCell_other (h3.apart hG (by decide)) u⟩
  | 11, _, _, h => h
  | 12, _, _, h => h
  | 13, _, _, h => h
  | 14, _, _, h => h
  | 15, _, _, h => by obtain ⟨g, h1, h2, h3⟩ := h; exact ⟨g, h1, h2, h3.setCell_other (h3.apart hG (by decide)) u⟩
  | 16, _, _, h => h
  | 17, _, _, h => by
    obtain ⟨g, c', h1, h2, h3⟩ := h
    by_cases e : g = G
    · subst e; exact ⟨g, _, h1, h2, h3.setCell i u⟩
    · exact ⟨g, c', h1, h2, h3.setCell_other e u⟩
  | 18, _, hk, _ => absurd rfl hk
  | _ + 19, _, _, _ => trivial
theorem slot_put {a : Act} {d : Nat} (v : Value) (h : d < a.tmps.size) : (a.put (some d) v).tmps.getD d undef = v := by rw [getD_put, if_pos ⟨rfl, h⟩]
theorem slot_other {a : Act} {d t : Nat} (v : Value) (h : d ≠ t) : (a.put (some d) v).tmps.getD t undef = a.tmps.getD t undef := by
  rw [getD_put, if_neg]; rintro ⟨e, _⟩; exact h (Option.some.inj e)
end Go.Proofs.YtldeiiffabfmeaaGreatDoor
/- A transaction in lists of the caller's: what each operation of the second great region leaves. -/
namespace Go.Proofs.YtldeiiffabfmeaaGreatDoor
open Go.RowKit

/-- What slot k of the second great region holds, once its operation is done. -/
def XR (T G H g2 g5 g10 g15 : Nat) (t : TxnD) (a0 a1 a2 a3 : Option Addr) (p0 p1 p2 p3 : Nat) (k : Nat) (s : Nat → Value) (wq : World) : Prop :=
  match k with
  | 0 => s 0 = .pointer (some ⟨G, 0, none⟩)
  | 1 => s 1 = .slice (some ⟨g2, 0, none⟩) (t.nr + 1) (t.nr + 1)
  | 2 => s 2 = .pointer (some ⟨T, 0, none⟩)
  | 3 => s 3 = .slice a0 t.nr p0
  | 4 => s 4 = .int .i64 t.nr
  | 5 => s 5 = .slice (some ⟨g2, 0, none⟩) t.nr (t.nr + 1)
  | 6 => s 6 = .pointer (some ⟨G, 1, none⟩)
  | 7 => s 7 = .slice (some ⟨g5, 0, none⟩) (t.nw + 1) (t.nw + 1)
  | 8 => s 8 = .pointer (some ⟨T, 1, none⟩)
  | 9 => s 9 = .slice a1 t.nw p1
  | 10 => s 10 = .int .i64 t.nw
  | 11 => s 11 = .slice (some ⟨g5, 0, none⟩) t.nw (t.nw + 1)
  | 12 => s 12 = .pointer (some ⟨G, 2, none⟩)
  | 13 => s 13 = .slice (some ⟨g10, 0, none⟩) (t.ng + 1) (t.ng + 1)
  | 14 => s 14 = .pointer (some ⟨T, 2, none⟩)
  | 15 => s 15 = .slice a2 t.ng p2
  | 16 => s 16 = .int .i64 t.ng
  | 17 => s 17 = .slice (some ⟨g10, 0, none⟩) t.ng (t.ng + 1)
  | 18 => s 18 = .pointer (some ⟨G, 3, none⟩)
  | 19 => s 19 = .slice (some ⟨g15, 0, none⟩) (t.nc + 1) (t.nc + 1)
  | 20 => s 20 = .pointer (some ⟨T, 3, none⟩)
  | 21 => s 21 = .slice a3 t.nc p3
  | 22 => s 22 = .int .i64 t.nc
  | 23 => s 23 = .slice (some ⟨g15, 0, none⟩) t.nc (t.nc + 1)
  | 24 => s 24 = .agg #[.slice (some ⟨g2, 0, none⟩) t.nr (t.nr + 1), .slice (some ⟨g5, 0, none⟩) t.nw (t.nw + 1), .slice (some ⟨g10, 0, none⟩) t.ng (t.ng + 1), .slice (some ⟨g15, 0, none⟩) t.nc (t.nc + 1)]
  | 25 => ∃ g c, s 25 = .pointer (some ⟨g, 0, none⟩) ∧ H ≤ g ∧ RowIs wq g 91 4 c
  | 26 => ∃ g, s 25 = .pointer (some ⟨g, 0, none⟩) ∧ RowIs wq g 91 4 (lc [.slice (some ⟨g2, 0, none⟩) t.nr (t.nr + 1), .slice (some ⟨g5, 0, none⟩) t.nw (t.nw + 1), .slice (some ⟨g10, 0, none⟩) t.ng (t.ng + 1), .slice (some ⟨g15, 0, none⟩) t.nc (t.nc + 1)])
  | _ => True
theorem XR.below {T G H g2 g5 g10 g15 : Nat} {t : TxnD} {a0 a1 a2 a3 : Option Addr} {p0 p1 p2 p3 : Nat} {w w' : World} (hb : Below w.heap.size w w') : ∀ (k : Nat) (s : Nat → Value), XR T G H g2 g5 g10 g15 t a0 a1 a2 a3 p0 p1 p2 p3 k s w → XR T G H g2 g5 g10 g15 t a0 a1 a2 a3 p0 p1 p2 p3 k s w'
  | 0, _, h => h
  | 1, _, h => h
  | 2, _, h => h
  | 3, _, h => h
  | 4, _, h => h
  | 5, _, h => h
  | 6, _, h => h
  | 7, _, h => h
  | 8, _, h => h
  | 9, _, h => h
  | 10, _, h => h
  | 11, _, h => h
  | 12, _, h => h
  | 13, _, h => h
  | 14, _, h => h
  | 15, _, h => h
  | 16, _, h => h
  | 17, _, h => h
  | 18, _, h => h
  | 19, _, h => h
  | 20, _, h => h
  | 21, _, h => h
  | 22, _, h => h
  | 23, _, h => h
  | 24, _, h => h
  | 25, _, h => by obtain ⟨g, c, h1, h2, h3⟩ := h; exact ⟨g, c, h1, h2, h3.below hb⟩
  | 26, _, h => by obtain ⟨g, h1, h3⟩ := h; exact ⟨g, h1, h3.below hb⟩
  | _ + 27, _, _ => trivial
theorem XR.setCell {T G H g2 g5 g10 g15 : Nat} {t : TxnD} {a0 a1 a2 a3 : Option Addr} {p0 p1 p2 p3 : Nat} {w : World} (g i : Nat) (u : Value) : ∀ (k : Nat) (s : Nat → Value), k ≠ 26 → XR T G H g2 g5 g10 g15 t a0 a1 a2 a3 p0 p1 p2 p3 k s w → XR T G H g2 g5 g10 g15 t a0 a1 a2 a3 p0 p1 p2 p3 k s (w.setCell ⟨g, i, none⟩ u)
  | 0, _, _, h => h
  | 1, _, _, h => h
  | 2, _, _, h => h
  | 3, _, _, h => h
  | 4, _, _, h => h
  | 5, _, _, h => h
  | 6, _, _, h => h
  | 7, _, _, h => h
  | 8, _, _, h => h
  | 9, _, _, h => h
  | 10, _, _, h => h
  | 11, _, _, h => h
  | 12, _, _, h => h
  | 13, _, _, h => h
  | 14, _, _, h => h
  | 15, _, _, h => h
  | 16, _, _, h => h
  | 17, _, _, h => h
  | 18, _, _, h => h
  | 19, _, _, h => h
  | 20, _, _, h => h
  | 21, _, _, h => h
  | 22, _, _, h => h
  | 23, _, _, h => h
  | 24, _, _, h => h
  | 25, _, _, h => by
    obtain ⟨g', c', h1, h2, h3⟩ := h
    by_cases e : g' = g
    · subst e; exact ⟨g', _, h1, h2, h3.setCell i u⟩
    · exact ⟨g', c', h1, h2, h3.setCell_other e u⟩
  | 26, _, hk, _ => absurd rfl hk
  | _ + 27, _, _, _ => trivial
end Go.Proofs.YtldeiiffabfmeaaGreatDoor
