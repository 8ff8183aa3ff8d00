/- One step of a script: what is only asked. -/
import Derived.Test.YtldeiiffabfmeaaGreatDoorAI
import Derived.Test.YtldeiiffabfmeaaGreatDoorAF
set_option linter.unusedVariables false
set_option linter.unusedSimpArgs false
namespace Go.Proofs.YtldeiiffabfmeaaGreatDoor
open Go.RowKit

/-- An engine of the program's at e and the document's at x, side by side in the record at s. -/
structure IsSide (w : World) (s e x : Nat) (D : EngD) (vB vL vB' vL' : Value) (K : Nat) (M : Nat → Nat) (hs : Nat → Nat → Bool) (vl : Nat → Nat → Int) : Prop where
  lt : s < w.heap.size
  c0 : w.cell? ⟨s, 0, none⟩ = some (.pointer (some ⟨e, 0, none⟩))
  c1 : w.cell? ⟨s, 1, none⟩ = some (.pointer (some ⟨x, 0, none⟩))
  e : IsEng w e D vB vL K M hs vl
  r : IsRef w x D vB' vL' hs vl
theorem IsSide.below {w w' : World} {s e x : Nat} {D : EngD} {vB vL vB' vL' : Value} {K : Nat} {M : Nat → Nat} {hs : Nat → Nat → Bool} {vl : Nat → Nat → Int} (h : IsSide w s e x D vB vL vB' vL' K M hs vl) (hb : Below w.heap.size w w') : IsSide w' s e x D vB vL vB' vL' K M hs vl :=
  ⟨Nat.lt_of_lt_of_le h.lt hb.size, by rw [hb.cell (p := ⟨s, 0, none⟩) h.lt]; exact h.c0, by rw [hb.cell (p := ⟨s, 1, none⟩) h.lt]; exact h.c1, h.e.below hb, h.r.below hb⟩

section
variable (W s e x : Nat) (D : EngD) (vB vL vB' vL' : Value) (K : Nat) (M : Nat → Nat) (hs : Nat → Nat → Bool) (vl : Nat → Nat → Int) (w : World)

set_option maxRecDepth 20000 in
set_option maxHeartbeats 2000000 in
theorem step_mail (p q : Int) (h : IsSide w s e x D vB vL vB' vL' K M hs vl) :
    Calls Tryz.prog 31 #[.pointer (some ⟨W, 0, none⟩), .pointer (some ⟨s, 0, none⟩), .agg #[.int .i64 5, .int .i64 p, .int .i64 q, .int .i64 0, .bool false]] w fun r w' => r = .returned (.bool true) ∧ Below w.heap.size w w' := by
  have b1 : Below w.heap.size w (w.alloc (.cells #[.int .i64 5, .int .i64 p, .int .i64 q, .int .i64 0, .bool false] 105)) := (Below.refl _ _).alloc (Nat.le_refl _) _
  have h1 := h.below b1
  have r1 := rowIs_list w [.int .i64 5, .int .i64 p, .int .i64 q, .int .i64 0, .bool false] 105
  have g0 := h1.c0
  have g1 := h1.c1
  have t0 : (w.alloc (.cells #[.int .i64 5, .int .i64 p, .int .i64 q, .int .i64 0, .bool false] 105)).cell? ⟨w.heap.size, 0, none⟩ = some (.int .i64 5) := r1.cell (j := 0) (by simp)
  have t1 : (w.alloc (.cells #[.int .i64 5, .int .i64 p, .int .i64 q, .int .i64 0, .bool false] 105)).cell? ⟨w.heap.size, 1, none⟩ = some (.int .i64 p) := r1.cell (j := 1) (by simp)
  have t2 : (w.alloc (.cells #[.int .i64 5, .int .i64 p, .int .i64 q, .int .i64 0, .bool false] 105)).cell? ⟨w.heap.size, 2, none⟩ = some (.int .i64 q) := r1.cell (j := 2) (by simp)
  clear r1
  go_enter Tryz.func31, Tryz.ntmps31
  go_wp2_with fail
  generalize w.alloc (.cells #[.int .i64 5, .int .i64 p, .int .i64 q, .int .i64 0, .bool false] 105) = w1 at *
  go_quiet ((go_at_call 21; exact Calls.quiet_of_same (email_any _ D vB vL K M hs vl _ p q (h1.e.below (below_drewN (Below.refl _ _) _)))))
  go_wp2_with fail
  have h2 : IsSide (w1.drewN nq) s e x D vB vL vB' vL' K M hs vl := h1.below (below_drewN (Below.refl _ _) nq)
  have b2 := below_drewN b1 nq
  have d1 : (w1.drewN nq).cell? ⟨w.heap.size, 1, none⟩ = some (.int .i64 p) := t1
  have d2 : (w1.drewN nq).cell? ⟨w.heap.size, 2, none⟩ = some (.int .i64 q) := t2
  generalize w1.drewN nq = w2 at *
  clear h1 g0 g1 t0 t1 t2 b1
  have g1 := h2.c1
  go_quiet ((go_at_call 59; exact Calls.quiet_of_same (rmail_any _ D vB' vL' hs vl _ p q (h2.r.below (below_drewN (Below.refl _ _) _)))))
  go_wp2_with fail
  go_ret
  exact ⟨rfl, below_drewN b2 _⟩
end
end Go.Proofs.YtldeiiffabfmeaaGreatDoor
