/- One step of a script: what each operation of a region that asks one engine leaves. -/
import Derived.Test.YtldeiiffabfmeaaGreatDoorAVzJ
import Derived.Test.YtldeiiffabfmeaaGreatDoorAVyJ
import Derived.Test.YtldeiiffabfmeaaGreatDoorAJ
set_option linter.unusedVariables false
set_option linter.unusedSimpArgs false
namespace Go.Proofs.YtldeiiffabfmeaaGreatDoor
open Go.RowKit

/-- What slot k of a region that asks one engine holds, once its operation is done. -/
def SR (S O E q H TT m : Nat) (i c : Int) (xs : List Value) (k : Nat) (s : Nat → Value) (wq : World) : Prop :=
  match k with
  | 0 => s 0 = .pointer (some ⟨S, 0, none⟩)
  | 1 => s 1 = .pointer (some ⟨S, 0, none⟩)
  | 2 => s 2 = .pointer (some ⟨S, q, none⟩)
  | 3 => s 3 = .pointer (some ⟨E, 0, none⟩)
  | 4 => s 4 = .pointer (some ⟨O, 1, none⟩)
  | 5 => s 5 = .int .i64 i
  | 6 => s 6 = .tuple #[.agg xs.toArray, .int .i64 c]
  | 7 => s 7 = .tuple #[.agg xs.toArray, .int .i64 c]
  | 8 => s 8 = .agg xs.toArray
  | 9 => s 9 = .int .i64 c
  | 10 => ∃ g cc, s 10 = .pointer (some ⟨g, 0, none⟩) ∧ H ≤ g ∧ RowIs wq g TT m cc
  | 11 => ∃ g, s 10 = .pointer (some ⟨g, 0, none⟩) ∧ RowIs wq g TT m (lc xs)
  | 12 => s 12 = .int .i64 c
  | _ => True
theorem SR.below {S O E q H TT m : Nat} {i c : Int} {xs : List Value} {w w' : World} (hb : Below w.heap.size w w') : ∀ (k : Nat) (s : Nat → Value), SR S O E q H TT m i c xs k s w → SR S O E q H TT m i c xs k s w'
  | 0, _, h => h
  | 1, _, h => h
  | 2, _, h => h
  | 3, _, h => h
  | 4, _, h => h
  | 5, _, h => h
  | 6, _, h => h
  | 7, _, h => h
  | 8, _, h => h
  | 9, _, h => h
  | 10, _, h => by obtain ⟨g, c, h1, h2, h3⟩ := h; exact ⟨g, c, h1, h2, h3.below hb⟩
  | 11, _, h => by obtain ⟨g, h1, h3⟩ := h; exact ⟨g, h1, h3.below hb⟩
  | 12, _, h => h
  | _ + 13, _, _ => trivial
theorem SR.setCell {S O E q H TT m : Nat} {i c : Int} {xs : List Value} {w : World} (g j : Nat) (u : Value) : ∀ (k : Nat) (s : Nat → Value), k ≠ 11 → SR S O E q H TT m i c xs k s w → SR S O E q H TT m i c xs k s (w.setCell ⟨g, j, none⟩ u)
  | 0, _, _, h => h
  | 1, _, _, h => h
  | 2, _, _, h => h
  | 3, _, _, h => h
  | 4, _, _, h => h
  | 5, _, _, h => h
  | 6, _, _, h => h
  | 7, _, _, h => h
  | 8, _, _, h => h
  | 9, _, _, h => h
  | 10, _, _, h => by
    obtain ⟨g', c', h1, h2, h3⟩ := h
    by_cases e : g' = g
    · subst e; exact ⟨g', _, h1, h2, h3.setCell j u⟩
    · exact ⟨g', c', h1, h2, h3.setCell_other e u⟩
  | 11, _, hk, _ => absurd rfl hk
  | 12, _, _, h => h
  | _ + 13, _, _, _ => trivial
end Go.Proofs.YtldeiiffabfmeaaGreatDoor
/- One step of a script: an answer is asked. -/
namespace Go.Proofs.YtldeiiffabfmeaaGreatDoor
open Go.RowKit

theorem follows_mixed' : Tryz.prog.follows .mixedOrders = true := by kernel_rfl

section
variable (W s e x : Nat) (D : EngD) (vB vL vB' vL' : Value) (K : Nat) (M : Nat → Nat) (hs : Nat → Nat → Bool) (vl : Nat → Nat → Int) (w : World)

set_option maxRecDepth 20000 in
set_option maxHeartbeats 4000000 in
theorem step_result (i : Int) (hex : ∀ i, i < D.nl → ∃ p, p ≤ D.nb ∧ rtakesB D i (p : Nat) = true) (h : IsSide w s e x D vB vL vB' vL' K M hs vl) :
    Calls Tryz.prog 31 #[.pointer (some ⟨W, 0, none⟩), .pointer (some ⟨s, 0, none⟩), .agg #[.int .i64 2, .int .i64 i, .int .i64 0, .int .i64 0, .bool false]] w fun r w' => r = .returned (.bool true) ∧ Below w.heap.size w w' := by
  have b1 : Below w.heap.size w (w.alloc (.cells #[.int .i64 2, .int .i64 i, .int .i64 0, .int .i64 0, .bool false] 105)) := (Below.refl _ _).alloc (Nat.le_refl _) _
  have h1 := h.below b1
  have r1 := rowIs_list w [.int .i64 2, .int .i64 i, .int .i64 0, .int .i64 0, .bool false] 105
  have t0 : (w.alloc (.cells #[.int .i64 2, .int .i64 i, .int .i64 0, .int .i64 0, .bool false] 105)).cell? ⟨w.heap.size, 0, none⟩ = some (.int .i64 2) := r1.cell (j := 0) (by simp)
  clear h
  go_enter Tryz.func31, Tryz.ntmps31
  go_wp2_with fail
  generalize w.alloc (.cells #[.int .i64 2, .int .i64 i, .int .i64 0, .int .i64 0, .bool false] 105) = w1 at *
  rename_i K1 hK1
  refine wp_region_slots2 (P := Tryz.prog) _ follows_mixed' (by kernel_rfl) (fun wx => Below w1.heap.size w1 wx) (SR s w.heap.size e 0 w1.heap.size 75 6 i (okOr (withinB i 0 (D.nl - 1)) 5) [.bool false, .bool false, .int .i64 0, .int .i64 0, .int .i64 0, .int .i64 0]) ?hloc ?hF ?hob ?hend
  case hF => exact (Below.refl _ _).drew
  case hloc =>
    intro k s s' wx hs hR
    match k, hs, hR with
    | 0, hs, hR => simp only [SR] at hR ⊢; rw [← hs _ rfl 0 (.inl rfl)]; exact hR
    | 1, hs, hR => simp only [SR] at hR ⊢; rw [← hs _ rfl 1 (.inl rfl)]; exact hR
    | 2, hs, hR => simp only [SR] at hR ⊢; rw [← hs _ rfl 2 (.inl rfl)]; exact hR
    | 3, hs, hR => simp only [SR] at hR ⊢; rw [← hs _ rfl 3 (.inl rfl)]; exact hR
    | 4, hs, hR => simp only [SR] at hR ⊢; rw [← hs _ rfl 4 (.inl rfl)]; exact hR
    | 5, hs, hR => simp only [SR] at hR ⊢; rw [← hs _ rfl 5 (.inl rfl)]; exact hR
    | 6, hs, hR => simp only [SR] at hR ⊢; rw [← hs _ rfl 6 (.inl rfl)]; exact hR
    | 7, hs, hR => simp only [SR] at hR ⊢; rw [← hs _ rfl 7 (.inl rfl)]; exact hR
    | 8, hs, hR => simp only [SR] at hR ⊢; rw [← hs _ rfl 8 (.inl rfl)]; exact hR
    | 9, hs, hR => simp only [SR] at hR ⊢; rw [← hs _ rfl 9 (.inl rfl)]; exact hR
    | 10, hs, hR => simp only [SR] at hR ⊢; rw [← hs _ rfl 10 (.inl rfl)]; exact hR
    | 11, hs, hR => simp only [SR] at hR ⊢; rw [← hs _ rfl 10 (.inr ⟨⟨10, .data⟩, by simp, rfl, rfl⟩)]; exact hR
    | 12, hs, hR => simp only [SR] at hR ⊢; rw [← hs _ rfl 12 (.inl rfl)]; exact hR
    | _ + 13, hs, hR => trivial
  case hob =>
    intro io o ho a WW hX hS haft
    have hsz : a.tmps.size = 174 := hS.size
    have e1 : a.eval (.tmp 1) = .pointer (some ⟨s, 0, none⟩) := hS.out 1 (no_dst (by kernel_rfl))
    have e5 : a.eval (.tmp 5) = .pointer (some ⟨w.heap.size, 0, none⟩) := hS.out 5 (no_dst (by kernel_rfl))
    have hsd := h1.below hX
    have gq := hsd.c0
    have dq : WW.cell? ⟨w.heap.size, 1, none⟩ = some (.int .i64 i) := (r1.below hX).cell (j := 1) (by simp)
    have hle : w1.heap.size ≤ WW.heap.size := hX.size
    match io, ho, haft with
    | 0, ho, haft =>
      obtain rfl := Option.some.inj (show some _ = some o from ho)
      exact wp_of_value (u_move a.eval WW _ _ _ _ _ _ _ e1) ⟨hX, fun k s _ h => h, _, rfl, slot_put _ (by rw [hsz]; decide)⟩
    | 1, ho, haft =>
      obtain rfl := Option.some.inj (show some _ = some o from ho)
      exact wp_of_value (u_nil a.eval WW s _ _ _ _ _ _ 0 (haft ⟨0, .data⟩ (by simp) rfl)) ⟨hX, fun k s _ h => h, _, rfl, slot_put _ (by rw [hsz]; decide)⟩
    | 2, ho, haft =>
      obtain rfl := Option.some.inj (show some _ = some o from ho)
      exact wp_of_value (u_f65_0 a.eval WW s _ _ _ _ _ _ (haft ⟨1, .data⟩ (by simp) rfl)) ⟨hX, fun k s _ h => h, _, rfl, slot_put _ (by rw [hsz]; decide)⟩
    | 3, ho, haft =>
      obtain rfl := Option.some.inj (show some _ = some o from ho)
      exact wp_of_value (u_l52 a.eval WW s _ _ _ _ _ _ 0 _ (haft ⟨2, .data⟩ (by simp) rfl) gq) ⟨hX, fun k s _ h => h, _, rfl, slot_put _ (by rw [hsz]; decide)⟩
    | 4, ho, haft =>
      obtain rfl := Option.some.inj (show some _ = some o from ho)
      exact wp_of_value (u_f68_1 a.eval WW w.heap.size _ _ _ _ _ _ e5) ⟨hX, fun k s _ h => h, _, rfl, slot_put _ (by rw [hsz]; decide)⟩
    | 5, ho, haft =>
      obtain rfl := Option.some.inj (show some _ = some o from ho)
      exact wp_of_value (u_l3 a.eval WW w.heap.size _ _ _ _ _ _ 1 _ (haft ⟨4, .data⟩ (by simp) rfl) dq) ⟨hX, fun k s _ h => h, _, rfl, slot_put _ (by rw [hsz]; decide)⟩
    | 6, ho, haft =>
      obtain rfl := Option.some.inj (show some _ = some o from ho)
      refine wp_of_enter (u_call27 WW _ _ _ _ _ _ _ a _ _ _ _ (haft ⟨3, .data⟩ (by simp) rfl) (haft ⟨5, .data⟩ (by simp) rfl)) (eresult_any _ D vB vL K M hs vl WW _ hsd.e) ?_
      rintro r w'' ⟨rfl, hb⟩
      exact ⟨_, rfl, hX.trans (hb.mono hle), fun k s _ h => SR.below hb k s h, _, rfl, slot_put _ (by rw [hsz]; decide)⟩
    | 7, ho, haft =>
      obtain rfl := Option.some.inj (show some _ = some o from ho)
      exact wp_of_value (u_move a.eval WW _ _ _ _ _ _ _ (haft ⟨6, .data⟩ (by simp) rfl)) ⟨hX, fun k s _ h => h, _, rfl, slot_put _ (by rw [hsz]; decide)⟩
    | 8, ho, haft =>
      obtain rfl := Option.some.inj (show some _ = some o from ho)
      exact wp_of_value (u_ext0 a.eval WW _ _ _ _ _ _ _ _ (haft ⟨7, .data⟩ (by simp) rfl)) ⟨hX, fun k s _ h => h, _, rfl, slot_put _ (by rw [hsz]; decide)⟩
    | 9, ho, haft =>
      obtain rfl := Option.some.inj (show some _ = some o from ho)
      exact wp_of_value (u_ext1 a.eval WW _ _ _ _ _ _ _ _ (haft ⟨7, .data⟩ (by simp) rfl)) ⟨hX, fun k s _ h => h, _, rfl, slot_put _ (by rw [hsz]; decide)⟩
    | 10, ho, haft =>
      obtain rfl := Option.some.inj (show some _ = some o from ho)
      exact wp_of_value (u_al110 a.eval WW _ _ _ _ _) ⟨hX.alloc hle _, fun k s _ h => SR.below ((Below.refl _ _).alloc (Nat.le_refl _) _) k s h, _, rfl, WW.heap.size, _, slot_put _ (by rw [hsz]; decide), hle, rowIs_list WW [.bool false, .bool false, .int .i64 0, .int .i64 0, .int .i64 0, .int .i64 0] 75⟩
    | 11, ho, haft =>
      obtain rfl := Option.some.inj (show some _ = some o from ho)
      have q8 := haft ⟨8, .data⟩ (by simp) rfl
      obtain ⟨X, cc, q10, hX1, hX2⟩ := haft ⟨10, .data⟩ (by simp) rfl
      refine wp_of_skip (u_st110 a.eval WW _ _ _ _ _ _ _ X _ _ _ _ _ _ _ _ _ _ _ _ q10 q8 (hX2.cell (by omega)) (hX2.cell (by omega)) (hX2.cell (by omega)) (hX2.cell (by omega)) (hX2.cell (by omega)) (hX2.cell (by omega)) hX2.frozen) ?_
      have s0 := hX2.setCell 0 (.bool false)
      have s1 := s0.setCell 1 (.bool false)
      have s2 := s1.setCell 2 (.int .i64 0)
      have s3 := s2.setCell 3 (.int .i64 0)
      have s4 := s3.setCell 4 (.int .i64 0)
      have s5 := s4.setCell 5 (.int .i64 0)
      refine ⟨((((((hX.setCell hX1 _).setCell hX1 _).setCell hX1 _).setCell hX1 _).setCell hX1 _).setCell hX1 _), fun k s hk hh => (SR.setCell _ _ _ k s hk (SR.setCell _ _ _ k s hk (SR.setCell _ _ _ k s hk (SR.setCell _ _ _ k s hk (SR.setCell _ _ _ k s hk (SR.setCell _ _ _ k s hk hh)))))), undef, rfl, X, q10, s5.congr fun j hj => ?_⟩
      have : j = 0 ∨ j = 1 ∨ j = 2 ∨ j = 3 ∨ j = 4 ∨ j = 5 := by omega
      rcases this with rfl | rfl | rfl | rfl | rfl | rfl <;> rfl
    | 12, ho, haft =>
      obtain rfl := Option.some.inj (show some _ = some o from ho)
      exact wp_of_value (u_assign a.eval WW _ _ _ _ _ _ _ (haft ⟨9, .data⟩ (by simp) rfl)) ⟨hX, fun k s _ h => h, _, rfl, slot_put _ (by rw [hsz]; decide)⟩
    | n + 13, ho, haft => simp at ho
  case hend =>
    intro a wx hX hS hall
    obtain ⟨X_A, cc, q10', hX1, -⟩ := hall 10 (by simp)
    obtain ⟨X_A', q10, rX⟩ := hall 11 (by simp)
    have eX : X_A = X_A' := by rw [q10'] at q10; injection q10 with e; injection e with e; injection e
    subst eX
    have ha := same_patch [52, 53, 54, 55, 56, 57, 58, 51, 59, 60, 8, 9] hS (some_dst (by kernel_rfl))
    have z52 : a.tmps.getD 52 undef = _ := hall 0 (by simp)
    have z53 : a.tmps.getD 53 undef = _ := hall 1 (by simp)
    have z54 : a.tmps.getD 54 undef = _ := hall 2 (by simp)
    have z55 : a.tmps.getD 55 undef = _ := hall 3 (by simp)
    have z56 : a.tmps.getD 56 undef = _ := hall 4 (by simp)
    have z57 : a.tmps.getD 57 undef = _ := hall 5 (by simp)
    have z58 : a.tmps.getD 58 undef = _ := hall 6 (by simp)
    have z51 : a.tmps.getD 51 undef = _ := hall 7 (by simp)
    have z59 : a.tmps.getD 59 undef = _ := hall 8 (by simp)
    have z60 : a.tmps.getD 60 undef = _ := hall 9 (by simp)
    have z8 : a.tmps.getD 8 undef = _ := q10
    have z9 : a.tmps.getD 9 undef = _ := hall 12 (by simp)
    simp only [patch, List.foldl] at ha
    rw [z52, z53, z54, z55, z56, z57, z58, z51, z59, z60, z8, z9] at ha
    clear z52 z53 z54 z55 z56 z57 z58 z51 z59 z60 z8 z9 q10 q10' hall hS
    simp only [Act.put, List.setIfInBounds_toArray, List.set_cons_succ, List.set_cons_zero] at ha
    subst ha
    refine hK1 _ _ ?_
    clear hK1
    have h2 := h1.below hX
    have r2 := r1.below hX
    have b2 := b1.trans (hX.mono b1.size)
    have rA := rX
    clear h1 r1 b1 t0 rX hX hX1
    go_wp2_with fail
    rename_i K2 hK2
    refine wp_region_slots2 (P := Tryz.prog) _ follows_mixed' (by kernel_rfl) (fun wy => Below wx.heap.size wx wy) (SR s w.heap.size x 1 wx.heap.size 75 6 i (okOr (withinB i 0 (D.nl - 1)) 5) [.bool false, .bool false, .int .i64 0, .int .i64 0, .int .i64 0, .int .i64 0]) ?hloc ?hF ?hob ?hend
    case hF => exact (Below.refl _ _).drew
    case hloc =>
      intro k s s' wx hs hR
      match k, hs, hR with
      | 0, hs, hR => simp only [SR] at hR ⊢; rw [← hs _ rfl 0 (.inl rfl)]; exact hR
      | 1, hs, hR => simp only [SR] at hR ⊢; rw [← hs _ rfl 1 (.inl rfl)]; exact hR
      | 2, hs, hR => simp only [SR] at hR ⊢; rw [← hs _ rfl 2 (.inl rfl)]; exact hR
      | 3, hs, hR => simp only [SR] at hR ⊢; rw [← hs _ rfl 3 (.inl rfl)]; exact hR
      | 4, hs, hR => simp only [SR] at hR ⊢; rw [← hs _ rfl 4 (.inl rfl)]; exact hR
      | 5, hs, hR => simp only [SR] at hR ⊢; rw [← hs _ rfl 5 (.inl rfl)]; exact hR
      | 6, hs, hR => simp only [SR] at hR ⊢; rw [← hs _ rfl 6 (.inl rfl)]; exact hR
      | 7, hs, hR => simp only [SR] at hR ⊢; rw [← hs _ rfl 7 (.inl rfl)]; exact hR
      | 8, hs, hR => simp only [SR] at hR ⊢; rw [← hs _ rfl 8 (.inl rfl)]; exact hR
      | 9, hs, hR => simp only [SR] at hR ⊢; rw [← hs _ rfl 9 (.inl rfl)]; exact hR
      | 10, hs, hR => simp only [SR] at hR ⊢; rw [← hs _ rfl 10 (.inl rfl)]; exact hR
      | 11, hs, hR => simp only [SR] at hR ⊢; rw [← hs _ rfl 10 (.inr ⟨⟨10, .data⟩, by simp, rfl, rfl⟩)]; exact hR
      | 12, hs, hR => simp only [SR] at hR ⊢; rw [← hs _ rfl 12 (.inl rfl)]; exact hR
      | _ + 13, hs, hR => trivial
    case hob =>
      intro io o ho a WW hX hS haft
      have hsz : a.tmps.size = 174 := hS.size
      have e1 : a.eval (.tmp 1) = .pointer (some ⟨s, 0, none⟩) := hS.out 1 (no_dst (by kernel_rfl))
      have e5 : a.eval (.tmp 5) = .pointer (some ⟨w.heap.size, 0, none⟩) := hS.out 5 (no_dst (by kernel_rfl))
      have hsd := h2.below hX
      have gq := hsd.c1
      have dq : WW.cell? ⟨w.heap.size, 1, none⟩ = some (.int .i64 i) := (r2.below hX).cell (j := 1) (by simp)
      have hle : wx.heap.size ≤ WW.heap.size := hX.size
      match io, ho, haft with
      | 0, ho, haft =>
        obtain rfl := Option.some.inj (show some _ = some o from ho)
        exact wp_of_value (u_move a.eval WW _ _ _ _ _ _ _ e1) ⟨hX, fun k s _ h => h, _, rfl, slot_put _ (by rw [hsz]; decide)⟩
      | 1, ho, haft =>
        obtain rfl := Option.some.inj (show some _ = some o from ho)
        exact wp_of_value (u_nil a.eval WW s _ _ _ _ _ _ 0 (haft ⟨0, .data⟩ (by simp) rfl)) ⟨hX, fun k s _ h => h, _, rfl, slot_put _ (by rw [hsz]; decide)⟩
      | 2, ho, haft =>
        obtain rfl := Option.some.inj (show some _ = some o from ho)
        exact wp_of_value (u_f65_1 a.eval WW s _ _ _ _ _ _ (haft ⟨1, .data⟩ (by simp) rfl)) ⟨hX, fun k s _ h => h, _, rfl, slot_put _ (by rw [hsz]; decide)⟩
      | 3, ho, haft =>
        obtain rfl := Option.some.inj (show some _ = some o from ho)
        exact wp_of_value (u_l56 a.eval WW s _ _ _ _ _ _ 1 _ (haft ⟨2, .data⟩ (by simp) rfl) gq) ⟨hX, fun k s _ h => h, _, rfl, slot_put _ (by rw [hsz]; decide)⟩
      | 4, ho, haft =>
        obtain rfl := Option.some.inj (show some _ = some o from ho)
        exact wp_of_value (u_f68_1 a.eval WW w.heap.size _ _ _ _ _ _ e5) ⟨hX, fun k s _ h => h, _, rfl, slot_put _ (by rw [hsz]; decide)⟩
      | 5, ho, haft =>
        obtain rfl := Option.some.inj (show some _ = some o from ho)
        exact wp_of_value (u_l3 a.eval WW w.heap.size _ _ _ _ _ _ 1 _ (haft ⟨4, .data⟩ (by simp) rfl) dq) ⟨hX, fun k s _ h => h, _, rfl, slot_put _ (by rw [hsz]; decide)⟩
      | 6, ho, haft =>
        obtain rfl := Option.some.inj (show some _ = some o from ho)
        refine wp_of_enter (u_call28 WW _ _ _ _ _ _ _ a _ _ _ _ (haft ⟨3, .data⟩ (by simp) rfl) (haft ⟨5, .data⟩ (by simp) rfl)) (rresult_any _ D vB' vL' hs vl WW _ hex hsd.r) ?_
        rintro r w'' ⟨rfl, hb⟩
        exact ⟨_, rfl, hX.trans (hb.mono hle), fun k s _ h => SR.below hb k s h, _, rfl, slot_put _ (by rw [hsz]; decide)⟩
      | 7, ho, haft =>
        obtain rfl := Option.some.inj (show some _ = some o from ho)
        exact wp_of_value (u_move a.eval WW _ _ _ _ _ _ _ (haft ⟨6, .data⟩ (by simp) rfl)) ⟨hX, fun k s _ h => h, _, rfl, slot_put _ (by rw [hsz]; decide)⟩
      | 8, ho, haft =>
        obtain rfl := Option.some.inj (show some _ = some o from ho)
        exact wp_of_value (u_ext0 a.eval WW _ _ _ _ _ _ _ _ (haft ⟨7, .data⟩ (by simp) rfl)) ⟨hX, fun k s _ h => h, _, rfl, slot_put _ (by rw [hsz]; decide)⟩
      | 9, ho, haft =>
        obtain rfl := Option.some.inj (show some _ = some o from ho)
        exact wp_of_value (u_ext1 a.eval WW _ _ _ _ _ _ _ _ (haft ⟨7, .data⟩ (by simp) rfl)) ⟨hX, fun k s _ h => h, _, rfl, slot_put _ (by rw [hsz]; decide)⟩
      | 10, ho, haft =>
        obtain rfl := Option.some.inj (show some _ = some o from ho)
        exact wp_of_value (u_al110 a.eval WW _ _ _ _ _) ⟨hX.alloc hle _, fun k s _ h => SR.below ((Below.refl _ _).alloc (Nat.le_refl _) _) k s h, _, rfl, WW.heap.size, _, slot_put _ (by rw [hsz]; decide), hle, rowIs_list WW [.bool false, .bool false, .int .i64 0, .int .i64 0, .int .i64 0, .int .i64 0] 75⟩
      | 11, ho, haft =>
        obtain rfl := Option.some.inj (show some _ = some o from ho)
        have q8 := haft ⟨8, .data⟩ (by simp) rfl
        obtain ⟨X, cc, q10, hX1, hX2⟩ := haft ⟨10, .data⟩ (by simp) rfl
        refine wp_of_skip (u_st110 a.eval WW _ _ _ _ _ _ _ X _ _ _ _ _ _ _ _ _ _ _ _ q10 q8 (hX2.cell (by omega)) (hX2.cell (by omega)) (hX2.cell (by omega)) (hX2.cell (by omega)) (hX2.cell (by omega)) (hX2.cell (by omega)) hX2.frozen) ?_
        have s0 := hX2.setCell 0 (.bool false)
        have s1 := s0.setCell 1 (.bool false)
        have s2 := s1.setCell 2 (.int .i64 0)
        have s3 := s2.setCell 3 (.int .i64 0)
        have s4 := s3.setCell 4 (.int .i64 0)
        have s5 := s4.setCell 5 (.int .i64 0)
        refine ⟨((((((hX.setCell hX1 _).setCell hX1 _).setCell hX1 _).setCell hX1 _).setCell hX1 _).setCell hX1 _), fun k s hk hh => (SR.setCell _ _ _ k s hk (SR.setCell _ _ _ k s hk (SR.setCell _ _ _ k s hk (SR.setCell _ _ _ k s hk (SR.setCell _ _ _ k s hk (SR.setCell _ _ _ k s hk hh)))))), undef, rfl, X, q10, s5.congr fun j hj => ?_⟩
        have : j = 0 ∨ j = 1 ∨ j = 2 ∨ j = 3 ∨ j = 4 ∨ j = 5 := by omega
        rcases this with rfl | rfl | rfl | rfl | rfl | rfl <;> rfl
      | 12, ho, haft =>
        obtain rfl := Option.some.inj (show some _ = some o from ho)
        exact wp_of_value (u_assign a.eval WW _ _ _ _ _ _ _ (haft ⟨9, .data⟩ (by simp) rfl)) ⟨hX, fun k s _ h => h, _, rfl, slot_put _ (by rw [hsz]; decide)⟩
      | n + 13, ho, haft => simp at ho
    case hend =>
      intro a wz hX hS hall
      obtain ⟨X, cc, q10', hX1, -⟩ := hall 10 (by simp)
      obtain ⟨X', q10, rX⟩ := hall 11 (by simp)
      have eX : X = X' := by rw [q10'] at q10; injection q10 with e; injection e with e; injection e
      subst eX
      have ha := same_patch [62, 63, 64, 65, 66, 67, 68, 61, 69, 70, 10, 11] hS (some_dst (by kernel_rfl))
      have z62 : a.tmps.getD 62 undef = _ := hall 0 (by simp)
      have z63 : a.tmps.getD 63 undef = _ := hall 1 (by simp)
      have z64 : a.tmps.getD 64 undef = _ := hall 2 (by simp)
      have z65 : a.tmps.getD 65 undef = _ := hall 3 (by simp)
      have z66 : a.tmps.getD 66 undef = _ := hall 4 (by simp)
      have z67 : a.tmps.getD 67 undef = _ := hall 5 (by simp)
      have z68 : a.tmps.getD 68 undef = _ := hall 6 (by simp)
      have z61 : a.tmps.getD 61 undef = _ := hall 7 (by simp)
      have z69 : a.tmps.getD 69 undef = _ := hall 8 (by simp)
      have z70 : a.tmps.getD 70 undef = _ := hall 9 (by simp)
      have z10 : a.tmps.getD 10 undef = _ := q10
      have z11 : a.tmps.getD 11 undef = _ := hall 12 (by simp)
      simp only [patch, List.foldl] at ha
      rw [z62, z63, z64, z65, z66, z67, z68, z61, z69, z70, z10, z11] at ha
      clear z62 z63 z64 z65 z66 z67 z68 z61 z69 z70 z10 z11 q10 q10' hall hS
      simp only [Act.put, List.setIfInBounds_toArray, List.set_cons_succ, List.set_cons_zero] at ha
      subst ha
      refine hK2 _ _ ?_
      clear hK2
      have rA' := rA.below hX
      have b3 := b2.trans (hX.mono b2.size)
      have y0 : wz.cell? ⟨X_A, 0, none⟩ = some (.bool false) := rA'.cell (j := 0) (by omega)
      have y1 : wz.cell? ⟨X_A, 1, none⟩ = some (.bool false) := rA'.cell (j := 1) (by omega)
      have y2 : wz.cell? ⟨X_A, 2, none⟩ = some (.int .i64 0) := rA'.cell (j := 2) (by omega)
      have y3 : wz.cell? ⟨X_A, 3, none⟩ = some (.int .i64 0) := rA'.cell (j := 3) (by omega)
      have y4 : wz.cell? ⟨X_A, 4, none⟩ = some (.int .i64 0) := rA'.cell (j := 4) (by omega)
      have y5 : wz.cell? ⟨X_A, 5, none⟩ = some (.int .i64 0) := rA'.cell (j := 5) (by omega)
      have v0 : wz.cell? ⟨X, 0, none⟩ = some (.bool false) := rX.cell (j := 0) (by omega)
      have v1 : wz.cell? ⟨X, 1, none⟩ = some (.bool false) := rX.cell (j := 1) (by omega)
      have v2 : wz.cell? ⟨X, 2, none⟩ = some (.int .i64 0) := rX.cell (j := 2) (by omega)
      have v3 : wz.cell? ⟨X, 3, none⟩ = some (.int .i64 0) := rX.cell (j := 3) (by omega)
      have v4 : wz.cell? ⟨X, 4, none⟩ = some (.int .i64 0) := rX.cell (j := 4) (by omega)
      have v5 : wz.cell? ⟨X, 5, none⟩ = some (.int .i64 0) := rX.cell (j := 5) (by omega)
      clear rA rA' rX hX h2 r2 b2 hex hX1
      go_wp2_with fail
      refine (same_any _).mono ?_
      rintro r w5 ⟨rfl, hb5⟩
      have b4 := b3.trans (hb5.mono b3.size)
      clear b3 hb5
      go_wp2_with fail
      go_ret
      exact ⟨rfl, b4⟩
end
end Go.Proofs.YtldeiiffabfmeaaGreatDoor
/- One step of a script: how a partition stands is asked. -/
namespace Go.Proofs.YtldeiiffabfmeaaGreatDoor
open Go.RowKit

section
variable (W s e x : Nat) (D : EngD) (vB vL vB' vL' : Value) (K : Nat) (M : Nat → Nat) (hs : Nat → Nat → Bool) (vl : Nat → Nat → Int) (w : World)

theorem next_same (p : Int) (hG : Good D) : ifB (withinB p 0 D.nb) (rnextOf D p : Nat) = ifB (withinB p 0 D.nb) (nextOf D p : Nat) := by
  cases q : withinB p 0 D.nb with
  | false => rfl
  | true =>
    obtain ⟨a, b⟩ := within_iff.1 q
    obtain ⟨p', rfl⟩ := Int.eq_ofNat_of_zero_le a
    rw [hG.next p']

theorem elook_v (p v c : Int) (hv : ifB (withinB p 0 D.nb) (nextOf D p : Nat) = v) (hc : okOr (withinB p 0 D.nb) 4 = c) (h : IsEng w e D vB vL K M hs vl) :
    Calls Tryz.prog 20 #[.pointer (some ⟨e, 0, none⟩), .int .i64 p] w fun r w' => r = .returned (.tuple #[.agg #[.int .i64 v, .int .i64 0, .int .i64 0, .int .i64 0], .int .i64 c]) ∧ Below w.heap.size w w' := by
  subst hv hc
  exact elook_any e D vB vL K M hs vl w p h
theorem rlook_v (p v c : Int) (hG : Good D) (hv : ifB (withinB p 0 D.nb) (nextOf D p : Nat) = v) (hc : okOr (withinB p 0 D.nb) 4 = c) (h : IsRef w x D vB vL hs vl) :
    Calls Tryz.prog 58 #[.pointer (some ⟨x, 0, none⟩), .int .i64 p] w fun r w' => r = .returned (.tuple #[.agg #[.int .i64 v, .int .i64 0, .int .i64 0, .int .i64 0], .int .i64 c]) ∧ Below w.heap.size w w' := by
  subst hv hc
  have h1 := rlook_any x D vB vL hs vl w p h
  rw [next_same D p hG] at h1
  exact h1

set_option maxRecDepth 20000 in
set_option maxHeartbeats 4000000 in
theorem step_look_v (p v c : Int) (he : ∀ w, IsEng w e D vB vL K M hs vl → Calls Tryz.prog 20 #[.pointer (some ⟨e, 0, none⟩), .int .i64 p] w fun r w' => r = .returned (.tuple #[.agg #[.int .i64 v, .int .i64 0, .int .i64 0, .int .i64 0], .int .i64 c]) ∧ Below w.heap.size w w') (hx : ∀ w, IsRef w x D vB' vL' hs vl → Calls Tryz.prog 58 #[.pointer (some ⟨x, 0, none⟩), .int .i64 p] w fun r w' => r = .returned (.tuple #[.agg #[.int .i64 v, .int .i64 0, .int .i64 0, .int .i64 0], .int .i64 c]) ∧ Below w.heap.size w w') (h : IsSide w s e x D vB vL vB' vL' K M hs vl) :
    Calls Tryz.prog 31 #[.pointer (some ⟨W, 0, none⟩), .pointer (some ⟨s, 0, none⟩), .agg #[.int .i64 4, .int .i64 p, .int .i64 0, .int .i64 0, .bool false]] w fun r w' => r = .returned (.bool true) ∧ Below w.heap.size w w' := by
  have b1 : Below w.heap.size w (w.alloc (.cells #[.int .i64 4, .int .i64 p, .int .i64 0, .int .i64 0, .bool false] 105)) := (Below.refl _ _).alloc (Nat.le_refl _) _
  have h1 := h.below b1
  have r1 := rowIs_list w [.int .i64 4, .int .i64 p, .int .i64 0, .int .i64 0, .bool false] 105
  have t0 : (w.alloc (.cells #[.int .i64 4, .int .i64 p, .int .i64 0, .int .i64 0, .bool false] 105)).cell? ⟨w.heap.size, 0, none⟩ = some (.int .i64 4) := r1.cell (j := 0) (by simp)
  clear h
  go_enter Tryz.func31, Tryz.ntmps31
  go_wp2_with fail
  generalize w.alloc (.cells #[.int .i64 4, .int .i64 p, .int .i64 0, .int .i64 0, .bool false] 105) = w1 at *
  rename_i K1 hK1
  refine wp_region_slots2 (P := Tryz.prog) _ follows_mixed' (by kernel_rfl) (fun wx => Below w1.heap.size w1 wx) (SR s w.heap.size e 0 w1.heap.size 67 4 p c [.int .i64 v, .int .i64 0, .int .i64 0, .int .i64 0]) ?hloc ?hF ?hob ?hend
  case hF => exact (Below.refl _ _).drew
  case hloc =>
    intro k s s' wx hs hR
    match k, hs, hR with
    | 0, hs, hR => simp only [SR] at hR ⊢; rw [← hs _ rfl 0 (.inl rfl)]; exact hR
    | 1, hs, hR => simp only [SR] at hR ⊢; rw [← hs _ rfl 1 (.inl rfl)]; exact hR
    | 2, hs, hR => simp only [SR] at hR ⊢; rw [← hs _ rfl 2 (.inl rfl)]; exact hR
    | 3, hs, hR => simp only [SR] at hR ⊢; rw [← hs _ rfl 3 (.inl rfl)]; exact hR
    | 4, hs, hR => simp only [SR] at hR ⊢; rw [← hs _ rfl 4 (.inl rfl)]; exact hR
    | 5, hs, hR => simp only [SR] at hR ⊢; rw [← hs _ rfl 5 (.inl rfl)]; exact hR
    | 6, hs, hR => simp only [SR] at hR ⊢; rw [← hs _ rfl 6 (.inl rfl)]; exact hR
    | 7, hs, hR => simp only [SR] at hR ⊢; rw [← hs _ rfl 7 (.inl rfl)]; exact hR
    | 8, hs, hR => simp only [SR] at hR ⊢; rw [← hs _ rfl 8 (.inl rfl)]; exact hR
    | 9, hs, hR => simp only [SR] at hR ⊢; rw [← hs _ rfl 9 (.inl rfl)]; exact hR
    | 10, hs, hR => simp only [SR] at hR ⊢; rw [← hs _ rfl 10 (.inl rfl)]; exact hR
    | 11, hs, hR => simp only [SR] at hR ⊢; rw [← hs _ rfl 10 (.inr ⟨⟨10, .data⟩, by simp, rfl, rfl⟩)]; exact hR
    | 12, hs, hR => simp only [SR] at hR ⊢; rw [← hs _ rfl 12 (.inl rfl)]; exact hR
    | _ + 13, hs, hR => trivial
  case hob =>
    intro io o ho a WW hX hS haft
    have hsz : a.tmps.size = 174 := hS.size
    have e1 : a.eval (.tmp 1) = .pointer (some ⟨s, 0, none⟩) := hS.out 1 (no_dst (by kernel_rfl))
    have e5 : a.eval (.tmp 5) = .pointer (some ⟨w.heap.size, 0, none⟩) := hS.out 5 (no_dst (by kernel_rfl))
    have hsd := h1.below hX
    have gq := hsd.c0
    have dq : WW.cell? ⟨w.heap.size, 1, none⟩ = some (.int .i64 p) := (r1.below hX).cell (j := 1) (by simp)
    have hle : w1.heap.size ≤ WW.heap.size := hX.size
    match io, ho, haft with
    | 0, ho, haft =>
      obtain rfl := Option.some.inj (show some _ = some o from ho)
      exact wp_of_value (u_move a.eval WW _ _ _ _ _ _ _ e1) ⟨hX, fun k s _ h => h, _, rfl, slot_put _ (by rw [hsz]; decide)⟩
    | 1, ho, haft =>
      obtain rfl := Option.some.inj (show some _ = some o from ho)
      exact wp_of_value (u_nil a.eval WW s _ _ _ _ _ _ 0 (haft ⟨0, .data⟩ (by simp) rfl)) ⟨hX, fun k s _ h => h, _, rfl, slot_put _ (by rw [hsz]; decide)⟩
    | 2, ho, haft =>
      obtain rfl := Option.some.inj (show some _ = some o from ho)
      exact wp_of_value (u_f65_0 a.eval WW s _ _ _ _ _ _ (haft ⟨1, .data⟩ (by simp) rfl)) ⟨hX, fun k s _ h => h, _, rfl, slot_put _ (by rw [hsz]; decide)⟩
    | 3, ho, haft =>
      obtain rfl := Option.some.inj (show some _ = some o from ho)
      exact wp_of_value (u_l52 a.eval WW s _ _ _ _ _ _ 0 _ (haft ⟨2, .data⟩ (by simp) rfl) gq) ⟨hX, fun k s _ h => h, _, rfl, slot_put _ (by rw [hsz]; decide)⟩
    | 4, ho, haft =>
      obtain rfl := Option.some.inj (show some _ = some o from ho)
      exact wp_of_value (u_f68_1 a.eval WW w.heap.size _ _ _ _ _ _ e5) ⟨hX, fun k s _ h => h, _, rfl, slot_put _ (by rw [hsz]; decide)⟩
    | 5, ho, haft =>
      obtain rfl := Option.some.inj (show some _ = some o from ho)
      exact wp_of_value (u_l3 a.eval WW w.heap.size _ _ _ _ _ _ 1 _ (haft ⟨4, .data⟩ (by simp) rfl) dq) ⟨hX, fun k s _ h => h, _, rfl, slot_put _ (by rw [hsz]; decide)⟩
    | 6, ho, haft =>
      obtain rfl := Option.some.inj (show some _ = some o from ho)
      refine wp_of_enter (u_call31 WW _ _ _ _ _ _ _ a _ _ _ _ (haft ⟨3, .data⟩ (by simp) rfl) (haft ⟨5, .data⟩ (by simp) rfl)) (he WW hsd.e) ?_
      rintro r w'' ⟨rfl, hb⟩
      exact ⟨_, rfl, hX.trans (hb.mono hle), fun k s _ h => SR.below hb k s h, _, rfl, slot_put _ (by rw [hsz]; decide)⟩
    | 7, ho, haft =>
      obtain rfl := Option.some.inj (show some _ = some o from ho)
      exact wp_of_value (u_move a.eval WW _ _ _ _ _ _ _ (haft ⟨6, .data⟩ (by simp) rfl)) ⟨hX, fun k s _ h => h, _, rfl, slot_put _ (by rw [hsz]; decide)⟩
    | 8, ho, haft =>
      obtain rfl := Option.some.inj (show some _ = some o from ho)
      exact wp_of_value (u_ext0 a.eval WW _ _ _ _ _ _ _ _ (haft ⟨7, .data⟩ (by simp) rfl)) ⟨hX, fun k s _ h => h, _, rfl, slot_put _ (by rw [hsz]; decide)⟩
    | 9, ho, haft =>
      obtain rfl := Option.some.inj (show some _ = some o from ho)
      exact wp_of_value (u_ext1 a.eval WW _ _ _ _ _ _ _ _ (haft ⟨7, .data⟩ (by simp) rfl)) ⟨hX, fun k s _ h => h, _, rfl, slot_put _ (by rw [hsz]; decide)⟩
    | 10, ho, haft =>
      obtain rfl := Option.some.inj (show some _ = some o from ho)
      exact wp_of_value (u_al116 a.eval WW _ _ _ _ _) ⟨hX.alloc hle _, fun k s _ h => SR.below ((Below.refl _ _).alloc (Nat.le_refl _) _) k s h, _, rfl, WW.heap.size, _, slot_put _ (by rw [hsz]; decide), hle, rowIs_list WW [.int .i64 0, .int .i64 0, .int .i64 0, .int .i64 0] 67⟩
    | 11, ho, haft =>
      obtain rfl := Option.some.inj (show some _ = some o from ho)
      have q8 := haft ⟨8, .data⟩ (by simp) rfl
      obtain ⟨X, cc, q10, hX1, hX2⟩ := haft ⟨10, .data⟩ (by simp) rfl
      refine wp_of_skip (u_st116 a.eval WW _ _ _ _ _ _ _ X _ _ _ _ _ _ _ _ q10 q8 (hX2.cell (by omega)) (hX2.cell (by omega)) (hX2.cell (by omega)) (hX2.cell (by omega)) hX2.frozen) ?_
      have s0 := hX2.setCell 0 (.int .i64 v)
      have s1 := s0.setCell 1 (.int .i64 0)
      have s2 := s1.setCell 2 (.int .i64 0)
      have s3 := s2.setCell 3 (.int .i64 0)
      refine ⟨((((hX.setCell hX1 _).setCell hX1 _).setCell hX1 _).setCell hX1 _), fun k s hk hh => (SR.setCell _ _ _ k s hk (SR.setCell _ _ _ k s hk (SR.setCell _ _ _ k s hk (SR.setCell _ _ _ k s hk hh)))), undef, rfl, X, q10, s3.congr fun j hj => ?_⟩
      have : j = 0 ∨ j = 1 ∨ j = 2 ∨ j = 3 := by omega
      rcases this with rfl | rfl | rfl | rfl <;> rfl
    | 12, ho, haft =>
      obtain rfl := Option.some.inj (show some _ = some o from ho)
      exact wp_of_value (u_assign a.eval WW _ _ _ _ _ _ _ (haft ⟨9, .data⟩ (by simp) rfl)) ⟨hX, fun k s _ h => h, _, rfl, slot_put _ (by rw [hsz]; decide)⟩
    | n + 13, ho, haft => simp at ho
  case hend =>
    intro a wx hX hS hall
    obtain ⟨X_A, cc, q10', hX1, -⟩ := hall 10 (by simp)
    obtain ⟨X_A', q10, rX⟩ := hall 11 (by simp)
    have eX : X_A = X_A' := by rw [q10'] at q10; injection q10 with e; injection e with e; injection e
    subst eX
    have ha := same_patch [90, 91, 92, 93, 94, 95, 96, 89, 97, 98, 13, 14] hS (some_dst (by kernel_rfl))
    have z90 : a.tmps.getD 90 undef = _ := hall 0 (by simp)
    have z91 : a.tmps.getD 91 undef = _ := hall 1 (by simp)
    have z92 : a.tmps.getD 92 undef = _ := hall 2 (by simp)
    have z93 : a.tmps.getD 93 undef = _ := hall 3 (by simp)
    have z94 : a.tmps.getD 94 undef = _ := hall 4 (by simp)
    have z95 : a.tmps.getD 95 undef = _ := hall 5 (by simp)
    have z96 : a.tmps.getD 96 undef = _ := hall 6 (by simp)
    have z89 : a.tmps.getD 89 undef = _ := hall 7 (by simp)
    have z97 : a.tmps.getD 97 undef = _ := hall 8 (by simp)
    have z98 : a.tmps.getD 98 undef = _ := hall 9 (by simp)
    have z13 : a.tmps.getD 13 undef = _ := q10
    have z14 : a.tmps.getD 14 undef = _ := hall 12 (by simp)
    simp only [patch, List.foldl] at ha
    rw [z90, z91, z92, z93, z94, z95, z96, z89, z97, z98, z13, z14] at ha
    clear z90 z91 z92 z93 z94 z95 z96 z89 z97 z98 z13 z14 q10 q10' hall hS
    simp only [Act.put, List.setIfInBounds_toArray, List.set_cons_succ, List.set_cons_zero] at ha
    subst ha
    refine hK1 _ _ ?_
    clear hK1
    have h2 := h1.below hX
    have r2 := r1.below hX
    have b2 := b1.trans (hX.mono b1.size)
    have rA := rX
    clear h1 r1 b1 t0 rX hX hX1
    go_wp2_with fail
    rename_i K2 hK2
    refine wp_region_slots2 (P := Tryz.prog) _ follows_mixed' (by kernel_rfl) (fun wy => Below wx.heap.size wx wy) (SR s w.heap.size x 1 wx.heap.size 67 4 p c [.int .i64 v, .int .i64 0, .int .i64 0, .int .i64 0]) ?hloc ?hF ?hob ?hend
    case hF => exact (Below.refl _ _).drew
    case hloc =>
      intro k s s' wx hs hR
      match k, hs, hR with
      | 0, hs, hR => simp only [SR] at hR ⊢; rw [← hs _ rfl 0 (.inl rfl)]; exact hR
      | 1, hs, hR => simp only [SR] at hR ⊢; rw [← hs _ rfl 1 (.inl rfl)]; exact hR
      | 2, hs, hR => simp only [SR] at hR ⊢; rw [← hs _ rfl 2 (.inl rfl)]; exact hR
      | 3, hs, hR => simp only [SR] at hR ⊢; rw [← hs _ rfl 3 (.inl rfl)]; exact hR
      | 4, hs, hR => simp only [SR] at hR ⊢; rw [← hs _ rfl 4 (.inl rfl)]; exact hR
      | 5, hs, hR => simp only [SR] at hR ⊢; rw [← hs _ rfl 5 (.inl rfl)]; exact hR
      | 6, hs, hR => simp only [SR] at hR ⊢; rw [← hs _ rfl 6 (.inl rfl)]; exact hR
      | 7, hs, hR => simp only [SR] at hR ⊢; rw [← hs _ rfl 7 (.inl rfl)]; exact hR
      | 8, hs, hR => simp only [SR] at hR ⊢; rw [← hs _ rfl 8 (.inl rfl)]; exact hR
      | 9, hs, hR => simp only [SR] at hR ⊢; rw [← hs _ rfl 9 (.inl rfl)]; exact hR
      | 10, hs, hR => simp only [SR] at hR ⊢; rw [← hs _ rfl 10 (.inl rfl)]; exact hR
      | 11, hs, hR => simp only [SR] at hR ⊢; rw [← hs _ rfl 10 (.inr ⟨⟨10, .data⟩, by simp, rfl, rfl⟩)]; exact hR
      | 12, hs, hR => simp only [SR] at hR ⊢; rw [← hs _ rfl 12 (.inl rfl)]; exact hR
      | _ + 13, hs, hR => trivial
    case hob =>
      intro io o ho a WW hX hS haft
      have hsz : a.tmps.size = 174 := hS.size
      have e1 : a.eval (.tmp 1) = .pointer (some ⟨s, 0, none⟩) := hS.out 1 (no_dst (by kernel_rfl))
      have e5 : a.eval (.tmp 5) = .pointer (some ⟨w.heap.size, 0, none⟩) := hS.out 5 (no_dst (by kernel_rfl))
      have hsd := h2.below hX
      have gq := hsd.c1
      have dq : WW.cell? ⟨w.heap.size, 1, none⟩ = some (.int .i64 p) := (r2.below hX).cell (j := 1) (by simp)
      have hle : wx.heap.size ≤ WW.heap.size := hX.size
      match io, ho, haft with
      | 0, ho, haft =>
        obtain rfl := Option.some.inj (show some _ = some o from ho)
        exact wp_of_value (u_move a.eval WW _ _ _ _ _ _ _ e1) ⟨hX, fun k s _ h => h, _, rfl, slot_put _ (by rw [hsz]; decide)⟩
      | 1, ho, haft =>
        obtain rfl := Option.some.inj (show some _ = some o from ho)
        exact wp_of_value (u_nil a.eval WW s _ _ _ _ _ _ 0 (haft ⟨0, .data⟩ (by simp) rfl)) ⟨hX, fun k s _ h => h, _, rfl, slot_put _ (by rw [hsz]; decide)⟩
      | 2, ho, haft =>
        obtain rfl := Option.some.inj (show some _ = some o from ho)
        exact wp_of_value (u_f65_1 a.eval WW s _ _ _ _ _ _ (haft ⟨1, .data⟩ (by simp) rfl)) ⟨hX, fun k s _ h => h, _, rfl, slot_put _ (by rw [hsz]; decide)⟩
      | 3, ho, haft =>
        obtain rfl := Option.some.inj (show some _ = some o from ho)
        exact wp_of_value (u_l56 a.eval WW s _ _ _ _ _ _ 1 _ (haft ⟨2, .data⟩ (by simp) rfl) gq) ⟨hX, fun k s _ h => h, _, rfl, slot_put _ (by rw [hsz]; decide)⟩
      | 4, ho, haft =>
        obtain rfl := Option.some.inj (show some _ = some o from ho)
        exact wp_of_value (u_f68_1 a.eval WW w.heap.size _ _ _ _ _ _ e5) ⟨hX, fun k s _ h => h, _, rfl, slot_put _ (by rw [hsz]; decide)⟩
      | 5, ho, haft =>
        obtain rfl := Option.some.inj (show some _ = some o from ho)
        exact wp_of_value (u_l3 a.eval WW w.heap.size _ _ _ _ _ _ 1 _ (haft ⟨4, .data⟩ (by simp) rfl) dq) ⟨hX, fun k s _ h => h, _, rfl, slot_put _ (by rw [hsz]; decide)⟩
      | 6, ho, haft =>
        obtain rfl := Option.some.inj (show some _ = some o from ho)
        refine wp_of_enter (u_call32 WW _ _ _ _ _ _ _ a _ _ _ _ (haft ⟨3, .data⟩ (by simp) rfl) (haft ⟨5, .data⟩ (by simp) rfl)) (hx WW hsd.r) ?_
        rintro r w'' ⟨rfl, hb⟩
        exact ⟨_, rfl, hX.trans (hb.mono hle), fun k s _ h => SR.below hb k s h, _, rfl, slot_put _ (by rw [hsz]; decide)⟩
      | 7, ho, haft =>
        obtain rfl := Option.some.inj (show some _ = some o from ho)
        exact wp_of_value (u_move a.eval WW _ _ _ _ _ _ _ (haft ⟨6, .data⟩ (by simp) rfl)) ⟨hX, fun k s _ h => h, _, rfl, slot_put _ (by rw [hsz]; decide)⟩
      | 8, ho, haft =>
        obtain rfl := Option.some.inj (show some _ = some o from ho)
        exact wp_of_value (u_ext0 a.eval WW _ _ _ _ _ _ _ _ (haft ⟨7, .data⟩ (by simp) rfl)) ⟨hX, fun k s _ h => h, _, rfl, slot_put _ (by rw [hsz]; decide)⟩
      | 9, ho, haft =>
        obtain rfl := Option.some.inj (show some _ = some o from ho)
        exact wp_of_value (u_ext1 a.eval WW _ _ _ _ _ _ _ _ (haft ⟨7, .data⟩ (by simp) rfl)) ⟨hX, fun k s _ h => h, _, rfl, slot_put _ (by rw [hsz]; decide)⟩
      | 10, ho, haft =>
        obtain rfl := Option.some.inj (show some _ = some o from ho)
        exact wp_of_value (u_al116 a.eval WW _ _ _ _ _) ⟨hX.alloc hle _, fun k s _ h => SR.below ((Below.refl _ _).alloc (Nat.le_refl _) _) k s h, _, rfl, WW.heap.size, _, slot_put _ (by rw [hsz]; decide), hle, rowIs_list WW [.int .i64 0, .int .i64 0, .int .i64 0, .int .i64 0] 67⟩
      | 11, ho, haft =>
        obtain rfl := Option.some.inj (show some _ = some o from ho)
        have q8 := haft ⟨8, .data⟩ (by simp) rfl
        obtain ⟨X, cc, q10, hX1, hX2⟩ := haft ⟨10, .data⟩ (by simp) rfl
        refine wp_of_skip (u_st116 a.eval WW _ _ _ _ _ _ _ X _ _ _ _ _ _ _ _ q10 q8 (hX2.cell (by omega)) (hX2.cell (by omega)) (hX2.cell (by omega)) (hX2.cell (by omega)) hX2.frozen) ?_
        have s0 := hX2.setCell 0 (.int .i64 v)
        have s1 := s0.setCell 1 (.int .i64 0)
        have s2 := s1.setCell 2 (.int .i64 0)
        have s3 := s2.setCell 3 (.int .i64 0)
        refine ⟨((((hX.setCell hX1 _).setCell hX1 _).setCell hX1 _).setCell hX1 _), fun k s hk hh => (SR.setCell _ _ _ k s hk (SR.setCell _ _ _ k s hk (SR.setCell _ _ _ k s hk (SR.setCell _ _ _ k s hk hh)))), undef, rfl, X, q10, s3.congr fun j hj => ?_⟩
        have : j = 0 ∨ j = 1 ∨ j = 2 ∨ j = 3 := by omega
        rcases this with rfl | rfl | rfl | rfl <;> rfl
      | 12, ho, haft =>
        obtain rfl := Option.some.inj (show some _ = some o from ho)
        exact wp_of_value (u_assign a.eval WW _ _ _ _ _ _ _ (haft ⟨9, .data⟩ (by simp) rfl)) ⟨hX, fun k s _ h => h, _, rfl, slot_put _ (by rw [hsz]; decide)⟩
      | n + 13, ho, haft => simp at ho
    case hend =>
      intro a wz hX hS hall
      obtain ⟨X, cc, q10', hX1, -⟩ := hall 10 (by simp)
      obtain ⟨X', q10, rX⟩ := hall 11 (by simp)
      have eX : X = X' := by rw [q10'] at q10; injection q10 with e; injection e with e; injection e
      subst eX
      have ha := same_patch [100, 101, 102, 103, 104, 105, 106, 99, 107, 108, 15, 16] hS (some_dst (by kernel_rfl))
      have z100 : a.tmps.getD 100 undef = _ := hall 0 (by simp)
      have z101 : a.tmps.getD 101 undef = _ := hall 1 (by simp)
      have z102 : a.tmps.getD 102 undef = _ := hall 2 (by simp)
      have z103 : a.tmps.getD 103 undef = _ := hall 3 (by simp)
      have z104 : a.tmps.getD 104 undef = _ := hall 4 (by simp)
      have z105 : a.tmps.getD 105 undef = _ := hall 5 (by simp)
      have z106 : a.tmps.getD 106 undef = _ := hall 6 (by simp)
      have z99 : a.tmps.getD 99 undef = _ := hall 7 (by simp)
      have z107 : a.tmps.getD 107 undef = _ := hall 8 (by simp)
      have z108 : a.tmps.getD 108 undef = _ := hall 9 (by simp)
      have z15 : a.tmps.getD 15 undef = _ := q10
      have z16 : a.tmps.getD 16 undef = _ := hall 12 (by simp)
      simp only [patch, List.foldl] at ha
      rw [z100, z101, z102, z103, z104, z105, z106, z99, z107, z108, z15, z16] at ha
      clear z100 z101 z102 z103 z104 z105 z106 z99 z107 z108 z15 z16 q10 q10' hall hS
      simp only [Act.put, List.setIfInBounds_toArray, List.set_cons_succ, List.set_cons_zero] at ha
      subst ha
      refine hK2 _ _ ?_
      clear hK2
      have rA' := rA.below hX
      have b3 := b2.trans (hX.mono b2.size)
      have y0 : wz.cell? ⟨X_A, 0, none⟩ = some (.int .i64 v) := rA'.cell (j := 0) (by omega)
      have y1 : wz.cell? ⟨X_A, 1, none⟩ = some (.int .i64 0) := rA'.cell (j := 1) (by omega)
      have y2 : wz.cell? ⟨X_A, 2, none⟩ = some (.int .i64 0) := rA'.cell (j := 2) (by omega)
      have y3 : wz.cell? ⟨X_A, 3, none⟩ = some (.int .i64 0) := rA'.cell (j := 3) (by omega)
      have v0 : wz.cell? ⟨X, 0, none⟩ = some (.int .i64 v) := rX.cell (j := 0) (by omega)
      have v1 : wz.cell? ⟨X, 1, none⟩ = some (.int .i64 0) := rX.cell (j := 1) (by omega)
      have v2 : wz.cell? ⟨X, 2, none⟩ = some (.int .i64 0) := rX.cell (j := 2) (by omega)
      have v3 : wz.cell? ⟨X, 3, none⟩ = some (.int .i64 0) := rX.cell (j := 3) (by omega)
      clear rA rA' rX hX h2 r2 b2 he hx hX1
      go_wp2_with fail
      go_ret
      exact ⟨rfl, b3⟩

theorem step_look (p : Int) (hG : Good D) (h : IsSide w s e x D vB vL vB' vL' K M hs vl) :
    Calls Tryz.prog 31 #[.pointer (some ⟨W, 0, none⟩), .pointer (some ⟨s, 0, none⟩), .agg #[.int .i64 4, .int .i64 p, .int .i64 0, .int .i64 0, .bool false]] w fun r w' => r = .returned (.bool true) ∧ Below w.heap.size w w' :=
  step_look_v W s e x D vB vL vB' vL' K M hs vl w p _ _ (fun w h => elook_v e D vB vL K M hs vl w p _ _ rfl rfl h) (fun w h => rlook_v x D vB' vL' hs vl w p _ _ hG rfl rfl h) h
end
end Go.Proofs.YtldeiiffabfmeaaGreatDoor
