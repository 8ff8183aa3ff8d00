/- The contracts of the document's Look and Table. -/
import Derived.Test.YtogegigepgnbdaaK
set_option linter.unusedVariables false
set_option linter.unusedSimpArgs false
namespace Go.Proofs.Ytogegigepgnbdaa
open Go.RowKit

def ifB (b : Bool) (n : Int) : Int := if b then n else 0
theorem ifB_true {b : Bool} {n : Int} (h : b = true) : ifB b n = n := by rw [h]; rfl
theorem ifB_false {b : Bool} {n : Int} (h : b = false) : ifB b n = 0 := by rw [h]; rfl

section
variable (x : Nat) (D : EngD) (vB vL : Value) (hs : Nat → Nat → Bool) (vl : Nat → Nat → Int) (w : World)

set_option maxHeartbeats 2000000 in
theorem rlook_any (p : Int) (h : IsRef w x D vB vL hs vl) :
    Calls Try.prog 32 #[.pointer (some ⟨x, 0, none⟩), .int .i64 p] w fun e w' => e = .returned (.tuple #[.agg #[.int .i64 (ifB (withinB p 0 D.nb) (rnextOf D p : Nat)), .int .i64 0, .int .i64 0, .int .i64 0], .int .i64 (okOr (withinB p 0 D.nb) 4)]) ∧ Below w.heap.size w w' := by
  have hlx := h.lt
  have hnl := h.nl
  have hb0 : Below w.heap.size w (w.alloc (.cells #[.int .i64 0, .int .i64 0, .int .i64 0, .int .i64 0] 116)) := (Below.refl _ _).alloc (Nat.le_refl _) _
  have h1 := h.below hb0
  obtain ⟨a, cap, rfl, hn, -⟩ := id h.l
  cases q1 : withinB p 0 D.nb with
  | false =>
    go_enter Try.func32, Try.ntmps32
    go_wp2_with fail
    refine (there_any _ D vB _ hs vl _ _ h1).mono ?_; rintro e w' ⟨rfl, rfl⟩
    go_wp2_with fail
    refine bodyPost_ret (v := .tuple #[.agg #[.int .i64 0, .int .i64 0, .int .i64 0, .int .i64 0], .int .i64 4]) (by simp [results, Try.results32, go_sem]) rfl ⟨rfl, ?_⟩
    exact hb0
  | true =>
    have q1' := q1
    simp only [withinB, Bool.and_eq_true, decide_eq_true_eq] at q1'
    obtain ⟨p, rfl⟩ : ∃ p' : Nat, p = p' := ⟨p.toNat, by omega⟩
    have hp : p ≤ D.nb := by omega
    have Q1 : Hid (_ = _) := q1
    go_enter Try.func32, Try.ntmps32
    go_wp2_with fail
    refine (there_any _ D vB _ hs vl _ _ h1).mono ?_; rintro e w' ⟨rfl, rfl⟩
    go_wp2_with fail
    refine (rnext_any _ D vB _ hs vl _ p hp h1).mono ?_; rintro e w2 ⟨rfl, hb2⟩
    have h2 := h1.below hb2
    go_wp2_with fail
    refine (ropens_any _ D vB _ hs vl _ p hp h2).mono ?_; rintro e w' ⟨rfl, rfl⟩
    have z2 : w.heap.size + 1 ≤ w'.heap.size := by have := hb2.size; simpa using this
    obtain ⟨hc, hf⟩ := bcell hb2
    have d0 : w'.cell? ⟨w.heap.size, 0, none⟩ = some (.int .i64 0) := by rw [hc _ _ (by simp)]; simp
    have d1 : w'.cell? ⟨w.heap.size, 1, none⟩ = some (.int .i64 0) := by rw [hc _ _ (by simp)]; simp
    have d2 : w'.cell? ⟨w.heap.size, 2, none⟩ = some (.int .i64 0) := by rw [hc _ _ (by simp)]; simp
    have d3 : w'.cell? ⟨w.heap.size, 3, none⟩ = some (.int .i64 0) := by rw [hc _ _ (by simp)]; simp
    have f0 : ∀ o, w'.frozen? ⟨w.heap.size, o, none⟩ = false := fun o => by rw [hf _ _ (by simp)]; simp
    have hbw : Below w.heap.size w w' := hb0.trans (hb2.mono (by simp))
    clear hc hf
    generalize hN : (rnextOf D p : Int) = N
    have HN : Hid (_ = _) := hN
    clear hN
    go_wp2_with fail
    go_loop [8] (fun i => ∃ k : Nat, k ≤ D.nl ∧ i = .int .i64 k) (fun i => D.nl - (intOf i).toNat)
    case atStart => exact ⟨0, Nat.zero_le _, rfl⟩
    case round =>
      obtain ⟨k, hk, rfl⟩ := hrel
      have h3 := h2.below ((Below.refl _ _).alloc (Nat.le_refl _) (.cells #[.int .i64 N, .int .i64 0, .int .i64 0, .int .i64 0] 116))
      have c5 := h3.c5
      by_cases hkn : k < D.nl
      · go_wp2_with (go_at_call 62; refine (ropen_any _ D vB _ hs vl _ k p hkn hp h3).mono ?_; rintro e w' ⟨rfl, rfl⟩)
        go_round
        case rel => exact ⟨k + 1, by omega, by go_num⟩
        case measure => simp [intOf]; omega
      · have gc : ∀ o, (w'.alloc (.cells #[.int .i64 N, .int .i64 0, .int .i64 0, .int .i64 0] 116)).cell? ⟨w.heap.size, o, none⟩ = w'.cell? ⟨w.heap.size, o, none⟩ := fun o => World.cell?_alloc_lt _ _ _ (by exact z2)
        have gf : ∀ o, (w'.alloc (.cells #[.int .i64 N, .int .i64 0, .int .i64 0, .int .i64 0] 116)).frozen? ⟨w.heap.size, o, none⟩ = false := fun o => by
          rw [World.frozen?_alloc_old _ _ _ (by simp; omega)]; exact f0 o
        have e0 := (gc 0).trans d0
        have e1 := (gc 1).trans d1
        have e2 := (gc 2).trans d2
        have e3 := (gc 3).trans d3
        clear gc
        go_wp2_with fail
        refine bodyPost_ret (v := .tuple #[.agg #[.int .i64 N, .int .i64 0, .int .i64 0, .int .i64 0], .int .i64 0]) (by simp [results, Try.results32, go_sem, e0, e1, e2, e3]) rfl ⟨by rw [okOr_true rfl, ifB_true rfl, HN.out], ?_⟩
        exact ((((hbw.alloc (by omega) _).setCell (Nat.le_refl _) _).setCell (Nat.le_refl _) _).setCell (Nat.le_refl _) _).setCell (Nat.le_refl _) _
end
end Go.Proofs.Ytogegigepgnbdaa
