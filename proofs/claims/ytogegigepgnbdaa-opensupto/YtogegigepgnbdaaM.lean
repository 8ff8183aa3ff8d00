/- The contract of the document's Table. -/
import Derived.Test.YtogegigepgnbdaaL
set_option linter.unusedVariables false
set_option linter.unusedSimpArgs false
namespace Go.Proofs.Ytogegigepgnbdaa
open Go.RowKit

theorem Try.info62 : (Try.prog.info? 62).map (fun i => (i.zero, i.size, i.bytes)) = some (some (.agg #[.int .i64 0, .int .i64 0]), 2, 16) := by kernel_rfl

/-- The cells of a table's pairs, of the keys below k. -/
def tabL (hs : Nat → Bool) (vl : Nat → Int) : Nat → List Value
  | 0 => []
  | k + 1 => tabL hs vl k ++ (if hs k then [.int .i64 k, .int .i64 (vl k)] else [])
theorem tabL_yes {hs : Nat → Bool} {vl : Nat → Int} {k : Nat} (h : hs k = true) : tabL hs vl (k + 1) = tabL hs vl k ++ [.int .i64 k, .int .i64 (vl k)] := by simp [tabL, h]
theorem tabL_no {hs : Nat → Bool} {vl : Nat → Int} {k : Nat} (h : hs k = false) : tabL hs vl (k + 1) = tabL hs vl k := by simp [tabL, h]

section
variable (x : Nat) (D : EngD) (vB vL : Value) (hs : Nat → Nat → Bool) (vl : Nat → Nat → Int) (w : World)

theorem rtable_no (p : Int) (h : IsRef w x D vB vL hs vl) (q1 : withinB p 0 D.nb = false) :
    Calls Try.prog 56 #[.pointer (some ⟨x, 0, none⟩), .int .i64 p] w fun e w' => e = .returned (.tuple #[.slice none 0 0, .int .i64 4]) ∧ w' = w := by
  go_enter Try.func56, Try.ntmps56
  go_wp2_with (go_at_call 48; refine (there_any _ D vB vL hs vl _ _ h).mono ?_; rintro e w' ⟨rfl, rfl⟩)
  go_ret2
  exact ⟨rfl, rfl⟩

set_option maxRecDepth 20000 in
set_option maxHeartbeats 2000000 in
theorem rtable_any (p : Nat) (hp : p ≤ D.nb) (h : IsRef w x D vB vL hs vl) :
    Calls Try.prog 56 #[.pointer (some ⟨x, 0, none⟩), .int .i64 p] w fun e w' => ∃ v, e = .returned (.tuple #[v, .int .i64 0]) ∧ w'.ownsRow w.heap.size 62 2 v (cntB (hs p) 100) (tabL (hs p) (vl p) 100) ∧ Below w.heap.size w w' := by
  obtain ⟨i0, hi, hz0, hz1, hz2⟩ := info_parts Try.info62
  have hlx := h.lt
  have hp4 : p < 4 := by have := h.nb; omega
  have q1 : withinB (p : Int) 0 D.nb = true := by simp [withinB]; omega
  go_enter Try.func56, Try.ntmps56
  go_wp2_with (go_at_call 48; refine (there_any _ D vB vL hs vl _ _ h).mono ?_; rintro e w' ⟨rfl, rfl⟩)
  go_loopw [7, 8] (fun v i wr => ∃ k : Nat, k ≤ 100 ∧ i = .int .i64 k ∧ wr.ownsRow w'.heap.size 62 2 v (cntB (hs p) k) (tabL (hs p) (vl p) k) ∧ Below w'.heap.size w' wr) (fun _ i _ => 100 - (intOf i).toNat)
  case atStart => exact ⟨0, Nat.zero_le _, rfl, World.ownsRow_nil _ _ _ _, Below.refl _ _⟩
  case round =>
    obtain ⟨k, hk, rfl, hown, hbl⟩ := hrel
    have hR := h.below hbl
    have hle := cntB_le (hs p) k
    have hsz := hbl.size
    by_cases hlt : k < 100
    · have t1 := hR.t1 p k hp4 hlt
      have t2 := hR.t2 p k hp4 hlt
      cases hq : hs p k with
      | false =>
        have T1 : Hid (_ = _) := tabL_no (vl := vl p) hq
        have T2 : Hid (_ = _) := cntB_no hq
        rw [hq] at t1
        go_wp2_with fail
        go_roundw
        case rel => exact ⟨k + 1, by omega, by go_num, by rw [T1.out, T2.out]; exact hown, hbl⟩
        case measure => simp [intOf]; omega
      | true =>
        have T1 : Hid (_ = _) := tabL_yes (vl := vl p) hq
        have T2 : Hid (_ = _) := cntB_yes hq
        rw [hq] at t1
        go_wp2_with (at_builtin; refine wpList_append_own _ rfl _ _ 26 rfl w'.heap.size 62 i0 (.agg #[.int .i64 0, .int .i64 0]) 2 16 Try.underlying26 hi hz0 hz1 hz2 rfl (by decide) _ _ _ rfl (hown.alloc _) ⟨wr.heap.size, 0, none⟩ 1 1 [.int .i64 k, .int .i64 (vl p k)] rfl rfl ?c1 ?c2 ?c3 ?c4 ?c5 ?_)
        case c1 =>
          intro j u hj
          match j, hj with
          | 0, hj => simp at hj; subst hj; simp [Addr.add]
          | 1, hj => simp at hj; subst hj; simp [Addr.add]
        case c2 => intro u hu; simp at hu; rcases hu with rfl | rfl <;> rfl
        case c3 => unfold maxLen; omega
        case c4 => omega
        case c5 => simp; omega
        intro v' w1 hown' hgrow _
        have hbl1 : Below w'.heap.size w' w1 := (hbl.alloc hsz _).grown hgrow (by simp; omega) (fun b hb => (hown.lt b hb).1)
        clear hgrow hown t1 t2 hR
        go_wp2_with fail
        go_roundw
        case rel => exact ⟨k + 1, by omega, by go_num, by rw [T1.out, T2.out]; exact hown', hbl1⟩
        case measure => simp [intOf]; omega
    · have hk100 : k = 100 := by omega
      subst hk100
      go_wp2_with fail
      go_ret2
      exact ⟨_, rfl, hown, hbl⟩
end
end Go.Proofs.Ytogegigepgnbdaa
