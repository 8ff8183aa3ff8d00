/- The contracts of the document's Look and Table. -/
import Derived.Test.YtldeiiffabfmeaaGreatDoorK
set_option linter.unusedVariables false
set_option linter.unusedSimpArgs false
namespace Go.Proofs.YtldeiiffabfmeaaGreatDoor
open Go.RowKit

def ifB (b : Bool) (n : Int) : Int := if b then n else 0
theorem ifB_true {b : Bool} {n : Int} (h : b = true) : ifB b n = n := by rw [h]; rfl
theorem ifB_false {b : Bool} {n : Int} (h : b = false) : ifB b n = 0 := by rw [h]; rfl

section
variable (x : Nat) (D : EngD) (vB vL : Value) (hs : Nat → Nat → Bool) (vl : Nat → Nat → Int) (w : World)

set_option maxHeartbeats 2000000 in
theorem rlook_any (p : Int) (h : IsRef w x D vB vL hs vl) :
    Calls Tryz.prog 58 #[.pointer (some ⟨x, 0, none⟩), .int .i64 p] w fun e w' => e = .returned (.tuple #[.agg #[.int .i64 (ifB (withinB p 0 D.nb) (rnextOf D p : Nat)), .int .i64 0, .int .i64 0, .int .i64 0], .int .i64 (okOr (withinB p 0 D.nb) 4)]) ∧ Below w.heap.size w w' := by
  have hlx := h.lt
  have hnl := h.nl
  have hb0 : Below w.heap.size w (w.alloc (.cells #[.int .i64 0, .int .i64 0, .int .i64 0, .int .i64 0] 67)) := (Below.refl _ _).alloc (Nat.le_refl _) _
  have h1 := h.below hb0
  obtain ⟨a, cap, rfl, hn, -⟩ := id h.l
  cases q1 : withinB p 0 D.nb with
  | false =>
    go_enter Tryz.func58, Tryz.ntmps58
    go_wp2_with fail
    refine (there_any _ D vB _ hs vl _ _ h1).mono ?_; rintro e w' ⟨rfl, rfl⟩
    go_wp2_with fail
    refine bodyPost_ret (v := .tuple #[.agg #[.int .i64 0, .int .i64 0, .int .i64 0, .int .i64 0], .int .i64 4]) (by simp [results, Tryz.results58, go_sem]) rfl ⟨rfl, ?_⟩
    exact hb0
  | true =>
    have q1' := q1
    simp only [withinB, Bool.and_eq_true, decide_eq_true_eq] at q1'
    obtain ⟨p, rfl⟩ : ∃ p' : Nat, p = p' := ⟨p.toNat, by omega⟩
    have hp : p ≤ D.nb := by omega
    have Q1 : Hid (_ = _) := q1
    go_enter Tryz.func58, Tryz.ntmps58
    go_wp2_with fail
    refine (there_any _ D vB _ hs vl _ _ h1).mono ?_; rintro e w' ⟨rfl, rfl⟩
    go_wp2_with fail
    refine (rnext_any _ D vB _ hs vl _ p hp h1).mono ?_; rintro e w2 ⟨rfl, hb2⟩
    have h2 := h1.below hb2
    go_wp2_with fail
    refine (ropens_any _ D vB _ hs vl _ p hp h2).mono ?_; rintro e w' ⟨rfl, rfl⟩
    have z2 : w.heap.size + 1 ≤ w'.heap.size := by have := hb2.size; simpa using this
    obtain ⟨hc, hf⟩ := bcell hb2
    have d0 : w'.cell? ⟨w.heap.size, 0, none⟩ = some (.int .i64 0) := by rw [hc _ _ (by simp)]; simp
    have d1 : w'.cell? ⟨w.heap.size, 1, none⟩ = some (.int .i64 0) := by rw [hc _ _ (by simp)]; simp
    have d2 : w'.cell? ⟨w.heap.size, 2, none⟩ = some (.int .i64 0) := by rw [hc _ _ (by simp)]; simp
    have d3 : w'.cell? ⟨w.heap.size, 3, none⟩ = some (.int .i64 0) := by rw [hc _ _ (by simp)]; simp
    have f0 : ∀ o, w'.frozen? ⟨w.heap.size, o, none⟩ = false := fun o => by rw [hf _ _ (by simp)]; simp
    have hbw : Below w.heap.size w w' := hb0.trans (hb2.mono (by simp))
    clear hc hf
    generalize hN : (rnextOf D p : Int) = N
    have HN : Hid (_ = _) := hN
    clear hN
    go_wp2_with fail
    go_loop [8] (fun i => ∃ k : Nat, k ≤ D.nl ∧ i = .int .i64 k) (fun i => D.nl - (intOf i).toNat)
    case atStart => exact ⟨0, Nat.zero_le _, rfl⟩
    case round =>
      obtain ⟨k, hk, rfl⟩ := hrel
      have h3 := h2.below ((Below.refl _ _).alloc (Nat.le_refl _) (.cells #[.int .i64 N, .int .i64 0, .int .i64 0, .int .i64 0] 67))
      have c5 := h3.c5
      by_cases hkn : k < D.nl
      · go_wp2_with (go_at_call 98; refine (ropen_any _ D vB _ hs vl _ k p hkn hp h3).mono ?_; rintro e w' ⟨rfl, rfl⟩)
        go_round
        case rel => exact ⟨k + 1, by omega, by go_num⟩
        case measure => simp [intOf]; omega
      · have gc : ∀ o, (w'.alloc (.cells #[.int .i64 N, .int .i64 0, .int .i64 0, .int .i64 0] 67)).cell? ⟨w.heap.size, o, none⟩ = w'.cell? ⟨w.heap.size, o, none⟩ := fun o => World.cell?_alloc_lt _ _ _ (by exact z2)
        have gf : ∀ o, (w'.alloc (.cells #[.int .i64 N, .int .i64 0, .int .i64 0, .int .i64 0] 67)).frozen? ⟨w.heap.size, o, none⟩ = false := fun o => by
          rw [World.frozen?_alloc_old _ _ _ (by simp; omega)]; exact f0 o
        have e0 := (gc 0).trans d0
        have e1 := (gc 1).trans d1
        have e2 := (gc 2).trans d2
        have e3 := (gc 3).trans d3
        clear gc
        go_wp2_with fail
        refine bodyPost_ret (v := .tuple #[.agg #[.int .i64 N, .int .i64 0, .int .i64 0, .int .i64 0], .int .i64 0]) (by simp [results, Tryz.results58, go_sem, e0, e1, e2, e3]) rfl ⟨by rw [okOr_true rfl, ifB_true rfl, HN.out], ?_⟩
        exact ((((hbw.alloc (by omega) _).setCell (Nat.le_refl _) _).setCell (Nat.le_refl _) _).setCell (Nat.le_refl _) _).setCell (Nat.le_refl _) _
end
end Go.Proofs.YtldeiiffabfmeaaGreatDoor
/- The contract of the document's Table. -/
namespace Go.Proofs.YtldeiiffabfmeaaGreatDoor
open Go.RowKit

theorem Tryz.info81 : (Tryz.prog.info? 81).map (fun i => (i.zero, i.size, i.bytes)) = some (some (.agg #[.int .i64 0, .int .i64 0]), 2, 16) := by kernel_rfl

/-- The cells of a table's pairs, of the keys below k. -/
def tabL (hs : Nat → Bool) (vl : Nat → Int) : Nat → List Value
  | 0 => []
  | k + 1 => tabL hs vl k ++ (if hs k then [.int .i64 k, .int .i64 (vl k)] else [])
theorem tabL_yes {hs : Nat → Bool} {vl : Nat → Int} {k : Nat} (h : hs k = true) : tabL hs vl (k + 1) = tabL hs vl k ++ [.int .i64 k, .int .i64 (vl k)] := by simp [tabL, h]
theorem tabL_no {hs : Nat → Bool} {vl : Nat → Int} {k : Nat} (h : hs k = false) : tabL hs vl (k + 1) = tabL hs vl k := by simp [tabL, h]

section
variable (x : Nat) (D : EngD) (vB vL : Value) (hs : Nat → Nat → Bool) (vl : Nat → Nat → Int) (w : World)

theorem rtable_no (p : Int) (h : IsRef w x D vB vL hs vl) (q1 : withinB p 0 D.nb = false) :
    Calls Tryz.prog 94 #[.pointer (some ⟨x, 0, none⟩), .int .i64 p] w fun e w' => e = .returned (.tuple #[.slice none 0 0, .int .i64 4]) ∧ w' = w := by
  go_enter Tryz.func94, Tryz.ntmps94
  go_wp2_with (go_at_call 87; refine (there_any _ D vB vL hs vl _ _ h).mono ?_; rintro e w' ⟨rfl, rfl⟩)
  go_ret2
  exact ⟨rfl, rfl⟩

set_option maxRecDepth 20000 in
set_option maxHeartbeats 2000000 in
theorem rtable_any (p : Nat) (hp : p ≤ D.nb) (h : IsRef w x D vB vL hs vl) :
    Calls Tryz.prog 94 #[.pointer (some ⟨x, 0, none⟩), .int .i64 p] w fun e w' => ∃ v, e = .returned (.tuple #[v, .int .i64 0]) ∧ w'.ownsRow w.heap.size 81 2 v (cntB (hs p) 100) (tabL (hs p) (vl p) 100) ∧ Below w.heap.size w w' := by
  obtain ⟨i0, hi, hz0, hz1, hz2⟩ := info_parts Tryz.info81
  have hlx := h.lt
  have hp4 : p < 4 := by have := h.nb; omega
  have q1 : withinB (p : Int) 0 D.nb = true := by simp [withinB]; omega
  go_enter Tryz.func94, Tryz.ntmps94
  go_wp2_with (go_at_call 87; refine (there_any _ D vB vL hs vl _ _ h).mono ?_; rintro e w' ⟨rfl, rfl⟩)
  go_loopw [7, 8] (fun v i wr => ∃ k : Nat, k ≤ 100 ∧ i = .int .i64 k ∧ wr.ownsRow w'.heap.size 81 2 v (cntB (hs p) k) (tabL (hs p) (vl p) k) ∧ Below w'.heap.size w' wr) (fun _ i _ => 100 - (intOf i).toNat)
  case atStart => exact ⟨0, Nat.zero_le _, rfl, World.ownsRow_nil _ _ _ _, Below.refl _ _⟩
  case round =>
    obtain ⟨k, hk, rfl, hown, hbl⟩ := hrel
    have hR := h.below hbl
    have hle := cntB_le (hs p) k
    have hsz := hbl.size
    by_cases hlt : k < 100
    · have t1 := hR.t1 p k hp4 hlt
      have t2 := hR.t2 p k hp4 hlt
      cases hq : hs p k with
      | false =>
        have T1 : Hid (_ = _) := tabL_no (vl := vl p) hq
        have T2 : Hid (_ = _) := cntB_no hq
        rw [hq] at t1
        go_wp2_with fail
        go_roundw
        case rel => exact ⟨k + 1, by omega, by go_num, by rw [T1.out, T2.out]; exact hown, hbl⟩
        case measure => simp [intOf]; omega
      | true =>
        have T1 : Hid (_ = _) := tabL_yes (vl := vl p) hq
        have T2 : Hid (_ = _) := cntB_yes hq
        rw [hq] at t1
        go_wp2_with (at_builtin; refine wpList_append_own _ rfl _ _ 26 rfl w'.heap.size 81 i0 (.agg #[.int .i64 0, .int .i64 0]) 2 16 Tryz.underlying26 hi hz0 hz1 hz2 rfl (by decide) _ _ _ rfl (hown.alloc _) ⟨wr.heap.size, 0, none⟩ 1 1 [.int .i64 k, .int .i64 (vl p k)] rfl rfl ?c1 ?c2 ?c3 ?c4 ?c5 ?_)
        case c1 =>
          intro j u hj
          match j, hj with
          | 0, hj => simp at hj; subst hj; simp [Addr.add]
          | 1, hj => simp at hj; subst hj; simp [Addr.add]
        case c2 => intro u hu; simp at hu; rcases hu with rfl | rfl <;> rfl
        case c3 => unfold maxLen; omega
        case c4 => omega
        case c5 => simp; omega
        intro v' w1 hown' hgrow _
        have hbl1 : Below w'.heap.size w' w1 := (hbl.alloc hsz _).grown hgrow (by simp; omega) (fun b hb => (hown.lt b hb).1)
        clear hgrow hown t1 t2 hR
        go_wp2_with fail
        go_roundw
        case rel => exact ⟨k + 1, by omega, by go_num, by rw [T1.out, T2.out]; exact hown', hbl1⟩
        case measure => simp [intOf]; omega
    · have hk100 : k = 100 := by omega
      subst hk100
      go_wp2_with fail
      go_ret2
      exact ⟨_, rfl, hown, hbl⟩
end
end Go.Proofs.YtldeiiffabfmeaaGreatDoor
