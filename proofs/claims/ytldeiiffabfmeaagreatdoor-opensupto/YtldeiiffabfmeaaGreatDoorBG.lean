/- Opens: for every configuration, log and start of at most 250,000 transactions and lists of at most 1,048,576 values each, the call answers true and leaves all that was there as it was. -/
import Derived.Test.YtldeiiffabfmeaaGreatDoorBA
import Derived.Test.YtldeiiffabfmeaaGreatDoorATJ
set_option linter.unusedVariables false
set_option linter.unusedSimpArgs false
namespace Go.Proofs.YtldeiiffabfmeaaGreatDoor
open Go.RowKit

theorem RdL.all {w : World} {v : Value} {n : Nat} {ts : Nat → TxnD} (h : RdL w v n ts) : RdLS (fun b => b < w.heap.size) w v n ts := by
  obtain ⟨a, cap, rfl, hn, hh⟩ := h
  refine ⟨a, cap, rfl, hn, fun h0 => ?_⟩
  obtain ⟨b, off, rfl, hlt, vs, hcell, hr⟩ := hh h0
  exact ⟨b, off, rfl, hlt, hlt, vs, hcell, fun i hi => (hr i hi).all⟩

set_option maxRecDepth 20000 in
set_option maxHeartbeats 4000000 in
theorem opens_law (nb nl ns : Nat) (fb fs : Nat → Int) (ts : Nat → TxnD) (a b c : Int) (vB vL vS : Value) (w : World)
    (hB : RdI w vB 1 nb fb) (hL : RdL w vL nl ts) (hS : RdI w vS 2 ns fs) (snb : nb ≤ 1048576) (snl : nl ≤ 250000) (sns : ns ≤ 1048576) (sm : ∀ i, i < nl → Small (ts i)) (hwf : ∀ j, j < ns → (Lit.int .i64 (fs (2 * j + 1))).wf = true) :
    Calls Tryz.prog 3 #[.agg #[vB, .int .i64 a, .int .i64 b, .int .i64 c, vL, vS]] w fun r w' => r = .returned (.bool true) ∧ Below w.heap.size w w' := by
  obtain ⟨aB, pB, rfl, -, -⟩ := id hB
  obtain ⟨aL, pL, rfl, -, -⟩ := id hL
  obtain ⟨aS, pS, rfl, -, -⟩ := id hS
  go_enter Tryz.func3, Tryz.ntmps3
  go_wp2_with fail
  have b1 : Below w.heap.size w ((w.alloc (.cells #[.slice aB nb pB, .int .i64 a, .int .i64 b, .int .i64 c, .slice aL nl pL, .slice aS ns pS] 28)).alloc (.cells #[.slice none 0 0, .slice none 0 0, .slice none 0 0, .slice none 0 0, .slice none 0 0, .slice none 0 0, .slice none 0 0, .slice none 0 0, .int .i64 0] 37)) := ((Below.refl _ _).alloc (Nat.le_refl _) _).alloc (by simp) _
  have rW : RowIs ((w.alloc (.cells #[.slice aB nb pB, .int .i64 a, .int .i64 b, .int .i64 c, .slice aL nl pL, .slice aS ns pS] 28)).alloc (.cells #[.slice none 0 0, .slice none 0 0, .slice none 0 0, .slice none 0 0, .slice none 0 0, .slice none 0 0, .slice none 0 0, .slice none 0 0, .int .i64 0] 37)) (w.heap.size + 1) 37 9 (lc nil9) := by
    have := rowIs_list (w.alloc (.cells #[.slice aB nb pB, .int .i64 a, .int .i64 b, .int .i64 c, .slice aL nl pL, .slice aS ns pS] 28)) nil9 37
    rw [World.size_alloc] at this
    exact this
  generalize ((w.alloc (.cells #[.slice aB nb pB, .int .i64 a, .int .i64 b, .int .i64 c, .slice aL nl pL, .slice aS ns pS] 28)).alloc (.cells #[.slice none 0 0, .slice none 0 0, .slice none 0 0, .slice none 0 0, .slice none 0 0, .slice none 0 0, .slice none 0 0, .slice none 0 0, .int .i64 0] 37)) = w1 at *
  have hG : configB nb fb a b c = true → logAt nl ts = none → Good ⟨nb, fb, nl, ts⟩ := fun h1 h2 => good_of h1 h2
  refine (opens_any (w.heap.size + 1) w.heap.size nb nl ns fb fs ts a b c _ _ _ w1 rW (by omega) (hB.all.keep (Keeps.of_below b1)) (hL.all.keep (Keeps.of_below b1)) (hS.all.keep (Keeps.of_below b1)) snb snl sns sm hwf).mono ?_
  rintro r w2 ⟨rfl, b2, cW, hR, hcase⟩
  have b12 := b1.trans b2
  have c0 := hR.x.cell (j := 0) (by omega)
  have hkp := hR.kp (by omega)
  clear rW hB hL hS sm hwf b1 b2
  rcases hcase with ⟨_, h0⟩ | ⟨hc, hl, S, cap, s, e, x, vB, vL, vB', vL', K, M, h0, hS0, hsd⟩
  · rw [h0] at c0
    go_wp2_with fail
    refine (play_none (w.heap.size + 1) w2 c0 hkp).mono ?_
    rintro r w3 ⟨rfl, b3⟩
    have b13 := b12.trans (b3.mono b12.size)
    clear hkp c0 hR b3
    go_wp2_with fail
    go_ret
    exact ⟨rfl, b13⟩
  · have hGd := hG hc hl
    clear c0 hkp
    go_wp2_with fail
    refine (play_one (w.heap.size + 1) s e x ⟨nb, fb, nl, ts⟩ vB vL vB' vL' K M _ _ w2 w.heap.size 0 0 S cap cW _ _ hR (by omega) (by omega) hGd (fun i hi => hGd.some_part i hi) hsd h0 hS0).mono ?_
    rintro r w3 ⟨rfl, b3⟩
    have b13 := b12.trans b3
    clear hR hsd hGd b3 hS0 h0
    go_wp2_with fail
    go_ret
    exact ⟨rfl, b13⟩
end Go.Proofs.YtldeiiffabfmeaaGreatDoor
