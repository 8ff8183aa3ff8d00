/- A row that says 'alone' holds: so does the row that says 'leaving'. For calls that start no goroutine though their road could. -/
import Derived.JoinedCond
import Derived.Leaving
set_option linter.unusedVariables false
set_option linter.unusedSimpArgs false
namespace Go

theorem alone_leaving {P : Program} {last : Machine} {w : World} {t : Trace} (h : aloneAtReturn P last w t) : leavingAtReturn P last w t := ⟨h.2.1, Go.onlyLeaving_of_quiet h.1, h.2.2⟩

theorem ReturnsInOpen.leaving {a : Assume} {stops : Option Stop.Interp} {C : Checked} {os : Os} {f : FuncId} {r : Reach} {okInput : Program → World → Reach → Nat → FuncId → Input → Prop} {Pre : World → Array Value → Prop} {Post : World → Array Value → Value → World → Prop} {always : Machine → Prop}
    (h : ReturnsInOpen a stops C os f r okInput Pre Post (aloneAtReturn C.prog) always) : ReturnsInOpen a stops C os f r okInput Pre Post (leavingAtReturn C.prog) always := by
  obtain ⟨h1, h2, h3, h4, h5⟩ := h
  refine ⟨h1, h2, h3, h4, fun w tape i hf => ?_⟩
  obtain ⟨n, v, w', b1, b2, b3, b4, ⟨j, last, c1, c2, c3⟩, b6⟩ := h5 w tape i hf
  exact ⟨n, v, w', b1, b2, b3, b4, ⟨j, last, c1, c2, alone_leaving c3⟩, b6⟩

/-- The row c without 'leaving'. -/
def OpenClaim.staying (c : OpenClaim) : OpenClaim := { c with leaving := false }

theorem OpenClaim.form_leaving {c : OpenClaim} (hstart : c.start = .entering) (hst : c.stops = []) (hlv : c.leaving = true) {C : Checked} {os : Os} {f : FuncId} {L : List FuncId} {Pre : World → Array Value → Prop} {Post : Stop.Interp → World → Array Value → Value → World → Prop}
    (h : c.staying.form C os f L Pre Post) : c.form C os f L Pre Post := by
  have e1 : c.staying.start = .entering := hstart
  have e2 : c.staying.stops = [] := hst
  unfold OpenClaim.form at h ⊢
  rw [e1, e2] at h
  rw [hstart, hst]
  intro F
  have h' := h F
  have e3 : c.staying.atReturn C.prog = aloneAtReturn C.prog := rfl
  have e4 : c.atReturn C.prog = leavingAtReturn C.prog := by unfold OpenClaim.atReturn; rw [hlv]
  rw [e3] at h'
  rw [e4]
  exact ReturnsInOpen.leaving h'

theorem OpenClaim.holds_leaving {p : Pinned} {s : OpenSpec} {c : OpenClaim} (hstart : c.start = .entering) (hst : c.stops = []) (hlv : c.leaving = true) (hwf : c.wf s = true) (h : c.staying.holds p s) : c.holds p s := by
  obtain ⟨-, a2, a3, a4, a5, a6, a7, a8, f, fn, b1, b2, b3, b4, b5, b6, b7, b8, b9, b10, b11, b12, b13, b14, b15, b16, b17, b18, b19, b20, b21, L, hL, hall⟩ := h
  exact ⟨hwf, a2, a3, a4, a5, a6, a7, a8, f, fn, b1, b2, b3, b4, b5, b6, b7, b8, b9, b10, b11, b12, b13, b14, b15, b16, b17, b18, b19, b20, b21, L, hL, fun os ho hq H enc inj => OpenClaim.form_leaving hstart hst hlv (hall os ho hq H enc inj)⟩
end Go
