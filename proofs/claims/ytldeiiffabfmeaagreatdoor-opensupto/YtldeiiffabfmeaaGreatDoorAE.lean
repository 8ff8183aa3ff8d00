/- A list of the call's own that grows by one element. -/
import Derived.Test.YtldeiiffabfmeaaGreatDoorV
import Derived.Maps.AppendAt
set_option linter.unusedVariables false
set_option linter.unusedSimpArgs false
namespace Go.Proofs.YtldeiiffabfmeaaGreatDoor
open Go.RowKit

/-- The slice v owns n elements, size cells each: vs tells them. -/
def OwnL (w : World) (base e size : Nat) (v : Value) (n : Nat) (vs : Nat → Value) : Prop := w.ownsRow base e size v n ((List.range (n * size)).map vs)

theorem ownL_nil (w : World) (base e size : Nat) (vs : Nat → Value) : OwnL w base e size (.slice none 0 0) 0 vs := by
  unfold OwnL; rw [Nat.zero_mul]; exact World.ownsRow_nil w base e size
theorem OwnL.slice {w : World} {base e size n : Nat} {v : Value} {vs : Nat → Value} (h : OwnL w base e size v n vs) : ∃ a cap, v = .slice a n cap := by
  rcases h.2 with ⟨rfl, rfl⟩ | ⟨g, cap, cur, rfl, _⟩
  · exact ⟨_, _, rfl⟩
  · exact ⟨_, _, rfl⟩
theorem OwnL.at {w : World} {base e size n : Nat} {v : Value} {vs : Nat → Value} (h : OwnL w base e size v n vs) (hn : 0 < n) : ∃ g cap, v = .slice (some ⟨g, 0, none⟩) n cap ∧ v.ownBlock = some g ∧ base ≤ g ∧ g < w.heap.size ∧ ∀ j, j < n * size → w.cell? ⟨g, j, none⟩ = some (vs j) := by
  rcases id h.2 with ⟨rfl, rfl⟩ | ⟨g, cap, cur, rfl, hg, hh, hle, hm, hs, ht⟩
  · omega
  · refine ⟨g, cap, rfl, rfl, hg, (Array.getElem?_eq_some_iff.1 hh).1, fun j hj => ?_⟩
    have h3 : ((List.range (n * size)).map vs)[j]? = some (vs j) := by simp [hj]
    rw [← ht, List.getElem?_take, if_pos hj, Array.getElem?_toList] at h3
    simp [World.cell?, hh, h3]
theorem OwnL.keep {w w' : World} {base e size n : Nat} {v : Value} {vs : Nat → Value} (h : OwnL w base e size v n vs) (hb : ∀ g, v.ownBlock = some g → w'.heap[g]? = w.heap[g]?) : OwnL w' base e size v n vs := by
  obtain ⟨h1, h2⟩ := h
  refine ⟨h1, ?_⟩
  rcases h2 with ⟨rfl, rfl⟩ | ⟨g, cap, cur, rfl, hg, hh, r⟩
  · exact .inl ⟨rfl, rfl⟩
  · exact .inr ⟨g, cap, cur, rfl, hg, by rw [hb g rfl]; exact hh, r⟩
theorem OwnL.lt {w : World} {base e size n : Nat} {v : Value} {vs : Nat → Value} (h : OwnL w base e size v n vs) : ∀ g, v.ownBlock = some g → base ≤ g ∧ g < w.heap.size := World.ownsRow.lt h
theorem OwnL.below {w w' : World} {base e size n : Nat} {v : Value} {vs : Nat → Value} (h : OwnL w base e size v n vs) (hb : Below w.heap.size w w') : OwnL w' base e size v n vs :=
  h.keep fun g hg => hb.block g (h.lt g hg).2
theorem OwnL.congr {w : World} {base e size n : Nat} {v : Value} {vs vs' : Nat → Value} (h : OwnL w base e size v n vs) (he : ∀ j, j < n * size → vs j = vs' j) : OwnL w base e size v n vs' := by
  unfold OwnL at *
  rw [← List.map_congr_left (f := vs) (fun j hj => he j (List.mem_range.1 hj))]
  exact h
/-- The row of another type is elsewhere. -/
theorem OwnL.apart {w : World} {base e size n : Nat} {v : Value} {vs : Nat → Value} (h : OwnL w base e size v n vs) {g T m : Nat} {c : Nat → Value} (h' : RowIs w g T m c) (hT : T ≠ e) : v.ownBlock ≠ some g := by
  intro hg
  rcases h.2 with ⟨rfl, rfl⟩ | ⟨g', cap, cur, rfl, _, hh, _⟩
  · cases hg
  · simp [Value.ownBlock] at hg
    subst hg
    obtain ⟨cur', h1, _⟩ := h'
    rw [hh] at h1
    injection h1 with h1
    injection h1 with _ h2
    exact hT h2.symm

/-- one more: n elements, then those of c. -/
def more (k : Nat) (vs c : Nat → Value) (j : Nat) : Value := if j < k then vs j else c (j - k)

theorem own_append {P : Program} {w : World} (t e : TypeId) (z : Value) (size bytes : Nat) (ht : P.underlying t = some (.slice e)) (hinfo : (P.info? e).map (fun i => (i.zero, i.size, i.bytes)) = some (some z, size, bytes)) (hzs : z.cells.size = size) (hsz : 0 < size) (hby : bytes ≤ 1000)
    (base n : Nat) (v : Value) (vs : Nat → Value) (hown : OwnL w base e size v n vs) (hn : n ≤ 100000000) (hbase : base ≤ w.heap.size) (g cap : Nat) (c : Nat → Value) (hc : ∀ j, j < size → w.cell? ⟨g, j, none⟩ = some (c j)) (h1 : ∀ j, j < size → (c j).oneCell' = true) :
    ∃ v' w', (∀ ty, (Builtin.append_ #[t, t] ty #[v, .slice (some ⟨g, 0, none⟩) 1 cap]).run P w = .ok v' w') ∧ OwnL w' base e size v' (n + 1) (more (n * size) vs c) ∧ w.grownBy w' v.ownBlock ∧ (v'.ownBlock = v.ownBlock ∨ v'.ownBlock = some w.heap.size) := by
  obtain ⟨i, hi, hz0, hz1, hz2⟩ := info_parts hinfo
  have hnb : (n + 1) * bytes ≤ 140737488355328 := by
    have := Nat.mul_le_mul (show n + 1 ≤ 100000001 by omega) hby; omega
  obtain ⟨v', w', hrun, hown', hgrow, _, hloc⟩ := run_append_own_at (P := P) w base t 0 e i z size bytes ht hi hz0 hz1 hz2 hzs hsz v n _ hown ⟨g, 0, none⟩ 1 cap ((List.range size).map c) (by simp) (fun j u hj => by
    obtain ⟨hj1, hj2⟩ := List.getElem?_eq_some_iff.1 hj
    simp at hj1 hj2
    rw [addr_add, Nat.zero_add, hc j hj1, hj2]) (fun u hu => by
    obtain ⟨j, hj, rfl⟩ := List.mem_map.1 hu
    exact h1 j (List.mem_range.1 hj)) (by unfold maxLen; omega) hnb hbase
  refine ⟨v', w', fun ty => hrun, ?_, hgrow, hloc⟩
  have e : (List.range (n * size)).map vs ++ (List.range size).map c = (List.range ((n + 1) * size)).map (more (n * size) vs c) := by
    apply List.ext_getElem?
    intro j
    rw [Nat.succ_mul]
    by_cases h : j < n * size
    · rw [List.getElem?_append_left (by simpa using h)]
      have h' : j < n * size + size := by omega
      simp [h, h', more]
    · rw [List.getElem?_append_right (by simpa using Nat.le_of_not_lt h)]
      simp only [List.length_map, List.length_range]
      by_cases h2 : j < n * size + size
      · have h3 : j - n * size < size := by omega
        simp [h2, h3, more, h]
      · have h3 : ¬ j - n * size < size := by omega
        rw [List.getElem?_eq_none (by simpa using Nat.le_of_not_lt h3), List.getElem?_eq_none (by simpa using Nat.le_of_not_lt h2)]
  rw [e] at hown'
  exact hown'
end Go.Proofs.YtldeiiffabfmeaaGreatDoor
