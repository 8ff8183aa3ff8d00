/- An append onto a row of one's own leaves what the elder slice reads. -/
import Derived.Test.YtldeiiffabfmeaaGreatDoorAG
set_option linter.unusedVariables false
set_option linter.unusedSimpArgs false
namespace Go.Proofs.YtldeiiffabfmeaaGreatDoor
open Go.RowKit

theorem own_append_keeps {P : Program} {w : World} (t e : TypeId) (z : Value) (size bytes : Nat) (ht : P.underlying t = some (.slice e)) (hinfo : (P.info? e).map (fun i => (i.zero, i.size, i.bytes)) = some (some z, size, bytes)) (hzs : z.cells.size = size) (hsz : 0 < size) (hby : bytes ≤ 1000)
    (base n : Nat) (v : Value) (vs : Nat → Value) (hown : OwnL w base e size v n vs) (hn : n ≤ 100000000) (hbase : base ≤ w.heap.size) (g cap : Nat) (c : Nat → Value) (hc : ∀ j, j < size → w.cell? ⟨g, j, none⟩ = some (c j)) (h1 : ∀ j, j < size → (c j).oneCell' = true) :
    ∃ v' w', (∀ ty, (Builtin.append_ #[t, t] ty #[v, .slice (some ⟨g, 0, none⟩) 1 cap]).run P w = .ok v' w') ∧ OwnL w' base e size v' (n + 1) (more (n * size) vs c) ∧ w.grownBy w' v.ownBlock ∧ (v'.ownBlock = v.ownBlock ∨ v'.ownBlock = some w.heap.size) ∧
      ∀ b, v.ownBlock = some b → ∀ j, j < n * size → w'.cell? ⟨b, j, none⟩ = w.cell? ⟨b, j, none⟩ := by
  obtain ⟨v', w', hrun, hown', hgrow, hloc⟩ := own_append (P := P) t e z size bytes ht hinfo hzs hsz hby base n v vs hown hn hbase g cap c hc h1
  refine ⟨v', w', hrun, hown', hgrow, hloc, fun b hb j hj => ?_⟩
  have hn0 : 0 < n := by
    rcases Nat.eq_zero_or_pos n with e0 | h0
    · rw [e0, Nat.zero_mul] at hj; omega
    · exact h0
  obtain ⟨gv, cv, hv, hgv, hle, hlt, hcell⟩ := hown.at hn0
  have hbg : gv = b := by rw [hgv] at hb; injection hb
  subst hbg
  obtain ⟨g', c', hv', hg', hle', hlt', hcell'⟩ := hown'.at (Nat.succ_pos n)
  by_cases hsame : g' = gv
  · subst hsame
    have hj' : j < (n + 1) * size := by rw [Nat.succ_mul]; omega
    rw [hcell' j hj', hcell j hj, more, if_pos hj]
  · -- a new row was made: the old one is as it was
    obtain ⟨i, hi, hz0, hz1, hz2⟩ := info_parts hinfo
    have hnews : ∀ j u, ((List.range size).map c)[j]? = some u → w.cell? ((⟨g, 0, none⟩ : Addr).add j) = some u := fun j u hj => by
      obtain ⟨hj1, hj2⟩ := List.getElem?_eq_some_iff.1 hj
      simp at hj1 hj2
      rw [addr_add, Nat.zero_add, hc j hj1, hj2]
    have hone : ∀ u ∈ (List.range size).map c, u.oneCell' = true := fun u hu => by
      obtain ⟨j, hj, rfl⟩ := List.mem_map.1 hu
      exact h1 j (List.mem_range.1 hj)
    have hl : ((List.range size).map c).length = 1 * i.size := by simp [hz1]
    have hnb : (n + 1) * bytes ≤ 140737488355328 := by
      have := Nat.mul_le_mul (show n + 1 ≤ 100000001 by omega) hby; omega
    have hO := hown
    obtain ⟨hlen, h2⟩ := hO
    rcases h2 with ⟨h3, h4⟩ | ⟨gg, cc, cur, h3, hbgg, hg, hnc, hcm, hcs, htake⟩
    · omega
    · have e1 : gg = gv := by rw [hv] at h3; injection h3 with h3; injection h3 with h3; injection h3 with h3; exact h3.symm
      subst e1
      by_cases hroom : n + 1 ≤ cc
      · exfalso
        have hfit : n * i.size + ((List.range size).map c).length ≤ cur.size := by
          rw [hl, hcs, hz1, ← Nat.add_mul]; exact Nat.mul_le_mul_right _ hroom
        have hr := run_append_room (P := P) w t 0 e i ht hi gg n cc cur hg ⟨g, 0, none⟩ 1 cap _ hl hnews hone hroom hfit
        rw [← h3, hrun 0] at hr
        injection hr with hr1 hr2
        rw [hr1] at hv'
        injection hv' with q1
        injection q1 with q1
        injection q1 with q1
        exact hsame q1.symm
      · have holds : ∀ j u, ((List.range (n * size)).map vs)[j]? = some u → w.cell? ((⟨gg, 0, none⟩ : Addr).add j) = some u := fun j u hj => by
          obtain ⟨hj1, hj2⟩ := List.getElem?_eq_some_iff.1 hj
          simp at hj1 hj2
          rw [addr_add, Nat.zero_add, hcell j hj1, hj2]
        have hr := run_append_grow (P := P) w t 0 e i z ht hi hz0 ⟨gg, 0, none⟩ n cc ((List.range (n * size)).map vs) (by simp [hz1]) holds ⟨g, 0, none⟩ 1 cap _ hl hnews (by omega) (by omega) (growslice_fits (by omega) (by rw [hz2]; exact hnb))
        rw [← h3, hrun 0] at hr
        injection hr with hr1 hr2
        rw [hr2]
        exact World.cell?_alloc_lt _ _ _ (by exact hlt)
end Go.Proofs.YtldeiiffabfmeaaGreatDoor
