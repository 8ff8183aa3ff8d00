/- The argument of Opens, opened: what its parts hold, and how much. -/
import Derived.Test.YtldeiiffabfmeaaGreatDoorBG
import Derived.Test.YtldeiiffabfmeaaGreatDoorRows
import Derived.Deep.Slices
import Derived.Carry
import Derived.ProofKit
import Derived.OpenShut
import Derived.JoinedCond
set_option linter.unusedVariables false
set_option linter.unusedSimpArgs false
namespace Go.Proofs.YtldeiiffabfmeaaGreatDoor
open Go.RowKit

section
variable {H : Type}
theorem bulk_one (d : DataW H) : 1 ≤ Rows.uptoBulk d := by
  cases d with
  | lit l => cases l <;> simp [Rows.uptoBulk]
  | _ => simp [Rows.uptoBulk]
theorem bulk_many {k : Nat} : ∀ {l : List (DataW H)}, (∀ d, d ∈ l → k ≤ Rows.uptoBulk d) → l.length * k ≤ Rows.uptoBulkAll l
  | [], _ => by simp [Rows.uptoBulkAll]
  | d :: l, h => by
    have h1 := h d (by simp)
    have h2 := bulk_many (l := l) fun d hd => h d (by simp [hd])
    simp only [Rows.uptoBulkAll, List.length_cons, Nat.succ_mul]
    omega
theorem bulk_part {d : DataW H} : ∀ {l : List (DataW H)}, d ∈ l → Rows.uptoBulk d ≤ Rows.uptoBulkAll l
  | [], h => by simp at h
  | x :: l, h => by
    simp only [Rows.uptoBulkAll]
    rcases List.mem_cons.1 h with rfl | h
    · omega
    · have := bulk_part h; omega
theorem bulk_slice (l s : List (DataW H)) : Rows.uptoBulkAll l + 1 ≤ Rows.uptoBulk (.slice l s) := by simp only [Rows.uptoBulk]; omega
theorem bulk_agg (l : List (DataW H)) : Rows.uptoBulkAll l + 1 = Rows.uptoBulk (.agg l) := by simp only [Rows.uptoBulk]
end

section
variable {H : Type} {enc : TypeId × Value → H} {w : World} {base : Nat} {spare : Nat → Bool} {held : Bool}

/-- A type whose cells are all ints. -/
def Ints (enc : TypeId × Value → H) (w : World) (base : Nat) (spare : Nat → Bool) (held : Bool) (e k : Nat) : Prop :=
  ∀ (n : Nat) (cs : List Value) (x : DataW H × List MemPlace), DataW.trod enc Tryz.prog w base spare held n e cs = some x → cs.length = k ∧ ∀ j, j < k → ∃ z, cs[j]? = some (.int .i64 z) ∧ (Lit.int .i64 z).wf = true
theorem cells3 : Tryz.prog.cellsOf 3 = 1 := by kernel_rfl
theorem cells105 : Tryz.prog.cellsOf 159 = 2 := by kernel_rfl
theorem cells107 : Tryz.prog.cellsOf 161 = 4 := by kernel_rfl
theorem cells62 : Tryz.prog.cellsOf 81 = 2 := by kernel_rfl
theorem cells49 : Tryz.prog.cellsOf 91 = 4 := by kernel_rfl
theorem cells22 : Tryz.prog.cellsOf 22 = 1 := by kernel_rfl
theorem cells44 : Tryz.prog.cellsOf 86 = 1 := by kernel_rfl
theorem cells45 : Tryz.prog.cellsOf 87 = 1 := by kernel_rfl
theorem cells24 : Tryz.prog.cellsOf 24 = 4 := by kernel_rfl
theorem cells25 : Tryz.prog.cellsOf 25 = 1 := by kernel_rfl
theorem cells26 : Tryz.prog.cellsOf 26 = 1 := by kernel_rfl
theorem cells28 : Tryz.prog.cellsOf 28 = 6 := by kernel_rfl

theorem ints3 : Ints enc w base spare held 3 1 := by
  intro n cs x h
  obtain ⟨z, rfl, _, hz⟩ := DataW.trod_int Tryz.underlying3 h
  refine ⟨rfl, fun j hj => ⟨z, ?_, hz⟩⟩
  have : j = 0 := by omega
  subst this
  rfl
theorem field_int {n : Nat} {cs : List Value} {o : Nat} {x : Option (DataW H × List MemPlace)} {y : DataW H × List MemPlace} (h : DataW.trod enc Tryz.prog w base spare held n 3 ((cs.drop o).take (Tryz.prog.cellsOf 3)) = x) (hx : x = some y) : ∃ z, cs[o]? = some (.int .i64 z) ∧ (Lit.int .i64 z).wf = true := by
  rw [hx, cells3] at h
  obtain ⟨z, hc, _, hz⟩ := DataW.trod_int Tryz.underlying3 h
  refine ⟨z, ?_, hz⟩
  have h0 : ((cs.drop o).take 1)[0]? = some (.int .i64 z) := by rw [hc]; rfl
  simpa [List.getElem?_take] using h0
theorem ints2 {t : Nat} {f0 f1 : Field} (ht : Tryz.prog.underlying t = some (.struct #[f0, f1])) (hc : Tryz.prog.cellsOf t = 2) (e0 : f0.type = 3 ∧ f0.offset = 0) (e1 : f1.type = 3 ∧ f1.offset = 1) : Ints enc w base spare held t 2 := by
  intro n cs x h
  obtain ⟨xs, k, _, _, hl, hlen, hf⟩ := DataW.trod_struct ht h
  refine ⟨hl.trans hc, fun j hj => ?_⟩
  have hx : ∀ i, i < 2 → ∃ y, xs[i]? = some y := fun i hi => ⟨_, List.getElem?_eq_getElem (by simp at hlen; omega)⟩
  have : j = 0 ∨ j = 1 := by omega
  rcases this with rfl | rfl
  · obtain ⟨y, hy⟩ := hx 0 (by omega)
    have := hf 0 f0 rfl
    rw [e0.1, e0.2] at this
    exact field_int this hy
  · obtain ⟨y, hy⟩ := hx 1 (by omega)
    have := hf 1 f1 rfl
    rw [e1.1, e1.2] at this
    exact field_int this hy
theorem ints105 : Ints enc w base spare held 159 2 := ints2 Tryz.underlying159 cells105 ⟨rfl, rfl⟩ ⟨rfl, rfl⟩
theorem ints62 : Ints enc w base spare held 81 2 := ints2 Tryz.underlying81 cells62 ⟨rfl, rfl⟩ ⟨rfl, rfl⟩
theorem ints107 : Ints enc w base spare held 161 4 := by
  intro n cs x h
  obtain ⟨xs, k, _, _, hl, hlen, hf⟩ := DataW.trod_struct Tryz.underlying161 h
  refine ⟨hl.trans cells107, fun j hj => ?_⟩
  have hx : ∀ i, i < 4 → ∃ y, xs[i]? = some y := fun i hi => ⟨_, List.getElem?_eq_getElem (by simp at hlen; omega)⟩
  have : j = 0 ∨ j = 1 ∨ j = 2 ∨ j = 3 := by omega
  rcases this with rfl | rfl | rfl | rfl
  · obtain ⟨y, hy⟩ := hx 0 (by omega); exact field_int (hf 0 _ rfl) hy
  · obtain ⟨y, hy⟩ := hx 1 (by omega); exact field_int (hf 1 _ rfl) hy
  · obtain ⟨y, hy⟩ := hx 2 (by omega); exact field_int (hf 2 _ rfl) hy
  · obtain ⟨y, hy⟩ := hx 3 (by omega); exact field_int (hf 3 _ rfl) hy

/-- A list of ints, or of structs of ints: how it reads; its length is within its bulk. -/
theorem open_rd {t e k fuel : Nat} {cs : List Value} {x : DataW H × List MemPlace} (ht : Tryz.prog.underlying t = some (.slice e)) (hk : Tryz.prog.cellsOf e = k) (hk0 : 0 < k) (hi : Ints enc w base spare held e k) (h : DataW.trod enc Tryz.prog w base spare held fuel t cs = some x) (hB : Rows.uptoBulk x.1 ≤ 1048576) :
    ∃ v n f, cs = [v] ∧ RdI w v k n f ∧ n ≤ 1048576 ∧ ∀ j, j < n * k → (Lit.int .i64 (f j)).wf = true := by
  rcases Deep.open_slice ht h with ⟨rfl, rfl⟩ | ⟨a, len, cap, m, n, D, Pl, rfl, _, hl, _, hm, rfl, hx⟩
  · exact ⟨_, 0, fun _ => 0, rfl, ⟨_, _, rfl, by omega, fun h => by omega⟩, by omega, fun j hj => by omega⟩
  · have hlm : len ≤ m := by rw [hm]; split <;> omega
    have hlen : len ≤ 1048576 := by
      have h1 := bulk_slice ((List.range len).map D) ((List.range (m - len)).map fun j => D (len + j))
      have h2 := bulk_many (l := (List.range len).map D) (k := 1) fun d _ => bulk_one d
      simp at h2
      simp only at hB
      omega
    rw [hk] at hx
    rcases Nat.eq_zero_or_pos len with h0 | h0
    · subst h0
      exact ⟨_, 0, fun _ => 0, rfl, ⟨_, _, rfl, by omega, fun h => by omega⟩, by omega, fun j hj => by omega⟩
    · have each : ∀ i, i < len → ∀ q, q < k → ∃ z, w.cell? ((a.add (i * k)).add q) = some (.int .i64 z) ∧ (Lit.int .i64 z).wf = true := fun i hil q hq => by
        obtain ⟨cs', h1, h2⟩ := hx i (by omega)
        obtain ⟨_, hcl, hcc⟩ := World.cells?_some h1
        obtain ⟨_, hz⟩ := hi _ _ _ h2
        obtain ⟨z, hz1, hz2⟩ := hz q hq
        exact ⟨z, (hcc q hq).trans hz1, hz2⟩
      obtain ⟨b, off, spot⟩ := a
      have hsp : spot = none := by
        obtain ⟨z, hz, _⟩ := each 0 h0 0 hk0
        have h1 := World.cell?_spot hz
        rw [Nat.zero_mul] at h1
        unfold Addr.add at h1
        cases spot with
        | none => rfl
        | some s => simp at h1
      subst hsp
      have hcell : ∀ j, j < len * k → ∃ z, w.cell? ⟨b, off + j, none⟩ = some (.int .i64 z) ∧ (Lit.int .i64 z).wf = true := fun j hj => by
        have hdiv : j / k < len := Nat.div_lt_of_lt_mul (by rw [Nat.mul_comm]; exact hj)
        obtain ⟨z, h1, h2⟩ := each (j / k) hdiv (j % k) (Nat.mod_lt _ hk0)
        rw [WideShapes.add_plain, WideShapes.add_plain, Nat.add_assoc, show j / k * k + j % k = j from by rw [Nat.mul_comm]; exact Nat.div_add_mod j k] at h1
        exact ⟨z, h1, h2⟩
      refine ⟨_, len, fun j => intOf ((w.cell? ⟨b, off + j, none⟩).getD undef), rfl, ⟨_, _, rfl, by omega, fun _ => ⟨b, off, rfl, ?_, fun j hj => ?_⟩⟩, hlen, fun j hj => ?_⟩
      · obtain ⟨z, hz, _⟩ := hcell 0 (Nat.mul_pos h0 hk0)
        exact World.block_lt_of_cell? w _ hz
      · obtain ⟨z, hz, _⟩ := hcell j hj
        simp only [hz, Option.getD_some, intOf]
      · obtain ⟨z, hz, hw⟩ := hcell j hj
        simp only [hz, Option.getD_some, intOf]
        exact hw
end
end Go.Proofs.YtldeiiffabfmeaaGreatDoor
/- The argument of Opens, opened: its log, and all of it. -/
namespace Go.Proofs.YtldeiiffabfmeaaGreatDoor
open Go.RowKit

section
variable {H : Type} {enc : TypeId × Value → H} {w : World} {base : Nat} {spare : Nat → Bool} {held : Bool}

theorem list_four {α : Type} {l : List α} (h : l.length = 4) : ∃ a b c d, l = [a, b, c, d] := by
  match l, h with
  | [a, b, c, d], _ => exact ⟨a, b, c, d, rfl⟩
theorem list_three {α : Type} {l : List α} (h : l.length = 3) : ∃ a b c, l = [a, b, c] := by
  match l, h with
  | [a, b, c], _ => exact ⟨a, b, c, rfl⟩
theorem list_six {α : Type} {l : List α} (h : l.length = 6) : ∃ a b c d e f, l = [a, b, c, d, e, f] := by
  match l, h with
  | [a, b, c, d, e, f], _ => exact ⟨a, b, c, d, e, f, rfl⟩
theorem take_one {cs : List Value} {q : Nat} {v : Value} (h : (cs.drop q).take 1 = [v]) : cs[q]? = some v := by
  have h0 : ((cs.drop q).take 1)[0]? = some v := by rw [h]; rfl
  simpa [List.getElem?_take] using h0

theorem open_txn {n : Nat} {cs : List Value} {d : DataW H} {p : List MemPlace} (h : DataW.trod enc Tryz.prog w base spare held n 91 cs = some (d, p)) (hB : Rows.uptoBulk d ≤ 1048576) :
    5 ≤ Rows.uptoBulk d ∧ ∃ v0 v1 v2 v3 t, cs[0]? = some v0 ∧ cs[1]? = some v1 ∧ cs[2]? = some v2 ∧ cs[3]? = some v3 ∧ RdT w v0 v1 v2 v3 t ∧ Small t := by
  obtain ⟨xs, k, _, hd, hl, hlen, hf⟩ := DataW.trod_struct Tryz.underlying91 h
  simp only [Prod.mk.injEq] at hd
  have hlen4 : xs.length = 4 := hlen
  have hb := bulk_agg (xs.map (·.1))
  have h5 : 5 ≤ Rows.uptoBulk d := by
    have := bulk_many (l := xs.map (·.1)) (k := 1) fun d _ => bulk_one d
    rw [List.length_map, hlen4] at this
    rw [hd.1]
    omega
  refine ⟨h5, ?_⟩
  obtain ⟨y0, y1, y2, y3, rfl⟩ := list_four hlen4
  have part : ∀ y, y ∈ [y0, y1, y2, y3] → Rows.uptoBulk y.1 ≤ 1048576 := fun y hy => by
    have h1 := bulk_part (d := y.1) (l := [y0, y1, y2, y3].map (·.1)) (List.mem_map.2 ⟨y, hy, rfl⟩)
    rw [hd.1] at hB
    omega
  have g0 : DataW.trod enc Tryz.prog w base spare held k 22 ((cs.drop 0).take (Tryz.prog.cellsOf 22)) = some y0 := hf 0 _ rfl
  have g1 : DataW.trod enc Tryz.prog w base spare held k 22 ((cs.drop 1).take (Tryz.prog.cellsOf 22)) = some y1 := hf 1 _ rfl
  have g2 : DataW.trod enc Tryz.prog w base spare held k 86 ((cs.drop 2).take (Tryz.prog.cellsOf 86)) = some y2 := hf 2 _ rfl
  have g3 : DataW.trod enc Tryz.prog w base spare held k 87 ((cs.drop 3).take (Tryz.prog.cellsOf 87)) = some y3 := hf 3 _ rfl
  rw [cells22] at g0 g1
  rw [cells44] at g2
  rw [cells45] at g3
  obtain ⟨v0, n0, f0, c0, r0, s0, _⟩ := open_rd (x := y0) Tryz.underlying22 cells3 (by omega) ints3 g0 (part y0 (by simp))
  obtain ⟨v1, n1, f1, c1, r1, s1, _⟩ := open_rd (x := y1) Tryz.underlying22 cells3 (by omega) ints3 g1 (part y1 (by simp))
  obtain ⟨v2, n2, f2, c2, r2, s2, _⟩ := open_rd (x := y2) Tryz.underlying86 cells105 (by omega) ints105 g2 (part y2 (by simp))
  obtain ⟨v3, n3, f3, c3, r3, s3, _⟩ := open_rd (x := y3) Tryz.underlying87 cells107 (by omega) ints107 g3 (part y3 (by simp))
  exact ⟨v0, v1, v2, v3, ⟨n0, f0, n1, f1, n2, f2, n3, f3⟩, take_one c0, take_one c1, take_one c2, take_one c3, ⟨r0, r1, r2, r3⟩, ⟨s0, s1, s2, s3⟩⟩

theorem open_log {fuel : Nat} {cs : List Value} {x : DataW H × List MemPlace} (h : DataW.trod enc Tryz.prog w base spare held fuel 25 cs = some x) (hB : Rows.uptoBulk x.1 ≤ 1048576) :
    ∃ v n ts, cs = [v] ∧ RdL w v n ts ∧ n ≤ 250000 ∧ ∀ i, i < n → Small (ts i) := by
  rcases Deep.open_slice Tryz.underlying25 h with ⟨rfl, rfl⟩ | ⟨a, len, cap, m, n, D, Pl, rfl, _, hl, _, hm, rfl, hx⟩
  · exact ⟨_, 0, fun _ => ⟨0, fun _ => 0, 0, fun _ => 0, 0, fun _ => 0, 0, fun _ => 0⟩, rfl, ⟨_, _, rfl, by omega, fun h => by omega⟩, by omega, fun i hi => by omega⟩
  · have hlm : len ≤ m := by rw [hm]; split <;> omega
    have hb := bulk_slice ((List.range len).map D) ((List.range (m - len)).map fun j => D (len + j))
    have hD : ∀ i, i < len → Rows.uptoBulk (D i) ≤ 1048576 := fun i hi => by
      have := bulk_part (d := D i) (l := (List.range len).map D) (List.mem_map.2 ⟨i, List.mem_range.2 hi, rfl⟩)
      simp only at hB
      omega
    rw [cells49] at hx
    have each : ∀ i, i < len → 5 ≤ Rows.uptoBulk (D i) ∧ ∃ v0 v1 v2 v3 t, w.cell? ((a.add (i * 4)).add 0) = some v0 ∧ w.cell? ((a.add (i * 4)).add 1) = some v1 ∧ w.cell? ((a.add (i * 4)).add 2) = some v2 ∧ w.cell? ((a.add (i * 4)).add 3) = some v3 ∧ RdT w v0 v1 v2 v3 t ∧ Small t := fun i hi => by
      obtain ⟨cs', h1, h2⟩ := hx i (by omega)
      obtain ⟨_, hcl, hcc⟩ := World.cells?_some h1
      obtain ⟨h5, v0, v1, v2, v3, t, c0, c1, c2, c3, hr, hs⟩ := open_txn h2 (hD i hi)
      exact ⟨h5, v0, v1, v2, v3, t, (hcc 0 (by omega)).trans c0, (hcc 1 (by omega)).trans c1, (hcc 2 (by omega)).trans c2, (hcc 3 (by omega)).trans c3, hr, hs⟩
    have hlen : len ≤ 250000 := by
      have h2 := bulk_many (l := (List.range len).map D) (k := 5) fun d hd => by
        obtain ⟨i, hi, rfl⟩ := List.mem_map.1 hd
        exact (each i (List.mem_range.1 hi)).1
      rw [List.length_map, List.length_range] at h2
      simp only at hB
      omega
    rcases Nat.eq_zero_or_pos len with h0 | h0
    · subst h0
      exact ⟨_, 0, fun _ => ⟨0, fun _ => 0, 0, fun _ => 0, 0, fun _ => 0, 0, fun _ => 0⟩, rfl, ⟨_, _, rfl, by omega, fun h => by omega⟩, by omega, fun i hi => by omega⟩
    · obtain ⟨b, off, spot⟩ := a
      have hsp : spot = none := by
        obtain ⟨_, v0, _, _, _, _, hz, _⟩ := each 0 h0
        have h1 := World.cell?_spot hz
        rw [Nat.zero_mul] at h1
        unfold Addr.add at h1
        cases spot with
        | none => rfl
        | some s => simp at h1
      subst hsp
      have hch : ∀ i, ∃ t : TxnD, i < len → ∃ v0 v1 v2 v3, w.cell? ⟨b, off + i * 4, none⟩ = some v0 ∧ w.cell? ⟨b, off + (i * 4 + 1), none⟩ = some v1 ∧ w.cell? ⟨b, off + (i * 4 + 2), none⟩ = some v2 ∧ w.cell? ⟨b, off + (i * 4 + 3), none⟩ = some v3 ∧ RdT w v0 v1 v2 v3 t ∧ Small t := fun i => by
        by_cases hi : i < len
        · obtain ⟨_, v0, v1, v2, v3, t, c0, c1, c2, c3, hr, hs⟩ := each i hi
          rw [WideShapes.add_plain, WideShapes.add_plain] at c0 c1 c2 c3
          exact ⟨t, fun _ => ⟨v0, v1, v2, v3, c0, by rw [← Nat.add_assoc]; exact c1, by rw [← Nat.add_assoc]; exact c2, by rw [← Nat.add_assoc]; exact c3, hr, hs⟩⟩
        · exact ⟨⟨0, fun _ => 0, 0, fun _ => 0, 0, fun _ => 0, 0, fun _ => 0⟩, fun h => absurd h hi⟩
      obtain ⟨ts, hts⟩ := Classical.skolem.1 hch
      refine ⟨_, len, ts, rfl, ⟨_, _, rfl, by omega, fun _ => ⟨b, off, rfl, ?_, fun j => (w.cell? ⟨b, off + j, none⟩).getD undef, fun j hj => ?_, fun i hi => ?_⟩⟩, hlen, fun i hi => ?_⟩
      · obtain ⟨v0, _, _, _, c0, _⟩ := hts 0 h0
        exact World.block_lt_of_cell? w _ c0
      · have hdiv : j / 4 < len := by omega
        obtain ⟨v0, v1, v2, v3, c0, c1, c2, c3, _⟩ := hts (j / 4) hdiv
        have : j = j / 4 * 4 ∨ j = j / 4 * 4 + 1 ∨ j = j / 4 * 4 + 2 ∨ j = j / 4 * 4 + 3 := by omega
        rcases this with e | e | e | e
        · have e' : w.cell? ⟨b, off + j, none⟩ = some v0 := by rw [e]; exact c0
          simp only [e', Option.getD_some]
        · have e' : w.cell? ⟨b, off + j, none⟩ = some v1 := by rw [e]; exact c1
          simp only [e', Option.getD_some]
        · have e' : w.cell? ⟨b, off + j, none⟩ = some v2 := by rw [e]; exact c2
          simp only [e', Option.getD_some]
        · have e' : w.cell? ⟨b, off + j, none⟩ = some v3 := by rw [e]; exact c3
          simp only [e', Option.getD_some]
      · obtain ⟨v0, v1, v2, v3, c0, c1, c2, c3, hr, _⟩ := hts i hi
        simp only [c0, c1, c2, c3, Option.getD_some]
        exact hr
      · obtain ⟨_, _, _, _, _, _, _, _, _, hs⟩ := hts i hi
        exact hs

set_option maxRecDepth 100000 in
/-- All of it. -/
theorem open_made {r : Reach} {b0 : Nat} {v : Value} {d : DataW H} {p : List MemPlace} (hv : Value.okWide Tryz.prog w r b0 28 v) (h : DataW.Trod enc Tryz.prog w base spare held 28 v d p) (hB : Rows.uptoBulk d ≤ 1048576) :
    ∃ (nb nl ns : Nat) (fb fs : Nat → Int) (ts : Nat → TxnD) (a b c : Int) (vB vL vS : Value), v = .agg #[vB, .int .i64 a, .int .i64 b, .int .i64 c, vL, vS] ∧ RdI w vB 1 nb fb ∧ RdL w vL nl ts ∧ RdI w vS 2 ns fs ∧ nb ≤ 1048576 ∧ nl ≤ 250000 ∧ ns ≤ 1048576 ∧ (∀ i, i < nl → Small (ts i)) ∧ ∀ j, j < ns → (Lit.int .i64 (fs (2 * j + 1))).wf = true := by
  obtain ⟨cs, rfl, hsz⟩ := WideShapes.okWide_struct Tryz.underlying28 hv
  obtain ⟨fuel, hf0⟩ := h
  obtain ⟨xs, k, _, hd, hl, hlen, hf⟩ := DataW.trod_struct Tryz.underlying28 hf0
  simp only [Prod.mk.injEq] at hd
  have hlen3 : xs.length = 3 := hlen
  have hb := bulk_agg (xs.map (·.1))
  obtain ⟨y0, y1, y2, rfl⟩ := list_three hlen3
  have part : ∀ y, y ∈ [y0, y1, y2] → Rows.uptoBulk y.1 ≤ 1048576 := fun y hy => by
    have h1 := bulk_part (d := y.1) (l := [y0, y1, y2].map (·.1)) (List.mem_map.2 ⟨y, hy, rfl⟩)
    rw [hd.1] at hB
    omega
  have g0 : DataW.trod enc Tryz.prog w base spare held k 24 (((Value.agg cs).cells.toList.drop 0).take (Tryz.prog.cellsOf 24)) = some y0 := hf 0 _ rfl
  have g1 : DataW.trod enc Tryz.prog w base spare held k 25 (((Value.agg cs).cells.toList.drop 4).take (Tryz.prog.cellsOf 25)) = some y1 := hf 1 _ rfl
  have g2 : DataW.trod enc Tryz.prog w base spare held k 26 (((Value.agg cs).cells.toList.drop 5).take (Tryz.prog.cellsOf 26)) = some y2 := hf 2 _ rfl
  rw [cells24] at g0
  rw [cells25] at g1
  rw [cells26] at g2
  have hl6 : cs.toList.length = 6 := hl.trans cells28
  obtain ⟨q0, q1, q2, q3, q4, q5, hcs⟩ := list_six hl6
  have hcells : (Value.agg cs).cells.toList = [q0, q1, q2, q3, q4, q5] := hcs
  rw [hcells] at g0 g1 g2
  obtain ⟨vL, nl, ts, cL, rL, sL, smL⟩ := open_log (x := y1) g1 (part y1 (by simp))
  obtain ⟨vS, ns, fs, cS, rS, sS, wS⟩ := open_rd (x := y2) Tryz.underlying26 cells62 (by omega) ints62 g2 (part y2 (by simp))
  obtain ⟨zs, k', _, hdz, hlz, hlenz, hfz⟩ := DataW.trod_struct (x := y0) Tryz.underlying24 g0
  have hlenz4 : zs.length = 4 := hlenz
  obtain ⟨z0, z1, z2, z3, rfl⟩ := list_four hlenz4
  have hz0 : Rows.uptoBulk z0.1 ≤ 1048576 := by
    have h1 := bulk_part (d := z0.1) (l := [z0, z1, z2, z3].map (·.1)) (by simp)
    have h2 := bulk_agg ([z0, z1, z2, z3].map (·.1))
    have h3 := part y0 (by simp)
    rw [hdz] at h3
    simp only at h3
    omega
  have e0 : DataW.trod enc Tryz.prog w base spare held k' 22 ((([q0, q1, q2, q3, q4, q5].drop 0).take 4).drop 0 |>.take (Tryz.prog.cellsOf 22)) = some z0 := hfz 0 _ rfl
  have e1 : DataW.trod enc Tryz.prog w base spare held k' 3 ((([q0, q1, q2, q3, q4, q5].drop 0).take 4).drop 1 |>.take (Tryz.prog.cellsOf 3)) = some z1 := hfz 1 _ rfl
  have e2 : DataW.trod enc Tryz.prog w base spare held k' 3 ((([q0, q1, q2, q3, q4, q5].drop 0).take 4).drop 2 |>.take (Tryz.prog.cellsOf 3)) = some z2 := hfz 2 _ rfl
  have e3 : DataW.trod enc Tryz.prog w base spare held k' 3 ((([q0, q1, q2, q3, q4, q5].drop 0).take 4).drop 3 |>.take (Tryz.prog.cellsOf 3)) = some z3 := hfz 3 _ rfl
  rw [cells22] at e0
  obtain ⟨vB, nb, fb, cB, rB, sB, _⟩ := open_rd (x := z0) Tryz.underlying22 cells3 (by omega) ints3 e0 hz0
  obtain ⟨a, ha, _⟩ := field_int e1 rfl
  obtain ⟨b, hb', _⟩ := field_int e2 rfl
  obtain ⟨c, hc', _⟩ := field_int e3 rfl
  simp at ha hb' hc' cB cL cS
  subst ha hb' hc' cB cL cS
  exact ⟨nb, nl, ns, fb, fs, ts, a, b, c, _, _, _, congrArg Value.agg (Array.ext' hcs), rB, rL, rS, sB, sL, sS, smL, fun j hj => wS _ (by omega)⟩
end
end Go.Proofs.YtldeiiffabfmeaaGreatDoor
