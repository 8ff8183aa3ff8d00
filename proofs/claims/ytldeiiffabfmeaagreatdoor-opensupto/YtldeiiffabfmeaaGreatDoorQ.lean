/- The contracts of what makes small pieces of memory. -/
import Derived.Test.YtldeiiffabfmeaaGreatDoorN
import Derived.Test.YtldeiiffabfmeaaGreatDoorV
set_option linter.unusedVariables false
set_option linter.unusedSimpArgs false
namespace Go.Proofs.YtldeiiffabfmeaaGreatDoor
open Go.RowKit Go.Maps

theorem Tryz.info3 : (Tryz.prog.info? 3).map (fun i => (i.zero, i.size, i.bytes)) = some (some (.int .i64 0), 1, 8) := by kernel_rfl
theorem Tryz.info159 : (Tryz.prog.info? 159).map (fun i => (i.zero, i.size, i.bytes)) = some (some (.agg #[.int .i64 0, .int .i64 0]), 2, 16) := by kernel_rfl
theorem Tryz.info161 : (Tryz.prog.info? 161).map (fun i => (i.zero, i.size, i.bytes)) = some (some (.agg #[.int .i64 0, .int .i64 0, .int .i64 0, .int .i64 0]), 4, 32) := by kernel_rfl
theorem Tryz.info91 : (Tryz.prog.info? 91).map (fun i => (i.zero, i.size, i.bytes)) = some (some (.agg #[.slice none 0 0, .slice none 0 0, .slice none 0 0, .slice none 0 0]), 4, 96) := by kernel_rfl
theorem size_of_info {P : Program} {e : TypeId} {z : Value} {size bytes : Nat} (h : (P.info? e).map (fun i => (i.zero, i.size, i.bytes)) = some (some z, size, bytes)) : (P.info? e).map (·.size) = some size := by
  obtain ⟨i, hi, _, h2, _⟩ := info_parts h
  simp [hi, h2]

/-- f, and zeros behind it. -/
def cut (n : Nat) (f : Nat → Int) (j : Nat) : Int := if j < n then f j else 0

set_option maxHeartbeats 400000 in
theorem lentInts_any (v : Value) (n : Nat) (f : Nat → Int) (w : World) (h : RdI w v 1 n f) :
    Calls Tryz.prog 24 #[v] w fun e w' => e = .returned (.slice (some ⟨w.heap.size, 0, none⟩) (n + 1) (n + 1)) ∧ RowIs w' w.heap.size 3 (n + 1) (icell (cut n f)) ∧ w'.heap.size = w.heap.size + 1 ∧ Below w.heap.size w w' := by
  obtain ⟨a, cap, rfl, hn, -⟩ := id h
  go_enter Tryz.func24, Tryz.ntmps24
  go_wp2_with (at_make; refine wpList_make_row rfl _ _ 22 rfl 3 (.int .i64 0) 1 8 Tryz.underlying22 Tryz.info3 _ _ (n + 1) rfl rfl rfl rfl (by omega) (by unfold maxLen; omega) (fun _ => .int .i64 0) (fun j _ => by simp [Value.cells, Nat.mod_one]) ?_; intro w1 hrow hsz hb; obtain ⟨w2, hrun, hrow2, hsz2, hoth, hb2⟩ := copy_run (P := Tryz.prog) 22 22 3 Tryz.underlying22 1 (size_of_info Tryz.info3) w.heap.size (n + 1) (n + 1) _ n (by omega) 3 _ _ hrow (by omega) (icell f) (h.below hb).src)
  go_ret
  refine ⟨rfl, (hrow2.size_congr (Nat.mul_one _)).congr fun j _ => ?_, hsz2.trans hsz, hb.trans hb2⟩
  simp only [icell, cut, Nat.mul_one]
  split <;> rfl

set_option maxRecDepth 20000 in
set_option maxHeartbeats 400000 in
theorem cloneI_any (v : Value) (n : Nat) (f : Nat → Int) (w : World) (h : RdI w v 1 n f) :
    Calls Tryz.prog 80 #[v] w fun e w' => ∃ v', e = .returned v' ∧ RdIS (fun b => w.heap.size ≤ b) w' v' 1 n f ∧ Below w.heap.size w w' := by
  obtain ⟨i0, hi, hz0, hz1, hz2⟩ := info_parts Tryz.info3
  obtain ⟨a, cap, rfl, hn, hc⟩ := id h
  cases a with
  | none =>
    have h0 : n = 0 := by
      rcases Nat.eq_zero_or_pos n with h0 | h0
      · exact h0
      · obtain ⟨b, off, e, _⟩ := hc h0; cases e
    subst h0
    clear hn hc h
    have heq := fun w => Lib.run_eql_slice_nil (P := Tryz.prog) w 22 _ none 0 cap 0 0 Tryz.underlying22
    go_enter Tryz.func80, Tryz.ntmps80
    go_wp2
    go_ret
    exact ⟨_, rfl, ⟨_, _, rfl, by omega, fun h0 => by omega⟩, Below.refl _ _⟩
  | some ad =>
    have hcell : ∀ j u, ((List.range (n * 1)).map (icell f))[j]? = some u → (w.alloc (.cells #[] 3)).cell? (ad.add j) = some u := by
      intro j u hj
      obtain ⟨hj1, hj2⟩ := List.getElem?_eq_some_iff.1 hj
      simp at hj1 hj2
      obtain ⟨b, off, e, hlt, hcell⟩ := hc (by omega)
      injection e with e
      subst e
      rw [addr_add, World.cell?_alloc_lt _ _ _ hlt, hcell j (by omega), ← hj2]; rfl
    have hone : ∀ u ∈ (List.range (n * 1)).map (icell f), u.oneCell' = true := by
      intro u hu
      obtain ⟨j, _, rfl⟩ := List.mem_map.1 hu
      rfl
    have hown : (w.alloc (.cells #[] 3)).ownsRow w.heap.size 3 1 (.slice (some ⟨w.heap.size, 0, none⟩) 0 0) 0 [] := World.ownsRow_made w #[] 0 (Nat.le_refl _) (by unfold maxLen; omega) (by simp)
    clear hc
    have heq := fun w => Lib.run_eql_slice_nil (P := Tryz.prog) w 22 _ (some ad) n cap 0 0 Tryz.underlying22
    go_enter Tryz.func80, Tryz.ntmps80
    go_wp2_with (at_builtin; refine wpList_append_own _ rfl _ _ 22 rfl w.heap.size 3 i0 (.int .i64 0) 1 8 Tryz.underlying22 hi hz0 hz1 hz2 rfl (by decide) _ _ _ rfl hown ad n cap ((List.range (n * 1)).map (icell f)) rfl (by simp) hcell hone (by unfold maxLen; omega) (by omega) (by simp) ?_; intro v' w1 hown' hgrow _)
    go_ret
    rw [Nat.zero_add, List.nil_append] at hown'
    refine ⟨v', rfl, ownsRow_rdS hown' (by omega) (fun j hj => ?_), ((Below.refl _ _).alloc (Nat.le_refl _) _).grown hgrow (by simp) (fun b hb => (hown.lt b hb).1)⟩
    rw [List.getElem?_map, List.getElem?_range (by omega)]
    rfl

set_option maxRecDepth 20000 in
set_option maxHeartbeats 400000 in
theorem cloneR_any (v : Value) (n : Nat) (f : Nat → Int) (w : World) (h : RdI w v 2 n f) :
    Calls Tryz.prog 81 #[v] w fun e w' => ∃ v', e = .returned v' ∧ RdIS (fun b => w.heap.size ≤ b) w' v' 2 n f ∧ Below w.heap.size w w' := by
  obtain ⟨i0, hi, hz0, hz1, hz2⟩ := info_parts Tryz.info159
  obtain ⟨a, cap, rfl, hn, hc⟩ := id h
  cases a with
  | none =>
    have h0 : n = 0 := by
      rcases Nat.eq_zero_or_pos n with h0 | h0
      · exact h0
      · obtain ⟨b, off, e, _⟩ := hc h0; cases e
    subst h0
    clear hn hc h
    have heq := fun w => Lib.run_eql_slice_nil (P := Tryz.prog) w 86 _ none 0 cap 0 0 Tryz.underlying86
    go_enter Tryz.func81, Tryz.ntmps81
    go_wp2
    go_ret
    exact ⟨_, rfl, ⟨_, _, rfl, by omega, fun h0 => by omega⟩, Below.refl _ _⟩
  | some ad =>
    have hcell : ∀ j u, ((List.range (n * 2)).map (icell f))[j]? = some u → (w.alloc (.cells #[] 159)).cell? (ad.add j) = some u := by
      intro j u hj
      obtain ⟨hj1, hj2⟩ := List.getElem?_eq_some_iff.1 hj
      simp at hj1 hj2
      obtain ⟨b, off, e, hlt, hcell⟩ := hc (by omega)
      injection e with e
      subst e
      rw [addr_add, World.cell?_alloc_lt _ _ _ hlt, hcell j (by omega), ← hj2]; rfl
    have hone : ∀ u ∈ (List.range (n * 2)).map (icell f), u.oneCell' = true := by
      intro u hu
      obtain ⟨j, _, rfl⟩ := List.mem_map.1 hu
      rfl
    have hown : (w.alloc (.cells #[] 159)).ownsRow w.heap.size 159 2 (.slice (some ⟨w.heap.size, 0, none⟩) 0 0) 0 [] := World.ownsRow_made w #[] 0 (Nat.le_refl _) (by unfold maxLen; omega) (by simp)
    clear hc
    have heq := fun w => Lib.run_eql_slice_nil (P := Tryz.prog) w 86 _ (some ad) n cap 0 0 Tryz.underlying86
    go_enter Tryz.func81, Tryz.ntmps81
    go_wp2_with (at_builtin; refine wpList_append_own _ rfl _ _ 86 rfl w.heap.size 159 i0 (.agg #[.int .i64 0, .int .i64 0]) 2 16 Tryz.underlying86 hi hz0 hz1 hz2 rfl (by decide) _ _ _ rfl hown ad n cap ((List.range (n * 2)).map (icell f)) rfl (by simp) hcell hone (by unfold maxLen; omega) (by omega) (by simp) ?_; intro v' w1 hown' hgrow _)
    go_ret
    rw [Nat.zero_add, List.nil_append] at hown'
    refine ⟨v', rfl, ownsRow_rdS hown' (by omega) (fun j hj => ?_), ((Below.refl _ _).alloc (Nat.le_refl _) _).grown hgrow (by simp) (fun b hb => (hown.lt b hb).1)⟩
    rw [List.getElem?_map, List.getElem?_range (by omega)]
    rfl

set_option maxRecDepth 20000 in
set_option maxHeartbeats 400000 in
theorem cloneC_any (v : Value) (n : Nat) (f : Nat → Int) (w : World) (h : RdI w v 4 n f) :
    Calls Tryz.prog 82 #[v] w fun e w' => ∃ v', e = .returned v' ∧ RdIS (fun b => w.heap.size ≤ b) w' v' 4 n f ∧ Below w.heap.size w w' := by
  obtain ⟨i0, hi, hz0, hz1, hz2⟩ := info_parts Tryz.info161
  obtain ⟨a, cap, rfl, hn, hc⟩ := id h
  cases a with
  | none =>
    have h0 : n = 0 := by
      rcases Nat.eq_zero_or_pos n with h0 | h0
      · exact h0
      · obtain ⟨b, off, e, _⟩ := hc h0; cases e
    subst h0
    clear hn hc h
    have heq := fun w => Lib.run_eql_slice_nil (P := Tryz.prog) w 87 _ none 0 cap 0 0 Tryz.underlying87
    go_enter Tryz.func82, Tryz.ntmps82
    go_wp2
    go_ret
    exact ⟨_, rfl, ⟨_, _, rfl, by omega, fun h0 => by omega⟩, Below.refl _ _⟩
  | some ad =>
    have hcell : ∀ j u, ((List.range (n * 4)).map (icell f))[j]? = some u → (w.alloc (.cells #[] 161)).cell? (ad.add j) = some u := by
      intro j u hj
      obtain ⟨hj1, hj2⟩ := List.getElem?_eq_some_iff.1 hj
      simp at hj1 hj2
      obtain ⟨b, off, e, hlt, hcell⟩ := hc (by omega)
      injection e with e
      subst e
      rw [addr_add, World.cell?_alloc_lt _ _ _ hlt, hcell j (by omega), ← hj2]; rfl
    have hone : ∀ u ∈ (List.range (n * 4)).map (icell f), u.oneCell' = true := by
      intro u hu
      obtain ⟨j, _, rfl⟩ := List.mem_map.1 hu
      rfl
    have hown : (w.alloc (.cells #[] 161)).ownsRow w.heap.size 161 4 (.slice (some ⟨w.heap.size, 0, none⟩) 0 0) 0 [] := World.ownsRow_made w #[] 0 (Nat.le_refl _) (by unfold maxLen; omega) (by simp)
    clear hc
    have heq := fun w => Lib.run_eql_slice_nil (P := Tryz.prog) w 87 _ (some ad) n cap 0 0 Tryz.underlying87
    go_enter Tryz.func82, Tryz.ntmps82
    go_wp2_with (at_builtin; refine wpList_append_own _ rfl _ _ 87 rfl w.heap.size 161 i0 (.agg #[.int .i64 0, .int .i64 0, .int .i64 0, .int .i64 0]) 4 32 Tryz.underlying87 hi hz0 hz1 hz2 rfl (by decide) _ _ _ rfl hown ad n cap ((List.range (n * 4)).map (icell f)) rfl (by simp) hcell hone (by unfold maxLen; omega) (by omega) (by simp) ?_; intro v' w1 hown' hgrow _)
    go_ret
    rw [Nat.zero_add, List.nil_append] at hown'
    refine ⟨v', rfl, ownsRow_rdS hown' (by omega) (fun j hj => ?_), ((Below.refl _ _).alloc (Nat.le_refl _) _).grown hgrow (by simp) (fun b hb => (hown.lt b hb).1)⟩
    rw [List.getElem?_map, List.getElem?_range (by omega)]
    rfl

/-- A table lies in block b, of at most n entries. -/
def IsTabN (n : Nat) (w : World) (b : Nat) (hs : Nat → Bool) (vl : Nat → Int) : Prop :=
  ∃ Dm : DataW Unit, w.ownsMap Tryz.prog 3 (plainElem Tryz.prog 3) b n Dm ∧ tabD Dm hs vl
theorem IsTabN.block {n : Nat} {w w' : World} {b : Nat} {hs : Nat → Bool} {vl : Nat → Int} (h : IsTabN n w b hs vl) (hb : w'.heap[b]? = w.heap[b]?) : IsTabN n w' b hs vl := by
  obtain ⟨Dm, ⟨es, clock, h1, h2⟩, hd⟩ := h
  exact ⟨Dm, ⟨es, clock, by rw [hb]; exact h1, h2⟩, hd⟩
theorem IsTabN.tab {n : Nat} {w : World} {b : Nat} {hs : Nat → Bool} {vl : Nat → Int} (h : IsTabN n w b hs vl) (hn : n ≤ 100) : IsTab w b hs vl := by
  obtain ⟨Dm, h1, hd⟩ := h
  exact ⟨n, Dm, hn, h1, hd⟩
theorem IsTabN.step {n : Nat} {w : World} {b : Nat} {hs : Nat → Bool} {vl : Nat → Int} (h : IsTabN n w b hs vl) : IsTabN (n + 1) w b hs vl := by
  obtain ⟨Dm, h1, hd⟩ := h
  exact ⟨Dm, h1.mono (by omega), hd⟩
theorem IsTabN.congr {n : Nat} {w : World} {b : Nat} {hs hs' : Nat → Bool} {vl vl' : Nat → Int} (h : IsTabN n w b hs vl) (e1 : ∀ k, k < 100 → hs k = hs' k) (e2 : ∀ k, k < 100 → hs k = true → vl k = vl' k) : IsTabN n w b hs' vl' := by
  obtain ⟨Dm, h1, hd⟩ := h
  refine ⟨Dm, h1, fun k hk => ?_⟩
  obtain ⟨a1, a2⟩ := hd k hk
  exact ⟨a1.trans (e1 k hk), fun h => by rw [← e2 k hk ((e1 k hk).trans h)]; exact a2 ((e1 k hk).trans h)⟩
/-- A table without anything. -/
theorem isTab_new (w : World) : IsTabN 0 (w.alloc (.map #[] 0)) w.heap.size (fun _ => false) (fun _ => 0) :=
  ⟨.map [], World.ownsMap_made _ _ _ _, fun k _ => ⟨rfl, fun h => by cases h⟩⟩

set_option maxHeartbeats 400000 in
theorem newTable_any (w : World) :
    Calls Tryz.prog 83 #[] w fun e w' => ∃ m, e = .returned (.agg #[.map (some m)]) ∧ w.heap.size ≤ m ∧ m < w'.heap.size ∧ IsTabN 0 w' m (fun _ => false) (fun _ => 0) ∧ Below w.heap.size w w' := by
  have hmm := @run_makeMap Tryz.prog
  go_enter Tryz.func83, Tryz.ntmps83
  go_wp2_with fail
  refine bodyPost_ret (v := .agg #[.map (some (w.heap.size + 1))]) (by simp [results, Tryz.results83, go_sem]) rfl ⟨_, rfl, by omega, by simp, ?_, ?_⟩
  · have := isTab_new (w.alloc (.cells #[.map (some (w.heap.size + 1))] 121))
    simpa using this
  · exact ((Below.refl _ _).alloc (Nat.le_refl _) _).alloc (by simp) _

set_option maxHeartbeats 400000 in
theorem newLocks_any (e : Nat) (D : EngD) (vB vL : Value) (k : Int) (w : World) (h : IsKnown w e D vB vL) :
    Calls Tryz.prog 84 #[.pointer (some ⟨e, 0, none⟩), .int .i64 k] w fun r w' => r = .returned (.agg #[.pointer (some ⟨e, 0, none⟩), .int .i64 k, .int .i64 (nextOf D k : Nat), .slice none 0 0]) ∧ Below w.heap.size w w' := by
  have hb0 : Below w.heap.size w (w.alloc (.cells #[.pointer none, .int .i64 0, .int .i64 0, .slice none 0 0] 125)) := (Below.refl _ _).alloc (Nat.le_refl _) _
  go_enter Tryz.func84, Tryz.ntmps84
  go_wp2_with fail
  refine (knext_any _ D vB vL k _ (h.below hb0)).mono ?_
  rintro r w1 ⟨rfl, hb1⟩
  have r1 := (rowIs_list w [.pointer none, .int .i64 0, .int .i64 0, .slice none 0 0] 125).below hb1
  have d0 : w1.cell? ⟨w.heap.size, 0, none⟩ = some (.pointer none) := r1.cell (j := 0) (by simp)
  have d1 : w1.cell? ⟨w.heap.size, 1, none⟩ = some (.int .i64 0) := r1.cell (j := 1) (by simp)
  have d2 : w1.cell? ⟨w.heap.size, 2, none⟩ = some (.int .i64 0) := r1.cell (j := 2) (by simp)
  have d3 : w1.cell? ⟨w.heap.size, 3, none⟩ = some (.slice none 0 0) := r1.cell (j := 3) (by simp)
  have f1 := r1.frozen
  have b1 : Below w.heap.size w w1 := hb0.trans (hb1.mono (by simp))
  generalize hN : ((nextOf D k : Nat) : Int) = N at *
  have HN : Hid (_ = _) := hN
  clear hN
  go_wp2_with fail
  refine bodyPost_ret (v := .agg #[.pointer (some ⟨e, 0, none⟩), .int .i64 k, .int .i64 N, .slice none 0 0]) (by simp [results, Tryz.results84, go_sem, d0, d1, d2, d3]) rfl ⟨by rw [← HN.out], ?_⟩
  exact (((b1.setCell (Nat.le_refl _) _).setCell (Nat.le_refl _) _).setCell (Nat.le_refl _) _).setCell (Nat.le_refl _) _

def upd {α : Type} (f : Nat → α) (k : Nat) (x : α) (j : Nat) : α := if j = k then x else f j
theorem upd_same {α : Type} (f : Nat → α) (k : Nat) (x : α) : upd f k x k = x := if_pos rfl
theorem upd_other {α : Type} (f : Nat → α) {j k : Nat} (x : α) (h : j ≠ k) : upd f k x j = f j := if_neg h

set_option maxHeartbeats 400000 in
theorem put_any (K off b : Nat) (hs : Nat → Bool) (vl : Nat → Int) (k : Nat) (x : Int) (w : World) (hk : k < 100) (hx : (Lit.int .i64 x).wf = true) (n : Nat) (hn : n ≤ 40)
    (hc : w.cell? ⟨K, off, none⟩ = some (.map (some b))) (hT : IsTabN n w b hs vl) :
    Calls Tryz.prog 85 #[.pointer (some ⟨K, off, none⟩), .int .i64 k, .int .i64 x] w fun e w' => e = .returned (.tuple #[]) ∧
      IsTabN (n + 1) w' b (upd hs k true) (upd vl k x) ∧ w.grownBy w' (some b) := by
  obtain ⟨Dm, hown, ht⟩ := hT
  have hkey : keyOf Tryz.prog 3 (.int .i64 (k : Int)) = some (.int .i64 (k : Int)) := keyOf_int_mk Tryz.underlying3 (wf_small hk)
  go_enter Tryz.func85, Tryz.ntmps85
  go_wp2_with (at_mapUpdate; refine wpList_mapUpdate_own _ rfl _ _ _ 119 rfl 3 3 law3 Tryz.underlying119 _ b n _ rfl hown (by unfold maxLen; omega) _ _ _ rfl rfl hkey _ [] (plainElem_int Tryz.underlying3 hx) ?_; intro w1 hown1 hgrow1)
  go_end0
  refine ⟨rfl, ⟨_, hown1, fun j hj => ?_⟩, hgrow1⟩
  by_cases e : j = k
  · subst e
    rw [upd_same, upd_same]
    exact ⟨has_put_same hown.isMap (by simp [WideAt.IsKeyLit]) _, fun _ => atKey_put_same hown.isMap (by simp [WideAt.IsKeyLit]) _ _⟩
  · have hne : (Lit.int .i64 (j : Int)) ≠ .int .i64 (k : Int) := by
      intro h; injection h with _ h; exact e (by omega)
    rw [upd_other _ _ e, upd_other _ _ e, has_put_other hne, atKey_put_other hne]
    exact ht j hj
end Go.Proofs.YtldeiiffabfmeaaGreatDoor
