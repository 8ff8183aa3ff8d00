/- The contracts of what makes small pieces of memory. -/
import Derived.Test.YtogegigepgnbdaaN
import Derived.Test.YtogegigepgnbdaaV
set_option linter.unusedVariables false
set_option linter.unusedSimpArgs false
namespace Go.Proofs.Ytogegigepgnbdaa
open Go.RowKit Go.Maps

theorem Try.info3 : (Try.prog.info? 3).map (fun i => (i.zero, i.size, i.bytes)) = some (some (.int .i64 0), 1, 8) := by kernel_rfl
theorem Try.info105 : (Try.prog.info? 105).map (fun i => (i.zero, i.size, i.bytes)) = some (some (.agg #[.int .i64 0, .int .i64 0]), 2, 16) := by kernel_rfl
theorem Try.info107 : (Try.prog.info? 107).map (fun i => (i.zero, i.size, i.bytes)) = some (some (.agg #[.int .i64 0, .int .i64 0, .int .i64 0, .int .i64 0]), 4, 32) := by kernel_rfl
theorem Try.info49 : (Try.prog.info? 49).map (fun i => (i.zero, i.size, i.bytes)) = some (some (.agg #[.slice none 0 0, .slice none 0 0, .slice none 0 0, .slice none 0 0]), 4, 96) := by kernel_rfl
theorem size_of_info {P : Program} {e : TypeId} {z : Value} {size bytes : Nat} (h : (P.info? e).map (fun i => (i.zero, i.size, i.bytes)) = some (some z, size, bytes)) : (P.info? e).map (·.size) = some size := by
  obtain ⟨i, hi, _, h2, _⟩ := info_parts h
  simp [hi, h2]

/-- f, and zeros behind it. -/
def cut (n : Nat) (f : Nat → Int) (j : Nat) : Int := if j < n then f j else 0

set_option maxHeartbeats 400000 in
theorem lentInts_any (v : Value) (n : Nat) (f : Nat → Int) (w : World) (h : RdI w v 1 n f) :
    Calls Try.prog 8 #[v] w fun e w' => e = .returned (.slice (some ⟨w.heap.size, 0, none⟩) (n + 1) (n + 1)) ∧ RowIs w' w.heap.size 3 (n + 1) (icell (cut n f)) ∧ w'.heap.size = w.heap.size + 1 ∧ Below w.heap.size w w' := by
  obtain ⟨a, cap, rfl, hn, -⟩ := id h
  go_enter Try.func8, Try.ntmps8
  go_wp2_with (at_make; refine wpList_make_row rfl _ _ 22 rfl 3 (.int .i64 0) 1 8 Try.underlying22 Try.info3 _ _ (n + 1) rfl rfl rfl rfl (by omega) (by unfold maxLen; omega) (fun _ => .int .i64 0) (fun j _ => by simp [Value.cells, Nat.mod_one]) ?_; intro w1 hrow hsz hb; obtain ⟨w2, hrun, hrow2, hsz2, hoth, hb2⟩ := copy_run (P := Try.prog) 22 22 3 Try.underlying22 1 (size_of_info Try.info3) w.heap.size (n + 1) (n + 1) _ n (by omega) 3 _ _ hrow (by omega) (icell f) (h.below hb).src)
  go_ret
  refine ⟨rfl, (hrow2.size_congr (Nat.mul_one _)).congr fun j _ => ?_, hsz2.trans hsz, hb.trans hb2⟩
  simp only [icell, cut, Nat.mul_one]
  split <;> rfl

set_option maxRecDepth 20000 in
set_option maxHeartbeats 400000 in
theorem cloneI_any (v : Value) (n : Nat) (f : Nat → Int) (w : World) (h : RdI w v 1 n f) :
    Calls Try.prog 38 #[v] w fun e w' => ∃ v', e = .returned v' ∧ RdIS (fun b => w.heap.size ≤ b) w' v' 1 n f ∧ Below w.heap.size w w' := by
  obtain ⟨i0, hi, hz0, hz1, hz2⟩ := info_parts Try.info3
  obtain ⟨a, cap, rfl, hn, hc⟩ := id h
  cases a with
  | none =>
    have h0 : n = 0 := by
      rcases Nat.eq_zero_or_pos n with h0 | h0
      · exact h0
      · obtain ⟨b, off, e, _⟩ := hc h0; cases e
    subst h0
    clear hn hc h
    have heq := fun w => Lib.run_eql_slice_nil (P := Try.prog) w 22 _ none 0 cap 0 0 Try.underlying22
    go_enter Try.func38, Try.ntmps38
    go_wp2
    go_ret
    exact ⟨_, rfl, ⟨_, _, rfl, by omega, fun h0 => by omega⟩, Below.refl _ _⟩
  | some ad =>
    have hcell : ∀ j u, ((List.range (n * 1)).map (icell f))[j]? = some u → (w.alloc (.cells #[] 3)).cell? (ad.add j) = some u := by
      intro j u hj
      obtain ⟨hj1, hj2⟩ := List.getElem?_eq_some_iff.1 hj
      simp at hj1 hj2
      obtain ⟨b, off, e, hlt, hcell⟩ := hc (by omega)
      injection e with e
      subst e
      rw [addr_add, World.cell?_alloc_lt _ _ _ hlt, hcell j (by omega), ← hj2]; rfl
    have hone : ∀ u ∈ (List.range (n * 1)).map (icell f), u.oneCell' = true := by
      intro u hu
      obtain ⟨j, _, rfl⟩ := List.mem_map.1 hu
      rfl
    have hown : (w.alloc (.cells #[] 3)).ownsRow w.heap.size 3 1 (.slice (some ⟨w.heap.size, 0, none⟩) 0 0) 0 [] := World.ownsRow_made w #[] 0 (Nat.le_refl _) (by unfold maxLen; omega) (by simp)
    clear hc
    have heq := fun w => Lib.run_eql_slice_nil (P := Try.prog) w 22 _ (some ad) n cap 0 0 Try.underlying22
    go_enter Try.func38, Try.ntmps38
    go_wp2_with (at_builtin; refine wpList_append_own _ rfl _ _ 22 rfl w.heap.size 3 i0 (.int .i64 0) 1 8 Try.underlying22 hi hz0 hz1 hz2 rfl (by decide) _ _ _ rfl hown ad n cap ((List.range (n * 1)).map (icell f)) rfl (by simp) hcell hone (by unfold maxLen; omega) (by omega) (by simp) ?_; intro v' w1 hown' hgrow _)
    go_ret
    rw [Nat.zero_add, List.nil_append] at hown'
    refine ⟨v', rfl, ownsRow_rdS hown' (by omega) (fun j hj => ?_), ((Below.refl _ _).alloc (Nat.le_refl _) _).grown hgrow (by simp) (fun b hb => (hown.lt b hb).1)⟩
    rw [List.getElem?_map, List.getElem?_range (by omega)]
    rfl

set_option maxRecDepth 20000 in
set_option maxHeartbeats 400000 in
theorem cloneR_any (v : Value) (n : Nat) (f : Nat → Int) (w : World) (h : RdI w v 2 n f) :
    Calls Try.prog 39 #[v] w fun e w' => ∃ v', e = .returned v' ∧ RdIS (fun b => w.heap.size ≤ b) w' v' 2 n f ∧ Below w.heap.size w w' := by
  obtain ⟨i0, hi, hz0, hz1, hz2⟩ := info_parts Try.info105
  obtain ⟨a, cap, rfl, hn, hc⟩ := id h
  cases a with
  | none =>
    have h0 : n = 0 := by
      rcases Nat.eq_zero_or_pos n with h0 | h0
      · exact h0
      · obtain ⟨b, off, e, _⟩ := hc h0; cases e
    subst h0
    clear hn hc h
    have heq := fun w => Lib.run_eql_slice_nil (P := Try.prog) w 44 _ none 0 cap 0 0 Try.underlying44
    go_enter Try.func39, Try.ntmps39
    go_wp2
    go_ret
    exact ⟨_, rfl, ⟨_, _, rfl, by omega, fun h0 => by omega⟩, Below.refl _ _⟩
  | some ad =>
    have hcell : ∀ j u, ((List.range (n * 2)).map (icell f))[j]? = some u → (w.alloc (.cells #[] 105)).cell? (ad.add j) = some u := by
      intro j u hj
      obtain ⟨hj1, hj2⟩ := List.getElem?_eq_some_iff.1 hj
      simp at hj1 hj2
      obtain ⟨b, off, e, hlt, hcell⟩ := hc (by omega)
      injection e with e
      subst e
      rw [addr_add, World.cell?_alloc_lt _ _ _ hlt, hcell j (by omega), ← hj2]; rfl
    have hone : ∀ u ∈ (List.range (n * 2)).map (icell f), u.oneCell' = true := by
      intro u hu
      obtain ⟨j, _, rfl⟩ := List.mem_map.1 hu
      rfl
    have hown : (w.alloc (.cells #[] 105)).ownsRow w.heap.size 105 2 (.slice (some ⟨w.heap.size, 0, none⟩) 0 0) 0 [] := World.ownsRow_made w #[] 0 (Nat.le_refl _) (by unfold maxLen; omega) (by simp)
    clear hc
    have heq := fun w => Lib.run_eql_slice_nil (P := Try.prog) w 44 _ (some ad) n cap 0 0 Try.underlying44
    go_enter Try.func39, Try.ntmps39
    go_wp2_with (at_builtin; refine wpList_append_own _ rfl _ _ 44 rfl w.heap.size 105 i0 (.agg #[.int .i64 0, .int .i64 0]) 2 16 Try.underlying44 hi hz0 hz1 hz2 rfl (by decide) _ _ _ rfl hown ad n cap ((List.range (n * 2)).map (icell f)) rfl (by simp) hcell hone (by unfold maxLen; omega) (by omega) (by simp) ?_; intro v' w1 hown' hgrow _)
    go_ret
    rw [Nat.zero_add, List.nil_append] at hown'
    refine ⟨v', rfl, ownsRow_rdS hown' (by omega) (fun j hj => ?_), ((Below.refl _ _).alloc (Nat.le_refl _) _).grown hgrow (by simp) (fun b hb => (hown.lt b hb).1)⟩
    rw [List.getElem?_map, List.getElem?_range (by omega)]
    rfl

set_option maxRecDepth 20000 in
set_option maxHeartbeats 400000 in
theorem cloneC_any (v : Value) (n : Nat) (f : Nat → Int) (w : World) (h : RdI w v 4 n f) :
    Calls Try.prog 40 #[v] w fun e w' => ∃ v', e = .returned v' ∧ RdIS (fun b => w.heap.size ≤ b) w' v' 4 n f ∧ Below w.heap.size w w' := by
  obtain ⟨i0, hi, hz0, hz1, hz2⟩ := info_parts Try.info107
  obtain ⟨a, cap, rfl, hn, hc⟩ := id h
  cases a with
  | none =>
    have h0 : n = 0 := by
      rcases Nat.eq_zero_or_pos n with h0 | h0
      · exact h0
      · obtain ⟨b, off, e, _⟩ := hc h0; cases e
    subst h0
    clear hn hc h
    have heq := fun w => Lib.run_eql_slice_nil (P := Try.prog) w 45 _ none 0 cap 0 0 Try.underlying45
    go_enter Try.func40, Try.ntmps40
    go_wp2
    go_ret
    exact ⟨_, rfl, ⟨_, _, rfl, by omega, fun h0 => by omega⟩, Below.refl _ _⟩
  | some ad =>
    have hcell : ∀ j u, ((List.range (n * 4)).map (icell f))[j]? = some u → (w.alloc (.cells #[] 107)).cell? (ad.add j) = some u := by
      intro j u hj
      obtain ⟨hj1, hj2⟩ := List.getElem?_eq_some_iff.1 hj
      simp at hj1 hj2
      obtain ⟨b, off, e, hlt, hcell⟩ := hc (by omega)
      injection e with e
      subst e
      rw [addr_add, World.cell?_alloc_lt _ _ _ hlt, hcell j (by omega), ← hj2]; rfl
    have hone : ∀ u ∈ (List.range (n * 4)).map (icell f), u.oneCell' = true := by
      intro u hu
      obtain ⟨j, _, rfl⟩ := List.mem_map.1 hu
      rfl
    have hown : (w.alloc (.cells #[] 107)).ownsRow w.heap.size 107 4 (.slice (some ⟨w.heap.size, 0, none⟩) 0 0) 0 [] := World.ownsRow_made w #[] 0 (Nat.le_refl _) (by unfold maxLen; omega) (by simp)
    clear hc
    have heq := fun w => Lib.run_eql_slice_nil (P := Try.prog) w 45 _ (some ad) n cap 0 0 Try.underlying45
    go_enter Try.func40, Try.ntmps40
    go_wp2_with (at_builtin; refine wpList_append_own _ rfl _ _ 45 rfl w.heap.size 107 i0 (.agg #[.int .i64 0, .int .i64 0, .int .i64 0, .int .i64 0]) 4 32 Try.underlying45 hi hz0 hz1 hz2 rfl (by decide) _ _ _ rfl hown ad n cap ((List.range (n * 4)).map (icell f)) rfl (by simp) hcell hone (by unfold maxLen; omega) (by omega) (by simp) ?_; intro v' w1 hown' hgrow _)
    go_ret
    rw [Nat.zero_add, List.nil_append] at hown'
    refine ⟨v', rfl, ownsRow_rdS hown' (by omega) (fun j hj => ?_), ((Below.refl _ _).alloc (Nat.le_refl _) _).grown hgrow (by simp) (fun b hb => (hown.lt b hb).1)⟩
    rw [List.getElem?_map, List.getElem?_range (by omega)]
    rfl

/-- A table lies in block b, of at most n entries. -/
def IsTabN (n : Nat) (w : World) (b : Nat) (hs : Nat → Bool) (vl : Nat → Int) : Prop :=
  ∃ Dm : DataW Unit, w.ownsMap Try.prog 3 (plainElem Try.prog 3) b n Dm ∧ tabD Dm hs vl
theorem IsTabN.block {n : Nat} {w w' : World} {b : Nat} {hs : Nat → Bool} {vl : Nat → Int} (h : IsTabN n w b hs vl) (hb : w'.heap[b]? = w.heap[b]?) : IsTabN n w' b hs vl := by
  obtain ⟨Dm, ⟨es, clock, h1, h2⟩, hd⟩ := h
  exact ⟨Dm, ⟨es, clock, by rw [hb]; exact h1, h2⟩, hd⟩
theorem IsTabN.tab {n : Nat} {w : World} {b : Nat} {hs : Nat → Bool} {vl : Nat → Int} (h : IsTabN n w b hs vl) (hn : n ≤ 100) : IsTab w b hs vl := by
  obtain ⟨Dm, h1, hd⟩ := h
  exact ⟨n, Dm, hn, h1, hd⟩
theorem IsTabN.step {n : Nat} {w : World} {b : Nat} {hs : Nat → Bool} {vl : Nat → Int} (h : IsTabN n w b hs vl) : IsTabN (n + 1) w b hs vl := by
  obtain ⟨Dm, h1, hd⟩ := h
  exact ⟨Dm, h1.mono (by omega), hd⟩
theorem IsTabN.congr {n : Nat} {w : World} {b : Nat} {hs hs' : Nat → Bool} {vl vl' : Nat → Int} (h : IsTabN n w b hs vl) (e1 : ∀ k, k < 100 → hs k = hs' k) (e2 : ∀ k, k < 100 → hs k = true → vl k = vl' k) : IsTabN n w b hs' vl' := by
  obtain ⟨Dm, h1, hd⟩ := h
  refine ⟨Dm, h1, fun k hk => ?_⟩
  obtain ⟨a1, a2⟩ := hd k hk
  exact ⟨a1.trans (e1 k hk), fun h => by rw [← e2 k hk ((e1 k hk).trans h)]; exact a2 ((e1 k hk).trans h)⟩
/-- A table without anything. -/
theorem isTab_new (w : World) : IsTabN 0 (w.alloc (.map #[] 0)) w.heap.size (fun _ => false) (fun _ => 0) :=
  ⟨.map [], World.ownsMap_made _ _ _ _, fun k _ => ⟨rfl, fun h => by cases h⟩⟩

set_option maxHeartbeats 400000 in
theorem newTable_any (w : World) :
    Calls Try.prog 42 #[] w fun e w' => ∃ m, e = .returned (.agg #[.map (some m)]) ∧ w.heap.size ≤ m ∧ m < w'.heap.size ∧ IsTabN 0 w' m (fun _ => false) (fun _ => 0) ∧ Below w.heap.size w w' := by
  have hmm := @run_makeMap Try.prog
  go_enter Try.func42, Try.ntmps42
  go_wp2_with fail
  refine bodyPost_ret (v := .agg #[.map (some (w.heap.size + 1))]) (by simp [results, Try.results42, go_sem]) rfl ⟨_, rfl, by omega, by simp, ?_, ?_⟩
  · have := isTab_new (w.alloc (.cells #[.map (some (w.heap.size + 1))] 128))
    simpa using this
  · exact ((Below.refl _ _).alloc (Nat.le_refl _) _).alloc (by simp) _

set_option maxHeartbeats 400000 in
theorem newLocks_any (n : Int) (w : World) :
    Calls Try.prog 43 #[.int .i64 n] w fun e w' => e = .returned (.agg #[.int .i64 n]) ∧ Below w.heap.size w w' := by
  go_enter Try.func43, Try.ntmps43
  go_wp2_with fail
  refine bodyPost_ret (v := .agg #[.int .i64 n]) (by simp [results, Try.results43, go_sem]) rfl ⟨rfl, ?_⟩
  exact (Below.refl _ _).alloc (Nat.le_refl _) _

def upd {α : Type} (f : Nat → α) (k : Nat) (x : α) (j : Nat) : α := if j = k then x else f j
theorem upd_same {α : Type} (f : Nat → α) (k : Nat) (x : α) : upd f k x k = x := if_pos rfl
theorem upd_other {α : Type} (f : Nat → α) {j k : Nat} (x : α) (h : j ≠ k) : upd f k x j = f j := if_neg h

set_option maxHeartbeats 400000 in
theorem put_any (K off b : Nat) (hs : Nat → Bool) (vl : Nat → Int) (k : Nat) (x : Int) (w : World) (hk : k < 100) (hx : (Lit.int .i64 x).wf = true) (n : Nat) (hn : n ≤ 40)
    (hc : w.cell? ⟨K, off, none⟩ = some (.map (some b))) (hT : IsTabN n w b hs vl) :
    Calls Try.prog 46 #[.pointer (some ⟨K, off, none⟩), .int .i64 k, .int .i64 x] w fun e w' => e = .returned (.tuple #[]) ∧
      IsTabN (n + 1) w' b (upd hs k true) (upd vl k x) ∧ w.grownBy w' (some b) := by
  obtain ⟨Dm, hown, ht⟩ := hT
  have hkey : keyOf Try.prog 3 (.int .i64 (k : Int)) = some (.int .i64 (k : Int)) := keyOf_int_mk Try.underlying3 (wf_small hk)
  go_enter Try.func46, Try.ntmps46
  go_wp2_with (at_mapUpdate; refine wpList_mapUpdate_own _ rfl _ _ _ 126 rfl 3 3 law3 Try.underlying126 _ b n _ rfl hown (by unfold maxLen; omega) _ _ _ rfl rfl hkey _ [] (plainElem_int Try.underlying3 hx) ?_; intro w1 hown1 hgrow1)
  go_end0
  refine ⟨rfl, ⟨_, hown1, fun j hj => ?_⟩, hgrow1⟩
  by_cases e : j = k
  · subst e
    rw [upd_same, upd_same]
    exact ⟨has_put_same hown.isMap (by simp [WideAt.IsKeyLit]) _, fun _ => atKey_put_same hown.isMap (by simp [WideAt.IsKeyLit]) _ _⟩
  · have hne : (Lit.int .i64 (j : Int)) ≠ .int .i64 (k : Int) := by
      intro h; injection h with _ h; exact e (by omega)
    rw [upd_other _ _ e, upd_other _ _ e, has_put_other hne, atKey_put_other hne]
    exact ht j hj
end Go.Proofs.Ytogegigepgnbdaa
