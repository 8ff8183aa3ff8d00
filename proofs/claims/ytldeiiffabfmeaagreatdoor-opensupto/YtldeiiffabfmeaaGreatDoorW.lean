/- Rows of memory that are known whole: laws for make and copy at elements of any size. Nothing of the program is named here. -/
import Derived.Test.YtldeiiffabfmeaaGreatDoorS
import Derived.Laws.CopyRow
import Derived.Laws.CopyOwn
set_option linter.unusedVariables false
set_option linter.unusedSimpArgs false
namespace Go.Proofs.YtldeiiffabfmeaaGreatDoor
open Go.RowKit

/-- Block g is a row of m cells of type T, none of them frozen: c tells what they hold. -/
def RowIs (w : World) (g : Nat) (T : TypeId) (m : Nat) (c : Nat → Value) : Prop :=
  ∃ cur : Array Value, w.heap[g]? = some (.cells cur T (0, 0)) ∧ cur.size = m ∧ ∀ j, j < m → cur[j]? = some (c j)

theorem RowIs.lt {w : World} {g T m : Nat} {c : Nat → Value} (h : RowIs w g T m c) : g < w.heap.size := by
  obtain ⟨cur, h1, _⟩ := h
  exact (Array.getElem?_eq_some_iff.1 h1).1
theorem RowIs.cell {w : World} {g T m : Nat} {c : Nat → Value} (h : RowIs w g T m c) {j : Nat} (hj : j < m) : w.cell? ⟨g, j, none⟩ = some (c j) := by
  obtain ⟨cur, h1, _, h3⟩ := h
  simp [World.cell?, h1, h3 j hj]
theorem RowIs.frozen {w : World} {g T m : Nat} {c : Nat → Value} (h : RowIs w g T m c) (j : Nat) : w.frozen? ⟨g, j, none⟩ = false := by
  obtain ⟨cur, h1, _⟩ := h
  simp [World.frozen?, h1]
theorem RowIs.block {w w' : World} {g T m : Nat} {c : Nat → Value} (h : RowIs w g T m c) (hb : w'.heap[g]? = w.heap[g]?) : RowIs w' g T m c := by
  obtain ⟨cur, h1, h2⟩ := h
  exact ⟨cur, by rw [hb]; exact h1, h2⟩
theorem RowIs.below {w w' : World} {g T m : Nat} {c : Nat → Value} (h : RowIs w g T m c) (hb : Below w.heap.size w w') : RowIs w' g T m c := h.block (hb.block g h.lt)
theorem RowIs.congr {w : World} {g T m : Nat} {c c' : Nat → Value} (h : RowIs w g T m c) (he : ∀ j, j < m → c j = c' j) : RowIs w g T m c' := by
  obtain ⟨cur, h1, h2, h3⟩ := h
  exact ⟨cur, h1, h2, fun j hj => by rw [h3 j hj, he j hj]⟩
theorem RowIs.size_congr {w : World} {g T m m' : Nat} {c : Nat → Value} (h : RowIs w g T m c) (he : m = m') : RowIs w g T m' c := he ▸ h
theorem RowIs.setCell_other {w : World} {g T m : Nat} {c : Nat → Value} (h : RowIs w g T m c) {a : Addr} (ha : g ≠ a.block) (u : Value) : RowIs (w.setCell a u) g T m c :=
  h.block (Below.heap_setCell _ _ _ _ ha)
theorem RowIs.setCell {w : World} {g T m : Nat} {c : Nat → Value} (h : RowIs w g T m c) (i : Nat) (u : Value) : RowIs (w.setCell ⟨g, i, none⟩ u) g T m (fun j => if j = i then u else c j) := by
  obtain ⟨cur, h1, h2, h3⟩ := h
  refine ⟨cur.setIfInBounds i u, ?_, by simpa using h2, fun j hj => ?_⟩
  · simp [World.setCell, Array.getElem?_modify, h1]
  · rw [Array.getElem?_setIfInBounds]
    by_cases e : i = j
    · subst e; simp [h2, hj]
    · rw [if_neg e, h3 j hj]
      show some (c j) = some (if j = i then u else c j)
      rw [if_neg (fun h => e (Eq.symm h))]
theorem RowIs.alloc {w : World} {g T m : Nat} {c : Nat → Value} (h : RowIs w g T m c) (o : Obj) : RowIs (w.alloc o) g T m c := h.block (Below.heap_alloc _ _ _ h.lt)
theorem rowIs_new (w : World) (cur : Array Value) (T : TypeId) (c : Nat → Value) (h : ∀ j, j < cur.size → cur[j]? = some (c j)) : RowIs (w.alloc (.cells cur T)) w.heap.size T cur.size c :=
  ⟨cur, heap_alloc_new w _, rfl, h⟩
theorem RowIs.apart {w : World} {g g' T T' m m' : Nat} {c c' : Nat → Value} (h : RowIs w g T m c) (h' : RowIs w g' T' m' c') (hT : T ≠ T') : g ≠ g' := by
  intro e
  subst e
  obtain ⟨cur, h1, _⟩ := h
  obtain ⟨cur', h1', _⟩ := h'
  rw [h1] at h1'
  injection h1' with h2
  injection h2 with _ h3
  exact hT h3

/-- What a list tells. -/
def lc (xs : List Value) (j : Nat) : Value := xs.getD j undef
theorem rowIs_list (w : World) (xs : List Value) (T : TypeId) : RowIs (w.alloc (.cells xs.toArray T)) w.heap.size T xs.length (lc xs) := by
  have := rowIs_new w xs.toArray T (lc xs) (fun j hj => by
    simp at hj
    simp [lc, List.getD, hj])
  simpa using this
theorem RowIs.setCell_list {w : World} {g T : Nat} {xs : List Value} (h : RowIs w g T xs.length (lc xs)) (i : Nat) (u : Value) : RowIs (w.setCell ⟨g, i, none⟩ u) g T (xs.set i u).length (lc (xs.set i u)) := by
  refine ((h.setCell i u).size_congr (by simp)).congr fun j hj => ?_
  simp at hj
  by_cases e : j = i
  · subst e; simp [lc, List.getD, hj]
  · simp only [lc, List.getD, if_neg e]
    rw [List.getElem?_set_ne (fun h => e h.symm)]

/-- Numbers as the cells of a row. -/
def icell (f : Nat → Int) (j : Nat) : Value := .int .i64 (f j)

theorem RowIs.rd {w : World} {g T m : Nat} {c : Nat → Value} (h : RowIs w g T m c) {k n : Nat} {f : Nat → Int} (cap : Nat) (hn : n ≤ 1048577) (hm : n * k ≤ m) (hf : ∀ j, j < n * k → c j = .int .i64 (f j)) : RdI w (.slice (some ⟨g, 0, none⟩) n cap) k n f :=
  ⟨_, _, rfl, hn, fun _ => ⟨g, 0, rfl, h.lt, fun j hj => by rw [Nat.zero_add, h.cell (by omega), hf j hj]⟩⟩

theorem addr_add (b off j : Nat) : (⟨b, off, none⟩ : Addr).add j = ⟨b, off + j, none⟩ := by
  unfold Addr.add
  by_cases h : j = 0
  · subst h; simp
  · simp [h]

/-- The cells that a slice of n elements, size cells each, leads to. -/
def Src (w : World) (v : Value) (n size : Nat) (s : Nat → Value) : Prop :=
  ∃ sp cap, v = .slice sp n cap ∧ (0 < n → ∃ ad : Addr, sp = some ad ∧ ∀ j, j < n * size → w.cell? (ad.add j) = some (s j)) ∧ ∀ j, j < n * size → (s j).oneCell' = true
theorem RdI.src {w : World} {v : Value} {k n : Nat} {f : Nat → Int} (h : RdI w v k n f) : Src w v n k (icell f) := by
  obtain ⟨a, cap, rfl, _, hc⟩ := h
  refine ⟨a, cap, rfl, fun h0 => ?_, fun j _ => rfl⟩
  obtain ⟨b, off, rfl, _, hcell⟩ := hc h0
  exact ⟨_, rfl, fun j hj => by rw [addr_add]; exact hcell j hj⟩

section
variable {P : Program} {w : World} {ops : Array Oper} {rest : List Oper} {o : Oper} {a : Act} {Q : Exit → Act → World → Prop}

/-- 'make([]T, n)': an equation for the walk, in whatever world. -/
theorem make_run (t e : TypeId) (z : Value) (size bytes : Nat) (h1 : P.underlying t = some (.slice e)) (hinfo : (P.info? e).map (fun i => (i.zero, i.size, i.bytes)) = some (some z, size, bytes))
    (n : Nat) (b2 : bytes * n ≤ 281474976710656) (b3 : n ≤ maxLen) (zc : Nat → Value) (hz : ∀ j, j < n * size → z.cells[j % z.cells.size]! = zc j) :
    ∃ M : Array Value, (∀ w : World, (Instr.makeSlice t (.int .i64 (n : Int)) (.int .i64 (n : Int))).run P w = .ok (.slice (some ⟨w.heap.size, 0, none⟩) n n) (w.alloc (.cells M e))) ∧ ∀ w : World, RowIs (w.alloc (.cells M e)) w.heap.size e (n * size) zc := by
  obtain ⟨i, hi, hz0, hz1, hz2⟩ := info_parts hinfo
  have hb' : (i.bytes : Int) * (n : Int) ≤ 281474976710656 := by
    rw [hz2]
    have h : ((bytes * n : Nat) : Int) ≤ 281474976710656 := by omega
    rwa [Int.natCast_mul] at h
  have h63' : (n : Int) ≤ 9223372036854775807 := by unfold maxLen at b3; omega
  refine ⟨madeCells z.cells (n * i.size), fun w => ?_, fun w => ?_⟩
  · have hrun := run_make (P := P) w t e i z h1 hi hz0 .i64 .i64 n n (by omega) (by omega) hb' h63'
    simp only [Int.toNat_natCast] at hrun
    exact hrun
  · have hs : (madeCells z.cells (n * i.size)).size = n * size := by rw [size_madeCells, hz1]
    have := rowIs_new w (madeCells z.cells (n * i.size)) e zc (fun j hj => by
      rw [hs] at hj
      rw [← hz j hj, madeCells, Array.getElem?_map]
      simp [hz1, hj])
    rw [hs] at this
    exact this

/-- 'make([]T, n)': a new row of zeros. -/
theorem wpList_make_row (hg : o.guard = none) (l c : Operand) (t : TypeId) (hop : o.op = Op.makeSlice t l c)
    (e : TypeId) (z : Value) (size bytes : Nat) (h1 : P.underlying t = some (.slice e)) (hinfo : (P.info? e).map (fun i => (i.zero, i.size, i.bytes)) = some (some z, size, bytes))
    (L C : Int) (n : Nat) (hl : a.eval l = .int .i64 L) (hc : a.eval c = .int .i64 C) (hL : L = (n : Int)) (hC : C = (n : Int)) (b2 : bytes * n ≤ 281474976710656) (b3 : n ≤ maxLen)
    (zc : Nat → Value) (hz : ∀ j, j < n * size → z.cells[j % z.cells.size]! = zc j)
    (hK : ∀ w', RowIs w' w.heap.size e (n * size) zc → w'.heap.size = w.heap.size + 1 → Below w.heap.size w w' → wpList P ops Q rest (a.put o.dst (.slice (some ⟨w.heap.size, 0, none⟩) n n)) w') :
    wpList P ops Q (o :: rest) a w := by
  obtain ⟨i, hi, hz0, hz1, hz2⟩ := info_parts hinfo
  refine wpList_plain hg fun K hK' => ?_
  have hb' : (i.bytes : Int) * (n : Int) ≤ 281474976710656 := by
    rw [hz2]
    have h : ((bytes * n : Nat) : Int) ≤ 281474976710656 := by omega
    rwa [Int.natCast_mul] at h
  have h63' : (n : Int) ≤ 9223372036854775807 := by unfold maxLen at b3; omega
  have hrun := run_make (P := P) w t e i z h1 hi hz0 .i64 .i64 n n (by omega) (by omega) hb' h63'
  simp only [Int.toNat_natCast] at hrun
  subst hL
  subst hC
  unfold Oper.wp
  simp [execOp, hop, hl, hc, hrun, Result.andThen]
  refine hK' _ _ (hK _ ?_ (by simp) ((Below.refl _ _).alloc (Nat.le_refl _) _))
  have hs : (madeCells z.cells (n * i.size)).size = n * size := by rw [size_madeCells, hz1]
  have := rowIs_new w (madeCells z.cells (n * i.size)) e zc (fun j hj => by
    rw [hs] at hj
    rw [← hz j hj, madeCells, Array.getElem?_map]
    simp [hz1, hj])
  rw [hs] at this
  exact this

/-- 'copy(dst, src)', dst at the head of a row that is known whole: an equation for the walk. -/
theorem copy_run (dT sT elem : TypeId) (hu : P.underlying dT = some (.slice elem)) (size : Nat) (hsz : (P.info? elem).map (·.size) = some size)
    (g dLen dCap : Nat) (v : Value) (n : Nat) (hn : n ≤ dLen)
    (T m : Nat) (c : Nat → Value) (hrow : RowIs w g T m c) (hm : dLen * size ≤ m) (sc : Nat → Value) (hsrc : Src w v n size sc) :
    ∃ w', (∀ ty, (Builtin.copy_ #[dT, sT] ty #[.slice (some ⟨g, 0, none⟩) dLen dCap, v]).run P w = .ok (.int .i64 n) w') ∧
      RowIs w' g T m (fun j => if j < n * size then sc j else c j) ∧ w'.heap.size = w.heap.size ∧ (∀ k, k ≠ g → w'.heap[k]? = w.heap[k]?) ∧ Below g w w' := by
  obtain ⟨sp, cap, rfl, hpos, hone⟩ := hsrc
  obtain ⟨cur, hg, hsize, hcur⟩ := id hrow
  obtain ⟨i, hi, hi2⟩ := Option.map_eq_some_iff.1 hsz
  have hmin : Nat.min n dLen = n := Nat.min_eq_left hn
  have hcells : (Builtin.firstCells size n (.slice sp n cap)).run P w = .ok ((List.range (n * size)).map sc).toArray w := by
    by_cases h0 : 0 < n
    · obtain ⟨ad, rfl, hcell⟩ := hpos h0
      have hl := run_loadCells_list (P := P) w ad ((List.range (n * size)).map sc) (fun j u hj => by
        obtain ⟨hj1, hj2⟩ := List.getElem?_eq_some_iff.1 hj
        simp at hj1 hj2
        rw [← hj2]
        exact hcell j hj1)
      simp only [List.length_map, List.length_range] at hl
      simp [Builtin.firstCells, hl]
    · have e : n = 0 := by omega
      subst e
      cases sp with
      | none => simp [Builtin.firstCells]
      | some ad =>
        have hl := run_loadCells_list (P := P) w ad [] (by simp)
        simp at hl
        simp [Builtin.firstCells, hl]
  have hst := run_storeCells_at P g 0 T ((List.range (n * size)).map sc) 0 cur w hg (by simp [hsize]; exact Nat.le_trans (Nat.mul_le_mul_right _ hn) hm) (fun u hu => by
    rw [List.mem_map] at hu
    obtain ⟨j, hj, rfl⟩ := hu
    exact hone j (List.mem_range.1 hj))
  have hrun : ∀ ty, (Builtin.copy_ #[dT, sT] ty #[.slice (some ⟨g, 0, none⟩) dLen dCap, .slice sp n cap]).run P w =
      .ok (.int .i64 n) (w.setRow g (cur.toList.take (0 + 0) ++ (List.range (n * size)).map sc ++ cur.toList.drop (0 + 0 + ((List.range (n * size)).map sc).length)).toArray) := by
    intro ty
    simp only [Builtin.copy_]
    simp [run_underlying hu, Builtin.lenOf, sizeOf, typeInfo, hi, hi2, hmin, hcells]
    simp at hst
    simp [hst, goInt]
  refine ⟨_, hrun, ?_, by simp, fun k hk => setRow_other _ _ _ _ hk, ⟨rfl, rfl, rfl, by simp, fun k hk => setRow_other _ _ _ _ (by omega)⟩⟩
  have hfit : n * size ≤ m := Nat.le_trans (Nat.mul_le_mul_right _ hn) hm
  refine ⟨_, setRow_heap w g cur _ T _ hg, ?_, fun j hj => ?_⟩
  · simp [hsize]; omega
  · simp only [List.getElem?_toArray, Nat.zero_add, List.take_zero, List.nil_append, List.length_map, List.length_range]
    by_cases hlt : j < n * size
    · rw [List.getElem?_append_left (by simpa using hlt)]
      simp [hlt]
    · rw [List.getElem?_append_right (by simpa using Nat.le_of_not_lt hlt), if_neg hlt]
      simp only [List.length_map, List.length_range, List.getElem?_drop, Array.getElem?_toList]
      rw [show n * size + (j - n * size) = j from by omega]
      exact hcur j hj
end

/-- A slice that owns its row reads as a list of numbers. -/
theorem ownsRow_rd {w : World} {base e k n : Nat} {v : Value} {xs : List Value} {f : Nat → Int} (h : w.ownsRow base e k v n xs) (hn : n ≤ 1048577) (hx : ∀ j, j < n * k → xs[j]? = some (.int .i64 (f j))) : RdI w v k n f := by
  obtain ⟨hl, h2⟩ := h
  rcases h2 with ⟨rfl, rfl⟩ | ⟨g, cap, cur, rfl, hg, hh, hle, hm, hs, ht⟩
  · exact ⟨_, _, rfl, by omega, fun h0 => by omega⟩
  · refine ⟨_, _, rfl, hn, fun _ => ⟨g, 0, rfl, (Array.getElem?_eq_some_iff.1 hh).1, fun j hj => ?_⟩⟩
    have h3 := hx j hj
    rw [← ht, List.getElem?_take, if_pos hj, Array.getElem?_toList] at h3
    simp [World.cell?, hh, h3]
end Go.Proofs.YtldeiiffabfmeaaGreatDoor
