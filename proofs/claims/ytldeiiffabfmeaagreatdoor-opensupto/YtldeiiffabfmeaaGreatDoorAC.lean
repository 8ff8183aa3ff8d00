/- Building the document's engine; appending to what has no room. -/
import Derived.Test.YtldeiiffabfmeaaGreatDoorAB
set_option linter.unusedVariables false
set_option linter.unusedSimpArgs false
namespace Go.Proofs.YtldeiiffabfmeaaGreatDoor
open Go.RowKit

theorem zeroIs102 : (Tryz.prog.info? 156).map (fun i => i.zero) = some (some (.agg Tryz.zeroCells156)) := by kernel_rfl

/-- The engine that is built: the configuration, how many partitions; all else zero. -/
theorem row102 (vB : Value) (a b c n : Int) : ∃ cz : Nat → Value, ZeroEng cz ∧ ∀ w : World, RowIs (w.alloc (.cells (((((Tryz.zeroCells156.setIfInBounds 0 vB).setIfInBounds 1 (.int .i64 a)).setIfInBounds 2 (.int .i64 b)).setIfInBounds 3 (.int .i64 c)).setIfInBounds 4 (.int .i64 n)) 156)) w.heap.size 156 97998
    (fun j => if j = 4 then .int .i64 n else if j = 3 then .int .i64 c else if j = 2 then .int .i64 b else if j = 1 then .int .i64 a else if j = 0 then vB else cz j) := by
  obtain ⟨i, Z, hi, hs, hz, hsize, hzero⟩ := zero_eng
  have hZ : Z = Tryz.zeroCells156 := by
    have h := zeroIs102
    rw [hi] at h
    simp only [Option.map_some, hz, Option.some.injEq, Value.agg.injEq] at h
    exact h
  rw [← hZ]
  generalize Tryz.zeroCells156 = Y at hZ
  refine ⟨fun j => Z.getD j undef, hzero, fun w => ?_⟩
  have hs' : (((((Z.setIfInBounds 0 vB).setIfInBounds 1 (.int .i64 a)).setIfInBounds 2 (.int .i64 b)).setIfInBounds 3 (.int .i64 c)).setIfInBounds 4 (.int .i64 n)).size = 97998 := by simpa using hsize
  have := rowIs_new w (((((Z.setIfInBounds 0 vB).setIfInBounds 1 (.int .i64 a)).setIfInBounds 2 (.int .i64 b)).setIfInBounds 3 (.int .i64 c)).setIfInBounds 4 (.int .i64 n)) 156 (fun j => if j = 4 then .int .i64 n else if j = 3 then .int .i64 c else if j = 2 then .int .i64 b else if j = 1 then .int .i64 a else if j = 0 then vB else Z.getD j undef) (fun j hj => by
    rw [hs'] at hj
    have hlt : j < Z.size := by omega
    simp only [Array.getElem?_setIfInBounds, Array.size_setIfInBounds]
    by_cases h4 : j = 4
    · subst h4; simp; omega
    by_cases h3 : j = 3
    · subst h3; simp; omega
    by_cases h2 : j = 2
    · subst h2; simp; omega
    by_cases h1 : j = 1
    · subst h1; simp; omega
    by_cases h0 : j = 0
    · subst h0; simp [hsize]
    rw [if_neg (Ne.symm h4), if_neg (Ne.symm h3), if_neg (Ne.symm h2), if_neg (Ne.symm h1), if_neg (Ne.symm h0)]
    simp only [if_neg h4, if_neg h3, if_neg h2, if_neg h1, if_neg h0]
    rw [Array.getD_eq_getD_getElem?, Array.getElem?_eq_getElem hlt]; rfl)
  rw [hs'] at this
  exact this

/-- 'append(s, xs...)', s without elements and without room. -/
theorem append0 {P : Program} {w : World} (t e : TypeId) (z : Value) (k bytes : Nat) (ht : P.underlying t = some (.slice e)) (hinfo : (P.info? e).map (fun i => (i.zero, i.size, i.bytes)) = some (some z, k, bytes)) (hby : bytes ≤ 100)
    (a : Option Addr) (v : Value) (n : Nat) (f : Nat → Int) (h : RdI w v k n f) :
    ∃ v' w', (∀ ty, (Builtin.append_ #[t, t] ty #[.slice a 0 0, v]).run P w = .ok v' w') ∧ RdIS (fun b => w.heap.size ≤ b) w' v' k n f ∧ Below w.heap.size w w' := by
  obtain ⟨i, hi, hz0, hz1, hz2⟩ := info_parts hinfo
  obtain ⟨sp, cap, rfl, hn, hc⟩ := h
  by_cases h0 : n = 0
  · subst h0
    refine ⟨.slice a 0 0, w, fun ty => ?_, ⟨a, 0, rfl, hn, fun h => by omega⟩, Below.refl _ _⟩
    cases sp <;> cases a <;> simp [Builtin.append_, run_underlying ht, sizeOf, typeInfo, hi, Builtin.lenOf, Builtin.firstCells, loadCells, loadCellsFrom, storeCells]
  · obtain ⟨b, off, rfl, hlt, hcell⟩ := hc (by omega)
    have hnews : ∀ j u, ((List.range (n * k)).map (icell f))[j]? = some u → w.cell? ((⟨b, off, none⟩ : Addr).add j) = some u := by
      intro j u hj
      obtain ⟨hj1, hj2⟩ := List.getElem?_eq_some_iff.1 hj
      simp at hj1 hj2
      rw [addr_add, hcell j hj1, ← hj2]; rfl
    have hl : ((List.range (n * k)).map (icell f)).length = n * i.size := by simp [hz1]
    have hbn : n * i.bytes ≤ 281474976710656 := by
      rw [hz2]; have := Nat.mul_le_mul hn hby; omega
    have key : ∀ (cap' : Nat) (rest : Array Value) (cur : Array Value), cur = ((List.range (n * k)).map (icell f)).toArray ++ rest →
        RdIS (fun b => w.heap.size ≤ b) (w.drew.alloc (.cells cur e)) (.slice (some ⟨w.heap.size, 0, none⟩) n cap') k n f := by
      intro cap' rest cur hcur
      refine ⟨_, _, rfl, hn, fun _ => ⟨w.heap.size, 0, rfl, Nat.le_refl _, by simp, fun j hj => ?_⟩⟩
      have hnew := heap_alloc_new w.drew (.cells cur e)
      simp only [World.size_drew] at hnew
      simp only [World.cell?, hnew, Nat.zero_add]
      rw [hcur, Array.getElem?_append_left (by simpa using hj)]
      simp [hj, icell]
    have hb : ∀ cur, Below w.heap.size w (w.drew.alloc (.cells cur e)) := fun cur => ((Below.refl _ _).drew).alloc (Nat.le_refl _) _
    cases a with
    | none =>
      have hr := fun ty => run_append_nil (P := P) w t ty e i z ht hi hz0 ⟨b, off, none⟩ n cap _ hl hnews (by omega) (by omega) hbn
      exact ⟨_, _, hr, key _ _ _ rfl, hb _⟩
    | some ad =>
      have hr := fun ty => run_append_grow (P := P) w t ty e i z ht hi hz0 ad 0 0 [] (by simp) (by simp) ⟨b, off, none⟩ n cap _ hl hnews (by omega) (by omega) (by rw [Nat.zero_add, nextslicecap_zero (by omega)]; exact hbn)
      simp only [Nat.zero_add] at hr
      exact ⟨_, _, hr, key _ (Builtin.zeroCells z.cells (grownCap w n 0 e - n)) _ (by simp), hb _⟩

/-- One step of a region: an append whose run is known. -/
theorem step_of_run {P : Program} {ops : Array Oper} {o : Oper} {a : Act} {w : World} {K : Act → World → Prop} {Q : Exit → Act → World → Prop} {E : Prop} (hgd : o.guard = none) (s x : Operand) (t : TypeId)
    (ho : o.op = .call { callee := .builtin .append, args := #[s, x], argTypes := #[t, t] }) (v1 v2 : Value) (hs : a.eval s = v1) (hx : a.eval x = v2) (v' : Value) (w' : World)
    (hrun : ∀ ty, (Builtin.append_ #[t, t] ty #[v1, v2]).run P w = .ok v' w') (hK : K (a.put o.dst v') w') : if Region.wanted o (yielded ops a.tmps) = true then Oper.wp P o a w K Q else E := by
  have hw : Region.wanted o (yielded ops a.tmps) = true := by simp [Region.wanted, hgd]
  rw [if_pos hw]
  unfold Oper.wp execOp
  simp only [ho, resolve, invoke, builtin, Sem.run_bind, Sem.run_pure, Result.andThen_ok, List.map_toArray, List.map_cons, List.map_nil, hs, hx, hrun]
  exact hK
end Go.Proofs.YtldeiiffabfmeaaGreatDoor
