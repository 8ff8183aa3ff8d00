/- What single operations do, whatever the frame. -/
import Derived.Test.YtldeiiffabfmeaaGreatDoorRJ
import Derived.Test.YtldeiiffabfmeaaGreatDoorAG
set_option linter.unusedVariables false
set_option linter.unusedSimpArgs false
namespace Go.Proofs.YtldeiiffabfmeaaGreatDoor
open Go.RowKit
section
variable (ev : Operand → Value) (w : World) (T : Nat) (d : Option Tmp) (ty : TypeId) (ps : String) (af : Array Edge) (g : Option (Nat × Bool)) (x x1 x2 x3 x4 : Operand)
theorem l1_0 (h : ev x = .pointer (some ⟨T, 0, none⟩)) : (execOp ev ⟨d, .fieldAddr 91 x 0, ty, ps, af, g⟩).run Tryz.prog w = .ok (.value (.pointer (some ⟨T, 0, none⟩))) w := by
  simp [execOp, go_sem, h]
theorem l1_1 (h : ev x = .pointer (some ⟨T, 0, none⟩)) : (execOp ev ⟨d, .fieldAddr 91 x 1, ty, ps, af, g⟩).run Tryz.prog w = .ok (.value (.pointer (some ⟨T, 1, none⟩))) w := by
  simp [execOp, go_sem, h]
theorem l1_2 (h : ev x = .pointer (some ⟨T, 0, none⟩)) : (execOp ev ⟨d, .fieldAddr 91 x 2, ty, ps, af, g⟩).run Tryz.prog w = .ok (.value (.pointer (some ⟨T, 2, none⟩))) w := by
  simp [execOp, go_sem, h]
theorem l1_3 (h : ev x = .pointer (some ⟨T, 0, none⟩)) : (execOp ev ⟨d, .fieldAddr 91 x 3, ty, ps, af, g⟩).run Tryz.prog w = .ok (.value (.pointer (some ⟨T, 3, none⟩))) w := by
  simp [execOp, go_sem, h]
theorem l2_22 (o : Nat) (b : Option Addr) (n p : Nat) (h : ev x = .pointer (some ⟨T, o, none⟩)) (hc : w.cell? ⟨T, o, none⟩ = some (.slice b n p)) : (execOp ev ⟨d, .load 22 x, ty, ps, af, g⟩).run Tryz.prog w = .ok (.value (.slice b n p)) w := by
  simp [execOp, go_sem, h, hc]
theorem l2_44 (o : Nat) (b : Option Addr) (n p : Nat) (h : ev x = .pointer (some ⟨T, o, none⟩)) (hc : w.cell? ⟨T, o, none⟩ = some (.slice b n p)) : (execOp ev ⟨d, .load 86 x, ty, ps, af, g⟩).run Tryz.prog w = .ok (.value (.slice b n p)) w := by
  simp [execOp, go_sem, h, hc]
theorem l2_45 (o : Nat) (b : Option Addr) (n p : Nat) (h : ev x = .pointer (some ⟨T, o, none⟩)) (hc : w.cell? ⟨T, o, none⟩ = some (.slice b n p)) : (execOp ev ⟨d, .load 87 x, ty, ps, af, g⟩).run Tryz.prog w = .ok (.value (.slice b n p)) w := by
  simp [execOp, go_sem, h, hc]
theorem l3 (a : Act) (v : Value) (h : a.eval x = v) : (execOp a.eval ⟨d, .call { callee := .value (.func 24), args := #[x], argTypes := #[22] }, ty, ps, af, g⟩).run Tryz.prog w = .ok (.enter 24 #[v]) w := by
  subst h
  simp [execOp, go_sem]
theorem l4_44 (b : Option Addr) (n p : Nat) (h : ev x = .slice b n p) : (execOp ev ⟨d, .call { callee := .builtin .len, args := #[x], argTypes := #[86] }, ty, ps, af, g⟩).run Tryz.prog w = .ok (.value (.int .i64 n)) w := by
  simp [execOp, go_sem, h]
theorem l4_45 (b : Option Addr) (n p : Nat) (h : ev x = .slice b n p) : (execOp ev ⟨d, .call { callee := .builtin .len, args := #[x], argTypes := #[87] }, ty, ps, af, g⟩).run Tryz.prog w = .ok (.value (.int .i64 n)) w := by
  simp [execOp, go_sem, h]
theorem l5 (n : Nat) (hn : n ≤ 1048577) (h : ev x = .int .i64 n) (h1 : ev x1 = .int .i64 1) : (execOp ev ⟨d, .binOp .add 3 x x1 3, ty, ps, af, g⟩).run Tryz.prog w = .ok (.value (.int .i64 ((n : Int) + 1))) w := by
  simp [execOp, go_sem, h, h1]
  rw [IntKind.wrap_i64]; omega
theorem l6 (t : TypeId) (n : Nat) (M : Array Value) (e : TypeId) (h : ev x = .int .i64 ((n : Int) + 1)) (hM : ∀ w : World, (Instr.makeSlice t (.int .i64 ((n + 1 : Nat) : Int)) (.int .i64 ((n + 1 : Nat) : Int))).run Tryz.prog w = .ok (.slice (some ⟨w.heap.size, 0, none⟩) (n + 1) (n + 1)) (w.alloc (.cells M e))) : (execOp ev ⟨d, .makeSlice t x x, ty, ps, af, g⟩).run Tryz.prog w = .ok (.value (.slice (some ⟨w.heap.size, 0, none⟩) (n + 1) (n + 1))) (w.alloc (.cells M e)) := by
  have hM' := hM w
  simp only [Int.natCast_add, Int.cast_ofNat_Int, Int.natCast_one] at hM'
  simp [execOp, go_sem, h, hM']
theorem l7 (a1 a2 a3 a4 : Option Addr) (n1 n2 n3 n4 p1 p2 p3 p4 : Nat) (h1 : ev x1 = .slice a1 n1 p1) (h2 : ev x2 = .slice a2 n2 p2) (h3 : ev x3 = .slice a3 n3 p3) (h4 : ev x4 = .slice a4 n4 p4) : (execOp ev ⟨d, .build 89 #[(0, x1), (1, x2), (2, x3), (3, x4)], ty, ps, af, g⟩).run Tryz.prog w = .ok (.value (.agg #[.slice a1 n1 p1, .slice a2 n2 p2, .slice a3 n3 p3, .slice a4 n4 p4])) w := by
  simp [execOp, go_sem, h1, h2, h3, h4]
theorem l8 : (execOp ev ⟨d, .alloc 89, ty, ps, af, g⟩).run Tryz.prog w = .ok (.value (.pointer (some ⟨w.heap.size, 0, none⟩))) (w.alloc (.cells #[.slice none 0 0, .slice none 0 0, .slice none 0 0, .slice none 0 0] 89)) := by
  simp [execOp, go_sem]
theorem l9 (G : Nat) (c0 c1 c2 c3 : Value) (a1 a2 a3 a4 : Option Addr) (n1 n2 n3 n4 p1 p2 p3 p4 : Nat) (h1 : ev x1 = .pointer (some ⟨G, 0, none⟩)) (h2 : ev x2 = .agg #[.slice a1 n1 p1, .slice a2 n2 p2, .slice a3 n3 p3, .slice a4 n4 p4]) (hc : w.cell? ⟨G, 0, none⟩ = some c0) (hc1 : w.cell? ⟨G, 1, none⟩ = some c1) (hc2 : w.cell? ⟨G, 2, none⟩ = some c2) (hc3 : w.cell? ⟨G, 3, none⟩ = some c3) (hf : ∀ j, w.frozen? ⟨G, j, none⟩ = false) : (execOp ev ⟨d, .store 89 x1 x2, ty, ps, af, g⟩).run Tryz.prog w = .ok .skip ((((w.setCell ⟨G, 0, none⟩ (.slice a1 n1 p1)).setCell ⟨G, 1, none⟩ (.slice a2 n2 p2)).setCell ⟨G, 2, none⟩ (.slice a3 n3 p3)).setCell ⟨G, 3, none⟩ (.slice a4 n4 p4)) := by
  simp [execOp, go_sem, h1, h2, hc, hc1, hc2, hc3, hf]
end
end Go.Proofs.YtldeiiffabfmeaaGreatDoor
/- What more single operations do, whatever the frame. -/
namespace Go.Proofs.YtldeiiffabfmeaaGreatDoor
open Go.RowKit
section
variable (ev : Operand → Value) (w : World) (T : Nat) (d : Option Tmp) (ty : TypeId) (ps : String) (af : Array Edge) (g : Option (Nat × Bool)) (x x1 x2 x3 x4 : Operand)
theorem m1_0 (h : ev x = .pointer (some ⟨T, 0, none⟩)) : (execOp ev ⟨d, .fieldAddr 89 x 0, ty, ps, af, g⟩).run Tryz.prog w = .ok (.value (.pointer (some ⟨T, 0, none⟩))) w := by
  simp [execOp, go_sem, h]
theorem m1_1 (h : ev x = .pointer (some ⟨T, 0, none⟩)) : (execOp ev ⟨d, .fieldAddr 89 x 1, ty, ps, af, g⟩).run Tryz.prog w = .ok (.value (.pointer (some ⟨T, 1, none⟩))) w := by
  simp [execOp, go_sem, h]
theorem m1_2 (h : ev x = .pointer (some ⟨T, 0, none⟩)) : (execOp ev ⟨d, .fieldAddr 89 x 2, ty, ps, af, g⟩).run Tryz.prog w = .ok (.value (.pointer (some ⟨T, 2, none⟩))) w := by
  simp [execOp, go_sem, h]
theorem m1_3 (h : ev x = .pointer (some ⟨T, 0, none⟩)) : (execOp ev ⟨d, .fieldAddr 89 x 3, ty, ps, af, g⟩).run Tryz.prog w = .ok (.value (.pointer (some ⟨T, 3, none⟩))) w := by
  simp [execOp, go_sem, h]
theorem l4_22 (b : Option Addr) (n p : Nat) (h : ev x = .slice b n p) : (execOp ev ⟨d, .call { callee := .builtin .len, args := #[x], argTypes := #[22] }, ty, ps, af, g⟩).run Tryz.prog w = .ok (.value (.int .i64 n)) w := by
  simp [execOp, go_sem, h]
theorem m2_22 (b n : Nat) (hn : n ≤ 1048577) (h : ev x = .slice (some ⟨b, 0, none⟩) (n + 1) (n + 1)) (h1 : ev x1 = .int .i64 n) : (execOp ev ⟨d, .slice 22 x none (some x1) none, ty, ps, af, g⟩).run Tryz.prog w = .ok (.value (.slice (some ⟨b, 0, none⟩) n (n + 1))) w := by
  simp [execOp, go_sem, h, h1]
  intro hlt; omega
theorem m2_44 (b n : Nat) (hn : n ≤ 1048577) (h : ev x = .slice (some ⟨b, 0, none⟩) (n + 1) (n + 1)) (h1 : ev x1 = .int .i64 n) : (execOp ev ⟨d, .slice 86 x none (some x1) none, ty, ps, af, g⟩).run Tryz.prog w = .ok (.value (.slice (some ⟨b, 0, none⟩) n (n + 1))) w := by
  simp [execOp, go_sem, h, h1]
  intro hlt; omega
theorem m2_45 (b n : Nat) (hn : n ≤ 1048577) (h : ev x = .slice (some ⟨b, 0, none⟩) (n + 1) (n + 1)) (h1 : ev x1 = .int .i64 n) : (execOp ev ⟨d, .slice 87 x none (some x1) none, ty, ps, af, g⟩).run Tryz.prog w = .ok (.value (.slice (some ⟨b, 0, none⟩) n (n + 1))) w := by
  simp [execOp, go_sem, h, h1]
  intro hlt; omega
theorem m7 (a1 a2 a3 a4 : Option Addr) (n1 n2 n3 n4 p1 p2 p3 p4 : Nat) (h1 : ev x1 = .slice a1 n1 p1) (h2 : ev x2 = .slice a2 n2 p2) (h3 : ev x3 = .slice a3 n3 p3) (h4 : ev x4 = .slice a4 n4 p4) : (execOp ev ⟨d, .build 91 #[(0, x1), (1, x2), (2, x3), (3, x4)], ty, ps, af, g⟩).run Tryz.prog w = .ok (.value (.agg #[.slice a1 n1 p1, .slice a2 n2 p2, .slice a3 n3 p3, .slice a4 n4 p4])) w := by
  simp [execOp, go_sem, h1, h2, h3, h4]
theorem m8 : (execOp ev ⟨d, .alloc 91, ty, ps, af, g⟩).run Tryz.prog w = .ok (.value (.pointer (some ⟨w.heap.size, 0, none⟩))) (w.alloc (.cells #[.slice none 0 0, .slice none 0 0, .slice none 0 0, .slice none 0 0] 91)) := by
  simp [execOp, go_sem]
theorem m9 (G : Nat) (c0 c1 c2 c3 : Value) (a1 a2 a3 a4 : Option Addr) (n1 n2 n3 n4 p1 p2 p3 p4 : Nat) (h1 : ev x1 = .pointer (some ⟨G, 0, none⟩)) (h2 : ev x2 = .agg #[.slice a1 n1 p1, .slice a2 n2 p2, .slice a3 n3 p3, .slice a4 n4 p4]) (hc : w.cell? ⟨G, 0, none⟩ = some c0) (hc1 : w.cell? ⟨G, 1, none⟩ = some c1) (hc2 : w.cell? ⟨G, 2, none⟩ = some c2) (hc3 : w.cell? ⟨G, 3, none⟩ = some c3) (hf : ∀ j, w.frozen? ⟨G, j, none⟩ = false) : (execOp ev ⟨d, .store 91 x1 x2, ty, ps, af, g⟩).run Tryz.prog w = .ok .skip ((((w.setCell ⟨G, 0, none⟩ (.slice a1 n1 p1)).setCell ⟨G, 1, none⟩ (.slice a2 n2 p2)).setCell ⟨G, 2, none⟩ (.slice a3 n3 p3)).setCell ⟨G, 3, none⟩ (.slice a4 n4 p4)) := by
  simp [execOp, go_sem, h1, h2, hc, hc1, hc2, hc3, hf]
theorem u_move (v : Value) (h : ev x = v) : (execOp ev ⟨d, .move x, ty, ps, af, g⟩).run Tryz.prog w = .ok (.value v) w := by
  simp [execOp, go_sem, h]
theorem u_assign (v : Value) (h : ev x = v) : (execOp ev ⟨d, .assign x, ty, ps, af, g⟩).run Tryz.prog w = .ok (.value v) w := by
  simp [execOp, go_sem, h]
theorem u_nil (o : Nat) (h : ev x = .pointer (some ⟨T, o, none⟩)) : (execOp ev ⟨d, .nilCheck x, ty, ps, af, g⟩).run Tryz.prog w = .ok (.value (.pointer (some ⟨T, o, none⟩))) w := by
  simp [execOp, go_sem, h]
theorem u_f65_0 (h : ev x = .pointer (some ⟨T, 0, none⟩)) : (execOp ev ⟨d, .fieldAddr 103 x 0, ty, ps, af, g⟩).run Tryz.prog w = .ok (.value (.pointer (some ⟨T, 0, none⟩))) w := by
  simp [execOp, go_sem, h]
theorem u_f65_1 (h : ev x = .pointer (some ⟨T, 0, none⟩)) : (execOp ev ⟨d, .fieldAddr 103 x 1, ty, ps, af, g⟩).run Tryz.prog w = .ok (.value (.pointer (some ⟨T, 1, none⟩))) w := by
  simp [execOp, go_sem, h]
theorem u_f68_1 (h : ev x = .pointer (some ⟨T, 0, none⟩)) : (execOp ev ⟨d, .fieldAddr 105 x 1, ty, ps, af, g⟩).run Tryz.prog w = .ok (.value (.pointer (some ⟨T, 1, none⟩))) w := by
  simp [execOp, go_sem, h]
theorem u_l52 (o : Nat) (v : Option Addr) (h : ev x = .pointer (some ⟨T, o, none⟩)) (hc : w.cell? ⟨T, o, none⟩ = some (.pointer v)) : (execOp ev ⟨d, .load 57 x, ty, ps, af, g⟩).run Tryz.prog w = .ok (.value (.pointer v)) w := by
  simp [execOp, go_sem, h, hc]
theorem u_l56 (o : Nat) (v : Option Addr) (h : ev x = .pointer (some ⟨T, o, none⟩)) (hc : w.cell? ⟨T, o, none⟩ = some (.pointer v)) : (execOp ev ⟨d, .load 96 x, ty, ps, af, g⟩).run Tryz.prog w = .ok (.value (.pointer v)) w := by
  simp [execOp, go_sem, h, hc]
theorem u_l3 (o : Nat) (v : Int) (h : ev x = .pointer (some ⟨T, o, none⟩)) (hc : w.cell? ⟨T, o, none⟩ = some (.int .i64 v)) : (execOp ev ⟨d, .load 3 x, ty, ps, af, g⟩).run Tryz.prog w = .ok (.value (.int .i64 v)) w := by
  simp [execOp, go_sem, h, hc]
theorem u_call27 (a : Act) (v1 v2 : Value) (t1 t2 : TypeId) (h : a.eval x = v1) (h1 : a.eval x1 = v2) : (execOp a.eval ⟨d, .call { callee := .value (.func 22), args := #[x, x1], argTypes := #[t1, t2] }, ty, ps, af, g⟩).run Tryz.prog w = .ok (.enter 22 #[v1, v2]) w := by
  subst h h1
  simp [execOp, go_sem]
theorem u_call28 (a : Act) (v1 v2 : Value) (t1 t2 : TypeId) (h : a.eval x = v1) (h1 : a.eval x1 = v2) : (execOp a.eval ⟨d, .call { callee := .value (.func 55), args := #[x, x1], argTypes := #[t1, t2] }, ty, ps, af, g⟩).run Tryz.prog w = .ok (.enter 55 #[v1, v2]) w := by
  subst h h1
  simp [execOp, go_sem]
theorem u_call31 (a : Act) (v1 v2 : Value) (t1 t2 : TypeId) (h : a.eval x = v1) (h1 : a.eval x1 = v2) : (execOp a.eval ⟨d, .call { callee := .value (.func 20), args := #[x, x1], argTypes := #[t1, t2] }, ty, ps, af, g⟩).run Tryz.prog w = .ok (.enter 20 #[v1, v2]) w := by
  subst h h1
  simp [execOp, go_sem]
theorem u_call32 (a : Act) (v1 v2 : Value) (t1 t2 : TypeId) (h : a.eval x = v1) (h1 : a.eval x1 = v2) : (execOp a.eval ⟨d, .call { callee := .value (.func 58), args := #[x, x1], argTypes := #[t1, t2] }, ty, ps, af, g⟩).run Tryz.prog w = .ok (.enter 58 #[v1, v2]) w := by
  subst h h1
  simp [execOp, go_sem]
theorem u_ext0 (v1 v2 : Value) (h : ev x = .tuple #[v1, v2]) : (execOp ev ⟨d, .extract x 0, ty, ps, af, g⟩).run Tryz.prog w = .ok (.value v1) w := by
  simp [execOp, go_sem, h]
theorem u_ext1 (v1 v2 : Value) (h : ev x = .tuple #[v1, v2]) : (execOp ev ⟨d, .extract x 1, ty, ps, af, g⟩).run Tryz.prog w = .ok (.value v2) w := by
  simp [execOp, go_sem, h]
theorem u_al110 : (execOp ev ⟨d, .alloc 75, ty, ps, af, g⟩).run Tryz.prog w = .ok (.value (.pointer (some ⟨w.heap.size, 0, none⟩))) (w.alloc (.cells #[.bool false, .bool false, .int .i64 0, .int .i64 0, .int .i64 0, .int .i64 0] 75)) := by
  simp [execOp, go_sem]
theorem u_al116 : (execOp ev ⟨d, .alloc 67, ty, ps, af, g⟩).run Tryz.prog w = .ok (.value (.pointer (some ⟨w.heap.size, 0, none⟩))) (w.alloc (.cells #[.int .i64 0, .int .i64 0, .int .i64 0, .int .i64 0] 67)) := by
  simp [execOp, go_sem]
theorem u_st110 (G : Nat) (c0 c1 c2 c3 c4 c5 : Value) (b0 b1 : Bool) (n2 n3 n4 n5 : Int) (h1 : ev x1 = .pointer (some ⟨G, 0, none⟩)) (h2 : ev x2 = .agg #[.bool b0, .bool b1, .int .i64 n2, .int .i64 n3, .int .i64 n4, .int .i64 n5]) (hc : w.cell? ⟨G, 0, none⟩ = some c0) (hc1 : w.cell? ⟨G, 1, none⟩ = some c1) (hc2 : w.cell? ⟨G, 2, none⟩ = some c2) (hc3 : w.cell? ⟨G, 3, none⟩ = some c3) (hc4 : w.cell? ⟨G, 4, none⟩ = some c4) (hc5 : w.cell? ⟨G, 5, none⟩ = some c5) (hf : ∀ j, w.frozen? ⟨G, j, none⟩ = false) : (execOp ev ⟨d, .store 75 x1 x2, ty, ps, af, g⟩).run Tryz.prog w = .ok .skip ((((((w.setCell ⟨G, 0, none⟩ (.bool b0)).setCell ⟨G, 1, none⟩ (.bool b1)).setCell ⟨G, 2, none⟩ (.int .i64 n2)).setCell ⟨G, 3, none⟩ (.int .i64 n3)).setCell ⟨G, 4, none⟩ (.int .i64 n4)).setCell ⟨G, 5, none⟩ (.int .i64 n5)) := by
  simp [execOp, go_sem, h1, h2, hc, hc1, hc2, hc3, hc4, hc5, hf]
theorem u_st116 (G : Nat) (c0 c1 c2 c3 : Value) (n2 n3 n4 n5 : Int) (h1 : ev x1 = .pointer (some ⟨G, 0, none⟩)) (h2 : ev x2 = .agg #[.int .i64 n2, .int .i64 n3, .int .i64 n4, .int .i64 n5]) (hc : w.cell? ⟨G, 0, none⟩ = some c0) (hc1 : w.cell? ⟨G, 1, none⟩ = some c1) (hc2 : w.cell? ⟨G, 2, none⟩ = some c2) (hc3 : w.cell? ⟨G, 3, none⟩ = some c3) (hf : ∀ j, w.frozen? ⟨G, j, none⟩ = false) : (execOp ev ⟨d, .store 67 x1 x2, ty, ps, af, g⟩).run Tryz.prog w = .ok .skip ((((w.setCell ⟨G, 0, none⟩ (.int .i64 n2)).setCell ⟨G, 1, none⟩ (.int .i64 n3)).setCell ⟨G, 2, none⟩ (.int .i64 n4)).setCell ⟨G, 3, none⟩ (.int .i64 n5)) := by
  simp [execOp, go_sem, h1, h2, hc, hc1, hc2, hc3, hf]
end
end Go.Proofs.YtldeiiffabfmeaaGreatDoor
