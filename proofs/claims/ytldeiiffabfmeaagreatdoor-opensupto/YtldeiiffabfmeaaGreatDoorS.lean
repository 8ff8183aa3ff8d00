/- Plain functions and their laws that the contracts speak of: nothing of the program is named here. -/
import Derived.WalkKit
set_option linter.unusedVariables false
set_option linter.unusedSimpArgs false
namespace Go.Proofs.YtldeiiffabfmeaaGreatDoor
open Go.RowKit

def allB (p : Nat → Bool) : Nat → Bool
  | 0 => true
  | k + 1 => allB p k && p k
def anyB (p : Nat → Bool) : Nat → Bool
  | 0 => false
  | k + 1 => anyB p k || p k

theorem allB_no {p : Nat → Bool} {n k : Nat} (h : k < n) (hp : p k = false) : allB p n = false := by
  induction n with
  | zero => omega
  | succ n ih =>
    by_cases e : k = n
    · subst e; simp [allB, hp]
    · simp [allB, ih (by omega)]
theorem allB_step {p : Nat → Bool} {k : Nat} (h : allB p k = true) (hp : p k = true) : allB p (k + 1) = true := by simp [allB, h, hp]
theorem allB_at {p : Nat → Bool} {n k : Nat} (h : allB p n = true) (hk : k < n) : p k = true := by
  cases hp : p k with
  | true => rfl
  | false => rw [allB_no hk hp] at h; cases h
theorem allB_mk {p : Nat → Bool} {n : Nat} (h : ∀ k, k < n → p k = true) : allB p n = true := by
  induction n with
  | zero => rfl
  | succ n ih => simp [allB, ih (fun k hk => h k (by omega)), h n (by omega)]
theorem anyB_yes {p : Nat → Bool} {n k : Nat} (h : k < n) (hp : p k = true) : anyB p n = true := by
  induction n with
  | zero => omega
  | succ n ih =>
    by_cases e : k = n
    · subst e; simp [anyB, hp]
    · simp [anyB, ih (by omega)]
theorem anyB_step {p : Nat → Bool} {k : Nat} (h : anyB p k = false) (hp : p k = false) : anyB p (k + 1) = false := by simp [anyB, h, hp]
theorem anyB_at {p : Nat → Bool} {n : Nat} (h : anyB p n = true) : ∃ k, k < n ∧ p k = true := by
  induction n with
  | zero => simp [anyB] at h
  | succ n ih =>
    cases hp : p n with
    | true => exact ⟨n, by omega, hp⟩
    | false =>
      simp [anyB, hp] at h
      obtain ⟨k, hk, hk'⟩ := ih h
      exact ⟨k, by omega, hk'⟩
theorem anyB_none {p : Nat → Bool} {n : Nat} (h : anyB p n = false) (k : Nat) (hk : k < n) : p k = false := by
  cases hp : p k with
  | false => rfl
  | true => rw [anyB_yes hk hp] at h; cases h

def withinB (n lo hi : Int) : Bool := decide (lo ≤ n) && decide (n ≤ hi)
def hasB (n : Nat) (f : Nat → Int) (x : Int) : Bool := anyB (fun i => f i == x) n
def keysB (n : Nat) (f : Nat → Int) : Bool := decide (n ≤ 6) && allB (fun i => withinB (f i) 0 99) n
def rangeB (lo hi : Int) : Bool := withinB lo 0 99 && withinB hi 0 99 && decide (lo ≤ hi)
def rangesB (n : Nat) (f : Nat → Int) : Bool := decide (n ≤ 3) && allB (fun i => rangeB (f (2 * i)) (f (2 * i + 1))) n

/-- What a transaction holds. -/
structure TxnD where
  nr : Nat
  r : Nat → Int
  nw : Nat
  wr : Nat → Int
  ng : Nat
  g : Nat → Int
  nc : Nat
  c : Nat → Int

def insV (K A B C : Int) (t : TxnD) (k : Nat) : Bool :=
  if K = 1 then withinB A 0 3
  else if K = 2 then withinB A 0 3 && (hasB t.nr t.r B || hasB t.nw t.wr B)
  else if K = 3 then hasB t.nw t.wr A && withinB B 0 3
  else if K = 4 then hasB t.nw t.wr A
  else if K = 5 ∨ K = 6 then withinB A 0 3 && withinB B 0 (t.ng - 1)
  else if K = 7 ∨ K = 8 then withinB A 0 3 && withinB B 0 3 && withinB C 0 3
  else if K = 9 then withinB A 0 3 && withinB B 0 3 && withinB C (k + 1) t.nc
  else K == 10
def insB (t : TxnD) (k : Nat) : Bool := insV (t.c (4 * k)) (t.c (4 * k + 1)) (t.c (4 * k + 2)) (t.c (4 * k + 3)) t k

def codeB (t : TxnD) : Bool := decide (t.nc ≤ 16) && allB (insB t) t.nc
def txnB (t : TxnD) : Bool := keysB t.nr t.r && keysB t.nw t.wr && rangesB t.ng t.g && codeB t

/-- Each above the one before, the first at least lo, none above 99. -/
def risesB (lo : Int) (f : Nat → Int) (i : Nat) : Bool := withinB (f i) (match i with | 0 => lo | j + 1 => f j + 1) 99
def boundsB (n : Nat) (f : Nat → Int) : Bool := decide (n ≤ 3) && allB (risesB 1 f) n
def configB (n : Nat) (f : Nat → Int) (a b c : Int) : Bool := boundsB n f && withinB a 1 8 && withinB b 1 8 && withinB c 1 4

/-- The first place at which p fails. -/
def firstNo (p : Nat → Bool) : Nat → Nat → Option Nat
  | 0, _ => none
  | k + 1, i => if p i then firstNo p k (i + 1) else some i

theorem firstNo_some {p : Nat → Bool} : ∀ (m i k : Nat), allB p i = true → i ≤ k → k < i + m → (∀ j, j < k → p j = true) → p k = false → firstNo p m i = some k
  | 0, i, k, _, h1, h2, _, _ => by omega
  | m + 1, i, k, h0, h1, h2, h3, h4 => by
    unfold firstNo
    by_cases e : i = k
    · subst e; simp [h4]
    · rw [if_pos (h3 i (by omega))]
      exact firstNo_some m (i + 1) k (allB_step h0 (h3 i (by omega))) (by omega) (by omega) h3 h4
theorem firstNo_none {p : Nat → Bool} : ∀ (m i : Nat), (∀ j, j < i + m → p j = true) → firstNo p m i = none
  | 0, i, _ => rfl
  | m + 1, i, h => by
    unfold firstNo
    rw [if_pos (h i (by omega))]
    exact firstNo_none m (i + 1) (fun j hj => h j (by omega))
theorem firstNo_at {p : Nat → Bool} {n k : Nat} (hk : k < n) (h : allB p k = true) (hp : p k = false) : firstNo p n 0 = some k :=
  firstNo_some n 0 k rfl (by omega) (by omega) (fun _ hj => allB_at h hj) hp
theorem firstNo_all {p : Nat → Bool} {n : Nat} (h : allB p n = true) : firstNo p n 0 = none :=
  firstNo_none n 0 (fun j hj => allB_at h (by omega))

/-- The error and the place of New (0: none). -/
def logAt (n : Nat) (ts : Nat → TxnD) : Option Nat := if 24 < n then some 24 else firstNo (fun i => txnB (ts i)) n 0
def startAt (n : Nat) (f : Nat → Int) : Option Nat := if 40 < n then some 40 else firstNo (risesB 0 (fun i => f (2 * i))) n 0
def newAt (nb : Nat) (fb : Nat → Int) (a b c : Int) (nl : Nat) (ts : Nat → TxnD) (ns : Nat) (fs : Nat → Int) : Nat × Nat :=
  if configB nb fb a b c then
    match logAt nl ts with
    | some k => (2, k)
    | none => match startAt ns fs with
      | some k => (3, k)
      | none => (0, 0)
  else (1, 0)

/-- A list of n elements, k numbers each. -/
def RdI (w : World) (v : Value) (k n : Nat) (f : Nat → Int) : Prop :=
  ∃ a cap, v = .slice a n cap ∧ n ≤ 1048577 ∧ (0 < n → ∃ b off, a = some ⟨b, off, none⟩ ∧ b < w.heap.size ∧ ∀ j, j < n * k → w.cell? ⟨b, off + j, none⟩ = some (.int .i64 (f j)))

theorem RdI.below {w w' : World} {v : Value} {k n : Nat} {f : Nat → Int} (h : RdI w v k n f) (hb : Below w.heap.size w w') : RdI w' v k n f := by
  obtain ⟨a, cap, rfl, hn, hc⟩ := h
  refine ⟨a, cap, rfl, hn, fun h0 => ?_⟩
  obtain ⟨b, off, rfl, hlt, hcell⟩ := hc h0
  exact ⟨b, off, rfl, Nat.lt_of_lt_of_le hlt hb.size, fun j hj => by rw [hb.cell (p := ⟨b, off + j, none⟩) hlt]; exact hcell j hj⟩
theorem RdI.alloc {w : World} {v : Value} {k n : Nat} {f : Nat → Int} (h : RdI w v k n f) (o : Obj) : RdI (w.alloc o) v k n f :=
  h.below ((Below.refl _ _).alloc (Nat.le_refl _) _)

/-- A transaction's four lists. -/
structure RdT (w : World) (a b c d : Value) (t : TxnD) : Prop where
  r : RdI w a 1 t.nr t.r
  wr : RdI w b 1 t.nw t.wr
  g : RdI w c 2 t.ng t.g
  c : RdI w d 4 t.nc t.c
theorem RdT.below {w w' : World} {a b c d : Value} {t : TxnD} (h : RdT w a b c d t) (hb : Below w.heap.size w w') : RdT w' a b c d t :=
  ⟨h.r.below hb, h.wr.below hb, h.g.below hb, h.c.below hb⟩
theorem RdT.alloc {w : World} {a b c d : Value} {t : TxnD} (h : RdT w a b c d t) (o : Obj) : RdT (w.alloc o) a b c d t :=
  h.below ((Below.refl _ _).alloc (Nat.le_refl _) _)

/-- A list of transactions: vs: the values that lie there, four a transaction. -/
def RdL (w : World) (v : Value) (n : Nat) (ts : Nat → TxnD) : Prop :=
  ∃ a cap, v = .slice a n cap ∧ n ≤ 1048577 ∧ (0 < n → ∃ b off, a = some ⟨b, off, none⟩ ∧ b < w.heap.size ∧ ∃ vs : Nat → Value, (∀ j, j < n * 4 → w.cell? ⟨b, off + j, none⟩ = some (vs j)) ∧
    ∀ i, i < n → RdT w (vs (i * 4)) (vs (i * 4 + 1)) (vs (i * 4 + 2)) (vs (i * 4 + 3)) (ts i))
theorem RdL.below {w w' : World} {v : Value} {n : Nat} {ts : Nat → TxnD} (h : RdL w v n ts) (hb : Below w.heap.size w w') : RdL w' v n ts := by
  obtain ⟨a, cap, rfl, hn, hc⟩ := h
  refine ⟨a, cap, rfl, hn, fun h0 => ?_⟩
  obtain ⟨b, off, rfl, hlt, vs, hcell, ht⟩ := hc h0
  exact ⟨b, off, rfl, Nat.lt_of_lt_of_le hlt hb.size, vs, fun j hj => by rw [hb.cell (p := ⟨b, off + j, none⟩) hlt]; exact hcell j hj, fun i hi => (ht i hi).below hb⟩
theorem RdL.alloc {w : World} {v : Value} {n : Nat} {ts : Nat → TxnD} (h : RdL w v n ts) (o : Obj) : RdL (w.alloc o) v n ts :=
  h.below ((Below.refl _ _).alloc (Nat.le_refl _) _)

theorem bcell {W w1 : World} (hb : Below W.heap.size W w1) : (∀ b o, b < W.heap.size → w1.cell? ⟨b, o, none⟩ = W.cell? ⟨b, o, none⟩) ∧ (∀ b o, b < W.heap.size → w1.frozen? ⟨b, o, none⟩ = W.frozen? ⟨b, o, none⟩) :=
  ⟨fun b o h => hb.cell (p := ⟨b, o, none⟩) h, fun b o h => hb.frozen (p := ⟨b, o, none⟩) h⟩

theorem ret_bool {a b : Bool} (h : a = b) : Ending.returned (.bool a) = .returned (.bool b) := by rw [h]
theorem ret_int {k : IntKind} {a b : Int} (h : a = b) : Ending.returned (.int k a) = .returned (.int k b) := by rw [h]
end Go.Proofs.YtldeiiffabfmeaaGreatDoor
