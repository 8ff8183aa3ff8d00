/- The same readings, with the blocks that they lie in. -/
import Derived.Test.YtldeiiffabfmeaaGreatDoorO
import Derived.Test.YtldeiiffabfmeaaGreatDoorW
set_option linter.unusedVariables false
set_option linter.unusedSimpArgs false
namespace Go.Proofs.YtldeiiffabfmeaaGreatDoor
open Go.RowKit

/-- The blocks of S are as they were. -/
structure Keeps (S : Nat → Prop) (w w' : World) : Prop where
  size : w.heap.size ≤ w'.heap.size
  block : ∀ b, S b → b < w.heap.size → w'.heap[b]? = w.heap[b]?
theorem Keeps.refl (S : Nat → Prop) (w : World) : Keeps S w w := ⟨Nat.le_refl _, fun _ _ _ => rfl⟩
theorem Keeps.trans {S : Nat → Prop} {w w' w'' : World} (h : Keeps S w w') (h' : Keeps S w' w'') : Keeps S w w'' :=
  ⟨Nat.le_trans h.size h'.size, fun b hs hb => (h'.block b hs (Nat.lt_of_lt_of_le hb h.size)).trans (h.block b hs hb)⟩
theorem Keeps.of_below {S : Nat → Prop} {w w' : World} (h : Below w.heap.size w w') : Keeps S w w' := ⟨h.size, fun b _ hb => h.block b hb⟩
theorem Keeps.mono {S S' : Nat → Prop} {w w' : World} (h : Keeps S w w') (hs : ∀ b, S' b → S b) : Keeps S' w w' := ⟨h.size, fun b h' hb => h.block b (hs b h') hb⟩
theorem Keeps.alloc {S : Nat → Prop} {w w' : World} (h : Keeps S w w') (o : Obj) : Keeps S w (w'.alloc o) :=
  h.trans ⟨by simp, fun b _ hb => Below.heap_alloc _ _ _ hb⟩
theorem Keeps.setCell {S : Nat → Prop} {w w' : World} (h : Keeps S w w') {a : Addr} (ha : ¬ S a.block) (u : Value) : Keeps S w (w'.setCell a u) :=
  h.trans ⟨by simp [World.setCell], fun b hs _ => Below.heap_setCell _ _ _ _ (fun e => ha (e ▸ hs))⟩
theorem Keeps.drewN {S : Nat → Prop} {w w' : World} (h : Keeps S w w') (n : Nat) : Keeps S w (w'.drewN n) := ⟨h.size, h.block⟩
theorem Keeps.cell {S : Nat → Prop} {w w' : World} (h : Keeps S w w') {b : Nat} (hs : S b) (hb : b < w.heap.size) (o : Nat) : w'.cell? ⟨b, o, none⟩ = w.cell? ⟨b, o, none⟩ :=
  World.cell?_of_block (w := w) (a := ⟨b, o, none⟩) (h.block b hs hb)
theorem Keeps.grown {S : Nat → Prop} {w w1 w' : World} {row : Option Nat} (h : Keeps S w w1) (hg : w1.grownBy w' row) (hr : ∀ k, row = some k → ¬ S k) : Keeps S w w' :=
  h.trans ⟨hg.size, fun b hs hb => hg.block b hb (fun e => hr b e.symm hs)⟩

def RdIS (S : Nat → Prop) (w : World) (v : Value) (k n : Nat) (f : Nat → Int) : Prop :=
  ∃ a cap, v = .slice a n cap ∧ n ≤ 1048577 ∧ (0 < n → ∃ b off, a = some ⟨b, off, none⟩ ∧ S b ∧ b < w.heap.size ∧ ∀ j, j < n * k → w.cell? ⟨b, off + j, none⟩ = some (.int .i64 (f j)))
theorem RdIS.rd {S : Nat → Prop} {w : World} {v : Value} {k n : Nat} {f : Nat → Int} (h : RdIS S w v k n f) : RdI w v k n f := by
  obtain ⟨a, cap, rfl, hn, hc⟩ := h
  refine ⟨a, cap, rfl, hn, fun h0 => ?_⟩
  obtain ⟨b, off, rfl, _, hlt, hcell⟩ := hc h0
  exact ⟨b, off, rfl, hlt, hcell⟩
theorem RdIS.keep {S : Nat → Prop} {w w' : World} {v : Value} {k n : Nat} {f : Nat → Int} (h : RdIS S w v k n f) (hk : Keeps S w w') : RdIS S w' v k n f := by
  obtain ⟨a, cap, rfl, hn, hc⟩ := h
  refine ⟨a, cap, rfl, hn, fun h0 => ?_⟩
  obtain ⟨b, off, rfl, hs, hlt, hcell⟩ := hc h0
  exact ⟨b, off, rfl, hs, Nat.lt_of_lt_of_le hlt hk.size, fun j hj => by rw [hk.cell hs hlt]; exact hcell j hj⟩
theorem RdIS.mono {S S' : Nat → Prop} {w : World} {v : Value} {k n : Nat} {f : Nat → Int} (h : RdIS S w v k n f) (hs : ∀ b, S b → S' b) : RdIS S' w v k n f := by
  obtain ⟨a, cap, rfl, hn, hc⟩ := h
  refine ⟨a, cap, rfl, hn, fun h0 => ?_⟩
  obtain ⟨b, off, rfl, hs', hlt, hcell⟩ := hc h0
  exact ⟨b, off, rfl, hs b hs', hlt, hcell⟩
theorem RdIS.lt {S : Nat → Prop} {w : World} {v : Value} {k n : Nat} {f : Nat → Int} (h : RdIS S w v k n f) : RdIS (fun b => S b ∧ b < w.heap.size) w v k n f := by
  obtain ⟨a, cap, rfl, hn, hc⟩ := h
  refine ⟨a, cap, rfl, hn, fun h0 => ?_⟩
  obtain ⟨b, off, rfl, hs, hlt, hcell⟩ := hc h0
  exact ⟨b, off, rfl, ⟨hs, hlt⟩, hlt, hcell⟩
theorem RdI.all {w : World} {v : Value} {k n : Nat} {f : Nat → Int} (h : RdI w v k n f) : RdIS (fun b => b < w.heap.size) w v k n f := by
  obtain ⟨a, cap, rfl, hn, hc⟩ := h
  refine ⟨a, cap, rfl, hn, fun h0 => ?_⟩
  obtain ⟨b, off, rfl, hlt, hcell⟩ := hc h0
  exact ⟨b, off, rfl, hlt, hlt, hcell⟩

structure RdTS (S : Nat → Prop) (w : World) (a b c d : Value) (t : TxnD) : Prop where
  r : RdIS S w a 1 t.nr t.r
  wr : RdIS S w b 1 t.nw t.wr
  g : RdIS S w c 2 t.ng t.g
  c : RdIS S w d 4 t.nc t.c
theorem RdTS.rd {S : Nat → Prop} {w : World} {a b c d : Value} {t : TxnD} (h : RdTS S w a b c d t) : RdT w a b c d t := ⟨h.r.rd, h.wr.rd, h.g.rd, h.c.rd⟩
theorem RdTS.keep {S : Nat → Prop} {w w' : World} {a b c d : Value} {t : TxnD} (h : RdTS S w a b c d t) (hk : Keeps S w w') : RdTS S w' a b c d t := ⟨h.r.keep hk, h.wr.keep hk, h.g.keep hk, h.c.keep hk⟩
theorem RdTS.mono {S S' : Nat → Prop} {w : World} {a b c d : Value} {t : TxnD} (h : RdTS S w a b c d t) (hs : ∀ b, S b → S' b) : RdTS S' w a b c d t := ⟨h.r.mono hs, h.wr.mono hs, h.g.mono hs, h.c.mono hs⟩

theorem RdT.all {w : World} {a b c d : Value} {t : TxnD} (h : RdT w a b c d t) : RdTS (fun b => b < w.heap.size) w a b c d t := ⟨h.r.all, h.wr.all, h.g.all, h.c.all⟩

def RdLS (S : Nat → Prop) (w : World) (v : Value) (n : Nat) (ts : Nat → TxnD) : Prop :=
  ∃ a cap, v = .slice a n cap ∧ n ≤ 1048577 ∧ (0 < n → ∃ b off, a = some ⟨b, off, none⟩ ∧ S b ∧ b < w.heap.size ∧ ∃ vs : Nat → Value, (∀ j, j < n * 4 → w.cell? ⟨b, off + j, none⟩ = some (vs j)) ∧
    ∀ i, i < n → RdTS S w (vs (i * 4)) (vs (i * 4 + 1)) (vs (i * 4 + 2)) (vs (i * 4 + 3)) (ts i))
theorem RdLS.rd {S : Nat → Prop} {w : World} {v : Value} {n : Nat} {ts : Nat → TxnD} (h : RdLS S w v n ts) : RdL w v n ts := by
  obtain ⟨a, cap, rfl, hn, hc⟩ := h
  refine ⟨a, cap, rfl, hn, fun h0 => ?_⟩
  obtain ⟨b, off, rfl, _, hlt, vs, hcell, ht⟩ := hc h0
  exact ⟨b, off, rfl, hlt, vs, hcell, fun i hi => (ht i hi).rd⟩
theorem RdLS.keep {S : Nat → Prop} {w w' : World} {v : Value} {n : Nat} {ts : Nat → TxnD} (h : RdLS S w v n ts) (hk : Keeps S w w') : RdLS S w' v n ts := by
  obtain ⟨a, cap, rfl, hn, hc⟩ := h
  refine ⟨a, cap, rfl, hn, fun h0 => ?_⟩
  obtain ⟨b, off, rfl, hs, hlt, vs, hcell, ht⟩ := hc h0
  exact ⟨b, off, rfl, hs, Nat.lt_of_lt_of_le hlt hk.size, vs, fun j hj => by rw [hk.cell hs hlt]; exact hcell j hj, fun i hi => (ht i hi).keep hk⟩
theorem RdLS.mono {S S' : Nat → Prop} {w : World} {v : Value} {n : Nat} {ts : Nat → TxnD} (h : RdLS S w v n ts) (hs : ∀ b, S b → S' b) : RdLS S' w v n ts := by
  obtain ⟨a, cap, rfl, hn, hc⟩ := h
  refine ⟨a, cap, rfl, hn, fun h0 => ?_⟩
  obtain ⟨b, off, rfl, hs', hlt, vs, hcell, ht⟩ := hc h0
  exact ⟨b, off, rfl, hs b hs', hlt, vs, hcell, fun i hi => (ht i hi).mono hs⟩

theorem RdTS.lt {S : Nat → Prop} {w : World} {a b c d : Value} {t : TxnD} (h : RdTS S w a b c d t) : RdTS (fun b => S b ∧ b < w.heap.size) w a b c d t := ⟨h.r.lt, h.wr.lt, h.g.lt, h.c.lt⟩
theorem RdLS.lt {S : Nat → Prop} {w : World} {v : Value} {n : Nat} {ts : Nat → TxnD} (h : RdLS S w v n ts) : RdLS (fun b => S b ∧ b < w.heap.size) w v n ts := by
  obtain ⟨a, cap, rfl, hn, hc⟩ := h
  refine ⟨a, cap, rfl, hn, fun h0 => ?_⟩
  obtain ⟨b, off, rfl, hs', hlt, vs, hcell, ht⟩ := hc h0
  exact ⟨b, off, rfl, ⟨hs', hlt⟩, hlt, vs, hcell, fun i hi => (ht i hi).lt⟩

/-- A slice that owns its row reads as a list of numbers. -/
theorem ownsRow_rdS {w : World} {base e k n : Nat} {v : Value} {xs : List Value} {f : Nat → Int} (h : w.ownsRow base e k v n xs) (hn : n ≤ 1048577) (hx : ∀ j, j < n * k → xs[j]? = some (.int .i64 (f j))) : RdIS (fun b => base ≤ b) w v k n f := by
  obtain ⟨hl, h2⟩ := h
  rcases h2 with ⟨rfl, rfl⟩ | ⟨g, cap, cur, rfl, hg, hh, hle, hm, hs, ht⟩
  · exact ⟨_, _, rfl, by omega, fun h0 => by omega⟩
  · refine ⟨_, _, rfl, hn, fun _ => ⟨g, 0, rfl, hg, (Array.getElem?_eq_some_iff.1 hh).1, fun j hj => ?_⟩⟩
    have h3 := hx j hj
    rw [← ht, List.getElem?_take, if_pos hj, Array.getElem?_toList] at h3
    simp [World.cell?, hh, h3]

/-- The program's engine, all in blocks of S. -/
structure IsEngS (S : Nat → Prop) (w : World) (e : Nat) (D : EngD) (vB vL : Value) (K : Nat) (M : Nat → Nat) (hs : Nat → Nat → Bool) (vl : Nat → Nat → Int) : Prop where
  eng : IsEng w e D vB vL K M hs vl
  se : S e
  sb : RdIS S w vB 1 D.nb D.fb
  sl : RdLS S w vL D.nl D.ts
  sK : S K
  sM : ∀ p, p ≤ D.nb → S (M p)
  sR : ∃ R, w.cell? ⟨e, 6, none⟩ = some (.slice (some ⟨R, 0, none⟩) D.nl D.nl) ∧ S R ∧ R < w.heap.size ∧ ∀ j, j < D.nl * 6 → w.cell? ⟨R, j, none⟩ = some (zres j)
theorem IsEngS.keep {S : Nat → Prop} {w w' : World} {e : Nat} {D : EngD} {vB vL : Value} {K : Nat} {M : Nat → Nat} {hs : Nat → Nat → Bool} {vl : Nat → Nat → Int} (h : IsEngS S w e D vB vL K M hs vl) (hk : Keeps S w w') : IsEngS S w' e D vB vL K M hs vl := by
  have hE := h.eng
  have ce : ∀ o, w'.cell? ⟨e, o, none⟩ = w.cell? ⟨e, o, none⟩ := hk.cell h.se hE.k.lt
  have cK : ∀ o, w'.cell? ⟨K, o, none⟩ = w.cell? ⟨K, o, none⟩ := hk.cell h.sK hE.lt
  have hR : ∃ R, w'.cell? ⟨e, 6, none⟩ = some (.slice (some ⟨R, 0, none⟩) D.nl D.nl) ∧ S R ∧ R < w'.heap.size ∧ ∀ j, j < D.nl * 6 → w'.cell? ⟨R, j, none⟩ = some (zres j) := by
    obtain ⟨R, r1, r2, r3, r4⟩ := h.sR
    exact ⟨R, by rw [ce]; exact r1, r2, Nat.lt_of_lt_of_le r3 hk.size, fun j hj => by rw [hk.cell r2 r3]; exact r4 j hj⟩
  exact ⟨⟨⟨Nat.lt_of_lt_of_le hE.k.lt hk.size, by rw [ce]; exact hE.k.c0, by rw [ce]; exact hE.k.c4, (h.sb.keep hk).rd, (h.sl.keep hk).rd⟩, hE.nb, hE.nl, by rw [ce]; exact hE.c5, by obtain ⟨R, r1, r2, r3, r4⟩ := hR; exact ⟨R, r1, r3, r4⟩, Nat.lt_of_lt_of_le hE.lt hk.size,
    fun p hp => by rw [cK]; exact hE.pt p hp, fun p hp => by rw [cK]; exact hE.pl p hp, fun p q hp hq => by rw [cK]; exact hE.po p q hp hq, fun p hp => Nat.lt_of_lt_of_le (hE.mlt p hp) hk.size, fun p hp => (hE.tab p hp).block (hk.block _ (h.sM p hp) (hE.mlt p hp))⟩,
    h.se, h.sb.keep hk, h.sl.keep hk, h.sK, h.sM, hR⟩

theorem IsEngS.mono {S S' : Nat → Prop} {w : World} {e : Nat} {D : EngD} {vB vL : Value} {K : Nat} {M : Nat → Nat} {hs : Nat → Nat → Bool} {vl : Nat → Nat → Int} (h : IsEngS S w e D vB vL K M hs vl) (hs' : ∀ b, S b → b < w.heap.size → S' b) : IsEngS S' w e D vB vL K M hs vl :=
  ⟨h.eng, hs' _ h.se h.eng.k.lt, h.sb.lt.mono (fun b x => hs' b x.1 x.2), h.sl.lt.mono (fun b x => hs' b x.1 x.2), hs' _ h.sK h.eng.lt, fun p hp => hs' _ (h.sM p hp) (h.eng.mlt p hp), by obtain ⟨R, r1, r2, r3, r4⟩ := h.sR; exact ⟨R, r1, hs' _ r2 r3, r3, r4⟩⟩

/-- The document's engine, all in blocks of S. -/
structure IsRefS (S : Nat → Prop) (w : World) (x : Nat) (D : EngD) (vB vL : Value) (hs : Nat → Nat → Bool) (vl : Nat → Nat → Int) : Prop where
  ref : IsRef w x D vB vL hs vl
  sx : S x
  sb : RdIS S w vB 1 D.nb D.fb
  sl : RdLS S w vL D.nl D.ts
theorem IsRefS.keep {S : Nat → Prop} {w w' : World} {x : Nat} {D : EngD} {vB vL : Value} {hs : Nat → Nat → Bool} {vl : Nat → Nat → Int} (h : IsRefS S w x D vB vL hs vl) (hk : Keeps S w w') : IsRefS S w' x D vB vL hs vl := by
  have hR := h.ref
  have hc : ∀ o, w'.cell? ⟨x, o, none⟩ = w.cell? ⟨x, o, none⟩ := hk.cell h.sx hR.lt
  exact ⟨⟨Nat.lt_of_lt_of_le hR.lt hk.size, hR.nb, hR.nl, by rw [hc]; exact hR.c0, by rw [hc]; exact hR.c4, by rw [hc]; exact hR.c5, (h.sb.keep hk).rd, (h.sl.keep hk).rd,
    fun p k hp hk' => by rw [hc]; exact hR.t1 p k hp hk', fun p k hp hk' => by rw [hc]; exact hR.t2 p k hp hk', fun p i hp hi => by rw [hc]; exact hR.s0 p i hp hi, fun p i hp hi => by rw [hc]; exact hR.s2 p i hp hi, fun p q hp hq => by rw [hc]; exact hR.m p q hp hq⟩,
    h.sx, h.sb.keep hk, h.sl.keep hk⟩
end Go.Proofs.YtldeiiffabfmeaaGreatDoor
