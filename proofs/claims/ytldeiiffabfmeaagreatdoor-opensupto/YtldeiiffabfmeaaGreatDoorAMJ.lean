/- The caller's record, known whole. -/
import Derived.Test.YtldeiiffabfmeaaGreatDoorAI
import Derived.Test.YtldeiiffabfmeaaGreatDoorAL
import Derived.Test.YtldeiiffabfmeaaGreatDoorAJ
set_option linter.unusedVariables false
set_option linter.unusedSimpArgs false
namespace Go.Proofs.YtldeiiffabfmeaaGreatDoor
open Go.RowKit

/-- v is a list of lists of numbers, all in blocks of S. -/
def LV (S : Nat → Prop) (w : World) (v : Value) (k : Nat) (f : Nat → Nat → Int) : Prop :=
  ∃ a n cap, v = .slice a n cap ∧ n ≤ 1048577 ∧ (0 < n → ∃ b off, a = some ⟨b, off, none⟩ ∧ S b ∧ b < w.heap.size ∧ ∃ vs : Nat → Value, (∀ j, j < n → w.cell? ⟨b, off + j, none⟩ = some (vs j)) ∧ ∀ i, i < n → ∃ m, RdIS S w (vs i) k m (f i))
theorem LV.keep {S : Nat → Prop} {w w' : World} {v : Value} {k : Nat} {f : Nat → Nat → Int} (h : LV S w v k f) (hk : Keeps S w w') : LV S w' v k f := by
  obtain ⟨a, n, cap, rfl, hn, hh⟩ := h
  refine ⟨a, n, cap, rfl, hn, fun h0 => ?_⟩
  obtain ⟨b, off, rfl, hs, hlt, vs, hcell, hr⟩ := hh h0
  refine ⟨b, off, rfl, hs, Nat.lt_of_lt_of_le hlt hk.size, vs, fun j hj => by rw [hk.cell hs hlt]; exact hcell j hj, fun i hi => ?_⟩
  obtain ⟨m, hm⟩ := hr i hi
  exact ⟨m, hm.keep hk⟩
theorem LV.mono {S S' : Nat → Prop} {w : World} {v : Value} {k : Nat} {f : Nat → Nat → Int} (h : LV S w v k f) (hs : ∀ b, S b → S' b) : LV S' w v k f := by
  obtain ⟨a, n, cap, rfl, hn, hh⟩ := h
  refine ⟨a, n, cap, rfl, hn, fun h0 => ?_⟩
  obtain ⟨b, off, rfl, hS, hlt, vs, hcell, hr⟩ := hh h0
  refine ⟨b, off, rfl, hs b hS, hlt, vs, hcell, fun i hi => ?_⟩
  obtain ⟨m, hm⟩ := hr i hi
  exact ⟨m, hm.mono hs⟩
theorem LV.lt {S : Nat → Prop} {w : World} {v : Value} {k : Nat} {f : Nat → Nat → Int} (h : LV S w v k f) : LV (fun b => S b ∧ b < w.heap.size) w v k f := by
  obtain ⟨a, n, cap, rfl, hn, hh⟩ := h
  refine ⟨a, n, cap, rfl, hn, fun h0 => ?_⟩
  obtain ⟨b, off, rfl, hS, hlt, vs, hcell, hr⟩ := hh h0
  refine ⟨b, off, rfl, ⟨hS, hlt⟩, hlt, vs, hcell, fun i hi => ?_⟩
  obtain ⟨m, hm⟩ := hr i hi
  exact ⟨m, hm.lt⟩
theorem LV.ll {S : Nat → Prop} {w : World} {v : Value} {k W o : Nat} {f : Nat → Nat → Int} (h : LV S w v k f) (hW : W < w.heap.size) (hc : w.cell? ⟨W, o, none⟩ = some v) : LL w W o k f := by
  obtain ⟨a, n, cap, rfl, hn, hh⟩ := h
  refine ⟨hW, a, n, cap, hc, hn, fun h0 => ?_⟩
  obtain ⟨b, off, rfl, hS, hlt, vs, hcell, hr⟩ := hh h0
  refine ⟨b, off, rfl, hlt, vs, hcell, fun i hi => ?_⟩
  obtain ⟨m, hm⟩ := hr i hi
  exact ⟨m, hm.rd⟩

/-- v is a list of logs, all in blocks of S. -/
def GV (S : Nat → Prop) (w : World) (v : Value) (ts : Nat → Nat → TxnD) : Prop :=
  ∃ a n cap, v = .slice a n cap ∧ n ≤ 1048577 ∧ (0 < n → ∃ b off, a = some ⟨b, off, none⟩ ∧ S b ∧ b < w.heap.size ∧ ∃ vs : Nat → Value, (∀ j, j < n → w.cell? ⟨b, off + j, none⟩ = some (vs j)) ∧ ∀ i, i < n → ∃ m, RdLS S w (vs i) m (ts i))
theorem GV.keep {S : Nat → Prop} {w w' : World} {v : Value} {ts : Nat → Nat → TxnD} (h : GV S w v ts) (hk : Keeps S w w') : GV S w' v ts := by
  obtain ⟨a, n, cap, rfl, hn, hh⟩ := h
  refine ⟨a, n, cap, rfl, hn, fun h0 => ?_⟩
  obtain ⟨b, off, rfl, hs, hlt, vs, hcell, hr⟩ := hh h0
  refine ⟨b, off, rfl, hs, Nat.lt_of_lt_of_le hlt hk.size, vs, fun j hj => by rw [hk.cell hs hlt]; exact hcell j hj, fun i hi => ?_⟩
  obtain ⟨m, hm⟩ := hr i hi
  exact ⟨m, hm.keep hk⟩
theorem GV.mono {S S' : Nat → Prop} {w : World} {v : Value} {ts : Nat → Nat → TxnD} (h : GV S w v ts) (hs : ∀ b, S b → S' b) : GV S' w v ts := by
  obtain ⟨a, n, cap, rfl, hn, hh⟩ := h
  refine ⟨a, n, cap, rfl, hn, fun h0 => ?_⟩
  obtain ⟨b, off, rfl, hS, hlt, vs, hcell, hr⟩ := hh h0
  refine ⟨b, off, rfl, hs b hS, hlt, vs, hcell, fun i hi => ?_⟩
  obtain ⟨m, hm⟩ := hr i hi
  exact ⟨m, hm.mono hs⟩
theorem GV.lt {S : Nat → Prop} {w : World} {v : Value} {ts : Nat → Nat → TxnD} (h : GV S w v ts) : GV (fun b => S b ∧ b < w.heap.size) w v ts := by
  obtain ⟨a, n, cap, rfl, hn, hh⟩ := h
  refine ⟨a, n, cap, rfl, hn, fun h0 => ?_⟩
  obtain ⟨b, off, rfl, hS, hlt, vs, hcell, hr⟩ := hh h0
  refine ⟨b, off, rfl, ⟨hS, hlt⟩, hlt, vs, hcell, fun i hi => ?_⟩
  obtain ⟨m, hm⟩ := hr i hi
  exact ⟨m, hm.lt⟩
theorem GV.lg {S : Nat → Prop} {w : World} {v : Value} {W o : Nat} {ts : Nat → Nat → TxnD} (h : GV S w v ts) (hW : W < w.heap.size) (hc : w.cell? ⟨W, o, none⟩ = some v) : LG w W o ts := by
  obtain ⟨a, n, cap, rfl, hn, hh⟩ := h
  refine ⟨hW, a, n, cap, hc, hn, fun h0 => ?_⟩
  obtain ⟨b, off, rfl, hS, hlt, vs, hcell, hr⟩ := hh h0
  refine ⟨b, off, rfl, hlt, vs, hcell, fun i hi => ?_⟩
  obtain ⟨m, hm⟩ := hr i hi
  exact ⟨m, hm.rd⟩

/-- The blocks that keep does not write: neither the record's nor those of its lists of pairs and of marks. -/
def Out (W : Nat) (cW : Nat → Value) (b : Nat) : Prop := b ≠ W ∧ (cW 1).ownBlock ≠ some b ∧ (cW 2).ownBlock ≠ some b

/-- The caller's record at W: np lists came out, with their marks; q of them were asked for. -/
structure Rec (w : World) (base W np q : Nat) (cW vsP : Nat → Value) (ms : Nat → Int) : Prop where
  x : RowIs w W 37 9 cW
  lt : base ≤ W
  p : OwnL w base 26 1 (cW 1) np vsP
  m : OwnL w base 3 1 (cW 2) np (icell ms)
  rp : ∀ i, i < np → ∃ n, RdIS (Out W cW) w (vsP i) 2 n (fun _ => ms i)
  i : LV (Out W cW) w (cW 3) 1 (fun _ _ => -7)
  r : LV (Out W cW) w (cW 4) 2 (fun _ _ => -7)
  c : LV (Out W cW) w (cW 5) 4 (fun _ => codeF)
  l : GV (Out W cW) w (cW 6) (fun _ _ => turnedT)
  s : LV (Out W cW) w (cW 7) 2 (fun _ _ => -7)
  last : cW 8 = .int .i64 (-(q : Int))

theorem Rec.kp {w : World} {base W np q : Nat} {cW vsP : Nat → Value} {ms : Nat → Int} (h : Rec w base W np q cW vsP ms) (hn : np ≤ 1048577) : Kp w W := by
  have hW := h.x.lt
  refine ⟨?_, h.i.ll hW (h.x.cell (by omega)), h.r.ll hW (h.x.cell (by omega)), h.c.ll hW (h.x.cell (by omega)), h.l.lg hW (h.x.cell (by omega)), h.s.ll hW (h.x.cell (by omega))⟩
  have c1 := h.x.cell (j := 1) (by omega)
  have c2 := h.x.cell (j := 2) (by omega)
  have hm : RdI w (cW 2) 1 np ms := by
    obtain ⟨a, cap, hv⟩ := h.m.slice
    refine ⟨a, cap, hv, hn, fun h0 => ?_⟩
    obtain ⟨g, cap', hv', _, _, hlt, hcell⟩ := h.m.at h0
    rw [hv] at hv'
    injection hv' with e1
    subst e1
    exact ⟨g, 0, rfl, hlt, fun j hj => by rw [Nat.zero_add, hcell j hj]; rfl⟩
  obtain ⟨a, cap, hv⟩ := h.p.slice
  refine ⟨hW, a, np, cap, cW 2, ms, by rw [c1, hv], c2, hm, fun h0 => ?_⟩
  obtain ⟨g, cap', hv', _, _, hlt, hcell⟩ := h.p.at h0
  rw [hv] at hv'
  injection hv' with e1
  subst e1
  refine ⟨g, 0, rfl, hlt, vsP, fun j hj => by rw [Nat.zero_add]; exact hcell j (by omega), fun i hi => ?_⟩
  obtain ⟨n, hr⟩ := h.rp i hi
  exact ⟨n, hr.rd⟩
end Go.Proofs.YtldeiiffabfmeaaGreatDoor
/- A list of the call's own is a row that is known whole; what stays as it is when the caller's record grows. -/
namespace Go.Proofs.YtldeiiffabfmeaaGreatDoor
open Go.RowKit

/-- A list of the call's own with elements is a row. -/
theorem OwnL.row {w : World} {base e size n : Nat} {v : Value} {vs : Nat → Value} (h : OwnL w base e size v n vs) (hn : 0 < n) :
    ∃ g cap c, v = .slice (some ⟨g, 0, none⟩) n cap ∧ base ≤ g ∧ n ≤ cap ∧ cap ≤ maxLen ∧ RowIs w g e (cap * size) c ∧ ∀ j, j < n * size → c j = vs j := by
  rcases id h.2 with ⟨rfl, rfl⟩ | ⟨g, cap, cur, rfl, hg, hh, hle, hm, hs, ht⟩
  · omega
  · refine ⟨g, cap, fun j => if j < n * size then vs j else cur.getD j undef, rfl, hg, hle, hm, ⟨cur, hh, hs, fun j hj => ?_⟩, fun j hj => if_pos hj⟩
    by_cases e : j < n * size
    · have h3 : ((List.range (n * size)).map vs)[j]? = some (vs j) := by simp [e]
      rw [← ht, List.getElem?_take, if_pos e, Array.getElem?_toList] at h3
      rw [h3]; simp [e]
    · simp [e, hs, hj]
theorem RowIs.own {w : World} {g e cap size n base : Nat} {c : Nat → Value} (h : RowIs w g e (cap * size) c) (hn : n ≤ cap) (hm : cap ≤ maxLen) (hb : base ≤ g) : OwnL w base e size (.slice (some ⟨g, 0, none⟩) n cap) n c := by
  obtain ⟨cur, h1, h2, h3⟩ := h
  refine ⟨by simp, .inr ⟨g, cap, cur, rfl, hb, h1, hn, hm, h2, ?_⟩⟩
  have hle : n * size ≤ cap * size := Nat.mul_le_mul_right _ hn
  apply List.ext_getElem?
  intro j
  rw [List.getElem?_take]
  by_cases e : j < n * size
  · rw [if_pos e, Array.getElem?_toList, h3 j (by omega)]; simp [e]
  · rw [if_neg e]; simp [e]
/-- Lists of elements of different types lie apart. -/
theorem OwnL.apart2 {w : World} {base base' e e' size size' n n' : Nat} {v v' : Value} {vs vs' : Nat → Value} (h : OwnL w base e size v n vs) (h' : OwnL w base' e' size' v' n' vs') (hT : e ≠ e') {g : Nat} (hg : v.ownBlock = some g) : v'.ownBlock ≠ some g := by
  rcases h.2 with ⟨rfl, rfl⟩ | ⟨g1, cap, cur, rfl, hb, hh, hle, hm, hs, _⟩
  · cases hg
  · have hg' : g1 = g := by simpa [Value.ownBlock] using hg
    subst hg'
    have hr : RowIs w g1 e (cap * size) (fun j => cur.getD j undef) := ⟨cur, hh, hs, fun j hj => by simp [hs, hj]⟩
    exact h'.apart hr hT
theorem OwnL.base {w : World} {base base' e size n : Nat} {v : Value} {vs : Nat → Value} (h : OwnL w base e size v n vs) (hb : ∀ g, v.ownBlock = some g → base' ≤ g) : OwnL w base' e size v n vs := by
  obtain ⟨h1, h2⟩ := h
  refine ⟨h1, ?_⟩
  rcases h2 with ⟨rfl, rfl⟩ | ⟨g, cap, cur, rfl, hg, r⟩
  · exact .inl ⟨rfl, rfl⟩
  · exact .inr ⟨g, cap, cur, rfl, hb g rfl, r⟩

/-- What of the caller's record did not change place, when it grew from c to c'. -/
def Grow (H W : Nat) (c c' : Nat → Value) : Prop := ∀ b, b < H → Out W c b → Out W c' b
theorem Out.grow {H W : Nat} {c c' : Nat → Value} (h1 : (c' 1).ownBlock = (c 1).ownBlock ∨ ∃ b, (c' 1).ownBlock = some b ∧ H ≤ b) (h2 : (c' 2).ownBlock = (c 2).ownBlock ∨ ∃ b, (c' 2).ownBlock = some b ∧ H ≤ b) : Grow H W c c' := by
  intro b hb ⟨a0, a1, a2⟩
  refine ⟨a0, ?_, ?_⟩
  · rcases h1 with h | ⟨g, h, hg⟩
    · rw [h]; exact a1
    · rw [h]; intro e; injection e with e; omega
  · rcases h2 with h | ⟨g, h, hg⟩
    · rw [h]; exact a2
    · rw [h]; intro e; injection e with e; omega
/-- All blocks outside the record and its two lists are as they were, and stay outside. -/
structure Went (W : Nat) (c c' : Nat → Value) (w w' : World) : Prop where
  k : Keeps (Out W c) w w'
  g : Grow w.heap.size W c c'
theorem Went.refl (W : Nat) (c : Nat → Value) (w : World) : Went W c c w w := ⟨Keeps.refl _ _, fun _ _ h => h⟩
theorem Went.of_below {W : Nat} {c : Nat → Value} {w w' : World} (h : Below w.heap.size w w') : Went W c c w w' := ⟨Keeps.of_below h, fun _ _ h => h⟩
theorem Went.trans {W : Nat} {c c' c'' : Nat → Value} {w w' w'' : World} (h : Went W c c' w w') (h' : Went W c' c'' w' w'') : Went W c c'' w w'' :=
  ⟨⟨Nat.le_trans h.k.size h'.k.size, fun b hb hl => by rw [h'.k.block b (h.g b hl hb) (Nat.lt_of_lt_of_le hl h.k.size), h.k.block b hb hl]⟩, fun b hl hb => h'.g b (Nat.lt_of_lt_of_le hl h.k.size) (h.g b hl hb)⟩

theorem RdIS.went {W : Nat} {c c' : Nat → Value} {w w' : World} {v : Value} {k n : Nat} {f : Nat → Int} (h : RdIS (Out W c) w v k n f) (g : Went W c c' w w') : RdIS (Out W c') w' v k n f :=
  (h.lt.keep (g.k.mono fun _ h => h.1)).mono fun b h => g.g b h.2 h.1
theorem LV.went {W : Nat} {c c' : Nat → Value} {w w' : World} {v : Value} {k : Nat} {f : Nat → Nat → Int} (h : LV (Out W c) w v k f) (g : Went W c c' w w') : LV (Out W c') w' v k f :=
  (h.lt.keep (g.k.mono fun _ h => h.1)).mono fun b h => g.g b h.2 h.1
theorem GV.went {W : Nat} {c c' : Nat → Value} {w w' : World} {v : Value} {ts : Nat → Nat → TxnD} (h : GV (Out W c) w v ts) (g : Went W c c' w w') : GV (Out W c') w' v ts :=
  (h.lt.keep (g.k.mono fun _ h => h.1)).mono fun b h => g.g b h.2 h.1
theorem RdLS.went {W : Nat} {c c' : Nat → Value} {w w' : World} {v : Value} {n : Nat} {ts : Nat → TxnD} (h : RdLS (Out W c) w v n ts) (g : Went W c c' w w') : RdLS (Out W c') w' v n ts :=
  (h.lt.keep (g.k.mono fun _ h => h.1)).mono fun b h => g.g b h.2 h.1
theorem IsEngS.went {W : Nat} {c c' : Nat → Value} {w w' : World} {e : Nat} {D : EngD} {vB vL : Value} {K : Nat} {M : Nat → Nat} {hs : Nat → Nat → Bool} {vl : Nat → Nat → Int} (h : IsEngS (Out W c) w e D vB vL K M hs vl) (g : Went W c c' w w') : IsEngS (Out W c') w' e D vB vL K M hs vl :=
  ⟨(h.keep g.k).eng, g.g _ h.eng.k.lt h.se, h.sb.went g, h.sl.went g, g.g _ h.eng.lt h.sK, fun p hp => g.g _ (h.eng.mlt p hp) (h.sM p hp), by obtain ⟨R, r1, r2, r3, r4⟩ := (h.keep g.k).sR; obtain ⟨R0, q1, q2, q3, q4⟩ := h.sR; have hR : R = R0 := by { rw [g.k.cell h.se h.eng.k.lt, q1] at r1; injection r1 with r1; injection r1 with r1; injection r1 with r1; injection r1 with r1; exact r1.symm }; subst hR; exact ⟨R, r1, g.g _ q3 r2, r3, r4⟩⟩
theorem IsRefS.went {W : Nat} {c c' : Nat → Value} {w w' : World} {x : Nat} {D : EngD} {vB vL : Value} {hs : Nat → Nat → Bool} {vl : Nat → Nat → Int} (h : IsRefS (Out W c) w x D vB vL hs vl) (g : Went W c c' w w') : IsRefS (Out W c') w' x D vB vL hs vl :=
  ⟨(h.keep g.k).ref, g.g _ h.ref.lt h.sx, h.sb.went g, h.sl.went g⟩

/-- The two engines side by side, apart from what keep writes. -/
structure SideS (W : Nat) (c : Nat → Value) (w : World) (s e x : Nat) (D : EngD) (vB vL vB' vL' : Value) (K : Nat) (M : Nat → Nat) (hs : Nat → Nat → Bool) (vl : Nat → Nat → Int) : Prop where
  lt : s < w.heap.size
  out : Out W c s
  c0 : w.cell? ⟨s, 0, none⟩ = some (.pointer (some ⟨e, 0, none⟩))
  c1 : w.cell? ⟨s, 1, none⟩ = some (.pointer (some ⟨x, 0, none⟩))
  e : IsEngS (Out W c) w e D vB vL K M hs vl
  r : IsRefS (Out W c) w x D vB' vL' hs vl
theorem SideS.side {W : Nat} {c : Nat → Value} {w : World} {s e x : Nat} {D : EngD} {vB vL vB' vL' : Value} {K : Nat} {M : Nat → Nat} {hs : Nat → Nat → Bool} {vl : Nat → Nat → Int} (h : SideS W c w s e x D vB vL vB' vL' K M hs vl) : IsSide w s e x D vB vL vB' vL' K M hs vl := ⟨h.lt, h.c0, h.c1, h.e.eng, h.r.ref⟩
theorem SideS.went {W : Nat} {c c' : Nat → Value} {w w' : World} {s e x : Nat} {D : EngD} {vB vL vB' vL' : Value} {K : Nat} {M : Nat → Nat} {hs : Nat → Nat → Bool} {vl : Nat → Nat → Int} (h : SideS W c w s e x D vB vL vB' vL' K M hs vl) (g : Went W c c' w w') : SideS W c' w' s e x D vB vL vB' vL' K M hs vl :=
  ⟨Nat.lt_of_lt_of_le h.lt g.k.size, g.g _ h.lt h.out, by rw [g.k.cell h.out h.lt]; exact h.c0, by rw [g.k.cell h.out h.lt]; exact h.c1, h.e.went g, h.r.went g⟩

theorem Rec.below {w w' : World} {base W np q : Nat} {cW vsP : Nat → Value} {ms : Nat → Int} (h : Rec w base W np q cW vsP ms) (hb : Below w.heap.size w w') : Rec w' base W np q cW vsP ms :=
  have g : Went W cW cW w w' := Went.of_below hb
  ⟨h.x.below hb, h.lt, h.p.below hb, h.m.below hb, fun i hi => (h.rp i hi).imp fun _ r => r.went g, h.i.went g, h.r.went g, h.c.went g, h.l.went g, h.s.went g, h.last⟩
end Go.Proofs.YtldeiiffabfmeaaGreatDoor
