/- What the caller keeps of lists that went in: each is turned over, all over. -/
import Derived.Test.YtldeiiffabfmeaaGreatDoorAV
import Derived.Test.YtldeiiffabfmeaaGreatDoorAMJ
set_option linter.unusedVariables false
set_option linter.unusedSimpArgs false
namespace Go.Proofs.YtldeiiffabfmeaaGreatDoor
open Go.RowKit

/-- v is a list of k lists, each a row of its own, in P, that reads f all over. -/
def TL (w : World) (base : Nat) (P : Nat → Prop) (e T sz : Nat) (f : Nat → Int) (v : Value) (k : Nat) : Prop :=
  ∃ vs, OwnL w base e 1 v k vs ∧ ∀ i, i < k → ∃ g m, vs i = .slice (some ⟨g, 0, none⟩) m m ∧ m ≤ 1048577 ∧ base ≤ g ∧ P g ∧ RowIs w g T (m * sz) (icell f)
theorem TL.keep {w w' : World} {base e T sz k : Nat} {P : Nat → Prop} {f : Nat → Int} {v : Value} {S : Nat → Prop} (h : TL w base P e T sz f v k) (hk : Keeps S w w') (ho : ∀ g, v.ownBlock = some g → S g) (hr : ∀ g m c, P g → RowIs w g T m c → S g) : TL w' base P e T sz f v k := by
  obtain ⟨vs, h1, h2⟩ := h
  refine ⟨vs, h1.keep fun g hg => hk.block g (ho g hg) (h1.lt g hg).2, fun i hi => ?_⟩
  obtain ⟨g, m, e1, e2, e3, e4, e5⟩ := h2 i hi
  exact ⟨g, m, e1, e2, e3, e4, e5.block (hk.block g (hr g _ _ e4 e5) e5.lt)⟩
theorem TL.below {w w' : World} {base e T sz k : Nat} {P : Nat → Prop} {f : Nat → Int} {v : Value} (h : TL w base P e T sz f v k) (hb : Below w.heap.size w w') : TL w' base P e T sz f v k := by
  obtain ⟨vs, h1, h2⟩ := h
  refine ⟨vs, h1.below hb, fun i hi => ?_⟩
  obtain ⟨g, m, e1, e2, e3, e4, e5⟩ := h2 i hi
  exact ⟨g, m, e1, e2, e3, e4, e5.below hb⟩
theorem TL.mono {w : World} {base e T sz k : Nat} {P P' : Nat → Prop} {f : Nat → Int} {v : Value} (h : TL w base P e T sz f v k) (hL : ∀ b, P b → P' b) : TL w base P' e T sz f v k := by
  obtain ⟨vs, h1, h2⟩ := h
  refine ⟨vs, h1, fun i hi => ?_⟩
  obtain ⟨g, m, e1, e2, e3, e4, e5⟩ := h2 i hi
  exact ⟨g, m, e1, e2, e3, hL g e4, e5⟩
theorem TL.slice {w : World} {base e T sz k : Nat} {P : Nat → Prop} {f : Nat → Int} {v : Value} (h : TL w base P e T sz f v k) : ∃ a cap, v = .slice a k cap := by
  obtain ⟨vs, h1, _⟩ := h; exact h1.slice
theorem TL.nil (w : World) (base : Nat) (P : Nat → Prop) (e T sz : Nat) (f : Nat → Int) : TL w base P e T sz f (.slice none 0 0) 0 := ⟨fun _ => undef, ownL_nil _ _ _ _ _, fun i hi => by omega⟩
theorem TL.lv {w : World} {base e T sz k : Nat} {P : Nat → Prop} {f : Nat → Int} {v : Value} {S : Nat → Prop} (h : TL w base P e T sz f v k) (hk : k ≤ 1048577) (ho : ∀ g, v.ownBlock = some g → S g) (hr : ∀ g m c, P g → RowIs w g T m c → S g) : LV S w v sz (fun _ => f) := by
  obtain ⟨vs, h1, h2⟩ := h
  obtain ⟨a, cap, hv⟩ := h1.slice
  refine ⟨a, k, cap, hv, hk, fun h0 => ?_⟩
  obtain ⟨g, cap', hv', hob, _, hlt, hcell⟩ := h1.at h0
  rw [hv] at hv'
  injection hv' with e1
  subst e1
  refine ⟨g, 0, rfl, ho g hob, hlt, vs, fun j hj => by rw [Nat.zero_add]; exact hcell j (by omega), fun i hi => ?_⟩
  obtain ⟨g', m, e1, e2, e3, e4, e5⟩ := h2 i hi
  exact ⟨m, _, _, e1, e2, fun _ => ⟨g', 0, rfl, hr g' _ _ e4 e5, e5.lt, fun j hj => by rw [Nat.zero_add, e5.cell hj]; rfl⟩⟩

/-- A transaction whose lists are not too long. -/
structure Small (t : TxnD) : Prop where
  r : t.nr ≤ 1048576
  wr : t.nw ≤ 1048576
  g : t.ng ≤ 1048576
  c : t.nc ≤ 1048576

/-- The blocks that 'returned' leaves alone. -/
def RS (W L L' : Nat) (cW : Nat → Value) (b : Nat) : Prop := b ≠ W ∧ (b < L ∨ L' ≤ b) ∧ (cW 3).ownBlock ≠ some b ∧ (cW 4).ownBlock ≠ some b ∧ (cW 5).ownBlock ≠ some b
theorem elem44 : (Tryz.prog.info? 86).map (fun i => (i.zero, i.size, i.bytes)) = some (some (.slice none 0 0), 1, 24) := by kernel_rfl
theorem elem45 : (Tryz.prog.info? 87).map (fun i => (i.zero, i.size, i.bytes)) = some (some (.slice none 0 0), 1, 24) := by kernel_rfl

/-- returnedInts, of a list that was handed in: it is turned over and kept. -/
theorem retInts_tl (W g n k base : Nat) (P : Nat → Prop) (cW : Nat → Value) (f : Nat → Int) (vWant : Value) (w : World) (hW : RowIs w W 37 9 cW) (h3 : TL w base P 22 3 1 (fun _ => -7) (cW 3) k) (hk : k ≤ 1000000) (hbW : base ≤ W) (hbg : base ≤ g) (hP : ¬ P g)
    (hg : RowIs w g 3 (n + 1) (icell (cut n f))) (hn : n ≤ 1048576) (hw : RdIS (fun b => b < base) w vWant 1 n f) :
    Calls Tryz.prog 28 #[.pointer (some ⟨W, 0, none⟩), .slice (some ⟨g, 0, none⟩) (n + 1) (n + 1), vWant] w fun r w' => r = .returned (.bool true) ∧ ∃ v3, RowIs w' W 37 9 (upd cW 3 v3) ∧
      TL w' base (fun b => P b ∨ b = g) 22 3 1 (fun _ => -7) v3 (k + 1) ∧ Keeps (fun b => b ≠ W ∧ b ≠ g ∧ (cW 3).ownBlock ≠ some b) w w' ∧ Below base w w' ∧
      (v3.ownBlock = (cW 3).ownBlock ∨ ∃ b, v3.ownBlock = some b ∧ w.heap.size ≤ b) := by
  obtain ⟨vs, ho, hr⟩ := h3
  refine (retInts_any W g n k base cW vs f (cW 3) vWant w hW rfl ho hk hbW hbg hg (by omega) (hw.mono fun b h => by omega)).mono ?_
  rintro r w' ⟨rfl, v3, rW, o3, rg, kp, bl, loc⟩
  refine ⟨rfl, v3, rW, ⟨_, o3, fun i hi => ?_⟩, kp, bl, loc⟩
  by_cases e : i < k
  · obtain ⟨g', m, e1, e2, e3, e4, e5⟩ := hr i e
    refine ⟨g', m, by rw [more, if_pos e]; exact e1, e2, e3, .inl e4, e5.block (kp.block g' ⟨?_, ?_, ?_⟩ e5.lt)⟩
    · exact fun e => hW.apart e5 (by decide) e.symm
    · exact fun e => hP (e ▸ e4)
    · exact ho.apart e5 (by decide)
  · have : i = k := by omega
    subst this
    exact ⟨g, n + 1, by rw [more, if_neg (by omega)], by omega, hbg, .inr rfl, (rg.size_congr (Nat.mul_one _).symm).congr fun j _ => rfl⟩

/-- One list more, of rows of another type than the record's lists. -/
theorem TL.push {w : World} {base W q e T sz t k g m : Nat} {P : Nat → Prop} {f : Nat → Int} {cW : Nat → Value} {z : Value} (h : TL w base P e T sz f (cW q) k) (hT : 37 ≠ e) (hTe : T ≠ e) (hT37 : T ≠ 37) (ht : Tryz.prog.underlying t = some (.slice e)) (hinfo : (Tryz.prog.info? e).map (fun i => (i.zero, i.size, i.bytes)) = some (some z, 1, 24)) (hzs : z.cells.size = 1)
    (hW : RowIs w W 37 9 cW) (hq : q < 9) (hk : k ≤ 100000000) (hb : base ≤ W) (hbg : base ≤ g) (hm : m ≤ 1048577) (hg : RowIs w g T (m * sz) (icell f)) :
    ∃ v' w' A C, v' = .slice A (k + 1) C ∧ (∀ ty, (Builtin.append_ #[t, t] ty #[cW q, .slice (some ⟨w.heap.size, 0, none⟩) 1 1]).run Tryz.prog (w.alloc (.cells #[.slice (some ⟨g, 0, none⟩) m m] e)) = .ok v' w') ∧ w'.cell? ⟨W, q, none⟩ = some (cW q) ∧ w'.frozen? ⟨W, q, none⟩ = false ∧
      RowIs (w'.setCell ⟨W, q, none⟩ v') W 37 9 (upd cW q v') ∧ TL (w'.setCell ⟨W, q, none⟩ v') base (fun b => P b ∨ b = g) e T sz f v' (k + 1) ∧ Keeps (fun b => b ≠ W ∧ (cW q).ownBlock ≠ some b) w (w'.setCell ⟨W, q, none⟩ v') ∧ Below base w (w'.setCell ⟨W, q, none⟩ v') ∧
      (v'.ownBlock = (cW q).ownBlock ∨ ∃ b, v'.ownBlock = some b ∧ w.heap.size ≤ b) := by
  obtain ⟨vs, ho, hr⟩ := h
  obtain ⟨v', w', hrun, hc, hf, rW, o', kp, bl, loc, A, C, hv⟩ := YtldeiiffabfmeaaGreatDoor.push (P := Tryz.prog) t e z 24 hT ht hinfo hzs (by omega) W q base k cW vs (cW q) (.slice (some ⟨g, 0, none⟩) m m) w rfl hW hq rfl ho hk hb
  refine ⟨v', w', A, C, hv, hrun, hc, hf, rW, ⟨_, o', fun i hi => ?_⟩, kp, bl, loc.imp id fun h => ⟨_, h, by omega⟩⟩
  by_cases e : i < k
  · obtain ⟨g', m', e1, e2, e3, e4, e5⟩ := hr i e
    exact ⟨g', m', by rw [more, if_pos e]; exact e1, e2, e3, .inl e4, e5.block (kp.block g' ⟨fun e => hW.apart e5 hT37.symm e.symm, ho.apart e5 hTe⟩ e5.lt)⟩
  · have : i = k := by omega
    subst this
    exact ⟨g, m, by rw [more, if_neg (by omega)], hm, hbg, .inr rfl, hg.block (kp.block g ⟨fun e => hW.apart hg hT37.symm e.symm, ho.apart hg hTe⟩ hg.lt)⟩
end Go.Proofs.YtldeiiffabfmeaaGreatDoor
