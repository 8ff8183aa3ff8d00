/- opens, the middle piece: New of both; what went in is looked at. -/
import Derived.Test.YtldeiiffabfmeaaGreatDoorBC
import Derived.Test.YtldeiiffabfmeaaGreatDoorBBJ
import Derived.Test.YtldeiiffabfmeaaGreatDoorRJ
import Derived.Test.YtldeiiffabfmeaaGreatDoorAV
set_option linter.unusedVariables false
set_option linter.unusedSimpArgs false
namespace Go.Proofs.YtldeiiffabfmeaaGreatDoor
open Go.RowKit

theorem run_neq_nil (t e : TypeId) (h : Tryz.prog.underlying t = some (.slice e)) (w : World) : (binOp .neq t (.slice none 0 0) (.slice none 0 0)).run Tryz.prog w = .ok (.bool false) w := by
  simp only [binOp]
  simp [Op.equal, Op.maxDepth, Lib.run_equalIn_slice_nil w 9999 t e none 0 0 0 0 h]

theorem LoopI.below {base W M0 LG SR nb nl ns N0 N1 : Nat} {fb fs : Nat → Int} {ts : Nat → TxnD} {a b c : Int} {vM : List Value} {gl : Value} {vu vx : Nat → Value} {lo hi : Nat → Nat} {px py : Option Addr} {w2 wL : World} {i Lb : Nat} {cW : Nat → Value} {wq w' : World} (h : LoopI base W M0 LG SR nb nl ns N0 N1 fb fs ts a b c vM gl vu vx lo hi px py w2 wL i Lb cW wq) (hb : Below wq.heap.size wq w') (hbq : base ≤ wq.heap.size) : LoopI base W M0 LG SR nb nl ns N0 N1 fb fs ts a b c vM gl vu vx lo hi px py w2 wL i Lb cW w' :=
  ⟨h.x.below hb, h.same, h.t3.below hb, h.t4.below hb, h.t5.below hb, h.lb, h.lbw, h.g.below hb, h.l.below hb, fun k h1 h2 => (h.at_ k h1 h2).below hb, h.s.below hb, h.m.below hb, h.bl.trans (hb.mono hbq), h.eng.keep (Keeps.of_below hb), h.own, Nat.le_trans h.sz hb.size⟩
/-- What is kept out of the walk's sight. -/
structure Veil (p : Prop) : Prop where
  out : p

/-- What slot k of the region that asks returned holds. -/
def QR (W GB LG M0 bb off nl pG pL i : Nat) (u0 u1 u2 u3 x0 x1 x2 x3 t0 t1 t2 t3 : Value) (k : Nat) (s : Nat → Value) : Prop :=
  match k with
  | 0 => s 0 = .pointer (some ⟨W, 0, none⟩)
  | 1 => s 1 = .slice (some ⟨GB, 0, none⟩) nl pG
  | 2 => s 2 = .int .i64 i
  | 3 => s 3 = .pointer (some ⟨GB, 0 + i * 4, none⟩)
  | 4 => s 4 = .agg #[u0, u1, u2, u3]
  | 5 => s 5 = .slice (some ⟨LG, 0, none⟩) (nl + 1) (nl + 1)
  | 6 => s 6 = .int .i64 i
  | 7 => s 7 = .pointer (some ⟨LG, 0 + i * 4, none⟩)
  | 8 => s 8 = .agg #[x0, x1, x2, x3]
  | 9 => s 9 = .pointer (some ⟨M0, 4, none⟩)
  | 10 => s 10 = .slice (some ⟨bb, off, none⟩) nl pL
  | 11 => s 11 = .int .i64 i
  | 12 => s 12 = .pointer (some ⟨bb, off + i * 4, none⟩)
  | 13 => s 13 = .agg #[t0, t1, t2, t3]
  | 14 => s 14 = .bool true
  | 15 => s 15 = .bool true
  | _ => True

/-- What the middle piece starts from. -/
structure Mid (base W M0 BR CB LG SR nb nl ns : Nat) (fb fs : Nat → Int) (ts : Nat → TxnD) (a b c : Int) (aB aL aS bB bL bS : Option Addr) (pB pL pS cB : Nat) (gl : Value) (vu vx : Nat → Value) (lo hi : Nat → Nat) (ws wL w : World) : Prop where
  x : RowIs w W 37 9 (lc nil9)
  bW : base ≤ W
  m : RowIs w M0 28 6 (lc [.slice aB nb pB, .int .i64 a, .int .i64 b, .int .i64 c, .slice aL nl pL, .slice aS ns pS])
  rB : RowIs w BR 3 (nb + 1) (icell (cut nb fb))
  rC : RowIs w CB 24 4 (lc [.slice bB nb cB, .int .i64 a, .int .i64 b, .int .i64 c])
  eB : bB = some ⟨BR, 0, none⟩ ∨ nb = 0
  I : LentI wL w LG nl nl ts gl vu vx lo hi
  eL : bL = some ⟨LG, 0, none⟩ ∨ nl = 0
  rS : RowIs w SR 81 ((ns + 1) * 2) (icell (cut (ns * 2) fs))
  eS : bS = some ⟨SR, 0, none⟩ ∨ ns = 0
  bl : Below base ws w
  hB : RdIS (fun b => b < base) w (.slice aB nb pB) 1 nb fb
  hL : RdLS (fun b => b < base) w (.slice aL nl pL) nl ts
  hS : RdIS (fun b => b < base) w (.slice aS ns pS) 2 ns fs
  o1 : W < wL.heap.size ∧ BR < wL.heap.size ∧ LG < wL.heap.size ∧ M0 < wL.heap.size ∧ base ≤ BR ∧ base ≤ LG ∧ base ≤ SR ∧ base ≤ wL.heap.size
  sz : wL.heap.size ≤ w.heap.size
  oS : (∀ k, k < nl → hi k ≤ SR) ∧ SR < w.heap.size

set_option maxRecDepth 20000 in
set_option maxHeartbeats 4000000 in
theorem opens_mid {u1 u2 u4 u10 u11 u12 u16 u17 u18 u19 u20 u21 u22 u23 u24 u25 u26 u27 u28 u29 u30 u31 u32 u33 u34 u35 u36 u37 u38 u39 u40 u41 u42 u43 u44 u45 u46 u47 u48 u49 u50 u51 u52 u53 u54 u55 u56 u57 u58 u59 u60 u61 u62 u63 u64 u65 u66 u67 u68 u69 u70 u71 u72 u73 u74 u75 u76 u77 u78 u79 u80 u81 u82 u83 u84 u85 u86 u87 u88 u89 u90 u91 u92 u93 u94 u95 u96 u97 u98 u99 u100 u101 u102 u103 u104 u105 u106 u107 u108 u109 u110 u111 u112 u113 u114 u115 u116 u117 u118 u119 u120 u121 u122 u123 u124 u125 u126 u127 u128 u129 u130 u131 u132 u133 u134 u135 u136 u137 u138 u139 u140 u141 u142 u143 u144 u145 u146 u147 u148 u149 u150 u151 u152 u153 u154 u155 u156 u157 u158 u159 u160 u161 u162 u163 u164 u165 u166 u167 u168 u169 u170 u171 u172 u173 u174 u175 u176 u177 u178 u179 u180 u181 u182 u183 u184 u185 u186 u187 u188 u189 u190 u191 u192 u193 u194 u195 u196 u197 u198 u199 u200 u201 u202 u203 u204 u205 u206 u207 u208 u209 u210 u211 u212 u213 u214 u215 u216 u217 u218 u219 u220 u221 u222 u223 u224 u225 u226 u227 u228 u229 u230 u231 u232 u233 u234 u235 u236 u237 u238 u239 u240 u241 u242 u243 u244 u245 u246 u247 u248 u249 u250 u251 u252 u253 u254 u255 u256 u257 u258 u259 u260 u261 u262 u263 u264 u265 u266 u267 u268 u269 u270 u271 u272 u273 u274 u275 u276 u277 u278 : Value} (base W M0 BR CB LG SR nb nl ns : Nat) (fb fs : Nat → Int) (ts : Nat → TxnD) (a b c : Int) (aB aL aS bB bL bS aG : Option Addr) (pB pL pS cB cL cS pG : Nat) (vu vx : Nat → Value) (lo hi : Nat → Nat) (ws wL w : World)
    (h : Mid base W M0 BR CB LG SR nb nl ns fb fs ts a b c aB aL aS bB bL bS pB pL pS cB (.slice aG nl pG) vu vx lo hi ws wL w) (snb : nb ≤ 1048576) (snl : nl ≤ 250000) (sns : ns ≤ 1048576) (sm : ∀ i, i < nl → Small (ts i)) (hwf : ∀ j, j < ns → (Lit.int .i64 (fs (2 * j + 1))).wf = true) :
    Code.wp Tryz.prog (tailOf 15 (bodyOf Tryz.f12)) (bodyPost Tryz.prog Tryz.f12 (OpensPost base W nb nl ns fb fs ts a b c ws)) { tmps := #[.pointer (some ⟨W, 0, none⟩), u1, u2, .pointer (some ⟨M0, 0, none⟩), u4, .slice (some ⟨BR, 0, none⟩) (nb + 1) (nb + 1), .pointer (some ⟨CB, 0, none⟩), .int .i64 nl, .slice (some ⟨LG, 0, none⟩) (nl + 1) (nl + 1), .slice aG nl pG, u10, u11, u12, .slice (some ⟨SR, 0, none⟩) (ns + 1) (ns + 1), .slice bL nl cL, .slice bS ns cS, u16, u17, u18, u19, u20, u21, u22, u23, u24, u25, u26, u27, u28, u29, u30, u31, u32, u33, u34, u35, u36, u37, u38, u39, u40, u41, u42, u43, u44, u45, u46, u47, u48, u49, u50, u51, u52, u53, u54, u55, u56, u57, u58, u59, u60, u61, u62, u63, u64, u65, u66, u67, u68, u69, u70, u71, u72, u73, u74, u75, u76, u77, u78, u79, u80, u81, u82, u83, u84, u85, u86, u87, u88, u89, u90, u91, u92, u93, u94, u95, u96, u97, u98, u99, u100, u101, u102, u103, u104, u105, u106, u107, u108, u109, u110, u111, u112, u113, u114, u115, u116, u117, u118, u119, u120, u121, u122, u123, u124, u125, u126, u127, u128, u129, u130, u131, u132, u133, u134, u135, u136, u137, u138, u139, u140, u141, u142, u143, u144, u145, u146, u147, u148, u149, u150, u151, u152, u153, u154, u155, u156, u157, u158, u159, u160, u161, u162, u163, u164, u165, u166, u167, u168, u169, u170, u171, u172, u173, u174, u175, u176, u177, u178, u179, u180, u181, u182, u183, u184, u185, u186, u187, u188, u189, u190, u191, u192, u193, u194, u195, u196, u197, u198, u199, u200, u201, u202, u203, u204, u205, u206, u207, u208, u209, u210, u211, u212, u213, u214, u215, u216, u217, u218, u219, u220, u221, u222, u223, u224, u225, u226, u227, u228, u229, u230, u231, u232, u233, u234, u235, u236, u237, u238, u239, u240, u241, u242, u243, u244, u245, u246, u247, u248, u249, u250, u251, u252, u253, u254, u255, u256, u257, u258, u259, u260, u261, u262, u263, u264, u265, u266, u267, u268, u269, u270, u271, u272, u273, u274, u275, u276, u277, u278], defers := [] } w := by
  simp only [bodyOf, Tryz.f12, Option.getD_some, tailOf]
  have i0 : w.cell? ⟨CB, 0, none⟩ = some (.slice bB nb cB) := h.rC.cell (j := 0) (by omega)
  have i1 : w.cell? ⟨CB, 1, none⟩ = some (.int .i64 a) := h.rC.cell (j := 1) (by omega)
  have i2 : w.cell? ⟨CB, 2, none⟩ = some (.int .i64 b) := h.rC.cell (j := 2) (by omega)
  have i3 : w.cell? ⟨CB, 3, none⟩ = some (.int .i64 c) := h.rC.cell (j := 3) (by omega)
  go_wp2_with fail
  refine (enew_all _ _ _ a b c nb fb nl ts ns fs w (rd_lent (h.rB.congr fun j _ => by rw [Nat.mul_one]) (by omega) (by omega) h.eB) (h.I.rd (by omega) sm h.eL) (rd_lent h.rS (by omega) (by omega) h.eS) hwf).mono ?_
  rintro r w1 ⟨px, rfl, b1, hpx⟩
  have m1 := h.m.below b1
  have j0 : w1.cell? ⟨M0, 0, none⟩ = some (.slice aB nb pB) := m1.cell (j := 0) (by omega)
  have j1 : w1.cell? ⟨M0, 1, none⟩ = some (.int .i64 a) := m1.cell (j := 1) (by omega)
  have j2 : w1.cell? ⟨M0, 2, none⟩ = some (.int .i64 b) := m1.cell (j := 2) (by omega)
  have j3 : w1.cell? ⟨M0, 3, none⟩ = some (.int .i64 c) := m1.cell (j := 3) (by omega)
  have j4 : w1.cell? ⟨M0, 4, none⟩ = some (.slice aL nl pL) := m1.cell (j := 4) (by omega)
  have j5 : w1.cell? ⟨M0, 5, none⟩ = some (.slice aS ns pS) := m1.cell (j := 5) (by omega)
  clear i0 i1 i2 i3
  go_wp2_with fail
  refine (rnew_all _ _ _ a b c nb fb nl ts ns fs w1 (h.hB.rd.below b1) (h.hL.rd.below b1) (h.hS.rd.below b1)).mono ?_
  rintro r w2 ⟨py, rfl, b2, hpy⟩
  generalize ((newAt nb fb a b c nl ts ns fs).1 : Nat) = n1 at *
  generalize ((newAt nb fb a b c nl ts ns fs).2 : Nat) = n2 at *
  have b12 : Below w.heap.size w w2 := b1.trans (b2.mono b1.size)
  have hE : NewOut (fun b => w.heap.size ≤ b ∧ b < w2.heap.size) nb nl ns fb fs ts a b c px py w2 := by
    rcases hpx with ⟨hn, rfl⟩ | ⟨hz, e, vB', vL', K, M, rfl, he⟩
    · rcases hpy with ⟨_, rfl⟩ | ⟨hz, _⟩
      · exact .inl ⟨hn, rfl, rfl⟩
      · exact absurd hz hn
    · rcases hpy with ⟨hn, _⟩ | ⟨_, x, vB2, vL2, rfl, hx⟩
      · exact absurd hz hn
      · obtain ⟨hc, hl, _⟩ := newAt_zero hz
        have he2 := he.keep (Keeps.of_below b2)
        have sz2 := b2.size
        exact .inr ⟨hc, hl, e, x, vB', vL', vB2, vL2, K, M, rfl, rfl, he2.mono (fun b hb hl => ⟨hb, hl⟩), ⟨hx.ref, ⟨Nat.le_trans b1.size hx.sx, hx.ref.lt⟩, (hx.sb.mono fun b hb => Nat.le_trans b1.size hb).lt, (hx.sl.mono fun b hb => Nat.le_trans b1.size hb).lt⟩⟩
  have hiso : px.isNone = py.isNone := by
    rcases hE with ⟨_, rfl, rfl⟩ | ⟨_, _, e, x, _, _, _, _, _, _, rfl, rfl, _⟩ <;> rfl
  have q52 := fun w => run_eql_52 px w
  have q56 := fun w => run_eql_56 py w
  rw [← hiso] at q56
  generalize px.isNone = ip at *
  have I2 := h.I.below b12
  have g0 : w2.cell? ⟨LG, nl * 4, none⟩ = some (.slice none 0 0) := by rw [I2.l.cell (by omega), logC, if_neg (by omega)]
  have g1 : w2.cell? ⟨LG, nl * 4 + 1, none⟩ = some (.slice none 0 0) := by rw [I2.l.cell (by omega), logC, if_neg (by omega)]
  have g2 : w2.cell? ⟨LG, nl * 4 + 2, none⟩ = some (.slice none 0 0) := by rw [I2.l.cell (by omega), logC, if_neg (by omega)]
  have g3 : w2.cell? ⟨LG, nl * 4 + 3, none⟩ = some (.slice none 0 0) := by rw [I2.l.cell (by omega), logC, if_neg (by omega)]
  have p0 : w2.cell? ⟨M0, 0, none⟩ = some (.slice aB nb pB) := (h.m.below b12).cell (j := 0) (by omega)
  have z22 := fun w => run_neq_nil 22 _ Tryz.underlying22 w
  have z44 := fun w => run_neq_nil 86 _ Tryz.underlying86 w
  have z45 := fun w => run_neq_nil 87 _ Tryz.underlying87 w
  clear j0 j1 j2 j3 j4 j5 m1 hpx hpy
  go_wp2_with fail
  have mW2 := h.x.below b12
  have hB2 := h.hB.keep (Keeps.of_below b12)
  have hL2 := h.hL.keep (Keeps.of_below b12)
  have hS2 := h.hS.keep (Keeps.of_below b12)
  obtain ⟨oW, oBR, oLG, oM0, pBR, pLG, pSR, pwL⟩ := h.o1
  refine (retInts_tl W BR nb 0 base (fun _ => False) (lc nil9) fb _ w2 mW2 (TL.nil _ _ _ _ _ _ _) (by omega) h.bW pBR id (h.rB.below b12) snb hB2).mono ?_
  rintro r w3 ⟨rfl, v3, rW3, tl3, k3, bl3, loc3⟩
  have sz12 := b12.size
  have szh := h.sz
  have on3 : ∀ b, (lc nil9 3).ownBlock ≠ some b := fun b => by simp [lc, nil9, Value.ownBlock]
  have rB2 := h.rB.below b12
  have kk : ∀ g T m cc, RowIs w2 g T m cc → T ≠ 37 → (T ≠ 3 ∨ g ≠ BR) → RowIs w3 g T m cc := fun g T m cc hr hT hg => hr.block (k3.block g ⟨hr.apart mW2 hT, fun e => by
    rcases hg with h1 | h1
    · exact hr.apart rB2 h1 e
    · exact h1 e, on3 g⟩ hr.lt)
  have L0 : LoopI base W M0 LG SR nb nl ns w.heap.size w2.heap.size fb fs ts a b c [.slice aB nb pB, .int .i64 a, .int .i64 b, .int .i64 c, .slice aL nl pL, .slice aS ns pS] (.slice aG nl pG) vu vx lo hi px py w2 wL 0 wL.heap.size (upd (lc nil9) 3 v3) w3 := by
    refine ⟨rW3, fun j h3 _ _ => upd_other _ _ h3, by rw [upd_same]; exact tl3.mono fun b hb => by rcases hb with hb | hb; exact hb.elim; rw [hb]; exact oBR, TL.nil _ _ _ _ _ _ _, TL.nil _ _ _ _ _ _ _, fun k _ hk => (h.I.up k hk).1, ⟨pwL, h.sz⟩, ?_, kk _ _ _ _ I2.l (by decide) (.inl (by decide)), fun k _ hk => ?_, kk _ _ _ _ (h.rS.below b12) (by decide) (.inl (by decide)), kk _ _ _ _ (h.m.below b12) (by decide) (.inl (by decide)), bl3, hE.keep (k3.mono fun b hb => ⟨by omega, by omega, on3 b⟩), fun q hq g hg => ?_, bl3.size⟩
    · exact I2.g.keep fun g hg => k3.block g ⟨fun e => I2.g.apart mW2 (by decide) (by rw [hg, e]), fun e => I2.g.apart rB2 (by decide) (by rw [hg, e]), on3 g⟩ (I2.g.lt g hg).2
    · refine (I2.at_ k hk).keep k3 fun g T m cc h1 h2 hr hT => ⟨hr.apart mW2 (by rcases hT with rfl | rfl | rfl <;> decide), ?_, on3 g⟩
      have := (h.I.up k hk).1; omega
    · rcases hq with rfl | rfl | rfl
      · rw [upd_same] at hg
        rcases loc3 with e | ⟨b', e, hb'⟩
        · rw [e] at hg; exact absurd hg (on3 g)
        · rw [e] at hg; injection hg with hg; omega
      · rw [upd_other _ _ (by decide)] at hg; simp [lc, nil9, Value.ownBlock] at hg
      · rw [upd_other _ _ (by decide)] at hg; simp [lc, nil9, Value.ownBlock] at hg
  have HL : Lie base W M0 LG SR nl w.heap.size w2.heap.size (.slice aG nl pG) lo hi wL := ⟨oW, oM0, oLG, h.oS.1, h.oS.2, fun k hk => h.I.up k hk, h.I.ord, h.I.go, fun g hg => (h.I.g.lt g hg).2, pwL, b12.size⟩
  have hbW := h.bW
  have blw : Below base ws w2 := h.bl.trans (b12.mono (by omega))
  clear g0 g1 g2 g3 p0 q52 q56 z22 z44 z45 tl3 k3 bl3 loc3 rW3 kk I2 mW2 hB2 rB2 b12 b1 b2 hE hiso on3 h
  go_wp2_with fail
  rename_i K0 hK0
  have hKv : Veil _ := ⟨hK0⟩
  clear hK0
  go_loopw [22, 23] (fun ok iv wq => ∃ (i Lb : Nat) (cW : Nat → Value), i ≤ nl ∧ ok = .bool true ∧ iv = .int .i64 i ∧ LoopI base W M0 LG SR nb nl ns w.heap.size w2.heap.size fb fs ts a b c [.slice aB nb pB, .int .i64 a, .int .i64 b, .int .i64 c, .slice aL nl pL, .slice aS ns pS] (.slice aG nl pG) vu vx lo hi px py w2 wL i Lb cW wq) (fun _ iv _ => nl - (intOf iv).toNat)
  case atStart => exact ⟨0, _, _, Nat.zero_le _, rfl, rfl, L0⟩
  case round =>
    obtain ⟨i, Lb, cW, hi0, rfl, rfl, hI⟩ := hrel
    by_cases hin : i < nl
    · obtain ⟨GB, capG, hvG, hobG, _, hltG, _⟩ := hI.g.at (by omega)
      injection hvG with e1 _ e3
      subst e1 e3
      obtain ⟨aL', pL', eL', -, hcL⟩ := id hL2
      injection eL' with e1 _ e3
      subst e1 e3
      obtain ⟨bb, off, rfl, hbs, hbb, vs, hcellL, hrt⟩ := hcL (by omega)
      have hbq : ∀ wq, Below base w2 wq → base ≤ wq.heap.size := fun wq hq => by have := hq.size; omega
      have hcells : ∀ (j Lb' : Nat) (cW' : Nat → Value) (wq : World), LoopI base W M0 LG SR nb nl ns w.heap.size w2.heap.size fb fs ts a b c [.slice aB nb pB, .int .i64 a, .int .i64 b, .int .i64 c, .slice (some ⟨bb, off, none⟩) nl pL, .slice aS ns pS] (.slice (some ⟨GB, 0, none⟩) nl pG) vu vx lo hi px py w2 wL j Lb' cW' wq → (wq.cell? ⟨GB, 0 + i * 4, none⟩ = some (vu (i * 4)) ∧ wq.cell? ⟨GB, 0 + i * 4 + 1, none⟩ = some (vu (i * 4 + 1)) ∧ wq.cell? ⟨GB, 0 + i * 4 + 2, none⟩ = some (vu (i * 4 + 2)) ∧ wq.cell? ⟨GB, 0 + i * 4 + 3, none⟩ = some (vu (i * 4 + 3))) ∧ (wq.cell? ⟨LG, 0 + i * 4, none⟩ = some (vx (i * 4)) ∧ wq.cell? ⟨LG, 0 + i * 4 + 1, none⟩ = some (vx (i * 4 + 1)) ∧ wq.cell? ⟨LG, 0 + i * 4 + 2, none⟩ = some (vx (i * 4 + 2)) ∧ wq.cell? ⟨LG, 0 + i * 4 + 3, none⟩ = some (vx (i * 4 + 3))) ∧ (wq.cell? ⟨bb, off + i * 4, none⟩ = some (vs (i * 4)) ∧ wq.cell? ⟨bb, off + i * 4 + 1, none⟩ = some (vs (i * 4 + 1)) ∧ wq.cell? ⟨bb, off + i * 4 + 2, none⟩ = some (vs (i * 4 + 2)) ∧ wq.cell? ⟨bb, off + i * 4 + 3, none⟩ = some (vs (i * 4 + 3))) ∧ wq.cell? ⟨M0, 4, none⟩ = some (.slice (some ⟨bb, off, none⟩) nl pL) := fun j Lb' cW' wq hq => by
        obtain ⟨GB', cap', hv', _, _, _, hc⟩ := hq.g.at (by omega)
        injection hv' with e1 _ _
        injection e1 with e1
        injection e1 with e1 _ _
        subst e1
        have hl : ∀ q, q < 4 → wq.cell? ⟨LG, 0 + i * 4 + q, none⟩ = some (vx (i * 4 + q)) := fun q hq' => by rw [Nat.zero_add, hq.l.cell (by omega), logC, if_pos (by omega)]
        have hg : ∀ q, q < 4 → wq.cell? ⟨GB, 0 + i * 4 + q, none⟩ = some (vu (i * 4 + q)) := fun q hq' => by rw [Nat.zero_add]; exact hc _ (by omega)
        have hb : ∀ q, q < 4 → wq.cell? ⟨bb, off + i * 4 + q, none⟩ = some (vs (i * 4 + q)) := fun q hq' => by rw [hq.bl.cell (p := ⟨bb, off + i * 4 + q, none⟩) hbs, Nat.add_assoc]; exact hcellL _ (by omega)
        exact ⟨⟨hg 0 (by omega), hg 1 (by omega), hg 2 (by omega), hg 3 (by omega)⟩, ⟨hl 0 (by omega), hl 1 (by omega), hl 2 (by omega), hl 3 (by omega)⟩, ⟨hb 0 (by omega), hb 1 (by omega), hb 2 (by omega), hb 3 (by omega)⟩, hq.m.cell (j := 4) (by omega)⟩
      go_wp2_with fail
      rename_i K1 hK1 hTr hTr2
      clear hTr hTr2
      refine wp_region_slots3 (P := Tryz.prog) _ 14 follows_mixed (by kernel_rfl) (by simp) (fun wq => LoopI base W M0 LG SR nb nl ns w.heap.size w2.heap.size fb fs ts a b c [.slice aB nb pB, .int .i64 a, .int .i64 b, .int .i64 c, .slice (some ⟨bb, off, none⟩) nl pL, .slice aS ns pS] (.slice (some ⟨GB, 0, none⟩) nl pG) vu vx lo hi px py w2 wL i Lb cW wq) (fun wq => ∃ cW', LoopI base W M0 LG SR nb nl ns w.heap.size w2.heap.size fb fs ts a b c [.slice aB nb pB, .int .i64 a, .int .i64 b, .int .i64 c, .slice (some ⟨bb, off, none⟩) nl pL, .slice aS ns pS] (.slice (some ⟨GB, 0, none⟩) nl pG) vu vx lo hi px py w2 wL (i + 1) (hi i) cW' wq) (QR W GB LG M0 bb off nl pG pL i (vu (i * 4)) (vu (i * 4 + 1)) (vu (i * 4 + 2)) (vu (i * 4 + 3)) (vx (i * 4)) (vx (i * 4 + 1)) (vx (i * 4 + 2)) (vx (i * 4 + 3)) (vs (i * 4)) (vs (i * 4 + 1)) (vs (i * 4 + 2)) (vs (i * 4 + 3))) ?hloc ?hF ?hob ?hcall ?hend
      case hF => exact hI.below ((Below.refl _ _).drew) (hbq _ hI.bl)
      case hloc =>
        intro k s s' hs hR
        match k, hs, hR with
        | 0, hs, hR => simp only [QR] at hR ⊢; rw [← hs _ rfl 0 (.inl rfl)]; exact hR
        | 1, hs, hR => simp only [QR] at hR ⊢; rw [← hs _ rfl 1 (.inl rfl)]; exact hR
        | 2, hs, hR => simp only [QR] at hR ⊢; rw [← hs _ rfl 2 (.inl rfl)]; exact hR
        | 3, hs, hR => simp only [QR] at hR ⊢; rw [← hs _ rfl 3 (.inl rfl)]; exact hR
        | 4, hs, hR => simp only [QR] at hR ⊢; rw [← hs _ rfl 4 (.inl rfl)]; exact hR
        | 5, hs, hR => simp only [QR] at hR ⊢; rw [← hs _ rfl 5 (.inl rfl)]; exact hR
        | 6, hs, hR => simp only [QR] at hR ⊢; rw [← hs _ rfl 6 (.inl rfl)]; exact hR
        | 7, hs, hR => simp only [QR] at hR ⊢; rw [← hs _ rfl 7 (.inl rfl)]; exact hR
        | 8, hs, hR => simp only [QR] at hR ⊢; rw [← hs _ rfl 8 (.inl rfl)]; exact hR
        | 9, hs, hR => simp only [QR] at hR ⊢; rw [← hs _ rfl 9 (.inl rfl)]; exact hR
        | 10, hs, hR => simp only [QR] at hR ⊢; rw [← hs _ rfl 10 (.inl rfl)]; exact hR
        | 11, hs, hR => simp only [QR] at hR ⊢; rw [← hs _ rfl 11 (.inl rfl)]; exact hR
        | 12, hs, hR => simp only [QR] at hR ⊢; rw [← hs _ rfl 12 (.inl rfl)]; exact hR
        | 13, hs, hR => simp only [QR] at hR ⊢; rw [← hs _ rfl 13 (.inl rfl)]; exact hR
        | 14, hs, hR => simp only [QR] at hR ⊢; rw [← hs _ rfl 14 (.inl rfl)]; exact hR
        | 15, hs, hR => simp only [QR] at hR ⊢; rw [← hs _ rfl 15 (.inl rfl)]; exact hR
        | _ + 16, hs, hR => trivial
      case hob =>
        intro k o hkc ho a wq hF hS haft
        have hsz : a.tmps.size = 279 := hS.size
        have e0 : a.eval (.tmp 0) = .pointer (some ⟨W, 0, none⟩) := hS.out 0 (no_dst (by kernel_rfl))
        have e9 : a.eval (.tmp 9) = .slice (some ⟨GB, 0, none⟩) nl pG := hS.out 9 (no_dst (by kernel_rfl))
        have e23 : a.eval (.tmp 23) = .int .i64 i := hS.out 23 (no_dst (by kernel_rfl))
        have e8 : a.eval (.tmp 8) = .slice (some ⟨LG, 0, none⟩) (nl + 1) (nl + 1) := hS.out 8 (no_dst (by kernel_rfl))
        have e3 : a.eval (.tmp 3) = .pointer (some ⟨M0, 0, none⟩) := hS.out 3 (no_dst (by kernel_rfl))
        have hcl : _ := hF.elim (hcells i Lb cW wq) (fun ⟨cW', h'⟩ => hcells (i + 1) (hi i) cW' wq h')
        obtain ⟨⟨a0, a1, a2, a3⟩, ⟨d0, d1, d2, d3⟩, ⟨f0, f1, f2, f3⟩, m4⟩ := hcl
        match k, hkc, ho, haft with
        | 0, _, ho, haft =>
          obtain rfl := Option.some.inj (show some _ = some o from ho)
          exact wp_of_value (u_move a.eval wq _ _ _ _ _ _ _ e0) ⟨rfl, _, rfl, slot_put _ (by rw [hsz]; decide)⟩
        | 1, _, ho, haft =>
          obtain rfl := Option.some.inj (show some _ = some o from ho)
          exact wp_of_value (u_move a.eval wq _ _ _ _ _ _ _ e9) ⟨rfl, _, rfl, slot_put _ (by rw [hsz]; decide)⟩
        | 2, _, ho, haft =>
          obtain rfl := Option.some.inj (show some _ = some o from ho)
          exact wp_of_value (u_move a.eval wq _ _ _ _ _ _ _ e23) ⟨rfl, _, rfl, slot_put _ (by rw [hsz]; decide)⟩
        | 3, _, ho, haft =>
          obtain rfl := Option.some.inj (show some _ = some o from ho)
          exact wp_of_value (n_ix43 a.eval wq GB _ _ _ _ _ _ _ 0 nl pG i hin (by omega) (haft ⟨1, .data⟩ (by simp) rfl) (haft ⟨2, .data⟩ (by simp) rfl)) ⟨rfl, _, rfl, slot_put _ (by rw [hsz]; decide)⟩
        | 4, _, ho, haft =>
          obtain rfl := Option.some.inj (show some _ = some o from ho)
          exact wp_of_value (n_l47 a.eval wq GB _ _ _ _ _ _ (0 + i * 4) _ _ _ _ (haft ⟨3, .data⟩ (by simp) rfl) a0 a1 a2 a3) ⟨rfl, _, rfl, slot_put _ (by rw [hsz]; decide)⟩
        | 5, _, ho, haft =>
          obtain rfl := Option.some.inj (show some _ = some o from ho)
          exact wp_of_value (u_move a.eval wq _ _ _ _ _ _ _ e8) ⟨rfl, _, rfl, slot_put _ (by rw [hsz]; decide)⟩
        | 6, _, ho, haft =>
          obtain rfl := Option.some.inj (show some _ = some o from ho)
          exact wp_of_value (u_move a.eval wq _ _ _ _ _ _ _ e23) ⟨rfl, _, rfl, slot_put _ (by rw [hsz]; decide)⟩
        | 7, _, ho, haft =>
          obtain rfl := Option.some.inj (show some _ = some o from ho)
          exact wp_of_value (n_ix25 a.eval wq LG _ _ _ _ _ _ _ 0 (nl + 1) (nl + 1) i (by omega) (by omega) (haft ⟨5, .data⟩ (by simp) rfl) (haft ⟨6, .data⟩ (by simp) rfl)) ⟨rfl, _, rfl, slot_put _ (by rw [hsz]; decide)⟩
        | 8, _, ho, haft =>
          obtain rfl := Option.some.inj (show some _ = some o from ho)
          exact wp_of_value (n_l49 a.eval wq LG _ _ _ _ _ _ (0 + i * 4) _ _ _ _ (haft ⟨7, .data⟩ (by simp) rfl) d0 d1 d2 d3) ⟨rfl, _, rfl, slot_put _ (by rw [hsz]; decide)⟩
        | 9, _, ho, haft =>
          obtain rfl := Option.some.inj (show some _ = some o from ho)
          exact wp_of_value (n_f28 a.eval wq M0 _ _ _ _ _ _ e3) ⟨rfl, _, rfl, slot_put _ (by rw [hsz]; decide)⟩
        | 10, _, ho, haft =>
          obtain rfl := Option.some.inj (show some _ = some o from ho)
          exact wp_of_value (n_l25 a.eval wq M0 _ _ _ _ _ _ 4 _ _ _ (haft ⟨9, .data⟩ (by simp) rfl) m4) ⟨rfl, _, rfl, slot_put _ (by rw [hsz]; decide)⟩
        | 11, _, ho, haft =>
          obtain rfl := Option.some.inj (show some _ = some o from ho)
          exact wp_of_value (u_move a.eval wq _ _ _ _ _ _ _ e23) ⟨rfl, _, rfl, slot_put _ (by rw [hsz]; decide)⟩
        | 12, _, ho, haft =>
          obtain rfl := Option.some.inj (show some _ = some o from ho)
          exact wp_of_value (n_ix25 a.eval wq bb _ _ _ _ _ _ _ off nl pL i hin (by omega) (haft ⟨10, .data⟩ (by simp) rfl) (haft ⟨11, .data⟩ (by simp) rfl)) ⟨rfl, _, rfl, slot_put _ (by rw [hsz]; decide)⟩
        | 13, _, ho, haft =>
          obtain rfl := Option.some.inj (show some _ = some o from ho)
          exact wp_of_value (n_l49 a.eval wq bb _ _ _ _ _ _ (off + i * 4) _ _ _ _ (haft ⟨12, .data⟩ (by simp) rfl) f0 f1 f2 f3) ⟨rfl, _, rfl, slot_put _ (by rw [hsz]; decide)⟩
        | 14, hkc, _, _ => exact absurd rfl hkc
        | 15, _, ho, haft =>
          obtain rfl := Option.some.inj (show some _ = some o from ho)
          exact wp_of_value (u_assign a.eval wq _ _ _ _ _ _ _ (haft ⟨14, .data⟩ (by simp) rfl)) ⟨rfl, _, rfl, slot_put _ (by rw [hsz]; decide)⟩
        | n + 16, _, ho, haft => simp at ho
      case hcall =>
        intro o ho a wq hF hS haft
        have hsz : a.tmps.size = 279 := hS.size
        obtain rfl := Option.some.inj (show some _ = some o from ho)
        have s0 := haft ⟨0, .data⟩ (by simp) rfl
        have s4 := haft ⟨4, .data⟩ (by simp) rfl
        have s8 := haft ⟨8, .data⟩ (by simp) rfl
        have s13 := haft ⟨13, .data⟩ (by simp) rfl
        have hti : RdTS (fun b => b < base) wq (vs (i * 4)) (vs (i * 4 + 1)) (vs (i * 4 + 2)) (vs (i * 4 + 3)) (ts i) := (hrt i hin).keep ⟨hF.bl.size, fun b hb _ => hF.bl.block b hb⟩
        obtain ⟨g2, g5, g10, g15, b0, b1, b2, b3, c0, c1, c2, c3, ⟨h0, h1, h2, h3⟩, ⟨y0, y1, y2, y3⟩, hl, hne, ⟨r2, r5, r10, r15⟩, -⟩ := hF.at_ i (Nat.le_refl _) hin
        simp only [QR] at s0 s4 s8 s13
        rw [h0, h1, h2, h3] at s4
        rw [y0, y1, y2, y3] at s8
        have hlb := hF.lb i (Nat.le_refl _) hin
        have hup := HL.up i hin
        refine wp_of_enter (n_call13 wq _ _ _ _ _ _ _ _ _ a _ _ _ _ _ _ _ _ s0 s4 s8 s13) (returned_any W base (lo i) (hi i) (1 + 2 * i) i g2 g5 g10 g15 cW (ts i) _ _ _ _ b0 b1 b2 b3 c0 c1 c2 c3 wq hF.x hbW (by omega) (hF.t3.mono fun b hb => Nat.lt_of_lt_of_le hb hlb) (hF.t4.mono fun b hb => Nat.lt_of_lt_of_le hb hlb) (hF.t5.mono fun b hb => Nat.lt_of_lt_of_le hb hlb) (by omega) (by omega) hl.1 hl.2.1 hl.2.2.1 hl.2.2.2 hne r2 r5 r10 r15 hti (sm i hin)) ?_
        rintro r w' ⟨rfl, cW', x', same', T3, T4, T5, kp, bl, own⟩
        exact ⟨_, rfl, ⟨cW', hF.step HL hin x' same' T3 T4 T5 kp bl own⟩, _, rfl, slot_put _ (by rw [hsz]; decide)⟩
      case hend =>
        intro a wq hF hS hall
        have ha := same_patch [176, 177, 178, 179, 180, 181, 182, 183, 184, 185, 186, 187, 188, 189, 190, 22] hS (some_dst (by kernel_rfl))
        have z176 : a.tmps.getD 176 undef = _ := hall 0 (by simp)
        have z177 : a.tmps.getD 177 undef = _ := hall 1 (by simp)
        have z178 : a.tmps.getD 178 undef = _ := hall 2 (by simp)
        have z179 : a.tmps.getD 179 undef = _ := hall 3 (by simp)
        have z180 : a.tmps.getD 180 undef = _ := hall 4 (by simp)
        have z181 : a.tmps.getD 181 undef = _ := hall 5 (by simp)
        have z182 : a.tmps.getD 182 undef = _ := hall 6 (by simp)
        have z183 : a.tmps.getD 183 undef = _ := hall 7 (by simp)
        have z184 : a.tmps.getD 184 undef = _ := hall 8 (by simp)
        have z185 : a.tmps.getD 185 undef = _ := hall 9 (by simp)
        have z186 : a.tmps.getD 186 undef = _ := hall 10 (by simp)
        have z187 : a.tmps.getD 187 undef = _ := hall 11 (by simp)
        have z188 : a.tmps.getD 188 undef = _ := hall 12 (by simp)
        have z189 : a.tmps.getD 189 undef = _ := hall 13 (by simp)
        have z190 : a.tmps.getD 190 undef = _ := hall 14 (by simp)
        have z22 : a.tmps.getD 22 undef = _ := hall 15 (by simp)
        simp only [patch, List.foldl] at ha
        rw [z176, z177, z178, z179, z180, z181, z182, z183, z184, z185, z186, z187, z188, z189, z190, z22] at ha
        clear z176 z177 z178 z179 z180 z181 z182 z183 z184 z185 z186 z187 z188 z189 z190 z22 hall hS
        simp only [Act.put, List.setIfInBounds_toArray, List.set_cons_succ, List.set_cons_zero] at ha
        subst ha
        refine hK1 _ _ ?_
        clear hK1
        have rel' : ∃ (k Lb : Nat) (cW : Nat → Value), k ≤ nl ∧ Value.bool true = .bool true ∧ Value.int .i64 ((i : Int) + 1) = .int .i64 k ∧ LoopI base W M0 LG SR nb nl ns w.heap.size w2.heap.size fb fs ts a b c [.slice aB nb pB, .int .i64 a, .int .i64 b, .int .i64 c, .slice (some ⟨bb, off, none⟩) nl pL, .slice aS ns pS] (.slice (some ⟨GB, 0, none⟩) nl pG) vu vx lo hi px py w2 wL k Lb cW wq := by
          obtain ⟨cW', h'⟩ := hF
          exact ⟨i + 1, _, cW', by omega, rfl, rfl, h'⟩
        clear hF hcells hI hcellL hrt hcL
        go_wp2_with fail
        go_roundw
        case rel => exact rel'
        case measure => simp [intOf]; omega
    · have hin' : decide (i < nl) = false := by simpa using hin
      have hil : i = nl := by omega
      subst hil
      have hLast : Last base W M0 LG SR nb i ns (1 + 2 * i) i Lb w.heap.size w2.heap.size fb fs ts a b c [.slice aB nb pB, .int .i64 a, .int .i64 b, .int .i64 c, .slice aL i pL, .slice aS ns pS] cW px py ws wr :=
        ⟨hI.x, hbW, hI.same 0 (by decide) (by decide) (by decide), hI.same 1 (by decide) (by decide) (by decide), hI.same 2 (by decide) (by decide) (by decide), hI.same 6 (by decide) (by decide) (by decide), hI.same 7 (by decide) (by decide) (by decide), hI.same 8 (by decide) (by decide) (by decide), hI.t3, hI.t4, hI.t5, by omega, by omega, ⟨_, hI.l⟩, hI.s, hI.m, blw.trans hI.bl, hI.eng, by omega, by omega, HL.sN, by omega, hI.lbw.2, ⟨pLG, pSR⟩, hI.own, hI.sz⟩
      have hS3 := hS2.keep (S := fun b => b < base) (w' := wr) ⟨hI.bl.size, fun b hb _ => hI.bl.block b hb⟩
      clear hI L0 HL hL2
      go_wp2_with fail
      exact hKv.out _ _ (opens_last base W M0 LG SR nb i ns (1 + 2 * i) i Lb w.heap.size w2.heap.size fb fs ts a b c _ _ _ _ _ aS pS cW px py ws wr hLast hS3 snl sns)
end Go.Proofs.YtldeiiffabfmeaaGreatDoor
