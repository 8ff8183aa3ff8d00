/- opens, the last piece: what went in is turned over and kept. -/
import Derived.Test.YtldeiiffabfmeaaGreatDoorBBJ
import Derived.Test.YtldeiiffabfmeaaGreatDoorAD
import Derived.BigQuiet
set_option linter.unusedVariables false
set_option linter.unusedSimpArgs false
namespace Go.Proofs.YtldeiiffabfmeaaGreatDoor
open Go.RowKit

/-- The log as it is being turned over: the first i transactions are. -/
def turnL (i : Nat) (vx c : Nat → Value) (j : Nat) : Value := if j < i * 4 then vx j else c j
theorem turnL_step (i : Nat) (vx c : Nat → Value) (x0 x1 x2 x3 : Value) (j : Nat) :
    (fun j => if j = i * 4 + 3 then x3 else (fun j => if j = i * 4 + 2 then x2 else (fun j => if j = i * 4 + 1 then x1 else (fun j => if j = i * 4 then x0 else turnL i vx c j) j) j) j) j = turnL (i + 1) (more (i * 4) vx (lc [x0, x1, x2, x3])) c j := by
  simp only [turnL, more]
  by_cases e3 : j = i * 4 + 3
  · rw [if_pos e3, if_pos (by omega), if_neg (by omega), e3, show i * 4 + 3 - i * 4 = 3 from by omega]; rfl
  · rw [if_neg e3]
    by_cases e2 : j = i * 4 + 2
    · rw [if_pos e2, if_pos (by omega), if_neg (by omega), e2, show i * 4 + 2 - i * 4 = 2 from by omega]; rfl
    · rw [if_neg e2]
      by_cases e1 : j = i * 4 + 1
      · rw [if_pos e1, if_pos (by omega), if_neg (by omega), e1, show i * 4 + 1 - i * 4 = 1 from by omega]; rfl
      · rw [if_neg e1]
        by_cases e0 : j = i * 4
        · rw [if_pos e0, if_pos (by omega), if_neg (by omega), e0, show i * 4 - i * 4 = 0 from by omega]; rfl
        · rw [if_neg e0]
          by_cases e : j < i * 4
          · rw [if_pos e, if_pos (by omega), if_pos e]
          · rw [if_neg e, if_neg (by omega)]
/-- Transaction k of the log is turned over. -/
def TurnedAt (w0 : Nat) (w : World) (vx : Nat → Value) (k : Nat) : Prop :=
  ∃ g, vx (k * 4) = .slice (some ⟨g, 0, none⟩) 1 1 ∧ vx (k * 4 + 1) = .slice none 0 0 ∧ vx (k * 4 + 2) = .slice none 0 0 ∧ vx (k * 4 + 3) = .slice none 0 0 ∧ w0 ≤ g ∧ RowIs w g 3 1 (icell (fun _ => -7))

/-- What the last piece starts from. -/
structure Last (base W M0 LG SR nb nl ns k3 k4 L N0 N1 : Nat) (fb fs : Nat → Int) (ts : Nat → TxnD) (a b c : Int) (vM : List Value) (cW : Nat → Value) (px py : Option Addr) (ws w : World) : Prop where
  x : RowIs w W 37 9 cW
  bW : base ≤ W
  n0 : cW 0 = .slice none 0 0
  n1 : cW 1 = .slice none 0 0
  n2 : cW 2 = .slice none 0 0
  n6 : cW 6 = .slice none 0 0
  n7 : cW 7 = .slice none 0 0
  n8 : cW 8 = .int .i64 0
  t3 : TL w base (· < L) 22 3 1 (fun _ => -7) (cW 3) k3
  t4 : TL w base (· < L) 86 159 2 (fun _ => -7) (cW 4) k4
  t5 : TL w base (· < L) 87 161 4 codeF (cW 5) k4
  k3 : k3 ≤ 1048577
  k4 : k4 ≤ 1048577
  l : ∃ cl, RowIs w LG 91 ((nl + 1) * 4) cl
  s : RowIs w SR 81 ((ns + 1) * 2) (icell (cut (ns * 2) fs))
  m : RowIs w M0 28 6 (lc vM)
  bl : Below base ws w
  eng : NewOut (fun b => N0 ≤ b ∧ b < N1) nb nl ns fb fs ts a b c px py w
  o1 : W < N0
  o2 : LG < N0
  o3 : SR < N0
  o4 : M0 < N0
  o5 : L ≤ N0
  o6 : base ≤ LG ∧ base ≤ SR
  o7 : ∀ q, q = 3 ∨ q = 4 ∨ q = 5 → ∀ g, (cW q).ownBlock = some g → N1 ≤ g
  o8 : N1 ≤ w.heap.size

theorem elem25 : (Tryz.prog.info? 25).map (fun i => (i.zero, i.size, i.bytes)) = some (some (.slice none 0 0), 1, 24) := by kernel_rfl
theorem elem63 : (Tryz.prog.info? 101).map (fun i => (i.zero, i.size, i.bytes)) = some (some (.pointer none), 1, 8) := by kernel_rfl
theorem rd_nil (S : Nat → Prop) (w : World) (k : Nat) (f : Nat → Int) : RdIS S w (.slice none 0 0) k 0 f := ⟨none, 0, rfl, by omega, fun h => by omega⟩
/-- The caller's record, when the lists that went in are kept. -/
theorem rec_of {w : World} {base W LG SR nl ns k3 k4 L w0 : Nat} {cW vx cl v6 v7 : Nat → Value} (x : RowIs w W 37 9 cW) (lt : base ≤ W) (n1 : cW 1 = .slice none 0 0) (n2 : cW 2 = .slice none 0 0) (n8 : cW 8 = .int .i64 0)
    (t3 : TL w base (· < L) 22 3 1 (fun _ => -7) (cW 3) k3) (t4 : TL w base (· < L) 86 159 2 (fun _ => -7) (cW 4) k4) (t5 : TL w base (· < L) 87 161 4 codeF (cW 5) k4) (h3 : k3 ≤ 1048577) (h4 : k4 ≤ 1048577) (snl : nl ≤ 250000) (sns : ns ≤ 1048576)
    (o6 : OwnL w base 25 1 (cW 6) 1 v6) (e6 : v6 0 = .slice (some ⟨LG, 0, none⟩) (nl + 1) (nl + 1)) (rl : RowIs w LG 91 ((nl + 1) * 4) (turnL (nl + 1) vx cl)) (tk : ∀ k, k < nl + 1 → TurnedAt w0 w vx k)
    (o7 : OwnL w base 26 1 (cW 7) 1 v7) (e7 : v7 0 = .slice (some ⟨SR, 0, none⟩) (ns + 1) (ns + 1)) (rs : RowIs w SR 81 ((ns + 1) * 2) (icell (fun _ => -7))) : Rec w base W 0 0 cW (fun _ => undef) (fun _ => 0) := by
  have out : ∀ b, b ≠ W → Out W cW b := fun b hb => ⟨hb, by rw [n1]; simp [Value.ownBlock], by rw [n2]; simp [Value.ownBlock]⟩
  have tlv : ∀ (e T sz : Nat) (f : Nat → Int) (v : Value) (k : Nat), e ≠ 37 → T ≠ 37 → k ≤ 1048577 → TL w base (· < L) e T sz f v k → LV (Out W cW) w v sz (fun _ => f) := fun e T sz f v k he hT hk h => h.lv hk (fun g hg => out g (fun e' => by obtain ⟨_, ho, _⟩ := h; exact ho.apart x (fun e => he e.symm) (by rw [hg, e']))) (fun g m c _ hr => out g (hr.apart x hT))
  refine ⟨x, lt, by rw [n1]; exact ownL_nil _ _ _ _ _, by rw [n2]; exact ownL_nil _ _ _ _ _, fun i hi => by omega, tlv _ _ _ _ _ _ (by decide) (by decide) h3 t3, tlv _ _ _ _ _ _ (by decide) (by decide) h4 t4, tlv _ _ _ _ _ _ (by decide) (by decide) h4 t5, ?_, ?_, by rw [n8]; rfl⟩
  · obtain ⟨g, cap, hv, hob, hg, hlt, hcell⟩ := o6.at (by omega)
    refine ⟨_, 1, cap, hv, by omega, fun _ => ⟨g, 0, rfl, out g (fun e => o6.apart x (by decide) (by rw [hob, e])), hlt, v6, fun j hj => by rw [Nat.zero_add]; exact hcell j (by omega), fun i hi => ⟨nl + 1, ?_⟩⟩⟩
    have : i = 0 := by omega
    subst this
    rw [e6]
    refine ⟨_, _, rfl, by omega, fun _ => ⟨LG, 0, rfl, out LG (rl.apart x (by decide)), rl.lt, vx, fun j hj => by rw [Nat.zero_add, rl.cell hj, turnL, if_pos hj], fun i hi => ?_⟩⟩
    obtain ⟨g, h1, h2, h3, h4, _, h6⟩ := tk i hi
    rw [h1, h2, h3, h4]
    exact ⟨⟨_, _, rfl, (show (1 : Nat) ≤ 1048577 by omega), fun _ => ⟨g, 0, rfl, out g (h6.apart x (by decide)), h6.lt, fun j hj => by rw [Nat.zero_add, h6.cell (show j < 1 from hj)]; rfl⟩⟩, rd_nil _ _ _ _, rd_nil _ _ _ _, rd_nil _ _ _ _⟩
  · obtain ⟨g, cap, hv, hob, hg, hlt, hcell⟩ := o7.at (by omega)
    refine ⟨_, 1, cap, hv, by omega, fun _ => ⟨g, 0, rfl, out g (fun e => o7.apart x (by decide) (by rw [hob, e])), hlt, v7, fun j hj => by rw [Nat.zero_add]; exact hcell j (by omega), fun i hi => ⟨ns + 1, ?_⟩⟩⟩
    have : i = 0 := by omega
    subst this
    rw [e7]
    exact ⟨_, _, rfl, by omega, fun _ => ⟨SR, 0, rfl, out SR (rs.apart x (by decide)), rs.lt, fun j hj => by rw [Nat.zero_add, rs.cell hj]; rfl⟩⟩

set_option maxRecDepth 20000 in
set_option maxHeartbeats 4000000 in
theorem opens_last {u1 u2 u4 u5 u6 u9 u10 u11 u12 u14 u15 u17 u18 u20 u21 u23 u24 u25 u26 u27 u28 u29 u30 u31 u32 u33 u34 u35 u36 u37 u38 u39 u40 u41 u42 u43 u44 u45 u46 u47 u48 u49 u50 u51 u52 u53 u54 u55 u56 u57 u58 u59 u60 u61 u62 u63 u64 u65 u66 u67 u68 u69 u70 u71 u72 u73 u74 u75 u76 u77 u78 u79 u80 u81 u82 u83 u84 u85 u86 u87 u88 u89 u90 u91 u92 u93 u94 u95 u96 u97 u98 u99 u100 u101 u102 u103 u104 u105 u106 u107 u108 u109 u110 u111 u112 u113 u114 u115 u116 u117 u118 u119 u120 u121 u122 u123 u124 u125 u126 u127 u128 u129 u130 u131 u132 u133 u134 u135 u136 u137 u138 u139 u140 u141 u142 u143 u144 u145 u146 u147 u148 u149 u150 u151 u152 u153 u154 u155 u156 u157 u158 u159 u160 u161 u162 u163 u164 u165 u166 u167 u168 u169 u170 u171 u172 u173 u174 u175 u176 u177 u178 u179 u180 u181 u182 u183 u184 u185 u186 u187 u188 u189 u190 u191 u192 u193 u194 u195 u196 u197 u198 u199 u200 u201 u202 u203 u204 u205 u206 u207 u208 u209 u210 u211 u212 u213 u214 u215 u216 u217 u218 u219 u220 u221 u222 u223 u224 u225 u226 u227 u228 u229 u230 u231 u232 u233 u234 u235 u236 u237 u238 u239 u240 u241 u242 u243 u244 u245 u246 u247 u248 u249 u250 u251 u252 u253 u254 u255 u256 u257 u258 u259 u260 u261 u262 u263 u264 u265 u266 u267 u268 u269 u270 u271 u272 u273 u274 u275 u276 u277 u278 : Value} (base W M0 LG SR nb nl ns k3 k4 L N0 N1 : Nat) (fb fs : Nat → Int) (ts : Nat → TxnD) (a b c : Int) (v0 v1 v2 v3 v4 : Value) (aS : Option Addr) (pS : Nat) (cW : Nat → Value) (px py : Option Addr) (ws w : World)
    (h : Last base W M0 LG SR nb nl ns k3 k4 L N0 N1 fb fs ts a b c [v0, v1, v2, v3, v4, .slice aS ns pS] cW px py ws w) (hS : RdIS (fun b => b < base) w (.slice aS ns pS) 2 ns fs) (snl : nl ≤ 250000) (sns : ns ≤ 1048576) :
    Code.wp Tryz.prog (tailOf 20 (bodyOf Tryz.f12)) (bodyPost Tryz.prog Tryz.f12 (OpensPost base W nb nl ns fb fs ts a b c ws)) { tmps := #[.pointer (some ⟨W, 0, none⟩), u1, u2, .pointer (some ⟨M0, 0, none⟩), u4, u5, u6, .int .i64 nl, .slice (some ⟨LG, 0, none⟩) (nl + 1) (nl + 1), u9, u10, u11, u12, .slice (some ⟨SR, 0, none⟩) (ns + 1) (ns + 1), u14, u15, .pointer px, u17, u18, .pointer py, u20, u21, .bool true, u23, u24, u25, u26, u27, u28, u29, u30, u31, u32, u33, u34, u35, u36, u37, u38, u39, u40, u41, u42, u43, u44, u45, u46, u47, u48, u49, u50, u51, u52, u53, u54, u55, u56, u57, u58, u59, u60, u61, u62, u63, u64, u65, u66, u67, u68, u69, u70, u71, u72, u73, u74, u75, u76, u77, u78, u79, u80, u81, u82, u83, u84, u85, u86, u87, u88, u89, u90, u91, u92, u93, u94, u95, u96, u97, u98, u99, u100, u101, u102, u103, u104, u105, u106, u107, u108, u109, u110, u111, u112, u113, u114, u115, u116, u117, u118, u119, u120, u121, u122, u123, u124, u125, u126, u127, u128, u129, u130, u131, u132, u133, u134, u135, u136, u137, u138, u139, u140, u141, u142, u143, u144, u145, u146, u147, u148, u149, u150, u151, u152, u153, u154, u155, u156, u157, u158, u159, u160, u161, u162, u163, u164, u165, u166, u167, u168, u169, u170, u171, u172, u173, u174, u175, u176, u177, u178, u179, u180, u181, u182, u183, u184, u185, u186, u187, u188, u189, u190, u191, u192, u193, u194, u195, u196, u197, u198, u199, u200, u201, u202, u203, u204, u205, u206, u207, u208, u209, u210, u211, u212, u213, u214, u215, u216, u217, u218, u219, u220, u221, u222, u223, u224, u225, u226, u227, u228, u229, u230, u231, u232, u233, u234, u235, u236, u237, u238, u239, u240, u241, u242, u243, u244, u245, u246, u247, u248, u249, u250, u251, u252, u253, u254, u255, u256, u257, u258, u259, u260, u261, u262, u263, u264, u265, u266, u267, u268, u269, u270, u271, u272, u273, u274, u275, u276, u277, u278], defers := [] } w := by
  simp only [bodyOf, Tryz.f12, Option.getD_some, tailOf]
  obtain ⟨cl, hl⟩ := h.l
  have hzl := hl.lt
  have hbLG : base ≤ LG := h.o6.1
  have hbSR : base ≤ SR := h.o6.2
  have hbw : base ≤ w.heap.size := by omega
  go_wp2_with fail
  go_loopw [24] (fun iv wq => ∃ (i : Nat) (vx : Nat → Value), i ≤ nl + 1 ∧ iv = .int .i64 i ∧ RowIs wq LG 91 ((nl + 1) * 4) (turnL i vx cl) ∧ (∀ k, k < i → TurnedAt w.heap.size wq vx k) ∧ Keeps (fun x => x ≠ LG) w wq ∧ Below base w wq) (fun iv _ => nl + 1 - (intOf iv).toNat)
  case atStart => exact ⟨0, fun _ => undef, Nat.zero_le _, rfl, hl.congr (fun j _ => (if_neg (by omega)).symm), fun k hk => by omega, Keeps.refl _ _, Below.refl _ _⟩
  case round =>
    obtain ⟨i, vx, hi, rfl, rl, tk, kl, bl⟩ := hrel
    by_cases hin : i < nl + 1
    · have hd : decide ((i : Int) ≤ (nl : Int)) = true := by simp; omega
      have hfz := rl.frozen
      have e0 := rl.cell (j := i * 4) (by omega)
      have e1 := rl.cell (j := i * 4 + 1) (by omega)
      have e2 := rl.cell (j := i * 4 + 2) (by omega)
      have e3 := rl.cell (j := i * 4 + 3) (by omega)
      have zl := rl.lt
      have hsw := kl.size
      clear h hS
      go_wp2_with fail
      have hsz : ((((wr.setCell ⟨LG, i * 4, none⟩ (.slice (some ⟨wr.heap.size, 0, none⟩) 1 1)).setCell ⟨LG, i * 4 + 1, none⟩ (.slice none 0 0)).setCell ⟨LG, i * 4 + 2, none⟩ (.slice none 0 0)).setCell ⟨LG, i * 4 + 3, none⟩ (.slice none 0 0)).heap.size = wr.heap.size := by simp
      have rN : RowIs (((((wr.setCell ⟨LG, i * 4, none⟩ (.slice (some ⟨wr.heap.size, 0, none⟩) 1 1)).setCell ⟨LG, i * 4 + 1, none⟩ (.slice none 0 0)).setCell ⟨LG, i * 4 + 2, none⟩ (.slice none 0 0)).setCell ⟨LG, i * 4 + 3, none⟩ (.slice none 0 0)).alloc (.cells #[.int .i64 (-7)] 3)) wr.heap.size 3 1 (icell (fun _ => -7)) := by
        have := rowIs_list ((((wr.setCell ⟨LG, i * 4, none⟩ (.slice (some ⟨wr.heap.size, 0, none⟩) 1 1)).setCell ⟨LG, i * 4 + 1, none⟩ (.slice none 0 0)).setCell ⟨LG, i * 4 + 2, none⟩ (.slice none 0 0)).setCell ⟨LG, i * 4 + 3, none⟩ (.slice none 0 0)) [.int .i64 (-7)] 3
        rw [hsz] at this
        exact this.congr fun j hj => by
          have : j = 0 := by simp at hj; omega
          subst this; rfl
      have rF : RowIs (((((wr.setCell ⟨LG, i * 4, none⟩ (.slice (some ⟨wr.heap.size, 0, none⟩) 1 1)).setCell ⟨LG, i * 4 + 1, none⟩ (.slice none 0 0)).setCell ⟨LG, i * 4 + 2, none⟩ (.slice none 0 0)).setCell ⟨LG, i * 4 + 3, none⟩ (.slice none 0 0)).alloc (.cells #[.int .i64 (-7)] 3)) LG 91 ((nl + 1) * 4) (turnL (i + 1) (more (i * 4) vx (lc [.slice (some ⟨wr.heap.size, 0, none⟩) 1 1, .slice none 0 0, .slice none 0 0, .slice none 0 0])) cl) := (((((rl.setCell (i * 4) (.slice (some ⟨wr.heap.size, 0, none⟩) 1 1)).setCell (i * 4 + 1) (.slice none 0 0)).setCell (i * 4 + 2) (.slice none 0 0)).setCell (i * 4 + 3) (.slice none 0 0)).congr fun j _ => turnL_step i vx cl _ _ _ _ j).alloc _
      have tF : ∀ k, k < i + 1 → TurnedAt w.heap.size (((((wr.setCell ⟨LG, i * 4, none⟩ (.slice (some ⟨wr.heap.size, 0, none⟩) 1 1)).setCell ⟨LG, i * 4 + 1, none⟩ (.slice none 0 0)).setCell ⟨LG, i * 4 + 2, none⟩ (.slice none 0 0)).setCell ⟨LG, i * 4 + 3, none⟩ (.slice none 0 0)).alloc (.cells #[.int .i64 (-7)] 3)) (more (i * 4) vx (lc [.slice (some ⟨wr.heap.size, 0, none⟩) 1 1, .slice none 0 0, .slice none 0 0, .slice none 0 0])) k := fun k hk => by
        by_cases e : k < i
        · obtain ⟨g, h1, h2, h3, h4, h5, h6⟩ := tk k e
          have hne : g ≠ LG := h6.apart rl (by decide)
          exact ⟨g, by rw [more_old' _ _ _ (by omega)]; exact h1, by rw [more_old' _ _ _ (by omega)]; exact h2, by rw [more_old' _ _ _ (by omega)]; exact h3, by rw [more_old' _ _ _ (by omega)]; exact h4, h5, ((((h6.setCell_other hne _).setCell_other hne _).setCell_other hne _).setCell_other hne _).alloc _⟩
        · have : k = i := by omega
          subst this
          refine ⟨wr.heap.size, ?_, ?_, ?_, ?_, hsw, rN⟩
          · rw [more, if_neg (by omega), Nat.sub_self]; rfl
          · rw [more, if_neg (by omega), show k * 4 + 1 - k * 4 = 1 from by omega]; rfl
          · rw [more, if_neg (by omega), show k * 4 + 2 - k * 4 = 2 from by omega]; rfl
          · rw [more, if_neg (by omega), show k * 4 + 3 - k * 4 = 3 from by omega]; rfl
      have kF : Keeps (fun x => x ≠ LG) w (((((wr.setCell ⟨LG, i * 4, none⟩ (.slice (some ⟨wr.heap.size, 0, none⟩) 1 1)).setCell ⟨LG, i * 4 + 1, none⟩ (.slice none 0 0)).setCell ⟨LG, i * 4 + 2, none⟩ (.slice none 0 0)).setCell ⟨LG, i * 4 + 3, none⟩ (.slice none 0 0)).alloc (.cells #[.int .i64 (-7)] 3)) := ((((kl.setCell (by simp) _).setCell (by simp) _).setCell (by simp) _).setCell (by simp) _).alloc _
      have bF : Below base w (((((wr.setCell ⟨LG, i * 4, none⟩ (.slice (some ⟨wr.heap.size, 0, none⟩) 1 1)).setCell ⟨LG, i * 4 + 1, none⟩ (.slice none 0 0)).setCell ⟨LG, i * 4 + 2, none⟩ (.slice none 0 0)).setCell ⟨LG, i * 4 + 3, none⟩ (.slice none 0 0)).alloc (.cells #[.int .i64 (-7)] 3)) := ((((bl.setCell hbLG _).setCell hbLG _).setCell hbLG _).setCell hbLG _).alloc (by rw [hsz]; omega) _
      go_roundw
      case rel => exact ⟨i + 1, _, by omega, by go_num, rF, tF, kF, bF⟩
      case measure => simp [intOf]; omega
    · have hd : decide ((i : Int) ≤ (nl : Int)) = false := by simp; omega
      have hil : i = nl + 1 := by omega
      obtain ⟨wM, hwM⟩ : ∃ x, x = wr := ⟨_, rfl⟩
      subst hwM
      have sM : RowIs wM SR 81 ((ns + 1) * 2) (icell (cut (ns * 2) fs)) := h.s.block (kl.block SR (h.s.apart hl (by decide)) h.s.lt)
      have mM := h.m.block (kl.block M0 (h.m.apart hl (by decide)) h.m.lt)
      have hSM := hS.keep (S := fun b => b < base) ⟨bl.size, fun b hb _ => bl.block b hb⟩
      obtain ⟨aS', pS', e', -, hcS⟩ := id hSM
      injection e' with e1 e2 e3
      subst e1 e3
      have hbm : base ≤ wM.heap.size := by have := h.bW; have := h.x.lt; have := kl.size; omega
      have zMM := mM.lt
      clear hS hSM
      go_wp2_with fail
      clear hd
      go_loopw [22, 25] (fun ok iv wq => ∃ m : Nat, m ≤ ns + 1 ∧ ok = .bool true ∧ iv = .int .i64 m ∧ RowIs wq SR 81 ((ns + 1) * 2) (markC (-7) m (icell (cut (ns * 2) fs))) ∧ Keeps (fun b => b ≠ SR) wM wq ∧ Below base wM wq) (fun _ iv _ => ns + 1 - (intOf iv).toNat)
      case atStart => exact ⟨0, Nat.zero_le _, rfl, rfl, sM.congr (fun j _ => (if_neg (by omega)).symm), Keeps.refl _ _, Below.refl _ _⟩
      case round =>
        obtain ⟨m, hm, rfl, rfl, rg, kg, bg⟩ := hrel
        have hsm := kg.size
        have a3 : wr.cell? ⟨M0, 5, none⟩ = some (.slice aS ns pS) := by rw [kg.cell (b := M0) (mM.apart sM (by decide)) zMM]; exact mM.cell (j := 5) (by omega)
        have zMr : M0 < wr.heap.size := by omega
        have zgr := rg.lt
        have nMS : M0 ≠ SR := mM.apart sM (by decide)
        have hbm : base ≤ wr.heap.size := by omega
        by_cases hmn : m < ns + 1
        · have hfz := rg.frozen
          by_cases hin2 : m < ns
          · obtain ⟨bb, off, rfl, hbs, hbb, hcell⟩ := hcS (by omega)
            have hlb : bb < wr.heap.size := by omega
            have nb' : bb ≠ SR := by have := hbSR; omega
            have e0 : wr.cell? ⟨bb, off + m * 2, none⟩ = some (.int .i64 (fs (m * 2))) := by rw [bg.cell (p := ⟨bb, off + m * 2, none⟩) hbs]; exact hcell _ (by omega)
            have e1 : wr.cell? ⟨bb, off + m * 2 + 1, none⟩ = some (.int .i64 (fs (m * 2 + 1))) := by rw [bg.cell (p := ⟨bb, off + m * 2 + 1, none⟩) hbs, Nat.add_assoc]; exact hcell _ (by omega)
            have d0 : wr.cell? ⟨SR, m * 2, none⟩ = some (.int .i64 (fs (m * 2))) := by rw [rg.cell (by omega), markC, if_neg (by omega), icell, cut, if_pos (by omega)]
            have d1 : wr.cell? ⟨SR, m * 2 + 1, none⟩ = some (.int .i64 (fs (m * 2 + 1))) := by rw [rg.cell (by omega), markC, if_neg (by omega), icell, cut, if_pos (by omega)]
            generalize fs (m * 2) = f0 at *
            generalize fs (m * 2 + 1) = f1 at *
            clear hcell hcS h hl rl tk kl bl sM mM hil
            go_wp2_with fail
            have D0 : (wr.alloc (.cells #[.int .i64 f0, .int .i64 f1] 81)).cell? ⟨SR, m * 2, none⟩ = some (.int .i64 f0) := by rw [World.cell?_alloc_lt _ _ _ (by exact zgr)]; exact d0
            have D1 : (wr.alloc (.cells #[.int .i64 f0, .int .i64 f1] 81)).cell? ⟨SR, m * 2 + 1, none⟩ = some (.int .i64 f1) := by rw [World.cell?_alloc_lt _ _ _ (by exact zgr)]; exact d1
            have R0 : (wr.alloc (.cells #[.int .i64 f0, .int .i64 f1] 81)).cell? ⟨wr.heap.size, 0, none⟩ = some (.int .i64 f0) := (rowIs_list wr [.int .i64 f0, .int .i64 f1] 81).cell (j := 0) (by simp)
            have R1 : (wr.alloc (.cells #[.int .i64 f0, .int .i64 f1] 81)).cell? ⟨wr.heap.size, 1, none⟩ = some (.int .i64 f1) := (rowIs_list wr [.int .i64 f0, .int .i64 f1] 81).cell (j := 1) (by simp)
            have rg' : RowIs (wr.alloc (.cells #[.int .i64 f0, .int .i64 f1] 81)) SR 81 ((ns + 1) * 2) _ := rg.alloc _
            have kg' : Keeps (fun b => b ≠ SR) wM (wr.alloc (.cells #[.int .i64 f0, .int .i64 f1] 81)) := kg.alloc _
            have bg' : Below base wM (wr.alloc (.cells #[.int .i64 f0, .int .i64 f1] 81)) := bg.alloc hbm _
            have FZ := rg'.frozen
            generalize (wr.alloc (.cells #[.int .i64 f0, .int .i64 f1] 81)) = wv at *
            clear rg kg bg a3 d0 d1 hfz
            go_quiet (fail)
            go_wp2_with fail
            go_roundw
            case rel => exact ⟨m + 1, by omega, rfl, by go_num, ((((rg'.block rfl : RowIs (wv.drewN _) SR 81 _ _).setCell (m * 2) (.int .i64 (-7))).setCell (m * 2 + 1) (.int .i64 (-7)))).congr fun j _ => markC_step _ _ _ _, ((kg'.drewN _).setCell (by simp) _).setCell (by simp) _, ((below_drewN bg' _).setCell hbSR _).setCell hbSR _⟩
            case measure => simp [intOf]; omega
          · have hin' : decide (m < ns) = false := by simpa using hin2
            have d0 : wr.cell? ⟨SR, m * 2, none⟩ = some (.int .i64 0) := by rw [rg.cell (by omega), markC, if_neg (by omega), icell, cut, if_neg (by omega)]
            have d1 : wr.cell? ⟨SR, m * 2 + 1, none⟩ = some (.int .i64 0) := by rw [rg.cell (by omega), markC, if_neg (by omega), icell, cut, if_neg (by omega)]
            clear hcS h hl rl tk kl bl sM mM hil
            go_wp2_with fail
            have D0 : (wr.alloc (.cells #[.int .i64 0, .int .i64 0] 81)).cell? ⟨SR, m * 2, none⟩ = some (.int .i64 0) := by rw [World.cell?_alloc_lt _ _ _ (by exact zgr)]; exact d0
            have D1 : (wr.alloc (.cells #[.int .i64 0, .int .i64 0] 81)).cell? ⟨SR, m * 2 + 1, none⟩ = some (.int .i64 0) := by rw [World.cell?_alloc_lt _ _ _ (by exact zgr)]; exact d1
            have R0 : (wr.alloc (.cells #[.int .i64 0, .int .i64 0] 81)).cell? ⟨wr.heap.size, 0, none⟩ = some (.int .i64 0) := (rowIs_list wr [.int .i64 0, .int .i64 0] 81).cell (j := 0) (by simp)
            have R1 : (wr.alloc (.cells #[.int .i64 0, .int .i64 0] 81)).cell? ⟨wr.heap.size, 1, none⟩ = some (.int .i64 0) := (rowIs_list wr [.int .i64 0, .int .i64 0] 81).cell (j := 1) (by simp)
            have rg' : RowIs (wr.alloc (.cells #[.int .i64 0, .int .i64 0] 81)) SR 81 ((ns + 1) * 2) _ := rg.alloc _
            have kg' : Keeps (fun b => b ≠ SR) wM (wr.alloc (.cells #[.int .i64 0, .int .i64 0] 81)) := kg.alloc _
            have bg' : Below base wM (wr.alloc (.cells #[.int .i64 0, .int .i64 0] 81)) := bg.alloc hbm _
            have FZ := rg'.frozen
            generalize (wr.alloc (.cells #[.int .i64 0, .int .i64 0] 81)) = wv at *
            clear rg kg bg a3 d0 d1 hfz
            go_quiet (fail)
            go_wp2_with fail
            go_roundw
            case rel => exact ⟨m + 1, by omega, rfl, by go_num, ((((rg'.block rfl : RowIs (wv.drewN _) SR 81 _ _).setCell (m * 2) (.int .i64 (-7))).setCell (m * 2 + 1) (.int .i64 (-7)))).congr fun j _ => markC_step _ _ _ _, ((kg'.drewN _).setCell (by simp) _).setCell (by simp) _, ((below_drewN bg' _).setCell hbSR _).setCell hbSR _⟩
            case measure => simp [intOf]; omega
        · have hmn' : decide (m < ns + 1) = false := by simpa using hmn
          have hmm : m = ns + 1 := by omega
          have rs : RowIs wr SR 81 ((ns + 1) * 2) (icell (fun _ => -7)) := rg.congr fun j hj => if_pos (by omega)
          have nLS : LG ≠ SR := hl.apart h.s (by decide)
          have rlR : RowIs wr LG 91 ((nl + 1) * 4) (turnL (nl + 1) vx cl) := hil ▸ rl.block (kg.block LG nLS rl.lt)
          have tkR : ∀ k, k < nl + 1 → TurnedAt w.heap.size wr vx k := fun k hk => by
            obtain ⟨g, h1, h2, h3, h4, h5, h6⟩ := tk k (by omega)
            exact ⟨g, h1, h2, h3, h4, h5, h6.block (kg.block g (h6.apart sM (by decide)) h6.lt)⟩
          have KT : Keeps (fun b => b ≠ LG ∧ b ≠ SR) w wr := (kl.mono fun b h => h.1).trans (kg.mono fun b h => h.2)
          have bT : Below base w wr := bl.trans bg
          have xR := h.x.block (KT.block W ⟨h.x.apart hl (by decide), h.x.apart h.s (by decide)⟩ h.x.lt)
          have tl : ∀ (e T sz : Nat) (f : Nat → Int) (v : Value) (k : Nat), e ≠ 91 → e ≠ 81 → T ≠ 91 → T ≠ 81 → TL w base (· < L) e T sz f v k → TL wr base (· < L) e T sz f v k := fun e T sz f v k he he' hT hT' ht => ht.keep KT (fun g hg => by
            obtain ⟨_, ho, _⟩ := ht
            exact ⟨fun e' => ho.apart hl (fun e => he e.symm) (by rw [hg, e']), fun e' => ho.apart h.s (fun e => he' e.symm) (by rw [hg, e'])⟩) (fun g m c _ hr => ⟨hr.apart hl hT, hr.apart h.s hT'⟩)
          have T3 := tl _ _ _ _ _ _ (by decide) (by decide) (by decide) (by decide) h.t3
          have T4 := tl _ _ _ _ _ _ (by decide) (by decide) (by decide) (by decide) h.t4
          have T5 := tl _ _ _ _ _ _ (by decide) (by decide) (by decide) (by decide) h.t5
          have E : NewOut (fun b => N0 ≤ b ∧ b < N1) nb nl ns fb fs ts a b c px py wr := h.eng.keep (KT.mono fun b hb => ⟨by have := h.o2; omega, by have := h.o3; omega⟩)
          obtain ⟨v6, w6, ap6, c6, f6, x6, o6, k6, b6, loc6, A6, C6, hv6⟩ := push (P := Tryz.prog) 35 25 _ _ (by decide) Tryz.underlying35 elem25 rfl (by omega) W 6 base 0 cW (fun _ => undef) (.slice none 0 0) (.slice (some ⟨LG, 0, none⟩) (nl + 1) (nl + 1)) wr rfl xR (by omega) h.n6 (ownL_nil _ _ _ _ _) (by omega) h.bW
          subst hv6
          obtain ⟨v7, w7, ap7, c7, f7, x7, o7, k7, b7, loc7, A7, C7, hv7⟩ := push (P := Tryz.prog) 31 26 _ _ (by decide) Tryz.underlying31 elem26 rfl (by omega) W 7 base 0 (upd cW 6 (.slice A6 (0 + 1) C6)) (fun _ => undef) (.slice none 0 0) (.slice (some ⟨SR, 0, none⟩) (ns + 1) (ns + 1)) (w6.setCell ⟨W, 6, none⟩ (.slice A6 (0 + 1) C6)) rfl x6 (by omega) (by rw [upd_other _ _ (by decide)]; exact h.n7) (ownL_nil _ _ _ _ _) (by omega) h.bW
          subst hv7
          have sz6 : (w6.setCell ⟨W, 6, none⟩ (.slice A6 (0 + 1) C6)).heap.size = w6.heap.size := by simp
          have sz7 : (w7.setCell ⟨W, 7, none⟩ (.slice A7 (0 + 1) C7)).heap.size = w7.heap.size := by simp
          rw [sz6] at ap7
          have K67 : Keeps (fun b => b ≠ W) wr (w7.setCell ⟨W, 7, none⟩ (.slice A7 (0 + 1) C7)) := (k6.mono fun b hb => ⟨hb, by simp [Value.ownBlock]⟩).trans (k7.mono fun b hb => ⟨hb, by simp [Value.ownBlock]⟩)
          have B67 := b6.trans b7
          have W6 : wr.cell? ⟨W, 6, none⟩ = some (.slice none 0 0) := by rw [xR.cell (by omega), h.n6]
          have W7 : (w6.setCell ⟨W, 6, none⟩ (.slice A6 (0 + 1) C6)).cell? ⟨W, 7, none⟩ = some (.slice none 0 0) := by rw [x6.cell (by omega), upd_other _ _ (by decide), h.n7]
          have o6' : OwnL (w7.setCell ⟨W, 7, none⟩ (.slice A7 (0 + 1) C7)) base 25 1 (.slice A6 (0 + 1) C6) 1 (more 0 (fun _ => undef) (fun _ => .slice (some ⟨LG, 0, none⟩) (nl + 1) (nl + 1))) := o6.keep fun g hg => k7.block g ⟨fun e => o6.apart x6 (by decide) (by rw [hg, e]), by simp [Value.ownBlock]⟩ (o6.lt g hg).2
          have tl2 : ∀ (e T sz : Nat) (f : Nat → Int) (v : Value) (k : Nat), e ≠ 37 → T ≠ 37 → TL wr base (· < L) e T sz f v k → TL (w7.setCell ⟨W, 7, none⟩ (.slice A7 (0 + 1) C7)) base (· < L) e T sz f v k := fun e T sz f v k he hT ht => ht.keep K67 (fun g hg => by
            obtain ⟨_, ho, _⟩ := ht
            exact fun e' => ho.apart xR (fun e => he e.symm) (by rw [hg, e'])) (fun g m c _ hr => hr.apart xR hT)
          have U3 := tl2 _ _ _ _ _ _ (by decide) (by decide) T3
          have U4 := tl2 _ _ _ _ _ _ (by decide) (by decide) T4
          have U5 := tl2 _ _ _ _ _ _ (by decide) (by decide) T5
          have rl7 := rlR.block (K67.block LG (rlR.apart xR (by decide)) rlR.lt)
          have rs7 := rs.block (K67.block SR (rs.apart xR (by decide)) rs.lt)
          have tk7 : ∀ k, k < nl + 1 → TurnedAt w.heap.size (w7.setCell ⟨W, 7, none⟩ (.slice A7 (0 + 1) C7)) vx k := fun k hk => by
            obtain ⟨g, h1, h2, h3, h4, h5, h6⟩ := tkR k hk
            exact ⟨g, h1, h2, h3, h4, h5, h6.block (K67.block g (h6.apart xR (by decide)) h6.lt)⟩
          have E7 : NewOut (fun b => N0 ≤ b ∧ b < N1) nb nl ns fb fs ts a b c px py (w7.setCell ⟨W, 7, none⟩ (.slice A7 (0 + 1) C7)) := E.keep (K67.mono fun b hb => by have := h.o1; omega)
          have bl7 : Below base ws (w7.setCell ⟨W, 7, none⟩ (.slice A7 (0 + 1) C7)) := h.bl.trans (bT.trans B67)
          have zN1 : N1 ≤ w.heap.size := h.o8
          have hWN := h.o1
          have szW : w.heap.size ≤ (w7.setCell ⟨W, 7, none⟩ (.slice A7 (0 + 1) C7)).heap.size := Nat.le_trans KT.size K67.size
          have e0 : ∀ j, j ≠ 6 → j ≠ 7 → upd (upd cW 6 (.slice A6 (0 + 1) C6)) 7 (.slice A7 (0 + 1) C7) j = cW j := fun j h6 h7 => by rw [upd_other _ _ h7, upd_other _ _ h6]
          have hn0 := h.n0
          have hn1 := h.n1
          have hn2 := h.n2
          have hn8 := h.n8
          have hbW := h.bW
          have hk3 := h.k3
          have hk4 := h.k4
          clear h hl rl tk kl bl sM mM rg kg bg hcS T3 T4 T5 E KT bT xR tl tl2 rlR rs tkR k6 k7 b6 b7 loc6 loc7 o6 x6 K67 B67 a3 hil
          rcases E7 with ⟨hno, rfl, rfl⟩ | ⟨hcf, hlg, e, x, vB, vL, vB', vL', K, M, rfl, rfl, he, hx⟩
          · have fin : OpensPost base W nb nl ns fb fs ts a b c ws (.returned (.bool true)) (w7.setCell ⟨W, 7, none⟩ (.slice A7 (0 + 1) C7)) :=
              ⟨rfl, bl7, _, rec_of x7 hbW (by rw [e0 1 (by decide) (by decide)]; exact hn1) (by rw [e0 2 (by decide) (by decide)]; exact hn2) (by rw [e0 8 (by decide) (by decide)]; exact hn8) (by rw [e0 3 (by decide) (by decide)]; exact U3) (by rw [e0 4 (by decide) (by decide)]; exact U4) (by rw [e0 5 (by decide) (by decide)]; exact U5) hk3 hk4 snl sns (by rw [upd_other _ _ (by decide), upd_same]; exact o6') rfl rl7 tk7 (by rw [upd_same]; exact o7) rfl rs7, .inl ⟨hno, by rw [e0 0 (by decide) (by decide)]; exact hn0⟩⟩
            clear x7 o6' o7 U3 U4 U5 rl7 rs7 tk7 bl7 e0 hno
            go_wp2_with (at_builtin; first | refine wpList_append_run rfl _ _ 35 rfl _ _ rfl rfl _ _ ap6 ?_ | refine wpList_append_run rfl _ _ 31 rfl _ _ rfl rfl _ _ ap7 ?_)
            go_ret
            exact fin
          · obtain ⟨v8, w8, ap8, c8, f8, x8, o8, k8, b8, loc8, A8, C8, hv8⟩ := push (P := Tryz.prog) 30 101 _ _ (by decide) Tryz.underlying30 elem63 rfl (by omega) W 0 base 0 (upd (upd cW 6 (.slice A6 (0 + 1) C6)) 7 (.slice A7 (0 + 1) C7)) (fun _ => undef) (.slice none 0 0) (.pointer (some ⟨(w7.setCell ⟨W, 7, none⟩ (.slice A7 (0 + 1) C7)).heap.size, 0, none⟩)) ((w7.setCell ⟨W, 7, none⟩ (.slice A7 (0 + 1) C7)).alloc (.cells #[.pointer (some ⟨e, 0, none⟩), .pointer (some ⟨x, 0, none⟩)] 103)) rfl (x7.alloc _) (by omega) (by rw [e0 0 (by decide) (by decide)]; exact hn0) (ownL_nil _ _ _ _ _) (by omega) hbW
            subst hv8
            have rS7 : RowIs ((w7.setCell ⟨W, 7, none⟩ (.slice A7 (0 + 1) C7)).alloc (.cells #[.pointer (some ⟨e, 0, none⟩), .pointer (some ⟨x, 0, none⟩)] 103)) (w7.setCell ⟨W, 7, none⟩ (.slice A7 (0 + 1) C7)).heap.size 103 2 (lc [.pointer (some ⟨e, 0, none⟩), .pointer (some ⟨x, 0, none⟩)]) := rowIs_list (w7.setCell ⟨W, 7, none⟩ (.slice A7 (0 + 1) C7)) [.pointer (some ⟨e, 0, none⟩), .pointer (some ⟨x, 0, none⟩)] 103
            have K9 : Keeps (fun b => b ≠ W) (w7.setCell ⟨W, 7, none⟩ (.slice A7 (0 + 1) C7)) (w8.setCell ⟨W, 0, none⟩ (.slice A8 (0 + 1) C8)) := ((Keeps.refl _ _).alloc _).trans (k8.mono fun b hb => ⟨hb, by simp [Value.ownBlock]⟩)
            have rS9 : RowIs (w8.setCell ⟨W, 0, none⟩ (.slice A8 (0 + 1) C8)) (w7.setCell ⟨W, 7, none⟩ (.slice A7 (0 + 1) C7)).heap.size 103 2 (lc [.pointer (some ⟨e, 0, none⟩), .pointer (some ⟨x, 0, none⟩)]) := rS7.block (k8.block _ ⟨rS7.apart (x7.alloc _) (by decide), by simp [Value.ownBlock]⟩ rS7.lt)
            have e9 : ∀ j, j ≠ 0 → upd (upd (upd cW 6 (.slice A6 (0 + 1) C6)) 7 (.slice A7 (0 + 1) C7)) 0 (.slice A8 (0 + 1) C8) j = (upd (upd cW 6 (.slice A6 (0 + 1) C6)) 7 (.slice A7 (0 + 1) C7)) j := fun j hj => upd_other _ _ hj
            have tl9 : ∀ (e T sz : Nat) (f : Nat → Int) (v : Value) (k : Nat), e ≠ 37 → T ≠ 37 → TL (w7.setCell ⟨W, 7, none⟩ (.slice A7 (0 + 1) C7)) base (· < L) e T sz f v k → TL (w8.setCell ⟨W, 0, none⟩ (.slice A8 (0 + 1) C8)) base (· < L) e T sz f v k := fun e T sz f v k he hT ht => ht.keep K9 (fun g hg => by
              obtain ⟨_, ho, _⟩ := ht
              exact fun e' => ho.apart x7 (fun e => he e.symm) (by rw [hg, e'])) (fun g m c _ hr => hr.apart x7 hT)
            have ow9 : ∀ (e : Nat) (v : Value) (n : Nat) (vs : Nat → Value), e ≠ 37 → OwnL (w7.setCell ⟨W, 7, none⟩ (.slice A7 (0 + 1) C7)) base e 1 v n vs → OwnL (w8.setCell ⟨W, 0, none⟩ (.slice A8 (0 + 1) C8)) base e 1 v n vs := fun e v n vs he ho => ho.keep fun g hg => K9.block g (fun e' => ho.apart x7 (fun e => he e.symm) (by rw [hg, e'])) (ho.lt g hg).2
            have out : ∀ b, b ≠ W → Out W (upd (upd (upd cW 6 (.slice A6 (0 + 1) C6)) 7 (.slice A7 (0 + 1) C7)) 0 (.slice A8 (0 + 1) C8)) b := fun b hb => ⟨hb, by rw [e9 1 (by decide), e0 1 (by decide) (by decide), hn1]; simp [Value.ownBlock], by rw [e9 2 (by decide), e0 2 (by decide) (by decide), hn2]; simp [Value.ownBlock]⟩
            have kE : Keeps (fun b => N0 ≤ b ∧ b < N1) (w7.setCell ⟨W, 7, none⟩ (.slice A7 (0 + 1) C7)) (w8.setCell ⟨W, 0, none⟩ (.slice A8 (0 + 1) C8)) := K9.mono fun b hb => by omega
            have he9 := he.keep kE
            have hx9 := hx.keep kE
            have oN : ∀ b, N0 ≤ b ∧ b < N1 → Out W (upd (upd (upd cW 6 (.slice A6 (0 + 1) C6)) 7 (.slice A7 (0 + 1) C7)) 0 (.slice A8 (0 + 1) C8)) b := fun b hb => out b (by omega)
            obtain ⟨S, cap, hvS, hobS, _, hltS, hcS⟩ := o8.at (by omega)
            have fin : OpensPost base W nb nl ns fb fs ts a b c ws (.returned (.bool true)) (w8.setCell ⟨W, 0, none⟩ (.slice A8 (0 + 1) C8)) := by
              refine ⟨rfl, bl7.trans (((Below.refl _ _).alloc (by omega) _).trans b8), _, rec_of x8 hbW (by rw [e9 1 (by decide), e0 1 (by decide) (by decide)]; exact hn1) (by rw [e9 2 (by decide), e0 2 (by decide) (by decide)]; exact hn2) (by rw [e9 8 (by decide), e0 8 (by decide) (by decide)]; exact hn8) (by rw [e9 3 (by decide), e0 3 (by decide) (by decide)]; exact tl9 _ _ _ _ _ _ (by decide) (by decide) U3) (by rw [e9 4 (by decide), e0 4 (by decide) (by decide)]; exact tl9 _ _ _ _ _ _ (by decide) (by decide) U4) (by rw [e9 5 (by decide), e0 5 (by decide) (by decide)]; exact tl9 _ _ _ _ _ _ (by decide) (by decide) U5) hk3 hk4 snl sns (by rw [e9 6 (by decide), upd_other _ _ (by decide), upd_same]; exact ow9 _ _ _ _ (by decide) o6') rfl (rl7.block (K9.block LG (rl7.apart x7 (by decide)) rl7.lt)) (fun k hk => by
                obtain ⟨g, h1, h2, h3, h4, h5, h6⟩ := tk7 k hk
                exact ⟨g, h1, h2, h3, h4, h5, h6.block (K9.block g (h6.apart x7 (by decide)) h6.lt)⟩) (by rw [e9 7 (by decide), upd_same]; exact ow9 _ _ _ _ (by decide) o7) rfl (rs7.block (K9.block SR (rs7.apart x7 (by decide)) rs7.lt)), .inr ⟨hcf, hlg, S, cap, (w7.setCell ⟨W, 7, none⟩ (.slice A7 (0 + 1) C7)).heap.size, e, x, vB, vL, vB', vL', K, M, by rw [upd_same]; exact hvS, by rw [hcS 0 (by omega)]; rfl, ?_⟩⟩
              exact ⟨rS9.lt, out _ (rS9.apart x8 (by decide)), rS9.cell (j := 0) (by omega), rS9.cell (j := 1) (by omega), he9.mono (fun b hb _ => oN b hb), ⟨hx9.ref, oN _ hx9.sx, hx9.sb.mono oN, hx9.sl.mono oN⟩⟩
            have W0 : (w7.setCell ⟨W, 7, none⟩ (.slice A7 (0 + 1) C7)).cell? ⟨W, 0, none⟩ = some (.slice none 0 0) := by rw [x7.cell (by omega), e0 0 (by decide) (by decide), hn0]
            have zW7 := x7.lt
            simp only [World.size_alloc, sz7] at ap8
            clear x7 o6' o7 U3 U4 U5 rl7 rs7 tk7 bl7 e0 x8 o8 k8 b8 loc8 rS7 K9 rS9 e9 tl9 ow9 out kE he9 hx9 oN hvS hobS hltS hcS he hx hcf hlg
            go_wp2_with (at_builtin; first | refine wpList_append_run rfl _ _ 35 rfl _ _ rfl rfl _ _ ap6 ?_ | refine wpList_append_run rfl _ _ 31 rfl _ _ rfl rfl _ _ ap7 ?_ | refine wpList_append_run rfl _ _ 30 rfl _ _ rfl rfl _ _ ap8 ?_)
            go_ret
            exact fin
end Go.Proofs.YtldeiiffabfmeaaGreatDoor
