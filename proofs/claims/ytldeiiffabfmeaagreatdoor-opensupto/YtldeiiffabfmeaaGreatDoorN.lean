/- The program's engine, of which nothing was picked: the contracts of what only reads it. -/
import Derived.Test.YtldeiiffabfmeaaGreatDoorLJ
import Derived.Maps.OwnOps
import Derived.Maps.OwnSet
set_option linter.unusedVariables false
set_option linter.unusedSimpArgs false
namespace Go.Proofs.YtldeiiffabfmeaaGreatDoor
open Go.RowKit Go.Maps

theorem law3 : Keyed Tryz.prog 3 := int_keyed Tryz.underlying3
theorem zero3 (w : World) : (zeroValue 3).run Tryz.prog w = .ok (.int .i64 0) w := by kernel_rfl
theorem wf_small {n : Nat} (h : n < 100) : (Lit.int .i64 (n : Int)).wf = true := by
  exact WalkArith.wf_i64 (by omega)
theorem lit_int_inj {k : IntKind} {a b : Int} (h : (DataW.lit (.int k a) : DataW Unit) = .lit (.int k b)) : a = b := by
  injection h with h1; injection h1

/-- A map reads as a table. -/
def tabD (Dm : DataW Unit) (hs : Nat → Bool) (vl : Nat → Int) : Prop :=
  ∀ k : Nat, k < 100 → Maps.has Dm (.int .i64 k) = hs k ∧ (hs k = true → Dm.atKey (.int .i64 k) (.lit (.int .i64 0)) = .lit (.int .i64 (vl k)))

/-- A table lies in block b. -/
def IsTab (w : World) (b : Nat) (hs : Nat → Bool) (vl : Nat → Int) : Prop :=
  ∃ (n : Nat) (Dm : DataW Unit), n ≤ 100 ∧ w.ownsMap Tryz.prog 3 (plainElem Tryz.prog 3) b n Dm ∧ tabD Dm hs vl
theorem IsTab.block {w w' : World} {b : Nat} {hs : Nat → Bool} {vl : Nat → Int} (h : IsTab w b hs vl) (hb : w'.heap[b]? = w.heap[b]?) : IsTab w' b hs vl := by
  obtain ⟨n, Dm, hn, ⟨es, clock, h1, h2⟩, hd⟩ := h
  exact ⟨n, Dm, hn, ⟨es, clock, by rw [hb]; exact h1, h2⟩, hd⟩

set_option maxRecDepth 20000 in
set_option maxHeartbeats 2000000 in
theorem pairs_any (K off b : Nat) (hs : Nat → Bool) (vl : Nat → Int) (w : World) (hc : w.cell? ⟨K, off, none⟩ = some (.map (some b))) (ht : IsTab w b hs vl) :
    Calls Tryz.prog 45 #[.pointer (some ⟨K, off, none⟩)] w fun e w' => ∃ v, e = .returned v ∧ w'.ownsRow w.heap.size 81 2 v (cntB hs 100) (tabL hs vl 100) ∧ Below w.heap.size w w' := by
  obtain ⟨i0, hi, hz0, hz1, hz2⟩ := info_parts Tryz.info81
  obtain ⟨n, Dm, hn, hown, htab⟩ := ht
  have hKlt : K < w.heap.size := World.block_lt_of_cell? _ _ hc
  have hblt : b < w.heap.size := hown.lt
  have hsl := hown.size_le
  go_enter Tryz.func45, Tryz.ntmps45
  go_wp2_with (first
    | (at_len; refine wpList_len_own _ rfl _ 119 rfl 3 3 Tryz.underlying119 _ b n Dm rfl hown ?_)
    | (at_make; refine wpList_make_own _ rfl _ _ 26 rfl w.heap.size 81 i0 (.agg #[.int .i64 0, .int .i64 0]) 2 Tryz.underlying26 hi hz0 hz1 _ _ _ (Maps.size Dm) rfl rfl rfl (by rw [hz2]; omega) (by unfold maxLen; omega) (Nat.le_refl _) ?_; intro w1 hown1 hgrow1))
  have hb1 : Below w.heap.size w w1 := (Below.refl _ _).grown hgrow1 (Nat.le_refl _) (fun k e => by cases e)
  clear hgrow1
  go_loopw [3, 13] (fun v i wr => ∃ k : Nat, k ≤ 100 ∧ i = .int .i64 k ∧ wr.ownsRow w.heap.size 81 2 v (cntB hs k) (tabL hs vl k) ∧ Below w.heap.size w wr) (fun _ i _ => 100 - (intOf i).toNat)
  case atStart => exact ⟨0, Nat.zero_le _, rfl, hown1, hb1⟩
  case round =>
    clear hown1 hb1
    obtain ⟨k, hk, rfl, hrow, hbl⟩ := hrel
    have hle := cntB_le hs k
    have hsz := hbl.size
    have hcr : wr.cell? ⟨K, off, none⟩ = some (.map (some b)) := by rw [hbl.cell (p := ⟨K, off, none⟩) hKlt]; exact hc
    have hownr : wr.ownsMap Tryz.prog 3 (plainElem Tryz.prog 3) b n Dm := by
      obtain ⟨es, clock, h1, h2⟩ := hown
      exact ⟨es, clock, by rw [hbl.block b hblt]; exact h1, h2⟩
    by_cases hlt : k < 100
    · have hkey : keyOf Tryz.prog 3 (.int .i64 (k : Int)) = some (.int .i64 (k : Int)) := keyOf_int_mk Tryz.underlying3 (wf_small hlt)
      obtain ⟨h1, h2⟩ := htab k hlt
      cases hq : hs k with
      | false =>
        have T1 : Hid (_ = _) := tabL_no (vl := vl) hq
        have T2 : Hid (_ = _) := cntB_no hq
        have h1' : Maps.has Dm (.int .i64 (k : Int)) = false := h1.trans hq
        clear h1 h2
        go_wp2_with (at_lookup; refine wpList_lookup_own_ok_int _ rfl _ _ 119 rfl 3 3 .i64 law3 Tryz.underlying119 Tryz.underlying3 (zero3 _) b n _ rfl hownr _ _ rfl hkey ?_; intro c hat hwc)
        go_roundw
        case rel => exact ⟨k + 1, by omega, by go_num, by rw [T1.out, T2.out]; exact hrow, hbl⟩
        case measure => simp [intOf]; omega
      | true =>
        have T1 : Hid (_ = _) := tabL_yes (vl := vl) hq
        have T2 : Hid (_ = _) := cntB_yes hq
        have h1' : Maps.has Dm (.int .i64 (k : Int)) = true := h1.trans hq
        have H2 : Hid (_ = _) := h2 hq
        clear h1 h2
        go_wp2_with (first
          | (at_lookup; refine wpList_lookup_own_ok_int _ rfl _ _ 119 rfl 3 3 .i64 law3 Tryz.underlying119 Tryz.underlying3 (zero3 _) b n _ rfl hownr _ _ rfl hkey ?_; intro c hat hwc; have hc2 : c = vl k := lit_int_inj (hat.symm.trans H2.out); subst hc2; clear hat hwc)
          | (at_builtin; refine wpList_append_own _ rfl _ _ 26 rfl w.heap.size 81 i0 (.agg #[.int .i64 0, .int .i64 0]) 2 16 Tryz.underlying26 hi hz0 hz1 hz2 rfl (by decide) _ _ _ rfl (hrow.alloc _) ⟨wr.heap.size, 0, none⟩ 1 1 [.int .i64 k, .int .i64 (vl k)] rfl rfl ?c1 ?c2 ?c3 ?c4 ?c5 ?_))
        case c1 =>
          intro j u hj
          match j, hj with
          | 0, hj => simp at hj; subst hj; simp [Addr.add]
          | 1, hj => simp at hj; subst hj; simp [Addr.add]
        case c2 => intro u hu; simp at hu; rcases hu with rfl | rfl <;> rfl
        case c3 => unfold maxLen; omega
        case c4 => omega
        case c5 => simp; omega
        intro v' w2 hrow' hgrow _
        have hbl1 : Below w.heap.size w w2 := (hbl.alloc hsz _).grown hgrow (by simp; omega) (fun b hb => (hrow.lt b hb).1)
        clear hgrow hrow hownr hcr
        go_wp2_with fail
        go_roundw
        case rel => exact ⟨k + 1, by omega, by go_num, by rw [T1.out, T2.out]; exact hrow', hbl1⟩
        case measure => simp [intOf]; omega
    · have hk100 : k = 100 := by omega
      subst hk100
      go_wp2_with fail
      go_ret
      exact ⟨_, rfl, hrow, hbl⟩
end Go.Proofs.YtldeiiffabfmeaaGreatDoor
