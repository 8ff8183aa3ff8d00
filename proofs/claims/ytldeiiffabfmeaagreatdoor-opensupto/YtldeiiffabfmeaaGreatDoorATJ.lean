/- All that can be seen of an engine at the end. -/
import Derived.Test.YtldeiiffabfmeaaGreatDoorAKaJ
import Derived.Test.YtldeiiffabfmeaaGreatDoorAQJ
set_option linter.unusedVariables false
set_option linter.unusedSimpArgs false
namespace Go.Proofs.YtldeiiffabfmeaaGreatDoor
open Go.RowKit

section
variable (W s e x : Nat) (D : EngD) (vB vL vB' vL' : Value) (K : Nat) (M : Nat → Nat) (hs : Nat → Nat → Bool) (vl : Nat → Nat → Int) (w : World)

/-- The caller's record with k lists more, and the engines beside it. -/
def Stands (base W s e x : Nat) (D : EngD) (vB vL vB' vL' : Value) (K : Nat) (M : Nat → Nat) (hs : Nat → Nat → Bool) (vl : Nat → Nat → Int) (np q : Nat) (w w' : World) : Prop :=
  ∃ cW vsP ms, Rec w' base W np q cW vsP ms ∧ SideS W cW w' s e x D vB vL vB' vL' K M hs vl ∧ Below base w w'
theorem Stands.below {base W s e x : Nat} {D : EngD} {vB vL vB' vL' : Value} {K : Nat} {M : Nat → Nat} {hs : Nat → Nat → Bool} {vl : Nat → Nat → Int} {np q : Nat} {w w1 w2 : World} (h : Stands base W s e x D vB vL vB' vL' K M hs vl np q w w1) (hb : Below w1.heap.size w1 w2) : Stands base W s e x D vB vL vB' vL' K M hs vl np q w w2 := by
  obtain ⟨c, v, m, h1, h2, h3⟩ := h
  exact ⟨c, v, m, h1.below hb, h2.went (Went.of_below hb), h3.trans (hb.mono (by have := h1.lt; have := h1.x.lt; omega))⟩

set_option maxRecDepth 20000 in
set_option maxHeartbeats 4000000 in
theorem ended_any (base np q : Nat) (cW vsP : Nat → Value) (ms : Nat → Int) (hr : Rec w base W np q cW vsP ms) (hnp : np ≤ 1000) (hq : q ≤ 1000) (hG : Good D) (hex : ∀ i, i < D.nl → ∃ p, p ≤ D.nb ∧ rtakesB D i (p : Nat) = true) (h : SideS W cW w s e x D vB vL vB' vL' K M hs vl) :
    Calls Tryz.prog 32 #[.pointer (some ⟨W, 0, none⟩), .pointer (some ⟨s, 0, none⟩)] w fun r w' => r = .returned (.bool true) ∧ Stands base W s e x D vB vL vB' vL' K M hs vl (np + 4 * (D.nb + 3)) (q + (D.nb + 3)) w w' := by
  have st : Stands base W s e x D vB vL vB' vL' K M hs vl np q w w := ⟨cW, vsP, ms, hr, h, Below.refl _ _⟩
  have hsd := h.side
  have hnb := hG.nb
  have hnl := hG.nl
  obtain ⟨aL, pL, hvL, -⟩ := id h.r.ref.l
  clear hr h
  generalize hnbe : D.nb = nb at *
  generalize hnle : D.nl = nl at *
  go_enter Tryz.func32, Tryz.ntmps32
  go_wp2_with fail
  go_loopw [5] (fun i wq => ∃ k : Nat, k ≤ nl + 2 ∧ i = .int .i64 ((k : Int) - 1) ∧ Below w.heap.size w wq) (fun i _ => nl + 2 - (intOf i + 1).toNat)
  case atStart => exact ⟨0, Nat.zero_le _, rfl, Below.refl _ _⟩
  case round =>
    obtain ⟨k, hk, rfl, hb⟩ := hrel
    have h1 := hsd.below hb
    have c1 := h1.c1
    have c5 : wr.cell? ⟨x, 5, none⟩ = some (.slice aL nl pL) := by rw [h1.r.c5, hvL]
    by_cases hkn : k < nl + 2
    · have hd : decide ((k : Int) - 1 ≤ (nl : Int)) = true := by simp; omega
      go_wp2_with fail
      refine (step_result W s e x D vB vL vB' vL' K M hs vl wr ((k : Int) - 1) (by rw [hnle, hnbe]; exact hex) h1).mono ?_
      rintro r w1 ⟨rfl, hb1⟩
      have hb2 := hb.trans (hb1.mono hb.size)
      go_wp2_with fail
      go_roundw
      case rel => exact ⟨k + 1, by omega, by go_num, hb2⟩
      case measure => simp [intOf]; omega
    · have hd : decide ((k : Int) - 1 ≤ (nl : Int)) = false := by simp; omega
      have st1 := st.below hb
      clear hsd st hb hkn hk h1
      go_wp2_with fail
      clear hd c1 c5
      go_loopw [7] (fun i wq => ∃ k : Nat, k ≤ nb + 3 ∧ i = .int .i64 ((k : Int) - 1) ∧ Stands base W s e x D vB vL vB' vL' K M hs vl (np + 4 * k) (q + k) w wq) (fun i _ => nb + 3 - (intOf i + 1).toNat)
      case atStart => exact ⟨0, Nat.zero_le _, rfl, st1⟩
      case round =>
        clear st1
        obtain ⟨k, hk, rfl, st⟩ := hrel
        obtain ⟨cW, vsP, ms, hr, h, hbs⟩ := id st
        have c1 := h.c1
        have c4 : wr.cell? ⟨x, 4, none⟩ = some (.int .i64 ((nb : Int) + 1)) := by rw [h.r.ref.c4, hnbe]
        by_cases hkn : k < nb + 3
        · have hd : decide ((k : Int) - 1 ≤ (nb : Int) + 1) = true := by simp; omega
          clear st
          go_wp2_with fail
          refine (step_table W s e x D vB vL vB' vL' K M hs vl wr base (np + 4 * k) (q + k) cW vsP ms ((k : Int) - 1) hr (by omega) (by omega) h).mono ?_
          rintro r w1 ⟨rfl, cW', vsP', ms', hr1, h1, hb1⟩
          have st1 : Stands base W s e x D vB vL vB' vL' K M hs vl (np + 4 * (k + 1)) (q + (k + 1)) w w1 := ⟨cW', vsP', ms', hr1, h1, hbs.trans hb1⟩
          have hs1 := h1.side
          clear hr h hbs hr1 h1 hb1 c1 c4 hd
          go_wp2_with fail
          refine (step_look W s e x D vB vL vB' vL' K M hs vl w1 ((k : Int) - 1) hG hs1).mono ?_
          rintro r w2 ⟨rfl, hb2⟩
          have st2 := st1.below hb2
          have hs2 := hs1.below hb2
          clear st1 hs1 hb2
          go_wp2_with fail
          go_loopw [8, 10] (fun a i wq => ∃ j : Nat, j ≤ nb + 3 ∧ a = .bool true ∧ i = .int .i64 ((j : Int) - 1) ∧ Below w2.heap.size w2 wq) (fun _ i _ => nb + 3 - (intOf i + 1).toNat)
          case atStart => exact ⟨0, Nat.zero_le _, rfl, rfl, Below.refl _ _⟩
          case round =>
            obtain ⟨j, hj, rfl, rfl, hb⟩ := hrel
            have h3 := hs2.below hb
            have c1 := h3.c1
            have c4 : wr.cell? ⟨x, 4, none⟩ = some (.int .i64 ((nb : Int) + 1)) := by rw [h3.r.c4, hnbe]
            by_cases hjn : j < nb + 3
            · have hd : decide ((j : Int) - 1 ≤ (nb : Int) + 1) = true := by simp; omega
              go_wp2_with fail
              refine (step_mail W s e x D vB vL vB' vL' K M hs vl wr ((k : Int) - 1) ((j : Int) - 1) h3).mono ?_
              rintro r w3 ⟨rfl, hb3⟩
              have hb4 := hb.trans (hb3.mono hb.size)
              clear h3 c1 c4 hd
              go_wp2_with fail
              go_roundw
              case rel => exact ⟨j + 1, by omega, rfl, by go_num, hb4⟩
              case measure => simp [intOf]; omega
            · have hd : decide ((j : Int) - 1 ≤ (nb : Int) + 1) = false := by simp; omega
              have st3 := st2.below hb
              clear st2 hs2 hb h3 hjn hj
              go_wp2_with fail
              clear hd c1 c4
              go_roundw
              case rel => exact ⟨k + 1, by omega, by go_num, st3⟩
              case measure => simp [intOf]; omega
        · have hd : decide ((k : Int) - 1 ≤ (nb : Int) + 1) = false := by simp; omega
          have hkk : k = nb + 3 := by omega
          rw [hkk] at st
          clear hr h hbs hkk
          go_wp2_with fail
          go_ret
          exact ⟨rfl, st⟩
end
end Go.Proofs.YtldeiiffabfmeaaGreatDoor
/- A script without steps: nothing is asked but what is to be seen at the end. -/
namespace Go.Proofs.YtldeiiffabfmeaaGreatDoor
open Go.RowKit

set_option maxRecDepth 20000 in
set_option maxHeartbeats 4000000 in
theorem play_none (W : Nat) (w : World) (h0 : w.cell? ⟨W, 0, none⟩ = some (.slice none 0 0)) (h : Kp w W) :
    Calls Tryz.prog 13 #[.pointer (some ⟨W, 0, none⟩), .slice none 0 0] w fun r w' => r = .returned (.bool true) ∧ Below w.heap.size w w' := by
  go_enter Tryz.func13, Tryz.ntmps13
  go_wp2_with fail
  refine (kept_any W w h).mono ?_
  rintro r w1 ⟨rfl, hb⟩
  clear h h0
  go_wp2_with fail
  go_ret
  exact ⟨rfl, hb⟩

section
variable (W s e x : Nat) (D : EngD) (vB vL vB' vL' : Value) (K : Nat) (M : Nat → Nat) (hs : Nat → Nat → Bool) (vl : Nat → Nat → Int) (w : World)

set_option maxRecDepth 20000 in
set_option maxHeartbeats 4000000 in
theorem play_one (base np q S cap : Nat) (cW vsP : Nat → Value) (ms : Nat → Int) (hr : Rec w base W np q cW vsP ms) (hnp : np ≤ 1000) (hq : q ≤ 1000) (hG : Good D) (hex : ∀ i, i < D.nl → ∃ p, p ≤ D.nb ∧ rtakesB D i (p : Nat) = true) (h : SideS W cW w s e x D vB vL vB' vL' K M hs vl)
    (h0 : cW 0 = .slice (some ⟨S, 0, none⟩) 1 cap) (hS : w.cell? ⟨S, 0, none⟩ = some (.pointer (some ⟨s, 0, none⟩))) :
    Calls Tryz.prog 13 #[.pointer (some ⟨W, 0, none⟩), .slice none 0 0] w fun r w' => r = .returned (.bool true) ∧ Below base w w' := by
  have c0 : w.cell? ⟨W, 0, none⟩ = some (.slice (some ⟨S, 0, none⟩) 1 cap) := by rw [hr.x.cell (by omega), h0]
  have hb0 : base ≤ w.heap.size := by have := hr.lt; have := hr.x.lt; omega
  have hnb := hG.nb
  go_enter Tryz.func13, Tryz.ntmps13
  go_wp2_with fail
  go_loopw [6] (fun i wq => i = .int .i64 0 ∧ wq = w) (fun _ _ => 0)
  case atStart => exact ⟨rfl, rfl⟩
  case round =>
    obtain ⟨rfl, rfl⟩ := hrel
    go_wp2_with fail
    go_loopw [11] (fun i wq => (i = .int .i64 0 ∧ wq = wr) ∨ (i = .int .i64 1 ∧ Kp wq W ∧ Below base wr wq)) (fun i _ => 1 - (intOf i).toNat)
    case atStart => exact .inl ⟨rfl, rfl⟩
    case round =>
      rcases hrel with ⟨rfl, rfl⟩ | ⟨rfl, hk, hb⟩
      · go_wp2_with fail
        refine (ended_any W s e x D vB vL vB' vL' K M hs vl _ base np q cW vsP ms hr hnp hq hG hex h).mono ?_
        rintro r w2 ⟨rfl, cW', vsP', ms', hr2, h2, hb2⟩
        have hkp := hr2.kp (by omega)
        clear hr2 h2 hr h c0 hS
        go_wp2_with fail
        go_roundw
        case rel => exact .inr ⟨by go_num, hkp, hb2⟩
        case measure => simp [intOf]
      · clear hr h c0 hS
        go_wp2_with fail
        refine (kept_any W _ hk).mono ?_
        rintro r w2 ⟨rfl, hb2⟩
        have hb3 := hb.trans (hb2.mono (by have := hb.size; omega))
        clear hk hb hb2
        go_wp2_with fail
        go_ret
        exact ⟨rfl, hb3⟩
end
end Go.Proofs.YtldeiiffabfmeaaGreatDoor
