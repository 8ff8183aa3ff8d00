/- A region that draws its order, by what each operation's slot holds: each operation is looked at once, whatever the order. -/
import Derived.WalkKit
import Derived.Orders
set_option linter.unusedVariables false
set_option linter.unusedSimpArgs false
namespace Go.Proofs.YtldeiiffabfmeaaGreatDoor
open Go.RowKit

section
variable {P : Program} {ops : Array Oper} {Q : Exit → Act → World → Prop} {md : Region.Mode}

/-- What the slot of operation k holds. -/
def slotOf (ops : Array Oper) (a : Act) (k : Nat) : Value :=
  match (ops[k]?).bind (·.dst) with
  | some d => a.tmps.getD d undef
  | none => undef

/-- The frame is that of the beginning, but for the slots that the region writes. -/
structure Same (ops : Array Oper) (a0 a : Act) : Prop where
  size : a.tmps.size = a0.tmps.size
  defers : a.defers = a0.defers
  out : ∀ t, (∀ j : Nat, (ops[j]?).bind (·.dst) ≠ some t) → a.tmps.getD t undef = a0.tmps.getD t undef

theorem getD_put (a : Act) (d : Option Tmp) (v : Value) (t : Nat) : (a.put d v).tmps.getD t undef = if d = some t ∧ t < a.tmps.size then v else a.tmps.getD t undef := by
  cases d with
  | none => simp [Act.put]
  | some d =>
    simp only [Act.put, Option.some.injEq]
    by_cases h : d = t
    · subst h
      by_cases h2 : d < a.tmps.size
      · simp [h2, Array.getD]
      · simp [h2, Array.getD]
    · rw [if_neg (fun e => h e.1)]
      simp only [Array.getD_eq_getD_getElem?, Array.getElem?_setIfInBounds, if_neg h]

theorem Same.put {a0 a : Act} (h : Same ops a0 a) {i : Nat} {o : Oper} (hi : ops[i]? = some o) (v : Value) : Same ops a0 (a.put o.dst v) := by
  refine ⟨?_, ?_, fun t ht => ?_⟩
  · rw [← h.size]; cases hd : o.dst <;> simp [Act.put]
  · rw [← h.defers]; cases hd : o.dst <;> simp [Act.put]
  · rw [getD_put, if_neg, h.out t ht]
    rintro ⟨h1, _⟩
    exact ht i (by rw [hi]; exact h1)

/-- The operations that are listed. -/
def Listed (listed : Array Bool) (k : Nat) : Prop := listed[k]? = some true
theorem listed_of_getD {listed : Array Bool} {k : Nat} (h : listed.getD k false = true) : Listed listed k := by
  rw [Array.getD_eq_getD_getElem?] at h
  cases e : listed[k]? with
  | none => rw [e] at h; cases h
  | some b => rw [e] at h; simp at h; rw [Listed, e, h]
theorem not_listed_of_getD {listed : Array Bool} {k : Nat} (h : listed.getD k true = false) : listed[k]? = some false := by
  rw [Array.getD_eq_getD_getElem?] at h
  cases e : listed[k]? with
  | none => rw [e] at h; cases h
  | some b => rw [e] at h; simp at h; rw [h]

theorem unlisted_of_ready {listed : Array Bool} {i : Nat} (h : i ∈ Region.ready md ops listed) :
    i < ops.size ∧ listed.getD i true = false ∧ ∀ o, ops[i]? = some o → ∀ e ∈ o.after, Region.binds md e = true → Listed listed e.on := by
  simp only [Region.ready, List.mem_filter, List.mem_range, Bool.and_eq_true, Bool.not_eq_true'] at h
  refine ⟨h.1, h.2.1, fun o ho e he hb => ?_⟩
  have h3 := h.2.2
  rw [ho] at h3
  simp only [Option.map_some, Option.getD_some, Array.all_eq_true_iff_forall_mem, Bool.or_eq_true, Bool.not_eq_true'] at h3
  rcases h3 e he with h4 | h4
  · rw [hb] at h4; cases h4
  · exact listed_of_getD h4

/-- How many are not listed. -/
def leftOf (listed : Array Bool) : Nat := listed.toList.countP (fun b => !b)

theorem leftOf_set {listed : Array Bool} {i : Nat} (hi : i < listed.size) (h : listed.getD i true = false) : leftOf (listed.setIfInBounds i true) + 1 = leftOf listed := by
  have hb : listed[i] = false := by
    have := not_listed_of_getD h
    rw [Array.getElem?_eq_getElem hi] at this
    simpa using this
  unfold leftOf
  rw [Array.toList_setIfInBounds]
  have hl : i < listed.toList.length := by simpa using hi
  have e : listed.toList[i] = false := by simpa using hb
  have : 0 < List.countP (fun b => !b) listed.toList := by
    rw [List.countP_pos_iff]
    exact ⟨false, by rw [← e]; exact List.getElem_mem _, rfl⟩
  rw [List.countP_set (h := hl), e]
  simp only [Bool.not_false, Bool.not_true, if_true, Bool.false_eq_true, if_false]
  omega

theorem ready_nil_of_left {listed : Array Bool} (hs : listed.size = ops.size) (h : leftOf listed = 0) : Region.ready md ops listed = [] := by
  unfold Region.ready
  rw [List.filter_eq_nil_iff]
  intro i hi
  rw [List.mem_range] at hi
  have hlt : i < listed.size := by omega
  have : listed[i] = true := by
    cases hb : listed[i] with
    | true => rfl
    | false =>
      have : 0 < leftOf listed := by
        unfold leftOf; rw [List.countP_pos_iff]
        exact ⟨false, by rw [← hb]; simp, rfl⟩
      omega
  simp [Array.getD_eq_getD_getElem?, Array.getElem?_eq_getElem hlt, this]

/-- THE RULE. F: what holds of the world throughout; R k s w: what the slots s hold once operation k is done (it looks at its own slot and at those of the operations that it comes after). -/
theorem wpAny_slots (a0 : Act) (F : World → Prop) (R : Nat → (Nat → Value) → World → Prop)
    (hguard : ∀ (i : Nat) o, ops[i]? = some o → o.guard = none)
    (hdst : ∀ (i j : Nat) d, (ops[i]?).bind (·.dst) = some d → (ops[j]?).bind (·.dst) = some d → i = j)
    (hloc : ∀ k s s' w, (∀ o, ops[k]? = some o → ∀ j, (j = k ∨ ∃ e ∈ o.after, Region.binds md e = true ∧ e.on = j) → s j = s' j) → R k s w → R k s' w)
    (hob : ∀ (i : Nat) o, ops[i]? = some o → ∀ a w, F w → Same ops a0 a → (∀ e ∈ o.after, Region.binds md e = true → R e.on (slotOf ops a) w) →
      o.wp P a w (fun a' w' => F w' ∧ (∀ k s, R k s w → R k s w') ∧ ∃ v, a' = a.put o.dst v ∧ R i (slotOf ops a') w') Q)
    (hdone : ∀ listed : Array Bool, listed.size = ops.size → Region.ready md ops listed = [] → ∀ k, k < ops.size → Listed listed k)
    (hend : ∀ a w, F w → Same ops a0 a → (∀ k, k < ops.size → R k (slotOf ops a) w) → Q .normal a w) :
    ∀ (fuel : Nat) (listed : Array Bool) (a : Act) (w : World), listed.size = ops.size → leftOf listed ≤ fuel → F w → Same ops a0 a →
      (∀ k, Listed listed k → R k (slotOf ops a) w) → (∀ k o, ops[k]? = some o → Listed listed k → ∀ e ∈ o.after, Region.binds md e = true → Listed listed e.on) →
      wpAny P md ops Q fuel listed a w
  | 0, listed, a, w, hs, hl, hF, hS, hR, _ => by
    have hr : Region.ready md ops listed = [] := ready_nil_of_left hs (by omega)
    exact ⟨hr, hend a w hF hS fun k hk => hR k (hdone listed hs hr k hk)⟩
  | fuel + 1, listed, a, w, hs, hl, hF, hS, hR, hD => by
    refine ⟨fun hr => hend a w hF hS fun k hk => hR k (hdone listed hs hr k hk), fun i hi => ?_⟩
    obtain ⟨hlt, hun, haft⟩ := unlisted_of_ready hi
    have ho : ops[i]? = some ops[i] := by simp [hlt]
    have hlti : i < listed.size := by omega
    have hnot : ¬ Listed listed i := by
      intro hl'
      have := not_listed_of_getD hun
      rw [Listed, this] at hl'
      cases hl'
    unfold wpOp
    rw [ho]
    simp only []
    rw [if_pos (by simp [Region.wanted, hguard i _ ho])]
    refine Or.inl (Oper.wp_mono ?_ (hob i _ ho a w hF hS (fun e he hb => hR _ (haft _ ho e he hb))))
    rintro a' w' ⟨hF', hmono, v, rfl, hRi⟩
    have hlisted : ∀ k, Listed (listed.setIfInBounds i true) k → k = i ∨ Listed listed k := by
      intro k hk
      by_cases e : k = i
      · exact .inl e
      · refine .inr ?_
        rw [Listed, Array.getElem?_setIfInBounds, if_neg (fun h => e h.symm)] at hk
        exact hk
    have hback : ∀ k, Listed listed k → Listed (listed.setIfInBounds i true) k := by
      intro k hk
      rw [Listed, Array.getElem?_setIfInBounds]
      by_cases h1 : i = k
      · rw [if_pos h1, if_pos hlti]
      · rw [if_neg h1]; exact hk
    have hself : Listed (listed.setIfInBounds i true) i := by
      rw [Listed, Array.getElem?_setIfInBounds, if_pos rfl, if_pos hlti]
    have hslot : ∀ k, Listed listed k → slotOf ops (a.put ops[i].dst v) k = slotOf ops a k := by
      intro k hk
      unfold slotOf
      cases hd : (ops[k]?).bind (·.dst) with
      | none => rfl
      | some d =>
        simp only []
        rw [getD_put, if_neg]
        rintro ⟨h1, _⟩
        have : i = k := hdst i k d (by rw [ho]; exact h1) hd
        exact hnot (this ▸ hk)
    refine wpAny_slots a0 F R hguard hdst hloc hob hdone hend fuel _ _ w' (by simpa using hs) ?_ hF' (hS.put ho v) ?_ ?_
    · have := leftOf_set hlti hun; omega
    · intro k hk
      rcases hlisted k hk with rfl | hk
      · exact hRi
      · refine hloc k (slotOf ops a) _ w' (fun o hok j hj => ?_) (hmono k _ (hR k hk))
        rcases hj with rfl | ⟨e, he, hb, rfl⟩
        · exact (hslot _ hk).symm
        · exact (hslot _ (hD k o hok hk e he hb)).symm
    · intro k o hok hk e he hb
      rcases hlisted k hk with rfl | hk
      · exact hback _ (haft o hok e he hb)
      · exact hback _ (hD k o hok hk e he hb)

/-- Closed facts of a region's text: no guard; no slot is written twice; each comes after earlier ones alone. -/
def plainB (ops : Array Oper) : Bool :=
  ops.toList.all (fun o => o.guard.isNone) && (ops.toList.filterMap (·.dst)).Nodup && ops.toList.zipIdx.all (fun x => x.1.after.all fun e => !Region.binds .any e || e.on < x.2)

theorem plain_guard (h : plainB ops = true) : ∀ (i : Nat) o, ops[i]? = some o → o.guard = none := by
  intro i o ho
  simp only [plainB, Bool.and_eq_true, List.all_eq_true] at h
  have := h.1.1 o (by rw [Array.mem_toList_iff]; exact Array.mem_of_getElem? ho)
  simpa using this
theorem nodup_filterMap {α β : Type} {f : α → Option β} : ∀ {l : List α}, (l.filterMap f).Nodup → ∀ (i j : Nat) (b : β), (l[i]?).bind f = some b → (l[j]?).bind f = some b → i = j
  | [], _, i, j, b, hi, _ => by simp at hi
  | x :: l, hn, i, j, b, hi, hj => by
    cases hx : f x with
    | none =>
      rw [List.filterMap_cons_none hx] at hn
      cases i with
      | zero => simp [hx] at hi
      | succ i =>
        cases j with
        | zero => simp [hx] at hj
        | succ j => simp at hi hj; rw [nodup_filterMap hn i j b hi hj]
    | some c =>
      rw [List.filterMap_cons_some hx, List.nodup_cons] at hn
      have hmem : ∀ k, (l[k]?).bind f = some c → False := fun k hk => by
        obtain ⟨y, hy, hfy⟩ := Option.bind_eq_some_iff.1 hk
        exact hn.1 (List.mem_filterMap.2 ⟨y, List.mem_of_getElem? hy, hfy⟩)
      cases i with
      | zero =>
        simp [hx] at hi
        subst hi
        cases j with
        | zero => rfl
        | succ j => simp at hj; exact (hmem j hj).elim
      | succ i =>
        cases j with
        | zero => simp [hx] at hj; subst hj; simp at hi; exact (hmem i hi).elim
        | succ j => simp at hi hj; rw [nodup_filterMap hn.2 i j b hi hj]
theorem plain_dst (h : plainB ops = true) : ∀ (i j : Nat) d, (ops[i]?).bind (·.dst) = some d → (ops[j]?).bind (·.dst) = some d → i = j := by
  intro i j d hi hj
  simp only [plainB, Bool.and_eq_true, decide_eq_true_eq] at h
  exact nodup_filterMap h.1.2 i j d (by simpa using hi) (by simpa using hj)
theorem plain_done (h : plainB ops = true) : ∀ listed : Array Bool, listed.size = ops.size → Region.ready .any ops listed = [] → ∀ k, k < ops.size → Listed listed k := by
  intro listed hs hr k
  induction k using Nat.strongRecOn with
  | _ k ih =>
    intro hk
    have hlt : k < listed.size := by omega
    cases hb : listed[k] with
    | true => rw [Listed, Array.getElem?_eq_getElem hlt, hb]
    | false =>
      exfalso
      have : k ∈ Region.ready .any ops listed := by
        simp only [Region.ready, List.mem_filter, List.mem_range]
        refine ⟨hk, ?_⟩
        simp only [Array.getElem?_eq_getElem hk, Option.map_some, Option.getD_some, Bool.and_eq_true, Array.all_eq_true_iff_forall_mem, Bool.or_eq_true, Bool.not_eq_true']
        refine ⟨by rw [Array.getD_eq_getD_getElem?, Array.getElem?_eq_getElem hlt, hb]; rfl, fun e he => ?_⟩
        simp only [plainB, Bool.and_eq_true, List.all_eq_true, Array.all_eq_true_iff_forall_mem, Bool.or_eq_true, Bool.not_eq_true', decide_eq_true_eq] at h
        rcases h.2 (ops[k], k) (by rw [List.mem_zipIdx_iff_getElem?]; simp [Array.getElem?_eq_getElem hk]) e he with h4 | h4
        · exact .inl h4
        · refine .inr ?_
          have := ih e.on h4 (by simp at h4; omega)
          rw [Array.getD_eq_getD_getElem?, this]; rfl
      rw [hr] at this
      cases this

/-- THE RULE, for a region of the program. -/
theorem wp_region_slots {id : Nat} {w : World} (a0 : Act) (hm : P.follows .mixedOrders = true) (hp : plainB ops = true) (F : World → Prop) (R : Nat → (Nat → Value) → World → Prop)
    (hloc : ∀ k s s' w, (∀ o, ops[k]? = some o → ∀ j, (j = k ∨ ∃ e ∈ o.after, Region.binds .any e = true ∧ e.on = j) → s j = s' j) → R k s w → R k s' w)
    (hF : F w.drew)
    (hob : ∀ (i : Nat) o, ops[i]? = some o → ∀ a w, F w → Same ops a0 a → (∀ e ∈ o.after, Region.binds .any e = true → R e.on (slotOf ops a) w) →
      o.wp P a w (fun a' w' => F w' ∧ (∀ k s, R k s w → R k s w') ∧ ∃ v, a' = a.put o.dst v ∧ R i (slotOf ops a') w') Q)
    (hend : ∀ a w, F w → Same ops a0 a → (∀ k, k < ops.size → R k (slotOf ops a) w) → Q .normal a w) : (Code.region id ops true).wp P Q a0 w := by
  refine wp_region_any hm ?_
  refine wpAny_slots (md := .any) a0 F R (plain_guard hp) (plain_dst hp) hloc hob (plain_done hp) hend _ _ _ _ (by simp) ?_ hF ⟨rfl, rfl, fun _ _ => rfl⟩ (fun k hk => ?_) (fun k o _ hk => ?_)
  · unfold leftOf
    have := List.countP_le_length (p := fun b => !b) (l := (Array.replicate ops.size false).toList)
    simpa using this
  · simp [Listed, Array.getElem?_replicate] at hk
  · simp [Listed, Array.getElem?_replicate] at hk
end
end Go.Proofs.YtldeiiffabfmeaaGreatDoor
/- A region that draws its order: one operation's run; the frame behind the region. -/
namespace Go.Proofs.YtldeiiffabfmeaaGreatDoor
open Go.RowKit

section
variable {P : Program} {ops : Array Oper} {Q : Exit → Act → World → Prop}

theorem wp_of_value {o : Oper} {a : Act} {w w' : World} {v : Value} {K : Act → World → Prop} (h : (execOp a.eval o).run P w = .ok (.value v) w') (hK : K (a.put o.dst v) w') : o.wp P a w K Q := by
  unfold Oper.wp; rw [h]; exact hK
theorem wp_of_skip {o : Oper} {a : Act} {w w' : World} {K : Act → World → Prop} (h : (execOp a.eval o).run P w = .ok .skip w') (hK : K (a.put o.dst undef) w') : o.wp P a w K Q := by
  unfold Oper.wp; rw [h]; exact hK
theorem wp_of_enter {o : Oper} {a : Act} {w w' : World} {f : FuncId} {args : Array Value} {K : Act → World → Prop} {R : Ending → World → Prop} (h : (execOp a.eval o).run P w = .ok (.enter f args) w') (hC : Calls P f args w' R) (hK : ∀ r w'', R r w'' → ∃ v, r = .returned v ∧ K (a.put o.dst v) w'') : o.wp P a w K Q := by
  unfold Oper.wp; rw [h]
  refine Calls.mono hC ?_
  intro r w'' hr
  obtain ⟨v, rfl, hv⟩ := hK r w'' hr
  exact hv

/-- The frame with the slots ds set anew. -/
def patch (a0 : Act) (ds : List Nat) (f : Nat → Value) : Act := ds.foldl (fun acc d => acc.put (some d) (f d)) a0
theorem patch_size (f : Nat → Value) : ∀ (ds : List Nat) (a0 : Act), (patch a0 ds f).tmps.size = a0.tmps.size ∧ (patch a0 ds f).defers = a0.defers
  | [], a0 => ⟨rfl, rfl⟩
  | d :: ds, a0 => by
    have h := patch_size f ds (a0.put (some d) (f d))
    have e : patch a0 (d :: ds) f = patch (a0.put (some d) (f d)) ds f := rfl
    rw [e]
    exact ⟨by rw [h.1]; simp [Act.put], by rw [h.2]; simp [Act.put]⟩
theorem patch_at (f : Nat → Value) (t : Nat) : ∀ (ds : List Nat) (a0 : Act), t < a0.tmps.size → (patch a0 ds f).tmps.getD t undef = if t ∈ ds then f t else a0.tmps.getD t undef
  | [], a0, _ => by simp [patch]
  | d :: ds, a0, ht => by
    have e : patch a0 (d :: ds) f = patch (a0.put (some d) (f d)) ds f := rfl
    rw [e, patch_at f t ds _ (by simpa [Act.put] using ht)]
    by_cases h : t ∈ ds
    · simp [h]
    · rw [if_neg h, getD_put]
      by_cases h2 : d = t
      · subst h2; simp [ht]
      · have : t ≠ d := fun h => h2 h.symm
        simp [h, h2, this]
theorem same_patch {a0 a : Act} (ds : List Nat) (h : Same ops a0 a) (hd : ∀ t, t ∉ ds → ∀ j : Nat, (ops[j]?).bind (·.dst) ≠ some t) : a = patch a0 ds (fun d => a.tmps.getD d undef) := by
  obtain ⟨ta, da⟩ := a
  have h1 := h.size
  have h2 := h.defers
  have hp := patch_size (fun d => ta.getD d undef) ds a0
  have hq := patch_at (fun d => ta.getD d undef)
  generalize hP : patch a0 ds (fun d => ta.getD d undef) = p at *
  obtain ⟨tp, dp⟩ := p
  simp only at *
  have ht : ta = tp := by
    apply Array.ext
    · rw [h1, hp.1]
    · intro i hi hi'
      have e1 : ta[i] = ta.getD i undef := by simp [Array.getD, hi]
      have e2 : tp[i] = tp.getD i undef := by simp [Array.getD, hi']
      rw [e1, e2]
      have := hq i ds a0 (by rw [← h1]; exact hi)
      rw [hP] at this
      simp only at this
      rw [this]
      by_cases hm : i ∈ ds
      · rw [if_pos hm]
      · rw [if_neg hm]; exact h.out i (hd i hm)
  subst ht
  have hdd : da = dp := by rw [h2, hp.2]
  subst hdd
  rfl

/-- A slot that no operation of the region writes. -/
theorem no_dst {t : Nat} (h : (ops.toList.all fun o => o.dst != some t) = true) : ∀ j : Nat, (ops[j]?).bind (·.dst) ≠ some t := by
  intro j hj
  obtain ⟨o, ho, hd⟩ := Option.bind_eq_some_iff.1 hj
  rw [List.all_eq_true] at h
  have := h o (by rw [Array.mem_toList_iff]; exact Array.mem_of_getElem? ho)
  rw [hd] at this
  simp at this
theorem some_dst {ds : List Nat} (h : (ops.toList.all fun o => match o.dst with | some d => ds.contains d | none => true) = true) : ∀ t, t ∉ ds → ∀ j : Nat, (ops[j]?).bind (·.dst) ≠ some t := by
  intro t ht j hj
  obtain ⟨o, ho, hd⟩ := Option.bind_eq_some_iff.1 hj
  rw [List.all_eq_true] at h
  have := h o (by rw [Array.mem_toList_iff]; exact Array.mem_of_getElem? ho)
  rw [hd] at this
  simp at this
  exact ht this
end
end Go.Proofs.YtldeiiffabfmeaaGreatDoor
/- The rule for a region that draws its order, once more: an operation need not leave what it itself says. -/
namespace Go.Proofs.YtldeiiffabfmeaaGreatDoor
open Go.RowKit

section
variable {P : Program} {ops : Array Oper} {Q : Exit → Act → World → Prop} {md : Region.Mode}

/-- THE RULE. F: what holds of the world throughout; R k s w: what the slots s hold once operation k is done (it looks at its own slot and at those of the operations that it comes after). -/
theorem wpAny_slots2 (a0 : Act) (F : World → Prop) (R : Nat → (Nat → Value) → World → Prop)
    (hguard : ∀ (i : Nat) o, ops[i]? = some o → o.guard = none)
    (hdst : ∀ (i j : Nat) d, (ops[i]?).bind (·.dst) = some d → (ops[j]?).bind (·.dst) = some d → i = j)
    (hloc : ∀ k s s' w, (∀ o, ops[k]? = some o → ∀ j, (j = k ∨ ∃ e ∈ o.after, Region.binds md e = true ∧ e.on = j) → s j = s' j) → R k s w → R k s' w)
    (hob : ∀ (i : Nat) o, ops[i]? = some o → ∀ a w, F w → Same ops a0 a → (∀ e ∈ o.after, Region.binds md e = true → R e.on (slotOf ops a) w) →
      o.wp P a w (fun a' w' => F w' ∧ (∀ k s, k ≠ i → R k s w → R k s w') ∧ ∃ v, a' = a.put o.dst v ∧ R i (slotOf ops a') w') Q)
    (hdone : ∀ listed : Array Bool, listed.size = ops.size → Region.ready md ops listed = [] → ∀ k, k < ops.size → Listed listed k)
    (hend : ∀ a w, F w → Same ops a0 a → (∀ k, k < ops.size → R k (slotOf ops a) w) → Q .normal a w) :
    ∀ (fuel : Nat) (listed : Array Bool) (a : Act) (w : World), listed.size = ops.size → leftOf listed ≤ fuel → F w → Same ops a0 a →
      (∀ k, Listed listed k → R k (slotOf ops a) w) → (∀ k o, ops[k]? = some o → Listed listed k → ∀ e ∈ o.after, Region.binds md e = true → Listed listed e.on) →
      wpAny P md ops Q fuel listed a w
  | 0, listed, a, w, hs, hl, hF, hS, hR, _ => by
    have hr : Region.ready md ops listed = [] := ready_nil_of_left hs (by omega)
    exact ⟨hr, hend a w hF hS fun k hk => hR k (hdone listed hs hr k hk)⟩
  | fuel + 1, listed, a, w, hs, hl, hF, hS, hR, hD => by
    refine ⟨fun hr => hend a w hF hS fun k hk => hR k (hdone listed hs hr k hk), fun i hi => ?_⟩
    obtain ⟨hlt, hun, haft⟩ := unlisted_of_ready hi
    have ho : ops[i]? = some ops[i] := by simp [hlt]
    have hlti : i < listed.size := by omega
    have hnot : ¬ Listed listed i := by
      intro hl'
      have := not_listed_of_getD hun
      rw [Listed, this] at hl'
      cases hl'
    unfold wpOp
    rw [ho]
    simp only []
    rw [if_pos (by simp [Region.wanted, hguard i _ ho])]
    refine Or.inl (Oper.wp_mono ?_ (hob i _ ho a w hF hS (fun e he hb => hR _ (haft _ ho e he hb))))
    rintro a' w' ⟨hF', hmono, v, rfl, hRi⟩
    have hlisted : ∀ k, Listed (listed.setIfInBounds i true) k → k = i ∨ Listed listed k := by
      intro k hk
      by_cases e : k = i
      · exact .inl e
      · refine .inr ?_
        rw [Listed, Array.getElem?_setIfInBounds, if_neg (fun h => e h.symm)] at hk
        exact hk
    have hback : ∀ k, Listed listed k → Listed (listed.setIfInBounds i true) k := by
      intro k hk
      rw [Listed, Array.getElem?_setIfInBounds]
      by_cases h1 : i = k
      · rw [if_pos h1, if_pos hlti]
      · rw [if_neg h1]; exact hk
    have hself : Listed (listed.setIfInBounds i true) i := by
      rw [Listed, Array.getElem?_setIfInBounds, if_pos rfl, if_pos hlti]
    have hslot : ∀ k, Listed listed k → slotOf ops (a.put ops[i].dst v) k = slotOf ops a k := by
      intro k hk
      unfold slotOf
      cases hd : (ops[k]?).bind (·.dst) with
      | none => rfl
      | some d =>
        simp only []
        rw [getD_put, if_neg]
        rintro ⟨h1, _⟩
        have : i = k := hdst i k d (by rw [ho]; exact h1) hd
        exact hnot (this ▸ hk)
    refine wpAny_slots2 a0 F R hguard hdst hloc hob hdone hend fuel _ _ w' (by simpa using hs) ?_ hF' (hS.put ho v) ?_ ?_
    · have := leftOf_set hlti hun; omega
    · intro k hk
      rcases hlisted k hk with rfl | hk
      · exact hRi
      · refine hloc k (slotOf ops a) _ w' (fun o hok j hj => ?_) (hmono k _ (fun e => hnot (e ▸ hk)) (hR k hk))
        rcases hj with rfl | ⟨e, he, hb, rfl⟩
        · exact (hslot _ hk).symm
        · exact (hslot _ (hD k o hok hk e he hb)).symm
    · intro k o hok hk e he hb
      rcases hlisted k hk with rfl | hk
      · exact hback _ (haft o hok e he hb)
      · exact hback _ (hD k o hok hk e he hb)

/-- THE RULE, for a region of the program. -/
theorem wp_region_slots2 {id : Nat} {w : World} (a0 : Act) (hm : P.follows .mixedOrders = true) (hp : plainB ops = true) (F : World → Prop) (R : Nat → (Nat → Value) → World → Prop)
    (hloc : ∀ k s s' w, (∀ o, ops[k]? = some o → ∀ j, (j = k ∨ ∃ e ∈ o.after, Region.binds .any e = true ∧ e.on = j) → s j = s' j) → R k s w → R k s' w)
    (hF : F w.drew)
    (hob : ∀ (i : Nat) o, ops[i]? = some o → ∀ a w, F w → Same ops a0 a → (∀ e ∈ o.after, Region.binds .any e = true → R e.on (slotOf ops a) w) →
      o.wp P a w (fun a' w' => F w' ∧ (∀ k s, k ≠ i → R k s w → R k s w') ∧ ∃ v, a' = a.put o.dst v ∧ R i (slotOf ops a') w') Q)
    (hend : ∀ a w, F w → Same ops a0 a → (∀ k, k < ops.size → R k (slotOf ops a) w) → Q .normal a w) : (Code.region id ops true).wp P Q a0 w := by
  refine wp_region_any hm ?_
  refine wpAny_slots2 (md := .any) a0 F R (plain_guard hp) (plain_dst hp) hloc hob (plain_done hp) hend _ _ _ _ (by simp) ?_ hF ⟨rfl, rfl, fun _ _ => rfl⟩ (fun k hk => ?_) (fun k o _ hk => ?_)
  · unfold leftOf
    have := List.countP_le_length (p := fun b => !b) (l := (Array.replicate ops.size false).toList)
    simpa using this
  · simp [Listed, Array.getElem?_replicate] at hk
  · simp [Listed, Array.getElem?_replicate] at hk
end
end Go.Proofs.YtldeiiffabfmeaaGreatDoor
/- A region that draws its order, in which one operation alone, a call, writes: all others only read. -/
namespace Go.Proofs.YtldeiiffabfmeaaGreatDoor
open Go.RowKit

section
variable {P : Program} {ops : Array Oper} {Q : Exit → Act → World → Prop} {md : Region.Mode}

/-- THE RULE. c: the one operation that writes; F0: what holds ahead of it, F1: behind it. -/
theorem wpAny_slots3 (a0 : Act) (c : Nat) (F0 F1 : World → Prop) (R : Nat → (Nat → Value) → Prop)
    (hguard : ∀ (i : Nat) o, ops[i]? = some o → o.guard = none)
    (hdst : ∀ (i j : Nat) d, (ops[i]?).bind (·.dst) = some d → (ops[j]?).bind (·.dst) = some d → i = j)
    (hloc : ∀ k s s', (∀ o, ops[k]? = some o → ∀ j, (j = k ∨ ∃ e ∈ o.after, Region.binds md e = true ∧ e.on = j) → s j = s' j) → R k s → R k s')
    (hob : ∀ (i : Nat) o, i ≠ c → ops[i]? = some o → ∀ a w, F0 w ∨ F1 w → Same ops a0 a → (∀ e ∈ o.after, Region.binds md e = true → R e.on (slotOf ops a)) →
      o.wp P a w (fun a' w' => w' = w ∧ ∃ v, a' = a.put o.dst v ∧ R i (slotOf ops a')) Q)
    (hcall : ∀ o, ops[c]? = some o → ∀ a w, F0 w → Same ops a0 a → (∀ e ∈ o.after, Region.binds md e = true → R e.on (slotOf ops a)) →
      o.wp P a w (fun a' w' => F1 w' ∧ ∃ v, a' = a.put o.dst v ∧ R c (slotOf ops a')) Q)
    (hc : c < ops.size)
    (hdone : ∀ listed : Array Bool, listed.size = ops.size → Region.ready md ops listed = [] → ∀ k, k < ops.size → Listed listed k)
    (hend : ∀ a w, F1 w → Same ops a0 a → (∀ k, k < ops.size → R k (slotOf ops a)) → Q .normal a w) :
    ∀ (fuel : Nat) (listed : Array Bool) (a : Act) (w : World), listed.size = ops.size → leftOf listed ≤ fuel → (¬ Listed listed c → F0 w) → (Listed listed c → F1 w) → Same ops a0 a →
      (∀ k, Listed listed k → R k (slotOf ops a)) → (∀ k o, ops[k]? = some o → Listed listed k → ∀ e ∈ o.after, Region.binds md e = true → Listed listed e.on) →
      wpAny P md ops Q fuel listed a w
  | 0, listed, a, w, hs, hl, h0, h1, hS, hR, _ => by
    have hr : Region.ready md ops listed = [] := ready_nil_of_left hs (by omega)
    exact ⟨hr, hend a w (h1 (hdone listed hs hr c hc)) hS fun k hk => hR k (hdone listed hs hr k hk)⟩
  | fuel + 1, listed, a, w, hs, hl, h0, h1, hS, hR, hD => by
    refine ⟨fun hr => hend a w (h1 (hdone listed hs hr c hc)) hS fun k hk => hR k (hdone listed hs hr k hk), fun i hi => ?_⟩
    obtain ⟨hlt, hun, haft⟩ := unlisted_of_ready hi
    have ho : ops[i]? = some ops[i] := by simp [hlt]
    have hlti : i < listed.size := by omega
    have hnot : ¬ Listed listed i := by
      intro hl'
      have := not_listed_of_getD hun
      rw [Listed, this] at hl'
      cases hl'
    have hlisted : ∀ k, Listed (listed.setIfInBounds i true) k → k = i ∨ Listed listed k := by
      intro k hk
      by_cases e : k = i
      · exact .inl e
      · refine .inr ?_
        rw [Listed, Array.getElem?_setIfInBounds, if_neg (fun h => e h.symm)] at hk
        exact hk
    have hback : ∀ k, Listed listed k → Listed (listed.setIfInBounds i true) k := by
      intro k hk
      rw [Listed, Array.getElem?_setIfInBounds]
      by_cases h1 : i = k
      · rw [if_pos h1, if_pos hlti]
      · rw [if_neg h1]; exact hk
    have hself : Listed (listed.setIfInBounds i true) i := by
      rw [Listed, Array.getElem?_setIfInBounds, if_pos rfl, if_pos hlti]
    unfold wpOp
    rw [ho]
    simp only []
    rw [if_pos (by simp [Region.wanted, hguard i _ ho])]
    have hgo : ops[i].wp P a w (fun a' w' => (¬ Listed (listed.setIfInBounds i true) c → F0 w') ∧ (Listed (listed.setIfInBounds i true) c → F1 w') ∧ ∃ v, a' = a.put ops[i].dst v ∧ R i (slotOf ops a')) Q := by
      by_cases e : i = c
      · subst e
        refine Oper.wp_mono ?_ (hcall _ ho a w (h0 hnot) hS (fun e he hb => hR _ (haft _ ho e he hb)))
        rintro a' w' ⟨hF, hv⟩
        exact ⟨fun h => absurd hself h, fun _ => hF, hv⟩
      · have hF : F0 w ∨ F1 w := by
          by_cases hl : Listed listed c
          · exact .inr (h1 hl)
          · exact .inl (h0 hl)
        refine Oper.wp_mono ?_ (hob i _ e ho a w hF hS (fun e he hb => hR _ (haft _ ho e he hb)))
        rintro a' w' ⟨rfl, hv⟩
        exact ⟨fun h => h0 fun h' => h (hback c h'), fun h => h1 ((hlisted c h).resolve_left fun e' => e e'.symm), hv⟩
    refine Or.inl (Oper.wp_mono ?_ hgo)
    rintro a' w' ⟨hF0, hF1, v, rfl, hRi⟩
    have hslot : ∀ k, Listed listed k → slotOf ops (a.put ops[i].dst v) k = slotOf ops a k := by
      intro k hk
      unfold slotOf
      cases hd : (ops[k]?).bind (·.dst) with
      | none => rfl
      | some d =>
        simp only []
        rw [getD_put, if_neg]
        rintro ⟨h1, _⟩
        have : i = k := hdst i k d (by rw [ho]; exact h1) hd
        exact hnot (this ▸ hk)
    refine wpAny_slots3 a0 c F0 F1 R hguard hdst hloc hob hcall hc hdone hend fuel _ _ w' (by simpa using hs) ?_ hF0 hF1 (hS.put ho v) ?_ ?_
    · have := leftOf_set hlti hun; omega
    · intro k hk
      rcases hlisted k hk with rfl | hk
      · exact hRi
      · refine hloc k (slotOf ops a) _ (fun o hok j hj => ?_) (hR k hk)
        rcases hj with rfl | ⟨e, he, hb, rfl⟩
        · exact (hslot _ hk).symm
        · exact (hslot _ (hD k o hok hk e he hb)).symm
    · intro k o hok hk e he hb
      rcases hlisted k hk with rfl | hk
      · exact hback _ (haft o hok e he hb)
      · exact hback _ (hD k o hok hk e he hb)

/-- THE RULE, for a region of the program. -/
theorem wp_region_slots3 {id : Nat} {w : World} (a0 : Act) (c : Nat) (hm : P.follows .mixedOrders = true) (hp : plainB ops = true) (hc : c < ops.size) (F0 F1 : World → Prop) (R : Nat → (Nat → Value) → Prop)
    (hloc : ∀ k s s', (∀ o, ops[k]? = some o → ∀ j, (j = k ∨ ∃ e ∈ o.after, Region.binds .any e = true ∧ e.on = j) → s j = s' j) → R k s → R k s')
    (hF : F0 w.drew)
    (hob : ∀ (i : Nat) o, i ≠ c → ops[i]? = some o → ∀ a w, F0 w ∨ F1 w → Same ops a0 a → (∀ e ∈ o.after, Region.binds .any e = true → R e.on (slotOf ops a)) →
      o.wp P a w (fun a' w' => w' = w ∧ ∃ v, a' = a.put o.dst v ∧ R i (slotOf ops a')) Q)
    (hcall : ∀ o, ops[c]? = some o → ∀ a w, F0 w → Same ops a0 a → (∀ e ∈ o.after, Region.binds .any e = true → R e.on (slotOf ops a)) →
      o.wp P a w (fun a' w' => F1 w' ∧ ∃ v, a' = a.put o.dst v ∧ R c (slotOf ops a')) Q)
    (hend : ∀ a w, F1 w → Same ops a0 a → (∀ k, k < ops.size → R k (slotOf ops a)) → Q .normal a w) : (Code.region id ops true).wp P Q a0 w := by
  refine wp_region_any hm ?_
  refine wpAny_slots3 (md := .any) a0 c F0 F1 R (plain_guard hp) (plain_dst hp) hloc hob hcall hc (plain_done hp) hend _ _ _ _ (by simp) ?_ (fun _ => hF) (fun h => ?_) ⟨rfl, rfl, fun _ _ => rfl⟩ (fun k hk => ?_) (fun k o _ hk => ?_)
  · unfold leftOf
    have := List.countP_le_length (p := fun b => !b) (l := (Array.replicate ops.size false).toList)
    simpa using this
  · simp [Listed, Array.getElem?_replicate] at h
  · simp [Listed, Array.getElem?_replicate] at hk
  · simp [Listed, Array.getElem?_replicate] at hk
end
end Go.Proofs.YtldeiiffabfmeaaGreatDoor
