/- A region that draws its order, with guards, whose operations read and call what makes new memory: each operation told by itself, out of those that it waits for; what is passed over ('skip') is known ahead. -/
import Derived.Test.YtonjnedlnfdanaaDoorWhole
namespace Go.Proofs.YtonjnedlnfdanaaDoor
set_option linter.unusedSimpArgs false
set_option linter.unusedVariables false
open Go.ChangeShapes Go.WideShapes Go.ChangeAt Go.RowKit

/-- Each waits for earlier ones alone; a guard is among them. -/
def depsGB (ops : Array Oper) : Bool := (List.range ops.size).all fun i => match ops[i]? with | some o => (match o.guard with | none => true | some (g, _) => o.after.any fun e => Region.binds .any e && e.on == g) && o.after.all fun e => !Region.binds .any e || decide (e.on < i) | none => false
structure ToldInv (ops : Array Oper) (a : Act) (ds : List (Option Nat)) (Φ : Nat → Value → Prop) (skip : Nat → Bool) (W : World) (b : Array Bool) (a' : Act) (w' : World) : Prop where
  world : Below W.heap.size W w'
  bsize : b.size = ops.size
  defers : a'.defers = a.defers
  size : a'.tmps.size = a.tmps.size
  same : ∀ t, some t ∉ ds → a'.tmps[t]? = a.tmps[t]?
  facts : ∀ i, b.getD i false = true → skip i = false → Φ i (slotVals a' ds i)
section
variable {P : Program} {l : List Oper} {Q : Exit → Act → World → Prop} {a : Act} {ds : List (Option Nat)} {Φ : Nat → Value → Prop} {skip : Nat → Bool} {W : World}
theorem told_any (hD : depsGB l.toArray = true) (hds : l.map (·.dst) = ds) (hnd : ∀ (j k : Nat) (d : Nat), ds[j]? = some (some d) → ds[k]? = some (some d) → j = k) (hsz : ∀ d, some d ∈ ds → d < a.tmps.size)
    (hgd : ∀ i o g bb, l.toArray[i]? = some o → o.guard = some (g, bb) → skip g = false ∧ (∃ d, ds[g]? = some (some d)) ∧ ∀ v, Φ g v → v = .bool (if skip i = true then !bb else bb))
    (hskip : ∀ i o, l.toArray[i]? = some o → o.guard = none → skip i = false)
    (hstep : ∀ i o, l.toArray[i]? = some o → skip i = false → ∀ (a' : Act) (w' : World), Below W.heap.size W w' → (∀ t, some t ∉ ds → a'.tmps.getD t undef = a.tmps.getD t undef) →
      (∀ j, (o.after.any fun e => Region.binds .any e && e.on == j) = true → skip j = false → Φ j (slotVals a' ds j)) →
      ∀ K : Act → World → Prop, (∀ v w'', Below W.heap.size W w'' → Φ i (valOf o v) → K (a'.put o.dst v) w'') → o.wp P a' w' K Q)
    (hend : ∀ a' w', Below W.heap.size W w' → a'.defers = a.defers → a'.tmps.size = a.tmps.size → (∀ t, some t ∉ ds → a'.tmps[t]? = a.tmps[t]?) → (∀ i, i < l.length → skip i = false → Φ i (slotVals a' ds i)) → Q .normal a' w') :
    ∀ (f : Nat) (b : Array Bool) (a' : Act) (w' : World), ToldInv l.toArray a ds Φ skip W b a' w' → unl b l.length = f → wpAny P .any l.toArray Q f b a' w' := by
  have hdep : ∀ i, i < l.length → ∃ o, l.toArray[i]? = some o ∧ (∀ g bb, o.guard = some (g, bb) → (o.after.any fun e => Region.binds .any e && e.on == g) = true) ∧ ∀ e ∈ o.after, Region.binds .any e = true → e.on < i := by
    intro i hi
    have h1 := List.all_eq_true.1 hD i (List.mem_range.2 (by simpa using hi))
    cases ho : l.toArray[i]? with
    | none => simp only [ho] at h1; cases h1
    | some o =>
      simp only [ho, Bool.and_eq_true] at h1
      refine ⟨o, rfl, fun g bb hg => ?_, fun e he hb => ?_⟩
      · have := h1.1
        rw [hg] at this
        exact this
      · have := (Array.all_eq_true'.1 h1.2) e he
        rw [hb] at this
        simpa using this
  have hgf : ∀ (b : Array Bool) i, i < b.size → b.getD i true = b.getD i false := fun b i hi => by simp [hi]
  intro f
  induction f with
  | zero =>
    intro b a' w' inv hu
    have hall := unl_none hu
    have hbs := inv.bsize
    refine ⟨?_, hend a' w' inv.world inv.defers inv.size inv.same fun i hi hk => inv.facts i (by rw [← hgf b i (by rw [hbs]; simpa using hi)]; exact hall i hi) hk⟩
    cases hr : Region.ready .any l.toArray b with
    | nil => rfl
    | cons i r =>
      have hi : i ∈ Region.ready .any l.toArray b := by rw [hr]; simp
      obtain ⟨hun, o, ho, -⟩ := mem_ready.1 hi
      have hil : i < l.length := by
        rcases Nat.lt_or_ge i l.length with h | h
        · exact h
        · simp [h] at ho
      rw [hall i hil] at hun; cases hun
  | succ f ih =>
    intro b a' w' inv hu
    have hbs := inv.bsize
    obtain ⟨i0, h0, hb0, hmin⟩ := unl_some (b := b) (k := l.length) (by omega)
    have hbsz : ∀ i, i < l.length → i < b.size := fun i hi => by rw [hbs]; simpa using hi
    have hready : i0 ∈ Region.ready .any l.toArray b := by
      obtain ⟨o, ho, -, hd⟩ := hdep i0 h0
      refine mem_ready.2 ⟨hb0, o, ho, fun e he hb => ?_⟩
      have h2 := hd e he hb
      rw [← hgf b e.on (hbsz _ (by omega))]
      exact hmin e.on h2
    refine ⟨fun h => (by rw [h] at hready; cases hready), fun i hi => ?_⟩
    obtain ⟨hun, o, ho, hall⟩ := mem_ready.1 hi
    have hin : i < l.length := by
      rcases Nat.lt_or_ge i l.length with h | h
      · exact h
      · simp [h] at ho
    obtain ⟨o', ho', hgd', -⟩ := hdep i hin
    have : o' = o := Option.some.inj (ho'.symm.trans ho)
    subst this
    have hdi : ds[i]? = some o'.dst := by
      rw [← hds, List.getElem?_map]
      have : l[i]? = some o' := by simpa using ho
      rw [this]; rfl
    have hib := hbsz i hin
    have hset : ∀ j, (b.setIfInBounds i true).getD j false = true → j = i ∨ j ≠ i ∧ b.getD j false = true := fun j hj => by
      by_cases e : j = i
      · exact .inl e
      · refine .inr ⟨e, ?_⟩
        rwa [getD_set_ne false (fun h => e h.symm)] at hj
    have hwant : Region.wanted o' (yielded l.toArray a'.tmps) = !skip i := by
      cases hg : o'.guard with
      | none => rw [hskip i o' ho hg]; simp [Region.wanted, hg]
      | some x =>
        obtain ⟨g, bb⟩ := x
        obtain ⟨k0, ⟨d, hd⟩, k1⟩ := hgd i o' g bb ho hg
        obtain ⟨e, he, h2⟩ := Array.any_eq_true'.1 (hgd' g bb hg)
        simp only [Bool.and_eq_true, beq_iff_eq] at h2
        have h3 := hall e he h2.1
        rw [h2.2] at h3
        have hv := k1 _ (inv.facts g h3 k0)
        have hdl : d < a'.tmps.size := by rw [inv.size]; exact hsz d (List.mem_of_getElem? hd)
        have hsv : slotVals a' ds g = a'.tmps.getD d undef := by unfold slotVals; rw [hd]
        rw [hsv] at hv
        have hy : (l.toArray[g]?).bind (·.dst) = some d := by
          have : (l.map (·.dst))[g]? = some (some d) := by rw [hds]; exact hd
          rw [List.getElem?_map] at this
          cases hlg : l[g]? with
          | none => rw [hlg] at this; cases this
          | some og => rw [hlg] at this; simp at this; simp [hlg, this]
        have hyv : yielded l.toArray a'.tmps g = some (if skip i = true then !bb else bb) := by
          unfold yielded
          rw [hy]
          have ht : a'.tmps[d]? = some (a'.tmps.getD d undef) := by simp [hdl]
          simp only [Option.bind_some, ht, hv]
        unfold Region.wanted
        rw [hg]
        simp only [hyv]
        cases skip i <;> cases bb <;> rfl
    have hdl : ∀ d, o'.dst = some d → d < a'.tmps.size := fun d hd => by rw [inv.size]; exact hsz d (by rw [← hd]; exact List.mem_of_getElem? hdi)
    have hdf : ∀ v, (a'.put o'.dst v).defers = a.defers := fun v => by cases o'.dst <;> exact inv.defers
    have hsi : ∀ v, (a'.put o'.dst v).tmps.size = a.tmps.size := fun v => by
      cases hdd : o'.dst with
      | none => exact inv.size
      | some d =>
        show (a'.tmps.setIfInBounds d v).size = _
        rw [Array.size_setIfInBounds]; exact inv.size
    have hsm : ∀ v t, some t ∉ ds → (a'.put o'.dst v).tmps[t]? = a.tmps[t]? := fun v t ht => by
      cases hdd : o'.dst with
      | none => exact inv.same t ht
      | some d =>
        show (a'.tmps.setIfInBounds d v)[t]? = _
        rw [Array.getElem?_setIfInBounds_ne (show d ≠ t from fun e => ht (by rw [← e, ← hdd]; exact List.mem_of_getElem? hdi))]
        exact inv.same t ht
    unfold wpOp
    simp only [ho]
    cases hs : skip i with
    | true =>
      rw [hs] at hwant
      rw [if_neg (by simp [hwant])]
      have hsv := slotVals_put (a' := a') hdi hnd hdl undef
      refine ih _ _ _ ⟨inv.world, by rw [Array.size_setIfInBounds]; exact hbs, hdf undef, hsi undef, hsm undef, fun j hj hk => ?_⟩ (by have := unl_set hun hin; omega)
      rcases hset j hj with rfl | ⟨hne, hj'⟩
      · rw [hs] at hk; cases hk
      · rw [hsv]; unfold upd; rw [if_neg hne]; exact inv.facts j hj' hk
    | false =>
      rw [hs] at hwant
      rw [if_pos (by simp [hwant])]
      refine .inl (hstep i o' ho hs a' w' inv.world (fun t ht => ?_) (fun j ha hk => ?_) _ fun v w'' hR hv => ?_)
      · have := inv.same t ht
        rw [Array.getD_eq_getD_getElem?, Array.getD_eq_getD_getElem?, this]
      · obtain ⟨e, he, h2⟩ := Array.any_eq_true'.1 ha
        simp only [Bool.and_eq_true, beq_iff_eq] at h2
        have h3 := hall e he h2.1
        rw [h2.2] at h3
        exact inv.facts j h3 hk
      · have hsv := slotVals_put (a' := a') hdi hnd hdl v
        refine ih _ _ _ ⟨hR, by rw [Array.size_setIfInBounds]; exact hbs, hdf v, hsi v, hsm v, fun j hj hk => ?_⟩ (by have := unl_set hun hin; omega)
        rw [hsv]
        unfold upd
        rcases hset j hj with rfl | ⟨hne, hj'⟩
        · rw [if_pos rfl]; exact hv
        · rw [if_neg hne]; exact inv.facts j hj' hk
theorem wp_region_told {id : Nat} (ds : List (Option Nat)) (Φ : Nat → Value → Prop) (skip : Nat → Bool) (hm : P.follows .mixedOrders = true) (hD : depsGB l.toArray = true) (hds : l.map (·.dst) = ds) (hnd : ∀ (j k : Nat) (d : Nat), ds[j]? = some (some d) → ds[k]? = some (some d) → j = k) (hsz : ∀ d, some d ∈ ds → d < a.tmps.size)
    (hgd : ∀ i o g bb, l.toArray[i]? = some o → o.guard = some (g, bb) → skip g = false ∧ (∃ d, ds[g]? = some (some d)) ∧ ∀ v, Φ g v → v = .bool (if skip i = true then !bb else bb))
    (hskip : ∀ i o, l.toArray[i]? = some o → o.guard = none → skip i = false)
    (hstep : ∀ i o, l.toArray[i]? = some o → skip i = false → ∀ (a' : Act) (w' : World), Below W.heap.size W w' → (∀ t, some t ∉ ds → a'.tmps.getD t undef = a.tmps.getD t undef) →
      (∀ j, (o.after.any fun e => Region.binds .any e && e.on == j) = true → skip j = false → Φ j (slotVals a' ds j)) →
      ∀ K : Act → World → Prop, (∀ v w'', Below W.heap.size W w'' → Φ i (valOf o v) → K (a'.put o.dst v) w'') → o.wp P a' w' K Q)
    (hend : ∀ a' w', Below W.heap.size W w' → a'.defers = a.defers → a'.tmps.size = a.tmps.size → (∀ t, some t ∉ ds → a'.tmps[t]? = a.tmps[t]?) → (∀ i, i < l.length → skip i = false → Φ i (slotVals a' ds i)) → Q .normal a' w') :
    (Code.region id l.toArray true).wp P Q a W := by
  refine wp_region_any hm ?_
  have hz : ∀ j, (Array.replicate l.toArray.size false).getD j false = false := fun j => by
    by_cases h : j < l.length
    · simp [h]
    · simp [h]
  exact told_any (P := P) (Q := Q) (a := a) (Φ := Φ) (W := W) hD hds hnd hsz hgd hskip hstep hend l.toArray.size (Array.replicate l.toArray.size false) a { W with drawn := W.drawn + 1 }
    ⟨(Below.refl _ _).drew, by simp, rfl, rfl, fun _ _ => rfl, fun i h => (by rw [hz] at h; cases h)⟩ (by rw [show l.toArray.size = l.length by simp]; exact unl_start _ (Nat.le_refl _))
end
end Go.Proofs.YtonjnedlnfdanaaDoor
