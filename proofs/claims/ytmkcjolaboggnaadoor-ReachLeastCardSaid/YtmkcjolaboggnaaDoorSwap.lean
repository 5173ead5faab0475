/- A region that draws its order, reads a variable that lies below and stores into it: an operation that the store waits for, by way of others too, knows that the store is still to come. -/
import Derived.Test.YtmkcjolaboggnaaDoorSoftV
namespace Go.Proofs.YtmkcjolaboggnaaDoor
set_option linter.unusedSimpArgs false
set_option linter.unusedVariables false
open Go.ChangeShapes Go.WideShapes Go.ChangeAt Go.RowKit Go.Joins

structure SwapInv (ops : Array Oper) (a : Act) (ds : List (Option Nat)) (Φ : Nat → (Nat → Value) → World → Prop) (R : Bool → World → Prop) (is : Nat) (b : Array Bool) (a' : Act) (w' : World) : Prop where
  world : R (b.getD is false) w'
  bsize : b.size = ops.size
  defers : a'.defers = a.defers
  size : a'.tmps.size = a.tmps.size
  same : ∀ t, some t ∉ ds → a'.tmps[t]? = a.tmps[t]?
  closed : ∀ j o, ops[j]? = some o → b.getD j false = true → ∀ e ∈ o.after, Region.binds .any e = true → b.getD e.on false = true
  facts : ∀ i, b.getD i false = true → Φ i (slotVals a' ds) w'
section
variable {P : Program} {l : List Oper} {Q : Exit → Act → World → Prop} {a : Act} {ds : List (Option Nat)} {Φ : Nat → (Nat → Value) → World → Prop} {R : Bool → World → Prop} {is : Nat} {anc : Nat → Bool} {Per : Nat → World → World → Prop}
theorem swapR_any (hD : depsAllB l.toArray = true) (hds : l.map (·.dst) = ds) (hnd : ∀ (j k : Nat) (d : Nat), ds[j]? = some (some d) → ds[k]? = some (some d) → j = k) (hsz : ∀ d, some d ∈ ds → d < a.tmps.size)
    (hper : ∀ i j V v w w', i ≠ j → (∀ o, l.toArray[j]? = some o → (o.after.any fun e => Region.binds .any e && e.on == i) = false) → (∃ c, R c w) → Per i w w' → Φ j V w → Φ j (upd V i v) w')
    (hstep : ∀ i o, l.toArray[i]? = some o → ∀ (c : Bool) (a' : Act) (w' : World), ((i = is ∨ anc i = true) → c = false) → R c w' → (∀ t, some t ∉ ds → a'.tmps.getD t undef = a.tmps.getD t undef) →
      (∀ j, (o.after.any fun e => Region.binds .any e && e.on == j) = true → Φ j (slotVals a' ds) w') →
      ∀ K : Act → World → Prop, (∀ v w'', R (if i = is then true else c) w'' → Per i w' w'' → Φ i (upd (slotVals a' ds) i (valOf o v)) w'' → K (a'.put o.dst v) w'') → o.wp P a' w' K Q)
    (hanc : ∀ i, anc i = true → ∃ k o, l.toArray[k]? = some o ∧ i < k ∧ (k = is ∨ anc k = true) ∧ (o.after.any fun e => Region.binds .any e && e.on == i) = true) (hisl : is < l.length)
    (hend : ∀ a' w', R true w' → a'.defers = a.defers → a'.tmps.size = a.tmps.size → (∀ t, some t ∉ ds → a'.tmps[t]? = a.tmps[t]?) → (∀ i, i < l.length → Φ i (slotVals a' ds) w') → Q .normal a' w') :
    ∀ (f : Nat) (b : Array Bool) (a' : Act) (w' : World), SwapInv l.toArray a ds Φ R is b a' w' → unl b l.length = f → wpAny P .any l.toArray Q f b a' w' := by
  have hdep : ∀ i, i < l.length → ∃ o, l.toArray[i]? = some o ∧ o.guard = none ∧ ∀ e ∈ o.after, Region.binds .any e = true → e.on < i := by
    intro i hi
    have h1 := List.all_eq_true.1 hD i (List.mem_range.2 (by simpa using hi))
    cases ho : l.toArray[i]? with
    | none => simp only [ho] at h1; cases h1
    | some o =>
      simp only [ho, Bool.and_eq_true, Option.isNone_iff_eq_none] at h1
      refine ⟨o, rfl, h1.1, fun e he hb => ?_⟩
      have := (Array.all_eq_true'.1 h1.2) e he
      rw [hb] at this
      simpa using this
  have hgf : ∀ (b : Array Bool) i, i < b.size → b.getD i true = b.getD i false := fun b i hi => by simp [hi]
  intro f
  induction f with
  | zero =>
    intro b a' w' inv hu
    have hall := unl_none hu
    have hbs := inv.bsize
    have hbis : b.getD is false = true := by
      have := hall is hisl
      rwa [hgf b is (by rw [hbs]; simpa using hisl)] at this
    have hw := inv.world
    rw [hbis] at hw
    refine ⟨?_, hend a' w' hw inv.defers inv.size inv.same fun i hi => inv.facts i (by rw [← hgf b i (by rw [hbs]; simpa using hi)]; exact hall i hi)⟩
    cases hr : Region.ready .any l.toArray b with
    | nil => rfl
    | cons i r =>
      have hi : i ∈ Region.ready .any l.toArray b := by rw [hr]; simp
      obtain ⟨hun, o, ho, -⟩ := mem_ready.1 hi
      have hil : i < l.length := by
        rcases Nat.lt_or_ge i l.length with h | h
        · exact h
        · simp [h] at ho
      rw [hall i hil] at hun; cases hun
  | succ f ih =>
    intro b a' w' inv hu
    have hbs := inv.bsize
    obtain ⟨i0, h0, hb0, hmin⟩ := unl_some (b := b) (k := l.length) (by omega)
    have hbsz : ∀ i, i < l.length → i < b.size := fun i hi => by rw [hbs]; simpa using hi
    have hready : i0 ∈ Region.ready .any l.toArray b := by
      obtain ⟨o, ho, -, hd⟩ := hdep i0 h0
      refine mem_ready.2 ⟨hb0, o, ho, fun e he hb => ?_⟩
      have h2 := hd e he hb
      rw [← hgf b e.on (hbsz _ (by omega))]
      exact hmin e.on h2
    refine ⟨fun h => (by rw [h] at hready; cases hready), fun i hi => ?_⟩
    obtain ⟨hun, o, ho, hall⟩ := mem_ready.1 hi
    have hin : i < l.length := by
      rcases Nat.lt_or_ge i l.length with h | h
      · exact h
      · simp [h] at ho
    obtain ⟨o', ho', hgd, -⟩ := hdep i hin
    have : o' = o := Option.some.inj (ho'.symm.trans ho)
    subst this
    unfold wpOp
    simp only [ho]
    rw [if_pos (by simp [Region.wanted, hgd])]
    have hdi : ds[i]? = some o'.dst := by
      rw [← hds, List.getElem?_map]
      have : l[i]? = some o' := by simpa using ho
      rw [this]; rfl
    have hunF : b.getD i false = false := by rw [← hgf b i (hbsz i hin)]; exact hun
    have hancD : ∀ (m j : Nat), l.length - j = m → anc j = true → b.getD is false = true → b.getD j false = true := by
      intro m
      induction m using Nat.strongRecOn with
      | _ m ihm =>
        intro j hjm hj hbis
        obtain ⟨k, x, hx, hjk, hk, hany⟩ := hanc j hj
        have hkl : k < l.length := by
          rcases Nat.lt_or_ge k l.length with h | h
          · exact h
          · simp [h] at hx
        have hbk : b.getD k false = true := by
          rcases hk with rfl | hk
          · exact hbis
          · exact ihm (l.length - k) (by omega) k rfl hk hbis
        obtain ⟨e, he, h2⟩ := Array.any_eq_true'.1 hany
        simp only [Bool.and_eq_true, beq_iff_eq] at h2
        have h3 := inv.closed k x hx hbk e he h2.1
        rwa [h2.2] at h3
    have hfirst : (i = is ∨ anc i = true) → b.getD is false = false := fun h => by
      rcases h with rfl | h
      · exact hunF
      · cases hbis : b.getD is false with
        | false => rfl
        | true =>
          have := hancD _ i rfl h hbis
          rw [hunF] at this
          cases this
    refine .inl (hstep i o' ho (b.getD is false) a' w' hfirst inv.world (fun t ht => ?_) (fun j ha => ?_) _ fun v w'' hR hp hv => ?_)
    · have := inv.same t ht
      rw [Array.getD_eq_getD_getElem?, Array.getD_eq_getD_getElem?, this]
    · obtain ⟨e, he, h2⟩ := Array.any_eq_true'.1 ha
      simp only [Bool.and_eq_true, beq_iff_eq] at h2
      have h3 := hall e he h2.1
      rw [h2.2] at h3
      exact inv.facts j h3
    · have hib := hbsz i hin
      have hdl : ∀ d, o'.dst = some d → d < a'.tmps.size := fun d hd => by rw [inv.size]; exact hsz d (by rw [← hd]; exact List.mem_of_getElem? hdi)
      have hsv := slotVals_put (a' := a') hdi hnd hdl v
      have hset : ∀ j, (b.setIfInBounds i true).getD j false = true → j = i ∨ j ≠ i ∧ b.getD j false = true := fun j hj => by
        by_cases e : j = i
        · exact .inl e
        · refine .inr ⟨e, ?_⟩
          rwa [getD_set_ne false (fun h => e h.symm)] at hj
      have hmono : ∀ j, b.getD j false = true → (b.setIfInBounds i true).getD j false = true := fun j hj => by
        by_cases e : j = i
        · subst e; simp [hib]
        · rwa [getD_set_ne false (fun h => e h.symm)]
      have hR' : R ((b.setIfInBounds i true).getD is false) w'' := by
        by_cases e : i = is
        · subst e
          rw [if_pos rfl] at hR
          have : (b.setIfInBounds i true).getD i false = true := by simp [hib]
          rw [this]; exact hR
        · rw [if_neg e] at hR
          rw [getD_set_ne false e]; exact hR
      refine ih _ _ _ ⟨hR', by rw [Array.size_setIfInBounds]; exact hbs, ?_, ?_, fun t ht => ?_, fun j x hx hj e he hbd => ?_, fun j hj => ?_⟩ (by have := unl_set hun hin; omega)
      · cases o'.dst <;> exact inv.defers
      · cases hdd : o'.dst with
        | none => exact inv.size
        | some d =>
          show (a'.tmps.setIfInBounds d v).size = _
          rw [Array.size_setIfInBounds]; exact inv.size
      · cases hdd : o'.dst with
        | none => exact inv.same t ht
        | some d =>
          show (a'.tmps.setIfInBounds d v)[t]? = _
          rw [Array.getElem?_setIfInBounds_ne (show d ≠ t from fun e => ht (by rw [← e, ← hdd]; exact List.mem_of_getElem? hdi))]
          exact inv.same t ht
      · rcases hset j hj with rfl | ⟨-, hj'⟩
        · have : x = o' := Option.some.inj (hx.symm.trans ho)
          subst this
          exact hmono _ (hall e he hbd)
        · exact hmono _ (inv.closed j x hx hj' e he hbd)
      · rw [hsv]
        rcases hset j hj with rfl | ⟨hne, hj'⟩
        · exact hv
        · refine hper i j _ _ w' w'' (fun h => hne h.symm) (fun x hx => ?_) ⟨_, inv.world⟩ hp (inv.facts j hj')
          cases hany : (x.after.any fun e => Region.binds .any e && e.on == i) with
          | false => rfl
          | true =>
            obtain ⟨e, he, h2⟩ := Array.any_eq_true'.1 hany
            simp only [Bool.and_eq_true, beq_iff_eq] at h2
            have h3 := inv.closed j x hx hj' e he h2.1
            rw [h2.2, ← hgf b i hib, hun] at h3
            cases h3
end
/-- What the store waits for: each of 'anc' is waited for by the store, or by a later one of 'anc' ('nx'). -/
def ancOK (ops : Array Oper) (is : Nat) (anc nx : List Nat) : Bool := anc.all fun i => match ops[nx.getD i 0]? with | some o => (o.after.any fun e => Region.binds .any e && e.on == i) && (nx.getD i 0 == is || anc.contains (nx.getD i 0)) && decide (i < nx.getD i 0) | none => false
def swapStep (P : Program) (Q : Exit → Act → World → Prop) (a : Act) (W : World) (G is : Nat) (anc : List Nat) (ds : List (Option Nat)) (pv : List (Value → World → Prop)) (i : Nat) (o : Oper) : Prop :=
  if i = is then ∀ (a' : Act) (w' : World), Below W.heap.size W w' → (∀ t, some t ∉ ds → a'.tmps[t]?.getD undef = a.tmps[t]?.getD undef) →
      (∀ j d, (o.after.any fun e => Region.binds .any e && e.on == j) = true → ds[j]? = some (some d) → pv.getD j (fun _ _ => True) (a'.tmps[d]?.getD undef) w') →
      ∀ K : Act → World → Prop, (∀ v w'', Aside (fun k => k = G) w' w'' → allP (fun p => ∀ v, p v w' → p v w'') pv → pv.getD i (fun _ _ => True) (valOf o v) w'' → K (a'.put o.dst v) w'') → o.wp P a' w' K Q
  else if anc.contains i = true then ∀ (a' : Act) (w' : World), Below W.heap.size W w' → (∀ t, some t ∉ ds → a'.tmps[t]?.getD undef = a.tmps[t]?.getD undef) →
      (∀ j d, (o.after.any fun e => Region.binds .any e && e.on == j) = true → ds[j]? = some (some d) → pv.getD j (fun _ _ => True) (a'.tmps[d]?.getD undef) w') →
      ∀ K : Act → World → Prop, (∀ v w'', Below w'.heap.size w' w'' → pv.getD i (fun _ _ => True) (valOf o v) w'' → K (a'.put o.dst v) w'') → o.wp P a' w' K Q
  else ∀ (a' : Act) (w' : World), (∀ t, some t ∉ ds → a'.tmps[t]?.getD undef = a.tmps[t]?.getD undef) →
      (∀ j d, (o.after.any fun e => Region.binds .any e && e.on == j) = true → ds[j]? = some (some d) → pv.getD j (fun _ _ => True) (a'.tmps[d]?.getD undef) w') →
      ∀ K : Act → World → Prop, (∀ v, pv.getD i (fun _ _ => True) (valOf o v) w' → K (a'.put o.dst v) w') → o.wp P a' w' K Q
theorem wp_swap_pv {P : Program} {l : List Oper} {Q : Exit → Act → World → Prop} {a : Act} {W : World} {id : Nat} (G is : Nat) (anc nx : List Nat) (ds : List (Option Nat)) (ts : List Nat) (pv : List (Value → World → Prop)) (k : Nat) (hm : P.follows .mixedOrders = true) (hD : depsAllB l.toArray = true) (hds : l.map (·.dst) = ds) (hts : (ds.filterMap fun x => x) = ts) (hnd : nodupB ds = true) (hlt : ltB k ds = true) (hk : k ≤ a.tmps.size)
    (hanc : ancOK l.toArray is anc nx = true) (hisl : is < l.length)
    (hPB : allP (fun p => ∀ v w w', p v w → Below w.heap.size w w' → p v w') pv)
    (hstep : stepsF (swapStep P Q a W G is anc ds pv) 0 l)
    (hend : ∀ (X : Nat → Value) (w' : World), Aside (fun k => k = G) W w' → (∀ i d, ds[i]? = some (some d) → pv.getD i (fun _ _ => True) (X d) w') → (∀ i, ds[i]? = some none → pv.getD i (fun _ _ => True) undef w') → Q .normal (puts ts (ts.map X) a) w') :
    (Code.region id l.toArray true).wp P Q a W := by
  have hsz : ∀ d, some d ∈ ds → d < a.tmps.size := fun d hd => by have := lt_of_ltB hlt d hd; omega
  have hND := nodup_of hnd
  have hst : ∀ i o, l.toArray[i]? = some o → swapStep P Q a W G is anc ds pv i o := fun i o ho => by
    have := steps_get l 0 i o hstep (by simpa using ho)
    rwa [Nat.zero_add] at this
  have hPB' : ∀ j v w w', pv.getD j (fun _ _ => True) v w → Below w.heap.size w w' → pv.getD j (fun _ _ => True) v w' := fun j => allP_get (C := fun p => ∀ v w w', p v w → Below w.heap.size w w' → p v w') (fun _ _ _ _ _ => trivial) pv j hPB
  have hl : ∀ (i : Nat) (x : Option Nat), ds[i]? = some x → i < l.length := fun i x hd => by
    have := (List.getElem?_eq_some_iff.1 hd).1
    rw [← hds] at this
    simpa using this
  refine wp_region_any hm ?_
  have hz : ∀ j, (Array.replicate l.toArray.size false).getD j false = false := fun j => by
    by_cases h : j < l.length
    · simp [h]
    · simp [h]
  have H := swapR_any (P := P) (l := l) (Q := Q) (a := a) (ds := ds) (is := is) (anc := fun i => anc.contains i) (Φ := fun i V w => pv.getD i (fun _ _ => True) (V i) w) (R := fun c w' => if c = true then Aside (fun k => k = G) W w' else Below W.heap.size W w') (Per := fun i w w' => if i = is then allP (fun p => ∀ v, p v w → p v w') pv else Below w.heap.size w w') hD hds hND hsz
    (fun i j V v w w' hne _ _ hp hv => by
      show pv.getD j _ (upd V i v j) w'
      rw [upd_other _ _ (fun h => hne h.symm)]
      by_cases e : i = is
      · rw [if_pos e] at hp
        exact allP_get (C := fun p => ∀ v, p v w → p v w') (fun _ _ => trivial) pv j hp _ hv
      · rw [if_neg e] at hp
        exact hPB' j _ _ _ hv hp)
    (fun i o ho c a' w' hc hR hsame hdep K hK => by
      have hs := hst i o ho
      have hsame' : ∀ t, some t ∉ ds → a'.tmps[t]?.getD undef = a.tmps[t]?.getD undef := fun t ht => by have := hsame t ht; rwa [Array.getD_eq_getD_getElem?, Array.getD_eq_getD_getElem?] at this
      have hdep' : ∀ j d, (o.after.any fun e => Region.binds .any e && e.on == j) = true → ds[j]? = some (some d) → pv.getD j (fun _ _ => True) (a'.tmps[d]?.getD undef) w' := fun j d ha hd => by
        have := hdep j ha
        rwa [slotVals_at hd] at this
      unfold swapStep at hs
      by_cases e : i = is
      · obtain rfl := hc (.inl e)
        rw [if_pos e] at hs
        rw [if_neg (by decide)] at hR
        refine hs a' w' hR hsame' hdep' K fun v w'' hA hk hv => hK v w'' ?_ ?_ ?_
        · rw [if_pos e, if_pos rfl]; exact (Aside.of hR).trans hA
        · rw [if_pos e]; exact hk
        · show pv.getD i _ (upd _ i _ i) w''
          rw [upd_self]; exact hv
      · rw [if_neg e] at hs
        by_cases ea : anc.contains i = true
        · obtain rfl := hc (.inr ea)
          rw [if_pos ea] at hs
          rw [if_neg (by decide)] at hR
          refine hs a' w' hR hsame' hdep' K fun v w'' hb hv => hK v w'' ?_ ?_ ?_
          · rw [if_neg e, if_neg (by decide)]; exact hR.trans (hb.mono hR.size)
          · rw [if_neg e]; exact hb
          · show pv.getD i _ (upd _ i _ i) w''
            rw [upd_self]; exact hv
        · rw [if_neg ea] at hs
          refine hs a' w' hsame' hdep' K fun v hv => hK v w' ?_ ?_ ?_
          · rw [if_neg e]; exact hR
          · rw [if_neg e]; exact Below.refl _ _
          · show pv.getD i _ (upd _ i _ i) w'
            rw [upd_self]; exact hv)
    (fun i hi => by
      have h1 := List.all_eq_true.1 hanc i (by simpa using hi)
      cases ho : l.toArray[nx.getD i 0]? with
      | none => simp only [ho] at h1; cases h1
      | some o =>
        simp only [ho, Bool.and_eq_true, Bool.or_eq_true, beq_iff_eq, decide_eq_true_eq] at h1
        exact ⟨_, o, ho, h1.2, h1.1.2, h1.1.1⟩) hisl
    (fun a' w' hR hdf hsz' hsame hf => by
      rw [if_pos rfl] at hR
      rw [← hts] at hend
      have hputs := puts_of (ds.filterMap fun x => x) a hdf hsz' (fun t ht => by
        obtain ⟨x, hx, rfl⟩ := List.mem_filterMap.1 ht
        exact hsz _ hx) (fun t ht => hsame t (fun h => ht (List.mem_filterMap.2 ⟨_, h, rfl⟩)))
      have h := hend (fun t => a'.tmps.getD t undef) w' hR (fun i d hd => by
        have := hf i (hl i _ hd)
        rw [slotVals_at hd] at this
        rw [Array.getD_eq_getD_getElem?]
        exact this) (fun i hd => by
        have := hf i (hl i _ hd)
        have e : slotVals a' ds i = undef := by unfold slotVals; rw [hd]
        rwa [e] at this)
      rw [← hputs] at h
      exact h) l.toArray.size (Array.replicate l.toArray.size false) a { W with drawn := W.drawn + 1 }
    ⟨by rw [hz, if_neg (by decide)]; exact (Below.refl _ _).drew, by simp, rfl, rfl, fun _ _ => rfl, fun j o _ h => (by rw [hz] at h; cases h), fun i h => (by rw [hz] at h; cases h)⟩ (by rw [show l.toArray.size = l.length by simp]; exact unl_start _ (Nat.le_refl _))
  exact H
end Go.Proofs.YtmkcjolaboggnaaDoor
