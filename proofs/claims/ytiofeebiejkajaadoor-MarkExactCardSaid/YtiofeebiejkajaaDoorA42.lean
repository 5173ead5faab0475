/- A region that draws its order: a call that reads variables, and stores of what it answers into those very variables ('h, m = F(h, m, ..)'): what the call waits for knows that nothing is stored yet. -/
import Derived.Test.YtiofeebiejkajaaDoorA41
import Derived.Test.YtiofeebiejkajaaDoorA31
namespace Go.Proofs.YtiofeebiejkajaaDoor
set_option linter.unusedSimpArgs false
set_option linter.unusedVariables false
open Go.ChangeShapes Go.WideShapes Go.ChangeAt Go.RowKit Go.Joins

section
variable {P : Program} {l : List Oper} {Q : Exit → Act → World → Prop} {a : Act} {ds : List (Option Nat)} {Φ : Nat → (Nat → Value) → World → Prop} {R : Bool → World → Prop} {is : Nat} {anc dsc : Nat → Bool} {Per : Nat → World → World → Prop}
theorem swapR2_any (hD : depsAllB l.toArray = true) (hds : l.map (·.dst) = ds) (hnd : ∀ (j k : Nat) (d : Nat), ds[j]? = some (some d) → ds[k]? = some (some d) → j = k) (hsz : ∀ d, some d ∈ ds → d < a.tmps.size)
    (hper : ∀ i j V v w w', i ≠ j → (∀ o, l.toArray[j]? = some o → (o.after.any fun e => Region.binds .any e && e.on == i) = false) → (∃ c, R c w) → Per i w w' → Φ j V w → Φ j (upd V i v) w')
    (hstep : ∀ i o, l.toArray[i]? = some o → ∀ (c : Bool) (a' : Act) (w' : World), ((i = is ∨ anc i = true) → c = false) → (dsc i = true → c = true) → R c w' → (∀ t, some t ∉ ds → a'.tmps.getD t undef = a.tmps.getD t undef) →
      (∀ j, (o.after.any fun e => Region.binds .any e && e.on == j) = true → Φ j (slotVals a' ds) w') →
      ∀ K : Act → World → Prop, (∀ v w'', R (if i = is then true else c) w'' → Per i w' w'' → Φ i (upd (slotVals a' ds) i (valOf o v)) w'' → K (a'.put o.dst v) w'') → o.wp P a' w' K Q)
    (hanc : ∀ i, anc i = true → ∃ k o, l.toArray[k]? = some o ∧ i < k ∧ (k = is ∨ anc k = true) ∧ (o.after.any fun e => Region.binds .any e && e.on == i) = true) (hisl : is < l.length) (hdsc : ∀ i o, dsc i = true → l.toArray[i]? = some o → ∃ j, j < i ∧ (j = is ∨ dsc j = true) ∧ (o.after.any fun e => Region.binds .any e && e.on == j) = true)
    (hend : ∀ a' w', R true w' → a'.defers = a.defers → a'.tmps.size = a.tmps.size → (∀ t, some t ∉ ds → a'.tmps[t]? = a.tmps[t]?) → (∀ i, i < l.length → Φ i (slotVals a' ds) w') → Q .normal a' w') :
    ∀ (f : Nat) (b : Array Bool) (a' : Act) (w' : World), SwapInv l.toArray a ds Φ R is b a' w' → unl b l.length = f → wpAny P .any l.toArray Q f b a' w' := by
  have hdep : ∀ i, i < l.length → ∃ o, l.toArray[i]? = some o ∧ o.guard = none ∧ ∀ e ∈ o.after, Region.binds .any e = true → e.on < i := by
    intro i hi
    have h1 := List.all_eq_true.1 hD i (List.mem_range.2 (by simpa using hi))
    cases ho : l.toArray[i]? with
    | none => simp only [ho] at h1; cases h1
    | some o =>
      simp only [ho, Bool.and_eq_true, Option.isNone_iff_eq_none] at h1
      refine ⟨o, rfl, h1.1, fun e he hb => ?_⟩
      have := (Array.all_eq_true'.1 h1.2) e he
      rw [hb] at this
      simpa using this
  have hgf : ∀ (b : Array Bool) i, i < b.size → b.getD i true = b.getD i false := fun b i hi => by simp [hi]
  intro f
  induction f with
  | zero =>
    intro b a' w' inv hu
    have hall := unl_none hu
    have hbs := inv.bsize
    have hbis : b.getD is false = true := by
      have := hall is hisl
      rwa [hgf b is (by rw [hbs]; simpa using hisl)] at this
    have hw := inv.world
    rw [hbis] at hw
    refine ⟨?_, hend a' w' hw inv.defers inv.size inv.same fun i hi => inv.facts i (by rw [← hgf b i (by rw [hbs]; simpa using hi)]; exact hall i hi)⟩
    cases hr : Region.ready .any l.toArray b with
    | nil => rfl
    | cons i r =>
      have hi : i ∈ Region.ready .any l.toArray b := by rw [hr]; simp
      obtain ⟨hun, o, ho, -⟩ := mem_ready.1 hi
      have hil : i < l.length := by
        rcases Nat.lt_or_ge i l.length with h | h
        · exact h
        · simp [h] at ho
      rw [hall i hil] at hun; cases hun
  | succ f ih =>
    intro b a' w' inv hu
    have hbs := inv.bsize
    obtain ⟨i0, h0, hb0, hmin⟩ := unl_some (b := b) (k := l.length) (by omega)
    have hbsz : ∀ i, i < l.length → i < b.size := fun i hi => by rw [hbs]; simpa using hi
    have hready : i0 ∈ Region.ready .any l.toArray b := by
      obtain ⟨o, ho, -, hd⟩ := hdep i0 h0
      refine mem_ready.2 ⟨hb0, o, ho, fun e he hb => ?_⟩
      have h2 := hd e he hb
      rw [← hgf b e.on (hbsz _ (by omega))]
      exact hmin e.on h2
    refine ⟨fun h => (by rw [h] at hready; cases hready), fun i hi => ?_⟩
    obtain ⟨hun, o, ho, hall⟩ := mem_ready.1 hi
    have hin : i < l.length := by
      rcases Nat.lt_or_ge i l.length with h | h
      · exact h
      · simp [h] at ho
    obtain ⟨o', ho', hgd, -⟩ := hdep i hin
    have : o' = o := Option.some.inj (ho'.symm.trans ho)
    subst this
    unfold wpOp
    simp only [ho]
    rw [if_pos (by simp [Region.wanted, hgd])]
    have hdi : ds[i]? = some o'.dst := by
      rw [← hds, List.getElem?_map]
      have : l[i]? = some o' := by simpa using ho
      rw [this]; rfl
    have hunF : b.getD i false = false := by rw [← hgf b i (hbsz i hin)]; exact hun
    have hancD : ∀ (m j : Nat), l.length - j = m → anc j = true → b.getD is false = true → b.getD j false = true := by
      intro m
      induction m using Nat.strongRecOn with
      | _ m ihm =>
        intro j hjm hj hbis
        obtain ⟨k, x, hx, hjk, hk, hany⟩ := hanc j hj
        have hkl : k < l.length := by
          rcases Nat.lt_or_ge k l.length with h | h
          · exact h
          · simp [h] at hx
        have hbk : b.getD k false = true := by
          rcases hk with rfl | hk
          · exact hbis
          · exact ihm (l.length - k) (by omega) k rfl hk hbis
        obtain ⟨e, he, h2⟩ := Array.any_eq_true'.1 hany
        simp only [Bool.and_eq_true, beq_iff_eq] at h2
        have h3 := inv.closed k x hx hbk e he h2.1
        rwa [h2.2] at h3
    have hfirst : (i = is ∨ anc i = true) → b.getD is false = false := fun h => by
      rcases h with rfl | h
      · exact hunF
      · cases hbis : b.getD is false with
        | false => rfl
        | true =>
          have := hancD _ i rfl h hbis
          rw [hunF] at this
          cases this
    have hdscD : ∀ j, dsc j = true → b.getD j false = true → b.getD is false = true := by
      intro j
      induction j using Nat.strongRecOn with
      | _ j ihj =>
        intro hj hbj
        have hjl : j < l.length := by
          rcases Nat.lt_or_ge j l.length with h | h
          · exact h
          · have : j < b.size := by
              rcases Nat.lt_or_ge j b.size with h2 | h2
              · exact h2
              · simp [h2] at hbj
            rw [hbs] at this
            simpa using this
        obtain ⟨o2, ho2, -, -⟩ := hdep j hjl
        obtain ⟨k, hkj, hk, hany⟩ := hdsc j o2 hj ho2
        obtain ⟨e, he, h2⟩ := Array.any_eq_true'.1 hany
        simp only [Bool.and_eq_true, beq_iff_eq] at h2
        have h3 := inv.closed j o2 ho2 hbj e he h2.1
        rw [h2.2] at h3
        rcases hk with rfl | hk
        · exact h3
        · exact ihj k hkj hk h3
    have hlast : dsc i = true → b.getD is false = true := fun h => by
      obtain ⟨k, hki, hk, hany⟩ := hdsc i o' h ho
      obtain ⟨e, he, h2⟩ := Array.any_eq_true'.1 hany
      simp only [Bool.and_eq_true, beq_iff_eq] at h2
      have h3 := hall e he h2.1
      rw [h2.2] at h3
      rcases hk with rfl | hk
      · exact h3
      · exact hdscD k hk h3
    refine .inl (hstep i o' ho (b.getD is false) a' w' hfirst hlast inv.world (fun t ht => ?_) (fun j ha => ?_) _ fun v w'' hR hp hv => ?_)
    · have := inv.same t ht
      rw [Array.getD_eq_getD_getElem?, Array.getD_eq_getD_getElem?, this]
    · obtain ⟨e, he, h2⟩ := Array.any_eq_true'.1 ha
      simp only [Bool.and_eq_true, beq_iff_eq] at h2
      have h3 := hall e he h2.1
      rw [h2.2] at h3
      exact inv.facts j h3
    · have hib := hbsz i hin
      have hdl : ∀ d, o'.dst = some d → d < a'.tmps.size := fun d hd => by rw [inv.size]; exact hsz d (by rw [← hd]; exact List.mem_of_getElem? hdi)
      have hsv := slotVals_put (a' := a') hdi hnd hdl v
      have hset : ∀ j, (b.setIfInBounds i true).getD j false = true → j = i ∨ j ≠ i ∧ b.getD j false = true := fun j hj => by
        by_cases e : j = i
        · exact .inl e
        · refine .inr ⟨e, ?_⟩
          rwa [getD_set_ne false (fun h => e h.symm)] at hj
      have hmono : ∀ j, b.getD j false = true → (b.setIfInBounds i true).getD j false = true := fun j hj => by
        by_cases e : j = i
        · subst e; simp [hib]
        · rwa [getD_set_ne false (fun h => e h.symm)]
      have hR' : R ((b.setIfInBounds i true).getD is false) w'' := by
        by_cases e : i = is
        · subst e
          rw [if_pos rfl] at hR
          have : (b.setIfInBounds i true).getD i false = true := by simp [hib]
          rw [this]; exact hR
        · rw [if_neg e] at hR
          rw [getD_set_ne false e]; exact hR
      refine ih _ _ _ ⟨hR', by rw [Array.size_setIfInBounds]; exact hbs, ?_, ?_, fun t ht => ?_, fun j x hx hj e he hbd => ?_, fun j hj => ?_⟩ (by have := unl_set hun hin; omega)
      · cases o'.dst <;> exact inv.defers
      · cases hdd : o'.dst with
        | none => exact inv.size
        | some d =>
          show (a'.tmps.setIfInBounds d v).size = _
          rw [Array.size_setIfInBounds]; exact inv.size
      · cases hdd : o'.dst with
        | none => exact inv.same t ht
        | some d =>
          show (a'.tmps.setIfInBounds d v)[t]? = _
          rw [Array.getElem?_setIfInBounds_ne (show d ≠ t from fun e => ht (by rw [← e, ← hdd]; exact List.mem_of_getElem? hdi))]
          exact inv.same t ht
      · rcases hset j hj with rfl | ⟨-, hj'⟩
        · have : x = o' := Option.some.inj (hx.symm.trans ho)
          subst this
          exact hmono _ (hall e he hbd)
        · exact hmono _ (inv.closed j x hx hj' e he hbd)
      · rw [hsv]
        rcases hset j hj with rfl | ⟨hne, hj'⟩
        · exact hv
        · refine hper i j _ _ w' w'' (fun h => hne h.symm) (fun x hx => ?_) ⟨_, inv.world⟩ hp (inv.facts j hj')
          cases hany : (x.after.any fun e => Region.binds .any e && e.on == i) with
          | false => rfl
          | true =>
            obtain ⟨e, he, h2⟩ := Array.any_eq_true'.1 hany
            simp only [Bool.and_eq_true, beq_iff_eq] at h2
            have h3 := inv.closed j x hx hj' e he h2.1
            rw [h2.2, ← hgf b i hib, hun] at h3
            cases h3
end
/-- What waits for the call: each of 'dsc' waits for the call, or for an earlier one of 'dsc' ('px'). -/
def dscOK (ops : Array Oper) (is : Nat) (dsc px : List Nat) : Bool := dsc.all fun i => match ops[i]? with | some o => (o.after.any fun e => Region.binds .any e && e.on == px.getD i 0) && (px.getD i 0 == is || dsc.contains (px.getD i 0)) && decide (px.getD i 0 < i) | none => false
def twoStep (P : Program) (Q : Exit → Act → World → Prop) (a : Act) (W : World) (T : Nat → Prop) (Sh : World → Prop) (is : Nat) (anc dsc : List Nat) (ds : List (Option Nat)) (pv : List (Value → World → Prop)) (i : Nat) (o : Oper) : Prop :=
  if i = is ∨ anc.contains i = true then ∀ (a' : Act) (w' : World), Below W.heap.size W w' → (∀ t, some t ∉ ds → a'.tmps[t]?.getD undef = a.tmps[t]?.getD undef) →
      (∀ j d, (o.after.any fun e => Region.binds .any e && e.on == j) = true → ds[j]? = some (some d) → pv.getD j (fun _ _ => True) (a'.tmps[d]?.getD undef) w') →
      ∀ K : Act → World → Prop, (∀ v w'', Below w'.heap.size w' w'' → pv.getD i (fun _ _ => True) (valOf o v) w'' → K (a'.put o.dst v) w'') → o.wp P a' w' K Q
  else if dsc.contains i = true then ∀ (a' : Act) (w' : World), Aside T W w' → Sh w' → (∀ t, some t ∉ ds → a'.tmps[t]?.getD undef = a.tmps[t]?.getD undef) →
      (∀ j d, (o.after.any fun e => Region.binds .any e && e.on == j) = true → ds[j]? = some (some d) → pv.getD j (fun _ _ => True) (a'.tmps[d]?.getD undef) w') →
      ∀ K : Act → World → Prop, (∀ v w'', Aside T w' w'' → Sh w'' → allP (fun p => ∀ v, p v w' → p v w'') pv → pv.getD i (fun _ _ => True) (valOf o v) w'' → K (a'.put o.dst v) w'') → o.wp P a' w' K Q
  else ∀ (a' : Act) (w' : World), (∀ t, some t ∉ ds → a'.tmps[t]?.getD undef = a.tmps[t]?.getD undef) →
      (∀ j d, (o.after.any fun e => Region.binds .any e && e.on == j) = true → ds[j]? = some (some d) → pv.getD j (fun _ _ => True) (a'.tmps[d]?.getD undef) w') →
      ∀ K : Act → World → Prop, (∀ v, pv.getD i (fun _ _ => True) (valOf o v) w' → K (a'.put o.dst v) w') → o.wp P a' w' K Q
theorem wp_two_pv {P : Program} {l : List Oper} {Q : Exit → Act → World → Prop} {a : Act} {W : World} {id : Nat} (T : Nat → Prop) (Sh : World → Prop) (is : Nat) (anc nx dsc px : List Nat) (ds : List (Option Nat)) (ts : List Nat) (pv : List (Value → World → Prop)) (k : Nat) (hm : P.follows .mixedOrders = true) (hD : depsAllB l.toArray = true) (hds : l.map (·.dst) = ds) (hts : (ds.filterMap fun x => x) = ts) (hnd : nodupB ds = true) (hlt : ltB k ds = true) (hk : k ≤ a.tmps.size)
    (hanc : ancOK l.toArray is anc nx = true) (hisl : is < l.length) (hdsc : dscOK l.toArray is dsc px = true)
    (hPB : allP (fun p => ∀ v w w', p v w → Below w.heap.size w w' → p v w') pv) (hS0 : Sh W) (hSB : ∀ w w', Sh w → Below w.heap.size w w' → Sh w')
    (hstep : stepsF (twoStep P Q a W T Sh is anc dsc ds pv) 0 l)
    (hend : ∀ (X : Nat → Value) (w' : World), Aside T W w' → Sh w' → (∀ i d, ds[i]? = some (some d) → pv.getD i (fun _ _ => True) (X d) w') → (∀ i, ds[i]? = some none → pv.getD i (fun _ _ => True) undef w') → Q .normal (puts ts (ts.map X) a) w') :
    (Code.region id l.toArray true).wp P Q a W := by
  have hsz : ∀ d, some d ∈ ds → d < a.tmps.size := fun d hd => by have := lt_of_ltB hlt d hd; omega
  have hND := nodup_of hnd
  have hst : ∀ i o, l.toArray[i]? = some o → twoStep P Q a W T Sh is anc dsc ds pv i o := fun i o ho => by
    have := steps_get l 0 i o hstep (by simpa using ho)
    rwa [Nat.zero_add] at this
  have hPB' : ∀ j v w w', pv.getD j (fun _ _ => True) v w → Below w.heap.size w w' → pv.getD j (fun _ _ => True) v w' := fun j => allP_get (C := fun p => ∀ v w w', p v w → Below w.heap.size w w' → p v w') (fun _ _ _ _ _ => trivial) pv j hPB
  have hl : ∀ (i : Nat) (x : Option Nat), ds[i]? = some x → i < l.length := fun i x hd => by
    have := (List.getElem?_eq_some_iff.1 hd).1
    rw [← hds] at this
    simpa using this
  refine wp_region_any hm ?_
  have hz : ∀ j, (Array.replicate l.toArray.size false).getD j false = false := fun j => by
    by_cases h : j < l.length
    · simp [h]
    · simp [h]
  have H := swapR2_any (P := P) (l := l) (Q := Q) (a := a) (ds := ds) (is := is) (anc := fun i => anc.contains i) (dsc := fun i => dsc.contains i) (Φ := fun i V w => pv.getD i (fun _ _ => True) (V i) w) (R := fun c w' => if c = true then Aside T W w' ∧ Sh w' else Below W.heap.size W w') (Per := fun i w w' => Below w.heap.size w w' ∨ allP (fun p => ∀ v, p v w → p v w') pv) hD hds hND hsz
    (fun i j V v w w' hne _ _ hp hv => by
      show pv.getD j _ (upd V i v j) w'
      rw [upd_other _ _ (fun h => hne h.symm)]
      rcases hp with hp | hp
      · exact hPB' j _ _ _ hv hp
      · exact allP_get (C := fun p => ∀ v, p v w → p v w') (fun _ _ => trivial) pv j hp _ hv)
    (fun i o ho c a' w' hc hcd hR hsame hdep K hK => by
      have hs := hst i o ho
      have hsame' : ∀ t, some t ∉ ds → a'.tmps[t]?.getD undef = a.tmps[t]?.getD undef := fun t ht => by have := hsame t ht; rwa [Array.getD_eq_getD_getElem?, Array.getD_eq_getD_getElem?] at this
      have hdep' : ∀ j d, (o.after.any fun e => Region.binds .any e && e.on == j) = true → ds[j]? = some (some d) → pv.getD j (fun _ _ => True) (a'.tmps[d]?.getD undef) w' := fun j d ha hd => by
        have := hdep j ha
        rwa [slotVals_at hd] at this
      unfold twoStep at hs
      by_cases e : i = is ∨ anc.contains i = true
      · obtain rfl := hc e
        rw [if_pos e] at hs
        rw [if_neg (by decide)] at hR
        refine hs a' w' hR hsame' hdep' K fun v w'' hb hv => hK v w'' ?_ (.inl hb) ?_
        · have hb2 := hR.trans (hb.mono hR.size)
          by_cases e2 : i = is
          · rw [if_pos e2, if_pos rfl]
            exact ⟨Aside.of hb2, hSB _ _ hS0 hb2⟩
          · rw [if_neg e2, if_neg (by decide)]; exact hb2
        · show pv.getD i _ (upd _ i _ i) w''
          rw [upd_self]; exact hv
      · rw [if_neg e] at hs
        have hne : ¬ i = is := fun h => e (.inl h)
        by_cases ed : dsc.contains i = true
        · obtain rfl := hcd ed
          rw [if_pos ed] at hs
          rw [if_pos rfl] at hR
          refine hs a' w' hR.1 hR.2 hsame' hdep' K fun v w'' hA hSh hk hv => hK v w'' ?_ (.inr hk) ?_
          · rw [if_neg hne, if_pos rfl]; exact ⟨hR.1.trans hA, hSh⟩
          · show pv.getD i _ (upd _ i _ i) w''
            rw [upd_self]; exact hv
        · rw [if_neg ed] at hs
          refine hs a' w' hsame' hdep' K fun v hv => hK v w' ?_ (.inl (Below.refl _ _)) ?_
          · rw [if_neg hne]; exact hR
          · show pv.getD i _ (upd _ i _ i) w'
            rw [upd_self]; exact hv)
    (fun i hi => by
      have h1 := List.all_eq_true.1 hanc i (by simpa using hi)
      cases ho : l.toArray[nx.getD i 0]? with
      | none => simp only [ho] at h1; cases h1
      | some o =>
        simp only [ho, Bool.and_eq_true, Bool.or_eq_true, beq_iff_eq, decide_eq_true_eq] at h1
        exact ⟨_, o, ho, h1.2, h1.1.2, h1.1.1⟩) hisl
    (fun i o hi ho => by
      have h1 := List.all_eq_true.1 hdsc i (by simpa using hi)
      simp only [ho, Bool.and_eq_true, Bool.or_eq_true, beq_iff_eq, decide_eq_true_eq] at h1
      exact ⟨_, h1.2, h1.1.2, h1.1.1⟩)
    (fun a' w' hR hdf hsz' hsame hf => by
      rw [if_pos rfl] at hR
      rw [← hts] at hend
      have hputs := puts_of (ds.filterMap fun x => x) a hdf hsz' (fun t ht => by
        obtain ⟨x, hx, rfl⟩ := List.mem_filterMap.1 ht
        exact hsz _ hx) (fun t ht => hsame t (fun h => ht (List.mem_filterMap.2 ⟨_, h, rfl⟩)))
      have h := hend (fun t => a'.tmps.getD t undef) w' hR.1 hR.2 (fun i d hd => by
        have := hf i (hl i _ hd)
        rw [slotVals_at hd] at this
        rw [Array.getD_eq_getD_getElem?]
        exact this) (fun i hd => by
        have := hf i (hl i _ hd)
        have e : slotVals a' ds i = undef := by unfold slotVals; rw [hd]
        rwa [e] at this)
      rw [← hputs] at h
      exact h) l.toArray.size (Array.replicate l.toArray.size false) a { W with drawn := W.drawn + 1 }
    ⟨by rw [hz, if_neg (by decide)]; exact (Below.refl _ _).drew, by simp, rfl, rfl, fun _ _ => rfl, fun j o _ h => (by rw [hz] at h; cases h), fun i h => (by rw [hz] at h; cases h)⟩ (by rw [show l.toArray.size = l.length by simp]; exact unl_start _ (Nat.le_refl _))
  exact H
end Go.Proofs.YtiofeebiejkajaaDoor
namespace Go.Proofs.YtiofeebiejkajaaDoor
set_option linter.unusedSimpArgs false
set_option linter.unusedVariables false
open Go.ChangeShapes Go.WideShapes Go.ChangeAt Go.RowKit Go.Joins

def HmT (n k : Nat) (b : Bool) (H : Hp) (N : Nat) (M : Mk) (v : Value) (w : World) : Prop :=
  ∃ p c q d pg cg pb cb pr cr, v = .tuple #[.agg #[.slice p n c, .slice q k d, .bool b], .agg #[.int .i64 M.g.r, .slice pg M.g.n cg, .slice pb M.nb cb, .slice pr M.nr cr, .int .i64 M.ob, .int .i64 M.fi, .int .i64 M.cu, .bool M.ov]] ∧ HpIn w p n c q k d b H ∧ MAtE N w M pg cg pb cb pr cr
def MkV (N : Nat) (M : Mk) (v : Value) (w : World) : Prop :=
  ∃ pg cg pb cb pr cr, v = .agg #[.int .i64 M.g.r, .slice pg M.g.n cg, .slice pb M.nb cb, .slice pr M.nr cr, .int .i64 M.ob, .int .i64 M.fi, .int .i64 M.cu, .bool M.ov] ∧ MAtE N w M pg cg pb cb pr cr
def FullME (T N : Nat) (M : Mk) (g : Nat) (w : World) : Prop :=
  ∃ pg cg pb cb pr cr, TBox T g #[.int .i64 M.g.r, .slice pg M.g.n cg, .slice pb M.nb cb, .slice pr M.nr cr, .int .i64 M.ob, .int .i64 M.fi, .int .i64 M.cu, .bool M.ov] w ∧ MAtE N w M pg cg pb cb pr cr
section
variable {n k N T T' m' g g' : Nat} {b : Bool} {H : Hp} {M : Mk} {v : Value} {w w' : World}
theorem HmT.below (h : HmT n k b H N M v w) (hb : Below w.heap.size w w') : HmT n k b H N M v w' := by
  obtain ⟨p, c, q, d, pg, cg, pb, cb, pr, cr, e, h1, h2⟩ := h
  exact ⟨p, c, q, d, pg, cg, pb, cb, pr, cr, e, h1.below hb, h2.below hb⟩
theorem MkV.below (h : MkV N M v w) (hb : Below w.heap.size w w') : MkV N M v w' := by
  obtain ⟨pg, cg, pb, cb, pr, cr, e, h2⟩ := h
  exact ⟨pg, cg, pb, cb, pr, cr, e, h2.below hb⟩
theorem FullME.below (h : FullME T N M g w) (hb : Below w.heap.size w w') : FullME T N M g w' := by
  obtain ⟨pg, cg, pb, cb, pr, cr, e, h2⟩ := h
  exact ⟨pg, cg, pb, cb, pr, cr, e.below hb, h2.below hb⟩
theorem HmT.putsV (h : HmT n k b H N M v w) (hv : VarT T m' g w) (hT : ¬ 3 = T) (hT2 : ¬ 28 = T) (hT3 : ¬ 38 = T) (hg : N ≤ g) (hn : 32 ≤ n) (hk : 0 < k) (ys : List Value) : HmT n k b H N M v (putsL g 0 ys w) := by
  obtain ⟨p, c, q, d, pg, cg, pb, cb, pr, cr, e, h1, h2⟩ := h
  exact ⟨p, c, q, d, pg, cg, pb, cb, pr, cr, e, hpIn_puts (hv.clear h1 hn hk) ys 0 h1, h2.puts hv hT hT2 hT3 hg ys⟩
theorem MkV.putsV (h : MkV N M v w) (hv : VarT T m' g w) (hT : ¬ 3 = T) (hT2 : ¬ 28 = T) (hT3 : ¬ 38 = T) (hg : N ≤ g) (ys : List Value) : MkV N M v (putsL g 0 ys w) := by
  obtain ⟨pg, cg, pb, cb, pr, cr, e, h2⟩ := h
  exact ⟨pg, cg, pb, cb, pr, cr, e, h2.puts hv hT hT2 hT3 hg ys⟩
theorem FullME.putsV (h : FullME T N M g' w) (hv : VarT T' m' g w) (hTT : ¬ T = T') (hT : ¬ 3 = T') (hT2 : ¬ 28 = T') (hT3 : ¬ 38 = T') (hg : N ≤ g) (ys : List Value) : FullME T N M g' (putsL g 0 ys w) := by
  obtain ⟨pg, cg, pb, cb, pr, cr, e, h2⟩ := h
  exact ⟨pg, cg, pb, cb, pr, cr, tbox_stays e hv hTT ys, h2.puts hv hT hT2 hT3 hg ys⟩
theorem VarT.eight (h : VarT T 8 g w) : ∃ x0 x1 x2 x3 x4 x5 x6 x7, TBox T g #[x0, x1, x2, x3, x4, x5, x6, x7] w := by
  obtain ⟨⟨l⟩, e, -, h⟩ := h
  have e' : l.length = 8 := e
  rcases l with _ | ⟨x0, l⟩
  · simp at e'
  rcases l with _ | ⟨x1, l⟩
  · simp at e'
  rcases l with _ | ⟨x2, l⟩
  · simp at e'
  rcases l with _ | ⟨x3, l⟩
  · simp at e'
  rcases l with _ | ⟨x4, l⟩
  · simp at e'
  rcases l with _ | ⟨x5, l⟩
  · simp at e'
  rcases l with _ | ⟨x6, l⟩
  · simp at e'
  rcases l with _ | ⟨x7, l⟩
  · simp at e'
  have : l = [] := List.eq_nil_of_length_eq_zero (by simp only [List.length_cons] at e'; omega)
  subst this
  exact ⟨x0, x1, x2, x3, x4, x5, x6, x7, h⟩
theorem mk_frozen {x0 x1 x2 x3 x4 x5 x6 x7 : Value} (h : TBox T g #[x0, x1, x2, x3, x4, x5, x6, x7] w) : w.frozen? ⟨g, 0, none⟩ = false ∧ w.frozen? ⟨g, 1, none⟩ = false ∧ w.frozen? ⟨g, 2, none⟩ = false ∧ w.frozen? ⟨g, 3, none⟩ = false ∧ w.frozen? ⟨g, 4, none⟩ = false ∧ w.frozen? ⟨g, 5, none⟩ = false ∧ w.frozen? ⟨g, 6, none⟩ = false ∧ w.frozen? ⟨g, 7, none⟩ = false :=
  ⟨h.frozen 0, h.frozen 1, h.frozen 2, h.frozen 3, h.frozen 4, h.frozen 5, h.frozen 6, h.frozen 7⟩
theorem set_eight (x0 x1 x2 x3 x4 x5 x6 x7 a0 a1 a2 a3 a4 a5 a6 a7 : Value) : setFrom #[x0, x1, x2, x3, x4, x5, x6, x7] 0 [a0, a1, a2, a3, a4, a5, a6, a7] = #[a0, a1, a2, a3, a4, a5, a6, a7] := by
  simp only [setFrom, Nat.reduceAdd, List.setIfInBounds_toArray, List.set_cons_succ, List.set_cons_zero]
theorem VarT.full8 {a0 a1 a2 a3 a4 a5 a6 a7 : Value} (h : VarT T 8 g w) : TBox T g #[a0, a1, a2, a3, a4, a5, a6, a7] (putsL g 0 [a0, a1, a2, a3, a4, a5, a6, a7] w) := by
  obtain ⟨x0, x1, x2, x3, x4, x5, x6, x7, h⟩ := h.eight
  have := h.putsL [a0, a1, a2, a3, a4, a5, a6, a7] 0
  rwa [set_eight] at this
end
theorem aside_putsL {T : Nat → Prop} {g : Nat} (hg : T g) : ∀ (ys : List Value) (k : Nat) (w : World), Aside T w (putsL g k ys w)
  | [], _, w => Aside.of (Below.refl _ w)
  | y :: ys, k, w => ((Aside.of (T := T) (Below.refl _ w)).setCell hg k y).trans (aside_putsL hg ys (k + 1) _)
/-- The two variables. -/
def HmS (TH GH TM GM : Nat) (w : World) : Prop := VarT TH 3 GH w ∧ VarT TM 8 GM w
theorem HmS.below {TH GH TM GM : Nat} {w w' : World} (h : HmS TH GH TM GM w) (hb : Below w.heap.size w w') : HmS TH GH TM GM w' := ⟨h.1.below hb, h.2.below hb⟩
theorem HmS.puts {TH GH TM GM g : Nat} {w : World} (h : HmS TH GH TM GM w) {ys : List Value} (hy : PlainL ys) : HmS TH GH TM GM (putsL g 0 ys w) := ⟨h.1.puts hy, h.2.puts hy⟩
end Go.Proofs.YtiofeebiejkajaaDoor
