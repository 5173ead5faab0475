/- A region that draws its order and lays several variables, each with a store of its own behind a call ('k, r, o := F(h, g, x)'): each operation told by itself. -/
import Derived.Test.YtonjnedlnfdanaaDoorSoftV
namespace Go.Proofs.YtonjnedlnfdanaaDoor
set_option linter.unusedSimpArgs false
set_option linter.unusedVariables false
open Go.ChangeShapes Go.WideShapes Go.ChangeAt Go.RowKit Go.Joins

/-- The operation that lays what the i-th one stores into. -/
def layOf (sto : List (Nat × Nat)) (i : Nat) : Option Nat := (sto.find? fun p => p.1 == i).map (·.2)
/-- Each store waits for the operation that lays its variable. -/
def stoOK (ops : Array Oper) (ds : List (Option Nat)) (sto : List (Nat × Nat)) : Bool := sto.all fun p => match ops[p.1]? with | some o => (o.after.any fun e => Region.binds .any e && e.on == p.2) && decide (p.1 < ops.size) && (match ds[p.2]? with | some (some _) => true | _ => false) && (match ds[p.1]? with | some none => true | _ => false) | none => false
def newsStep (P : Program) (Q : Exit → Act → World → Prop) (a : Act) (W : World) (sto : List (Nat × Nat)) (ds : List (Option Nat)) (pv : List (Value → World → Prop)) (Full : Nat → Nat → World → Prop) (i : Nat) (o : Oper) : Prop :=
  ∀ (a' : Act) (w' : World), Below W.heap.size W w' → (∀ t, some t ∉ ds → a'.tmps[t]?.getD undef = a.tmps[t]?.getD undef) →
    (∀ j d, (o.after.any fun e => Region.binds .any e && e.on == j) = true → ds[j]? = some (some d) → pv.getD j (fun _ _ => True) (a'.tmps[d]?.getD undef) w') →
    ∀ K : Act → World → Prop,
      (match layOf sto i with
      | some ia => ∀ g v w'', (∀ d, ds[ia]? = some (some d) → a'.tmps[d]?.getD undef = .pointer (some ⟨g, 0, none⟩)) → Below W.heap.size w' w'' → Full i g w'' → (∀ j g', j ≠ i → Full j g' w' → Full j g' w'') → allP (fun p => ∀ v, p v w' → p v w'') pv → K (a'.put o.dst v) w''
      | none => ∀ v w'', Below w'.heap.size w' w'' → pv.getD i (fun _ _ => True) (valOf o v) w'' → K (a'.put o.dst v) w'') → o.wp P a' w' K Q
theorem news_none {P : Program} {Q : Exit → Act → World → Prop} {a : Act} {W : World} {sto : List (Nat × Nat)} {ds : List (Option Nat)} {pv : List (Value → World → Prop)} {Full : Nat → Nat → World → Prop} {i : Nat} {o : Oper} (h : layOf sto i = none)
    (H : ∀ (a' : Act) (w' : World), Below W.heap.size W w' → (∀ t, some t ∉ ds → a'.tmps[t]?.getD undef = a.tmps[t]?.getD undef) →
      (∀ j d, (o.after.any fun e => Region.binds .any e && e.on == j) = true → ds[j]? = some (some d) → pv.getD j (fun _ _ => True) (a'.tmps[d]?.getD undef) w') →
      ∀ K : Act → World → Prop, (∀ v w'', Below w'.heap.size w' w'' → pv.getD i (fun _ _ => True) (valOf o v) w'' → K (a'.put o.dst v) w'') → o.wp P a' w' K Q) : newsStep P Q a W sto ds pv Full i o := by
  intro a' w' hb hs hd K hK
  simp only [h] at hK
  exact H a' w' hb hs hd K hK
theorem news_some {P : Program} {Q : Exit → Act → World → Prop} {a : Act} {W : World} {sto : List (Nat × Nat)} {ds : List (Option Nat)} {pv : List (Value → World → Prop)} {Full : Nat → Nat → World → Prop} {i : Nat} {o : Oper} (ia dd : Nat) (h : layOf sto i = some ia) (hdd : ds[ia]? = some (some dd))
    (H : ∀ (a' : Act) (w' : World), Below W.heap.size W w' → (∀ t, some t ∉ ds → a'.tmps[t]?.getD undef = a.tmps[t]?.getD undef) →
      (∀ j d, (o.after.any fun e => Region.binds .any e && e.on == j) = true → ds[j]? = some (some d) → pv.getD j (fun _ _ => True) (a'.tmps[d]?.getD undef) w') →
      ∀ K : Act → World → Prop, (∀ g v w'', a'.tmps[dd]?.getD undef = .pointer (some ⟨g, 0, none⟩) → Below W.heap.size w' w'' → Full i g w'' → (∀ j g', j ≠ i → Full j g' w' → Full j g' w'') → allP (fun p => ∀ v, p v w' → p v w'') pv → K (a'.put o.dst v) w'') → o.wp P a' w' K Q) : newsStep P Q a W sto ds pv Full i o := by
  intro a' w' hb hs hd K hK
  simp only [h] at hK
  refine H a' w' hb hs hd K fun g v w'' hg => hK g v w'' fun d hd' => ?_
  rw [hdd] at hd'
  injection hd' with hd'
  injection hd' with hd'
  subst hd'
  exact hg
/-- What holds of each variable once its store is done. -/
def nsF : List (Nat × (Nat → World → Prop)) → Nat → Nat → World → Prop
  | [], _, _, _ => True
  | p :: l, i, g, w => match p.1 == i with | true => p.2 g w | false => nsF l i g w
theorem nsF_yes {p : Nat × (Nat → World → Prop)} {l : List (Nat × (Nat → World → Prop))} {i g : Nat} {w : World} (e : (p.1 == i) = true) : nsF (p :: l) i g w = p.2 g w := by
  unfold nsF; rw [e]
theorem nsF_no {p : Nat × (Nat → World → Prop)} {l : List (Nat × (Nat → World → Prop))} {i g : Nat} {w : World} (e : (p.1 == i) = false) : nsF (p :: l) i g w = nsF l i g w := by
  rw [nsF, e]
def stayL (i : Nat) (w w' : World) : List (Nat × (Nat → World → Prop)) → Prop
  | [] => True
  | p :: l => (p.1 = i ∨ ∀ g, p.2 g w → p.2 g w') ∧ stayL i w w' l
theorem nsF_stay {i : Nat} {w w' : World} : ∀ {l : List (Nat × (Nat → World → Prop))}, stayL i w w' l → ∀ j g, j ≠ i → nsF l j g w → nsF l j g w'
  | [], _, _, _, _, _ => trivial
  | p :: l, h, j, g, hj, hf => by
    cases e : p.1 == j with
    | true =>
      rw [nsF_yes e] at hf ⊢
      have e' : p.1 = j := by simpa using e
      rcases h.1 with h1 | h1
      · exact absurd (e'.symm.trans h1) hj
      · exact h1 g hf
    | false =>
      rw [nsF_no e] at hf ⊢
      exact nsF_stay h.2 j g hj hf
def bowL : List (Nat × (Nat → World → Prop)) → Prop
  | [] => True
  | p :: l => (∀ g w w', p.2 g w → Below w.heap.size w w' → p.2 g w') ∧ bowL l
theorem nsF_below : ∀ {l : List (Nat × (Nat → World → Prop))}, bowL l → ∀ i g w w', nsF l i g w → Below w.heap.size w w' → nsF l i g w'
  | [], _, _, _, _, _, _, _ => trivial
  | p :: l, h, i, g, w, w', hf, hb => by
    cases e : p.1 == i with
    | true =>
      rw [nsF_yes e] at hf ⊢
      exact h.1 g w w' hf hb
    | false =>
      rw [nsF_no e] at hf ⊢
      exact nsF_below h.2 i g w w' hf hb
theorem wp_news_pv {P : Program} {l : List Oper} {Q : Exit → Act → World → Prop} {a : Act} {W : World} {id : Nat} (sto : List (Nat × Nat)) (ds : List (Option Nat)) (ts : List Nat) (pv : List (Value → World → Prop)) (Full : Nat → Nat → World → Prop) (k : Nat) (hm : P.follows .mixedOrders = true) (hD : depsAllB l.toArray = true) (hds : l.map (·.dst) = ds) (hts : (ds.filterMap fun x => x) = ts) (hnd : nodupB ds = true) (hlt : ltB k ds = true) (hk : k ≤ a.tmps.size)
    (hsto : stoOK l.toArray ds sto = true)
    (hPB : allP (fun p => ∀ v w w', p v w → Below w.heap.size w w' → p v w') pv) (hFB : ∀ i g w w', Full i g w → Below w.heap.size w w' → Full i g w')
    (hstep : stepsF (newsStep P Q a W sto ds pv Full) 0 l)
    (hend : ∀ (X : Nat → Value) (w' : World), Below W.heap.size W w' → (∀ i d, ds[i]? = some (some d) → pv.getD i (fun _ _ => True) (X d) w') → (∀ i ia d, layOf sto i = some ia → ds[ia]? = some (some d) → ∃ g, X d = .pointer (some ⟨g, 0, none⟩) ∧ Full i g w') → Q .normal (puts ts (ts.map X) a) w') :
    (Code.region id l.toArray true).wp P Q a W := by
  have hsz : ∀ d, some d ∈ ds → d < a.tmps.size := fun d hd => by have := lt_of_ltB hlt d hd; omega
  have hND := nodup_of hnd
  have hst : ∀ i o, l.toArray[i]? = some o → newsStep P Q a W sto ds pv Full i o := fun i o ho => by
    have := steps_get l 0 i o hstep (by simpa using ho)
    rwa [Nat.zero_add] at this
  have hPB' : ∀ j v w w', pv.getD j (fun _ _ => True) v w → Below w.heap.size w w' → pv.getD j (fun _ _ => True) v w' := fun j => allP_get (C := fun p => ∀ v w w', p v w → Below w.heap.size w w' → p v w') (fun _ _ _ _ _ => trivial) pv j hPB
  have hl : ∀ (i : Nat) (x : Option Nat), ds[i]? = some x → i < l.length := fun i x hd => by
    have := (List.getElem?_eq_some_iff.1 hd).1
    rw [← hds] at this
    simpa using this
  have hlay : ∀ i ia, layOf sto i = some ia → ∃ o d, l.toArray[i]? = some o ∧ (o.after.any fun e => Region.binds .any e && e.on == ia) = true ∧ i < l.length ∧ ds[ia]? = some (some d) ∧ ds[i]? = some none := fun i ia h => by
    unfold layOf at h
    cases hf : sto.find? (fun p => p.1 == i) with
    | none => rw [hf] at h; cases h
    | some p =>
      rw [hf] at h
      obtain ⟨p1, p2⟩ := p
      obtain rfl : p2 = ia := by simpa using h
      have hp1 : p1 = i := by simpa using List.find?_some hf
      subst hp1
      have h1 := List.all_eq_true.1 hsto _ (List.mem_of_find?_eq_some hf)
      cases ho : l.toArray[p1]? with
      | none => simp only [ho] at h1; cases h1
      | some o =>
        simp only [ho, Bool.and_eq_true, decide_eq_true_eq] at h1
        obtain ⟨⟨⟨h2, h3⟩, h4⟩, h5⟩ := h1
        cases hd : ds[p2]? with
        | none => rw [hd] at h4; cases h4
        | some x =>
          cases x with
          | none => rw [hd] at h4; cases h4
          | some d =>
            cases he : ds[p1]? with
            | none => rw [he] at h5; cases h5
            | some y =>
              cases y with
              | some _ => rw [he] at h5; cases h5
              | none => exact ⟨o, d, rfl, h2, by simpa using h3, rfl, rfl⟩
  refine wp_region_whole (W := W) ds
    (fun i V w => match layOf sto i with | some ia => ∃ g, V ia = .pointer (some ⟨g, 0, none⟩) ∧ Full i g w | none => pv.getD i (fun _ _ => True) (V i) w)
    (fun w' => Below W.heap.size W w')
    (fun i w w' => match layOf sto i with | some _ => allP (fun p => ∀ v, p v w → p v w') pv ∧ ∀ j g', j ≠ i → Full j g' w → Full j g' w' | none => Below w.heap.size w w') hm hD hds hND hsz
    (fun i j V v w w' hne hw _ hp hv => ?_) (Below.refl _ _).drew (fun i o ho a' w' hR hsame hdep K hK => ?_) (fun a' w' hR hdf hsz' hsame hf => ?_)
  · cases hj : layOf sto j with
    | some ia =>
      simp only [hj] at hv ⊢
      obtain ⟨g, e, hF⟩ := hv
      obtain ⟨o, d, ho, ha, -⟩ := hlay j ia hj
      have hia : ¬ ia = i := fun e => by
        subst e
        rw [hw o ho] at ha
        cases ha
      refine ⟨g, by rw [upd_other _ _ hia]; exact e, ?_⟩
      cases hi : layOf sto i with
      | some _ => simp only [hi] at hp; exact hp.2 j g (fun e => hne e.symm) hF
      | none => simp only [hi] at hp; exact hFB j g _ _ hF hp
    | none =>
      simp only [hj] at hv ⊢
      rw [upd_other _ _ (fun h => hne h.symm)]
      cases hi : layOf sto i with
      | some _ => simp only [hi] at hp; exact allP_get (C := fun p => ∀ v, p v w → p v w') (fun _ _ => trivial) pv j hp.1 _ hv
      | none => simp only [hi] at hp; exact hPB' j _ _ _ hv hp
  · have hs := hst i o ho
    unfold newsStep at hs
    refine hs a' w' hR (fun t ht => by have := hsame t ht; rwa [Array.getD_eq_getD_getElem?, Array.getD_eq_getD_getElem?] at this) (fun j d ha hd => ?_) K ?_
    · have := hdep j ha
      have hj : layOf sto j = none := by
        cases hj : layOf sto j with
        | none => rfl
        | some ia =>
          obtain ⟨_, _, _, _, _, _, h6⟩ := hlay j ia hj
          rw [hd] at h6; cases h6
      simp only [hj] at this
      rwa [slotVals_at hd] at this
    · cases hi : layOf sto i with
      | some ia =>
        simp only [hi] at hK ⊢
        intro g v w'' hg hb hF hO hk
        obtain ⟨_, d, _, _, _, hda, hdi⟩ := hlay i ia hi
        refine hK v w'' (hR.trans hb) ⟨hk, hO⟩ ⟨g, ?_, hF⟩
        have hne : ¬ ia = i := fun e => by subst e; rw [hda] at hdi; cases hdi
        rw [upd_other _ _ hne, slotVals_at hda]
        exact hg d hda
      | none =>
        simp only [hi] at hK ⊢
        intro v w'' hb hv
        refine hK v w'' (hR.trans (hb.mono hR.size)) hb ?_
        rw [upd_self]
        exact hv
  · rw [← hts] at hend
    have hputs := puts_of (ds.filterMap fun x => x) a hdf hsz' (fun t ht => by
      obtain ⟨x, hx, rfl⟩ := List.mem_filterMap.1 ht
      exact hsz _ hx) (fun t ht => hsame t (fun h => ht (List.mem_filterMap.2 ⟨_, h, rfl⟩)))
    have h := hend (fun t => a'.tmps.getD t undef) w' hR (fun i d hd => by
      have := hf i (hl i _ hd)
      have hj : layOf sto i = none := by
        cases hj : layOf sto i with
        | none => rfl
        | some ia =>
          obtain ⟨_, _, _, _, _, _, h6⟩ := hlay i ia hj
          rw [hd] at h6; cases h6
      simp only [hj] at this
      rw [slotVals_at hd] at this
      rw [Array.getD_eq_getD_getElem?]
      exact this) (fun i ia d hi hda => by
      obtain ⟨_, _, _, _, h5, _, _⟩ := hlay i ia hi
      have := hf i h5
      simp only [hi] at this
      obtain ⟨g, e, hF⟩ := this
      rw [slotVals_at hda] at e
      exact ⟨g, by rw [Array.getD_eq_getD_getElem?]; exact e, hF⟩)
    rw [← hputs] at h
    exact h
end Go.Proofs.YtonjnedlnfdanaaDoor
