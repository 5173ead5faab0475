/- A drawn region whose first operations read and make memory, each told by itself, under whatever invariant of worlds (XSoftV's law is of memory that only grows). -/
import Derived.Test.YtmbgodncagjncaaDoorB08
namespace Go.Proofs.YtmbgodncagjncaaDoor
set_option linter.unusedSimpArgs false
set_option linter.unusedVariables false
open Go.ChangeShapes Go.WideShapes Go.ChangeAt Go.RowKit Go.Joins

/-- Does an operation wait for the i-th? -/
def waitsB (o : Oper) (i : Nat) : Bool := o.after.any fun e => Region.binds .any e && e.on == i
structure SoftInvI (ops : Array Oper) (fin : Nat → Bool) (a : Act) (ds : List Nat) (Φ : Nat → Value → World → Prop) (I : World → Prop) (n : Nat) (b : Array Bool) (a' : Act) (w' : World) : Prop where
  grown : I w'
  defers : a'.defers = a.defers
  size : a'.tmps.size = a.tmps.size
  same : ∀ t, t ∉ ds → a'.tmps[t]? = a.tmps[t]?
  facts : ∀ i d, i < n → ds[i]? = some d → b.getD i true = true → (fin i = true ∨ ∃ k o, k < n ∧ ops[k]? = some o ∧ b.getD k true = false ∧ waitsB o i = true) → Φ i (a'.tmps.getD d undef) w'
section
variable {P : Program} {l : List Oper} {Q : Exit → Act → World → Prop} {a : Act} {ds : List Nat} {Φ : Nat → Value → World → Prop} {W : World} {I : World → Prop} {n : Nat} {S : Nat → World → World → Prop} {fin : Nat → Bool}
theorem soft_anyI (hs : Region.sinkB .any l.toArray n = true) (hc : Region.chainB .any l.toArray n = true) (hn : n < l.toArray.size) (hD : depsB l.toArray n = true) (hq : Region.seqB .any l.toArray (l.toArray.size - n) n (List.replicate n true ++ List.replicate (l.toArray.size - n) false).toArray = true)
    (hds : ds.length = n) (hdst : ∀ i o d, i < n → l.toArray[i]? = some o → ds[i]? = some d → o.dst = some d) (hnd : ds.Nodup) (hsz : ∀ d ∈ ds, d < a.tmps.size)
    (hS : ∀ i w w', I w → S i w w' → I w') (hper : ∀ i j v w w', i < n → j < n → ¬ j = i → (∀ o, l.toArray[j]? = some o → waitsB o i = false) → (fin j = true ∨ ∃ k o, ¬ k = i ∧ k < n ∧ l.toArray[k]? = some o ∧ waitsB o j = true ∧ ∀ oi, l.toArray[i]? = some oi → waitsB oi k = false) → Φ j v w → S i w w' → Φ j v w')
    (hstep : ∀ i o, i < n → l.toArray[i]? = some o → ∀ (a' : Act) (w' : World), I w' → (∀ t, t ∉ ds → a'.tmps.getD t undef = a.tmps.getD t undef) →
      (∀ j d, j < n → ds[j]? = some d → (o.after.any fun e => Region.binds .any e && e.on == j) = true → Φ j (a'.tmps.getD d undef) w') →
      ∀ K : Act → World → Prop, (∀ v w'', S i w' w'' → Φ i v w'' → K (a'.put o.dst v) w'') → o.wp P a' w' K Q)
    (htail : ∀ a' w', I w' → a'.defers = a.defers → a'.tmps.size = a.tmps.size → (∀ t, t ∉ ds → a'.tmps[t]? = a.tmps[t]?) → (∀ i d, i < n → ds[i]? = some d → fin i = true → Φ i (a'.tmps.getD d undef) w') → wpList P l.toArray Q (l.drop n) a' w') :
    ∀ (f : Nat) (b : Array Bool) (a' : Act) (w' : World), HeadInv .any l.toArray n b → SoftInvI l.toArray fin a ds Φ I n b a' w' → unl b n = f → wpAny P .any l.toArray Q (f + (l.toArray.size - n)) b a' w' := by
  intro f
  induction f with
  | zero =>
    intro b a' w' inv si hu
    have hall := unl_none hu
    rw [Nat.zero_add]
    have hb : b = (List.replicate n true ++ List.replicate (l.toArray.size - n) false).toArray := by
      have hsz' := inv.size
      apply Array.ext
      · simp [hsz']; simp at hn; omega
      · intro i h1 h2
        by_cases h : i < n
        · have := hall i h
          simp [h1] at this
          rw [this]
          simp [List.getElem_append, h]
        · have := inv.tail i (by omega) (by omega)
          simp [h1] at this
          rw [this]
          simp [List.getElem_append, h]
    have := wpAny_of_seq (P := P) (md := .any) (ops := l.toArray) (Q' := Q) (l.drop n) n b a' w' (fun j => by simp [List.getElem?_drop])
      (by rw [List.length_drop, show l.length - n = l.toArray.size - n by simp, hb]; exact hq)
      (htail a' w' si.grown si.defers si.size si.same fun i d hi hd hf => si.facts i d hi hd (hall i hi) (.inl hf))
    rwa [List.length_drop, show l.length - n = l.toArray.size - n by simp] at this
  | succ f ih =>
    intro b a' w' inv si hu
    obtain ⟨i0, h0, hb0, hmin⟩ := unl_some (b := b) (k := n) (by omega)
    have hdep : ∀ i, i < n → ∃ o, l.toArray[i]? = some o ∧ o.guard = none ∧ ∀ e ∈ o.after, e.on < i := by
      intro i hi
      have h1 := List.all_eq_true.1 hD i (List.mem_range.2 hi)
      cases ho : l.toArray[i]? with
      | none => simp only [ho] at h1; cases h1
      | some o =>
        simp only [ho, Bool.and_eq_true, Option.isNone_iff_eq_none] at h1
        refine ⟨o, rfl, h1.1, fun e he => ?_⟩
        have := (Array.all_eq_true'.1 h1.2) e he
        simpa using this
    have hbsz : ∀ i, i < n → i < b.size := fun i hi => by rw [inv.size]; omega
    have hready : i0 ∈ Region.ready .any l.toArray b := by
      obtain ⟨o, ho, -, hd⟩ := hdep i0 h0
      refine mem_ready.2 ⟨hb0, o, ho, fun e he _ => ?_⟩
      have h2 := hd e he
      have h3 := hmin e.on h2
      have h4 := hbsz e.on (by omega)
      simp [h4] at h3 ⊢
      exact h3
    rw [show f + 1 + (l.toArray.size - n) = (f + (l.toArray.size - n)) + 1 by omega]
    refine ⟨fun h => (by rw [h] at hready; cases hready), fun i hi => ?_⟩
    have hin : i < n := by
      rcases Nat.lt_or_ge i n with h | h
      · exact h
      · exact absurd hi (tail_waits hs hc hn inv _ i0 rfl h0 hb0 i h)
    obtain ⟨hun, o, ho, hall⟩ := mem_ready.1 hi
    obtain ⟨o', ho', hgd, -⟩ := hdep i hin
    have : o' = o := Option.some.inj (ho'.symm.trans ho)
    subst this
    unfold wpOp
    simp only [ho]
    rw [if_pos (by simp [Region.wanted, hgd])]
    refine .inl (hstep i o' hin ho a' w' si.grown (fun t ht => ?_) (fun j d hj hd ha => ?_) _ fun v w'' hb hv => ?_)
    · have := si.same t ht
      rw [Array.getD_eq_getD_getElem?, Array.getD_eq_getD_getElem?, this]
    · refine si.facts j d hj hd ?_ (.inr ⟨i, o', hin, ho, hun, ha⟩)
      obtain ⟨e, he, h2⟩ := Array.any_eq_true'.1 ha
      simp only [Bool.and_eq_true, beq_iff_eq] at h2
      have h3 := hall e he h2.1
      rw [h2.2] at h3
      have h4 := hbsz j hj
      simp [h4] at h3 ⊢
      exact h3
    · obtain ⟨d, hd⟩ : ∃ d, ds[i]? = some d := ⟨ds[i]'(by omega), List.getElem?_eq_getElem _⟩
      have hod := hdst i o' d hin ho hd
      have hdl : d < a.tmps.size := hsz d (List.mem_of_getElem? hd)
      refine ih _ _ _ (inv.set hi hin) ?_ (by have := unl_set hun hin; omega)
      rw [hod]
      refine ⟨hS i _ _ si.grown hb, si.defers, ?_, fun t ht => ?_, fun j d' hj hd' hbj hwt => ?_⟩
      · show (a'.tmps.setIfInBounds d v).size = _
        rw [Array.size_setIfInBounds]; exact si.size
      · show (a'.tmps.setIfInBounds d v)[t]? = _
        rw [Array.getElem?_setIfInBounds_ne (show d ≠ t from fun e => ht (e ▸ List.mem_of_getElem? hd))]
        exact si.same t ht
      · show Φ j ((a'.tmps.setIfInBounds d v).getD d' undef) w''
        by_cases e : j = i
        · subst e
          rw [hd] at hd'
          injection hd' with hd'
          subst hd'
          have hds' : d < a'.tmps.size := by rw [si.size]; exact hdl
          have : (a'.tmps.setIfInBounds d v).getD d undef = v := by simp [Array.getD_eq_getD_getElem?, hds']
          rw [this]; exact hv
        · have hne : d ≠ d' := fun h => by
            subst h
            have hi' : i < ds.length := by omega
            have hj' : j < ds.length := by omega
            have e1 : ds[i] = ds[j] := by
              rw [List.getElem?_eq_getElem hi'] at hd
              rw [List.getElem?_eq_getElem hj'] at hd'
              injection hd with h1; injection hd' with h2
              rw [h1, h2]
            exact e ((List.getElem_inj hnd).1 e1).symm
          have : (a'.tmps.setIfInBounds d v).getD d' undef = a'.tmps.getD d' undef := by
            rw [Array.getD_eq_getD_getElem?, Array.getD_eq_getD_getElem?, Array.getElem?_setIfInBounds_ne hne]
          rw [this]
          rw [getD_set_ne true (fun h => e h.symm)] at hbj
          have hnd' : fin j = true ∨ ∃ k o, ¬ k = i ∧ k < n ∧ l.toArray[k]? = some o ∧ b.getD k true = false ∧ waitsB o j = true := by
            rcases hwt with h | ⟨k, o, hkn, h1, h2, h3⟩
            · exact .inl h
            · by_cases ek : k = i
              · subst ek
                have : (b.setIfInBounds k true).getD k true = true := by simp [Array.getD_eq_getD_getElem?, Array.getElem?_setIfInBounds]; split <;> simp_all
                rw [this] at h2; cases h2
              · rw [getD_set_ne true (fun h => ek h.symm)] at h2
                exact .inr ⟨k, o, ek, hkn, h1, h2, h3⟩
          have hnw : ∀ oj, l.toArray[j]? = some oj → waitsB oj i = false := fun oj hoj => by
            cases hw : waitsB oj i with
            | false => rfl
            | true =>
              obtain ⟨e', he', h2'⟩ := Array.any_eq_true'.1 hw
              simp only [Bool.and_eq_true, beq_iff_eq] at h2'
              have hjb : b.getD j false = true := by
                have h4 := hbsz j hj
                simp [h4] at hbj ⊢
                exact hbj
              have h3' := inv.closed j oj hoj hjb e' he' h2'.1
              rw [h2'.2] at h3'
              have h4 := hbsz i hin
              simp [h4] at hun h3'
              rw [hun] at h3'
              cases h3'
          exact hper i j _ _ _ hin hj e hnw (hnd'.imp id fun ⟨k, o, h1, hkn, h2, h3, h4⟩ => ⟨k, o, h1, hkn, h2, h4, fun oi hoi => by
            have : oi = o' := Option.some.inj (hoi.symm.trans ho)
            subst this
            cases hw : waitsB oi k with
            | false => rfl
            | true =>
              obtain ⟨e', he', h2'⟩ := Array.any_eq_true'.1 hw
              simp only [Bool.and_eq_true, beq_iff_eq] at h2'
              have h3' := hall e' he' h2'.1
              rw [h2'.2] at h3'
              have h4' := hbsz k hkn
              simp [h4'] at h3 h3'
              rw [h3] at h3'
              cases h3'⟩) (si.facts j d' hj hd' hbj (hnd'.imp id fun ⟨k, o, h1, hkn, h2, h3, h4⟩ => ⟨k, o, hkn, h2, h3, h4⟩)) hb
theorem wp_region_softI {id : Nat} (n : Nat) (ds : List Nat) (Φ : Nat → Value → World → Prop) (hI0 : I { W with drawn := W.drawn + 1 }) (hm : P.follows .mixedOrders = true) (hs : Region.sinkB .any l.toArray n = true) (hc : Region.chainB .any l.toArray n = true) (hn : n < l.toArray.size) (hD : depsB l.toArray n = true) (hq : Region.seqB .any l.toArray (l.toArray.size - n) n (List.replicate n true ++ List.replicate (l.toArray.size - n) false).toArray = true)
    (hds : ds.length = n) (hdst : (l.take n).map (·.dst) = ds.map some) (hnd : ds.Nodup) (hsz : ∀ d ∈ ds, d < a.tmps.size)
    (hS : ∀ i w w', I w → S i w w' → I w') (hper : ∀ i j v w w', i < n → j < n → ¬ j = i → (∀ o, l.toArray[j]? = some o → waitsB o i = false) → (fin j = true ∨ ∃ k o, ¬ k = i ∧ k < n ∧ l.toArray[k]? = some o ∧ waitsB o j = true ∧ ∀ oi, l.toArray[i]? = some oi → waitsB oi k = false) → Φ j v w → S i w w' → Φ j v w')
    (hstep : ∀ i o, i < n → l.toArray[i]? = some o → ∀ (a' : Act) (w' : World), I w' → (∀ t, t ∉ ds → a'.tmps.getD t undef = a.tmps.getD t undef) →
      (∀ j d, j < n → ds[j]? = some d → (o.after.any fun e => Region.binds .any e && e.on == j) = true → Φ j (a'.tmps.getD d undef) w') →
      ∀ K : Act → World → Prop, (∀ v w'', S i w' w'' → Φ i v w'' → K (a'.put o.dst v) w'') → o.wp P a' w' K Q)
    (htail : ∀ a' w', I w' → a'.defers = a.defers → a'.tmps.size = a.tmps.size → (∀ t, t ∉ ds → a'.tmps[t]? = a.tmps[t]?) → (∀ i d, i < n → ds[i]? = some d → fin i = true → Φ i (a'.tmps.getD d undef) w') → wpList P l.toArray Q (l.drop n) a' w') :
    (Code.region id l.toArray true).wp P Q a W := by
  refine wp_region_any hm ?_
  have hdst' : ∀ i o d, i < n → l.toArray[i]? = some o → ds[i]? = some d → o.dst = some d := by
    intro i o d hi ho hd
    have h1 : ((l.take n).map (·.dst))[i]? = some o.dst := by
      have : l[i]? = some o := by simpa using ho
      simp [List.getElem?_take, hi, this]
    rw [hdst, List.getElem?_map, hd] at h1
    simpa using h1.symm
  have inv0 : HeadInv .any l.toArray n (Array.replicate l.toArray.size false) :=
    ⟨by simp, fun j x _ hl => (by rw [getD_replicate_false] at hl; cases hl), fun t _ ht => getD_in (by simpa using ht) (getD_replicate_false _ _)⟩
  have H := soft_anyI (P := P) (Q := Q) (a := a) (I := I) (Φ := Φ) (S := S) hs hc hn hD hq hds hdst' hnd hsz hS hper hstep htail n (Array.replicate l.toArray.size false) a { W with drawn := W.drawn + 1 } inv0
    ⟨hI0, rfl, rfl, fun _ _ => rfl, fun i d hi _ h _ => by
      rw [getD_in (by simp; simp at hn; omega) (getD_replicate_false _ _)] at h
      cases h⟩ (unl_start _ (by omega))
  rw [show n + (l.toArray.size - n) = l.toArray.size by omega] at H
  exact H
end
/-- Does the i-th operation wait for the k-th? -/
def wB (ops : Array Oper) (i k : Nat) : Bool := match ops[i]? with | some o => waitsB o k | none => false
/-- Which of the first n operations must keep what which other has left: nd's i-th list holds j, or the j-th waits for the i-th itself, or whoever else of these waits for j has run as the i-th runs, and it isn't asked for in the end. -/
def ndOK (ops : Array Oper) (fin : List Nat) (nd : List (List Nat)) (n : Nat) : Bool :=
  (List.range n).all fun j => (List.range n).all fun i => i == j || (nd.getD i []).contains j || wB ops j i || (!fin.contains j && (List.range n).all fun k => k == i || !wB ops k j || wB ops i k)
theorem wB_of {ops : Array Oper} {i k : Nat} {o : Oper} (h : ops[i]? = some o) : wB ops i k = waitsB o k := by unfold wB; rw [h]
theorem wB_false {ops : Array Oper} {i k : Nat} (h : ∀ o, ops[i]? = some o → waitsB o k = false) : wB ops i k = false := by
  cases ho : ops[i]? with
  | none => unfold wB; rw [ho]
  | some o => rw [wB_of ho]; exact h o ho
theorem nd_of {ops : Array Oper} {fin : List Nat} {nd : List (List Nat)} {n : Nat} (h : ndOK ops fin nd n = true) {i j : Nat} (hi : i < n) (hj : j < n) (hne : ¬ j = i) (hnw : ∀ o, ops[j]? = some o → waitsB o i = false) (hw : fin.contains j = true ∨ ∃ k o, ¬ k = i ∧ k < n ∧ ops[k]? = some o ∧ waitsB o j = true ∧ ∀ oi, ops[i]? = some oi → waitsB oi k = false) : (nd.getD i []).contains j = true := by
  have h1 := List.all_eq_true.1 (List.all_eq_true.1 h j (List.mem_range.2 hj)) i (List.mem_range.2 hi)
  simp only [Bool.or_eq_true, beq_iff_eq, Bool.and_eq_true, Bool.not_eq_true'] at h1
  rcases h1 with ((h1 | h1) | h1) | ⟨h1, h2⟩
  · exact absurd h1.symm hne
  · exact h1
  · rw [wB_false hnw] at h1; cases h1
  · rcases hw with hw | ⟨k, o, hk, hkn, ho, hw, hik⟩
    · rw [h1] at hw; cases hw
    · have h3 := List.all_eq_true.1 h2 k (List.mem_range.2 hkn)
      simp only [Bool.or_eq_true, beq_iff_eq, Bool.not_eq_true'] at h3
      rcases h3 with (h3 | h3) | h3
      · exact absurd h3 hk
      · rw [wB_of ho, hw] at h3; cases h3
      · rw [wB_false hik] at h3; cases h3
/-- What keeps the invariant and what the other operations have left, as far as that is still waited for. -/
def KeepI (I : World → Prop) (pv : List (Value → World → Prop)) (nd : List (List Nat)) (i : Nat) (w w' : World) : Prop := (I w → I w') ∧ ∀ j v, (nd.getD i []).contains j = true → pv.getD j (fun _ _ => True) v w → pv.getD j (fun _ _ => True) v w'
theorem keepI_refl (I : World → Prop) (pv : List (Value → World → Prop)) (nd : List (List Nat)) (i : Nat) (w : World) : KeepI I pv nd i w w := ⟨fun h => h, fun _ _ _ h => h⟩
theorem keepI_below {I : World → Prop} {pv : List (Value → World → Prop)} {nd : List (List Nat)} (hI : ∀ w w', I w → Below w.heap.size w w' → I w') (hPB : allP (fun p => ∀ v w w', p v w → Below w.heap.size w w' → p v w') pv) {w w' : World} (hb : Below w.heap.size w w') (i : Nat) : KeepI I pv nd i w w' :=
  ⟨fun h => hI w w' h hb, fun j v _ hv => allP_get (C := fun p => ∀ v w w', p v w → Below w.heap.size w w' → p v w') (fun _ _ _ _ _ => trivial) pv j hPB v w w' hv hb⟩
/-- The list with what need not be kept left out. -/
def maskL (l : List Nat) : Nat → List (Value → World → Prop) → List (Value → World → Prop)
  | _, [] => []
  | k, p :: ps => (if l.contains k = true then p else fun _ _ => True) :: maskL l (k + 1) ps
theorem mask_get {l : List Nat} {j : Nat} (h : l.contains j = true) : ∀ (pv : List (Value → World → Prop)) (k i : Nat), k + i = j → (maskL l k pv).getD i (fun _ _ => True) = pv.getD i fun _ _ => True
  | [], _, _, _ => rfl
  | p :: ps, k, 0, e => by
    have : k = j := by omega
    subst this
    show (if l.contains k = true then p else fun _ _ => True) = p
    rw [if_pos h]
  | p :: ps, k, i + 1, e => by
    have := mask_get h ps (k + 1) i (by omega)
    simpa [maskL] using this
theorem keepI_of {I : World → Prop} {pv : List (Value → World → Prop)} {nd : List (List Nat)} {w w' : World} (i : Nat) (h1 : I w → I w') (h2 : allP (fun p => ∀ v, p v w → p v w') (maskL (nd.getD i []) 0 pv)) : KeepI I pv nd i w w' :=
  ⟨h1, fun j v hj hv => by
    have := allP_get (C := fun p => ∀ v, p v w → p v w') (fun _ _ => trivial) (maskL (nd.getD i []) 0 pv) j h2 v
    rw [mask_get hj pv 0 j (by omega)] at this
    exact this hv⟩
def headStep (P : Program) (Q : Exit → Act → World → Prop) (a : Act) (I : World → Prop) (ds : List Nat) (pv : List (Value → World → Prop)) (nd : List (List Nat)) (i : Nat) (o : Oper) : Prop :=
  ∀ (a' : Act) (w' : World), I w' → (∀ t, t ∉ ds → a'.tmps[t]?.getD undef = a.tmps[t]?.getD undef) →
    (∀ j d, (o.after.any fun e => Region.binds .any e && e.on == j) = true → ds[j]? = some d → pv.getD j (fun _ _ => True) (a'.tmps[d]?.getD undef) w') →
    ∀ K : Act → World → Prop, (∀ v w'', KeepI I pv nd i w' w'' → pv.getD i (fun _ _ => True) v w'' → K (a'.put o.dst v) w'') → o.wp P a' w' K Q
theorem wp_raw_pv {P : Program} {l : List Oper} {Q : Exit → Act → World → Prop} {a : Act} {W : World} {id : Nat} (n : Nat) (ds : List Nat) (pv : List (Value → World → Prop)) (fin : List Nat) (nd : List (List Nat)) (I : World → Prop) (hI0 : I { W with drawn := W.drawn + 1 }) (hm : P.follows .mixedOrders = true) (hs : Region.sinkB .any l.toArray n = true) (hc : Region.chainB .any l.toArray n = true) (hn : n < l.toArray.size) (hD : depsB l.toArray n = true) (hq : Region.seqB .any l.toArray (l.toArray.size - n) n (List.replicate n true ++ List.replicate (l.toArray.size - n) false).toArray = true) (hnd : ndOK l.toArray fin nd n = true)
    (hds : ds.length = n) (hdst : (l.take n).map (·.dst) = ds.map some) (hdn : ds.Nodup) (hsz : ∀ d ∈ ds, d < a.tmps.size)
    (hstep : stepsF (headStep P Q a I ds pv nd) 0 (l.take n))
    (htail : ∀ (X : Nat → Value) (w' : World), I w' → (∀ i d, ds[i]? = some d → fin.contains i = true → pv.getD i (fun _ _ => True) (X d) w') → wpList P l.toArray Q (l.drop n) (puts ds (ds.map X) a) w') :
    (Code.region id l.toArray true).wp P Q a W := by
  refine wp_region_softI (S := fun i w w' => KeepI I pv nd i w w') (fin := fun i => fin.contains i) n ds (fun i v w => pv.getD i (fun _ _ => True) v w) hI0 hm hs hc hn hD hq hds hdst hdn hsz (fun i w w' h s => s.1 h) (fun i j v w w' hi hj hne hnw hw h s => s.2 j v (nd_of hnd hi hj hne hnw hw) h) (fun i o hi ho a' w' hb hsame hdep K hK => ?_) (fun a' w' hb h1 h2 h3 h4 => ?_)
  · have hot : (l.take n)[i]? = some o := by
      rw [List.getElem?_take, if_pos hi]
      simpa using ho
    have H := steps_get (l.take n) 0 i o hstep hot
    rw [Nat.zero_add] at H
    refine H a' w' hb (fun t ht => ?_) (fun j d ha hd => ?_) K fun v w'' hs hv => hK v w'' hs hv
    · have := hsame t ht
      rwa [Array.getD_eq_getD_getElem?, Array.getD_eq_getD_getElem?] at this
    · have hjn : j < n := by have := (List.getElem?_eq_some_iff.1 hd).1; omega
      have := hdep j d hjn hd ha
      rwa [Array.getD_eq_getD_getElem?] at this
  · rw [puts_of ds a h1 h2 hsz h3]
    refine htail (fun d => a'.tmps.getD d undef) w' hb fun i d hd hf => h4 i d ?_ hd hf
    have := (List.getElem?_eq_some_iff.1 hd).1
    omega
end Go.Proofs.YtmbgodncagjncaaDoor
