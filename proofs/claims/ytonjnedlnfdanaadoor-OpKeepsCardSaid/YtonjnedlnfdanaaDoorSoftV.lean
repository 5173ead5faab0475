/- What the operations of a region leave that makes memory (XSoft): slices of nothing, of one, rows of the call's own, structs that hold them; rows of the call's own may grow in place. -/
import Derived.Test.YtonjnedlnfdanaaDoorSoft
import Derived.Test.YtonjnedlnfdanaaDoorLate
import Derived.Deep.RegionLaw
import Derived.Deep.RegionLawGrows
import Derived.ArgAppend
import Derived.Laws.OwnMore
namespace Go.Proofs.YtonjnedlnfdanaaDoor
set_option linter.unusedSimpArgs false
set_option linter.unusedVariables false
open Go.ChangeShapes Go.WideShapes Go.ChangeAt Go.RowKit Go.Joins

section
variable {P : Program} {l : List Oper} {Q : Exit → Act → World → Prop} {a : Act} {ds : List Nat} {Φ : Nat → Value → World → Prop} {W : World} {n : Nat} {S : World → World → Prop}
theorem soft_anyS (hs : Region.sinkB .any l.toArray n = true) (hc : Region.chainB .any l.toArray n = true) (hn : n < l.toArray.size) (hD : depsB l.toArray n = true) (hq : Region.seqB .any l.toArray (l.toArray.size - n) n (List.replicate n true ++ List.replicate (l.toArray.size - n) false).toArray = true)
    (hds : ds.length = n) (hdst : ∀ i o d, i < n → l.toArray[i]? = some o → ds[i]? = some d → o.dst = some d) (hnd : ds.Nodup) (hsz : ∀ d ∈ ds, d < a.tmps.size)
    (hS : ∀ w w', Below W.heap.size W w → S w w' → Below W.heap.size W w') (hper : ∀ i v w w', Φ i v w → S w w' → Φ i v w')
    (hstep : ∀ i o, i < n → l.toArray[i]? = some o → ∀ (a' : Act) (w' : World), Below W.heap.size W w' → (∀ t, t ∉ ds → a'.tmps.getD t undef = a.tmps.getD t undef) →
      (∀ j d, j < n → ds[j]? = some d → (o.after.any fun e => Region.binds .any e && e.on == j) = true → Φ j (a'.tmps.getD d undef) w') →
      ∀ K : Act → World → Prop, (∀ v w'', S w' w'' → Φ i v w'' → K (a'.put o.dst v) w'') → o.wp P a' w' K Q)
    (htail : ∀ a' w', Below W.heap.size W w' → a'.defers = a.defers → a'.tmps.size = a.tmps.size → (∀ t, t ∉ ds → a'.tmps[t]? = a.tmps[t]?) → (∀ i d, i < n → ds[i]? = some d → Φ i (a'.tmps.getD d undef) w') → wpList P l.toArray Q (l.drop n) a' w') :
    ∀ (f : Nat) (b : Array Bool) (a' : Act) (w' : World), HeadInv .any l.toArray n b → SoftInv a ds Φ W n b a' w' → unl b n = f → wpAny P .any l.toArray Q (f + (l.toArray.size - n)) b a' w' := by
  intro f
  induction f with
  | zero =>
    intro b a' w' inv si hu
    have hall := unl_none hu
    rw [Nat.zero_add]
    have hb : b = (List.replicate n true ++ List.replicate (l.toArray.size - n) false).toArray := by
      have hsz' := inv.size
      apply Array.ext
      · simp [hsz']; simp at hn; omega
      · intro i h1 h2
        by_cases h : i < n
        · have := hall i h
          simp [h1] at this
          rw [this]
          simp [List.getElem_append, h]
        · have := inv.tail i (by omega) (by omega)
          simp [h1] at this
          rw [this]
          simp [List.getElem_append, h]
    have := wpAny_of_seq (P := P) (md := .any) (ops := l.toArray) (Q' := Q) (l.drop n) n b a' w' (fun j => by simp [List.getElem?_drop])
      (by rw [List.length_drop, show l.length - n = l.toArray.size - n by simp, hb]; exact hq)
      (htail a' w' si.grown si.defers si.size si.same fun i d hi hd => si.facts i d hi hd (hall i hi))
    rwa [List.length_drop, show l.length - n = l.toArray.size - n by simp] at this
  | succ f ih =>
    intro b a' w' inv si hu
    obtain ⟨i0, h0, hb0, hmin⟩ := unl_some (b := b) (k := n) (by omega)
    have hdep : ∀ i, i < n → ∃ o, l.toArray[i]? = some o ∧ o.guard = none ∧ ∀ e ∈ o.after, e.on < i := by
      intro i hi
      have h1 := List.all_eq_true.1 hD i (List.mem_range.2 hi)
      cases ho : l.toArray[i]? with
      | none => simp only [ho] at h1; cases h1
      | some o =>
        simp only [ho, Bool.and_eq_true, Option.isNone_iff_eq_none] at h1
        refine ⟨o, rfl, h1.1, fun e he => ?_⟩
        have := (Array.all_eq_true'.1 h1.2) e he
        simpa using this
    have hbsz : ∀ i, i < n → i < b.size := fun i hi => by rw [inv.size]; omega
    have hready : i0 ∈ Region.ready .any l.toArray b := by
      obtain ⟨o, ho, -, hd⟩ := hdep i0 h0
      refine mem_ready.2 ⟨hb0, o, ho, fun e he _ => ?_⟩
      have h2 := hd e he
      have h3 := hmin e.on h2
      have h4 := hbsz e.on (by omega)
      simp [h4] at h3 ⊢
      exact h3
    rw [show f + 1 + (l.toArray.size - n) = (f + (l.toArray.size - n)) + 1 by omega]
    refine ⟨fun h => (by rw [h] at hready; cases hready), fun i hi => ?_⟩
    have hin : i < n := by
      rcases Nat.lt_or_ge i n with h | h
      · exact h
      · exact absurd hi (tail_waits hs hc hn inv _ i0 rfl h0 hb0 i h)
    obtain ⟨hun, o, ho, hall⟩ := mem_ready.1 hi
    obtain ⟨o', ho', hgd, -⟩ := hdep i hin
    have : o' = o := Option.some.inj (ho'.symm.trans ho)
    subst this
    unfold wpOp
    simp only [ho]
    rw [if_pos (by simp [Region.wanted, hgd])]
    refine .inl (hstep i o' hin ho a' w' si.grown (fun t ht => ?_) (fun j d hj hd ha => ?_) _ fun v w'' hb hv => ?_)
    · have := si.same t ht
      rw [Array.getD_eq_getD_getElem?, Array.getD_eq_getD_getElem?, this]
    · refine si.facts j d hj hd ?_
      obtain ⟨e, he, h2⟩ := Array.any_eq_true'.1 ha
      simp only [Bool.and_eq_true, beq_iff_eq] at h2
      have h3 := hall e he h2.1
      rw [h2.2] at h3
      have h4 := hbsz j hj
      simp [h4] at h3 ⊢
      exact h3
    · obtain ⟨d, hd⟩ : ∃ d, ds[i]? = some d := ⟨ds[i]'(by omega), List.getElem?_eq_getElem _⟩
      have hod := hdst i o' d hin ho hd
      have hdl : d < a.tmps.size := hsz d (List.mem_of_getElem? hd)
      refine ih _ _ _ (inv.set hi hin) ?_ (by have := unl_set hun hin; omega)
      rw [hod]
      refine ⟨hS _ _ si.grown hb, si.defers, ?_, fun t ht => ?_, fun j d' hj hd' hbj => ?_⟩
      · show (a'.tmps.setIfInBounds d v).size = _
        rw [Array.size_setIfInBounds]; exact si.size
      · show (a'.tmps.setIfInBounds d v)[t]? = _
        rw [Array.getElem?_setIfInBounds_ne (show d ≠ t from fun e => ht (e ▸ List.mem_of_getElem? hd))]
        exact si.same t ht
      · show Φ j ((a'.tmps.setIfInBounds d v).getD d' undef) w''
        by_cases e : j = i
        · subst e
          rw [hd] at hd'
          injection hd' with hd'
          subst hd'
          have hds' : d < a'.tmps.size := by rw [si.size]; exact hdl
          have : (a'.tmps.setIfInBounds d v).getD d undef = v := by simp [Array.getD_eq_getD_getElem?, hds']
          rw [this]; exact hv
        · have hne : d ≠ d' := fun h => by
            subst h
            have hi' : i < ds.length := by omega
            have hj' : j < ds.length := by omega
            have e1 : ds[i] = ds[j] := by
              rw [List.getElem?_eq_getElem hi'] at hd
              rw [List.getElem?_eq_getElem hj'] at hd'
              injection hd with h1; injection hd' with h2
              rw [h1, h2]
            exact e ((List.getElem_inj hnd).1 e1).symm
          have : (a'.tmps.setIfInBounds d v).getD d' undef = a'.tmps.getD d' undef := by
            rw [Array.getD_eq_getD_getElem?, Array.getD_eq_getD_getElem?, Array.getElem?_setIfInBounds_ne hne]
          rw [this]
          rw [getD_set_ne true (fun h => e h.symm)] at hbj
          exact hper j _ _ _ (si.facts j d' hj hd' hbj) hb
theorem wp_region_softS {id : Nat} (n : Nat) (ds : List Nat) (Φ : Nat → Value → World → Prop) (hm : P.follows .mixedOrders = true) (hs : Region.sinkB .any l.toArray n = true) (hc : Region.chainB .any l.toArray n = true) (hn : n < l.toArray.size) (hD : depsB l.toArray n = true) (hq : Region.seqB .any l.toArray (l.toArray.size - n) n (List.replicate n true ++ List.replicate (l.toArray.size - n) false).toArray = true)
    (hds : ds.length = n) (hdst : (l.take n).map (·.dst) = ds.map some) (hnd : ds.Nodup) (hsz : ∀ d ∈ ds, d < a.tmps.size)
    (hS : ∀ w w', Below W.heap.size W w → S w w' → Below W.heap.size W w') (hper : ∀ i v w w', Φ i v w → S w w' → Φ i v w')
    (hstep : ∀ i o, i < n → l.toArray[i]? = some o → ∀ (a' : Act) (w' : World), Below W.heap.size W w' → (∀ t, t ∉ ds → a'.tmps.getD t undef = a.tmps.getD t undef) →
      (∀ j d, j < n → ds[j]? = some d → (o.after.any fun e => Region.binds .any e && e.on == j) = true → Φ j (a'.tmps.getD d undef) w') →
      ∀ K : Act → World → Prop, (∀ v w'', S w' w'' → Φ i v w'' → K (a'.put o.dst v) w'') → o.wp P a' w' K Q)
    (htail : ∀ a' w', Below W.heap.size W w' → a'.defers = a.defers → a'.tmps.size = a.tmps.size → (∀ t, t ∉ ds → a'.tmps[t]? = a.tmps[t]?) → (∀ i d, i < n → ds[i]? = some d → Φ i (a'.tmps.getD d undef) w') → wpList P l.toArray Q (l.drop n) a' w') :
    (Code.region id l.toArray true).wp P Q a W := by
  refine wp_region_any hm ?_
  have hdst' : ∀ i o d, i < n → l.toArray[i]? = some o → ds[i]? = some d → o.dst = some d := by
    intro i o d hi ho hd
    have h1 : ((l.take n).map (·.dst))[i]? = some o.dst := by
      have : l[i]? = some o := by simpa using ho
      simp [List.getElem?_take, hi, this]
    rw [hdst, List.getElem?_map, hd] at h1
    simpa using h1.symm
  have inv0 : HeadInv .any l.toArray n (Array.replicate l.toArray.size false) :=
    ⟨by simp, fun j x _ hl => (by rw [getD_replicate_false] at hl; cases hl), fun t _ ht => getD_in (by simpa using ht) (getD_replicate_false _ _)⟩
  have H := soft_anyS (P := P) (Q := Q) (a := a) (W := W) (Φ := Φ) (S := S) hs hc hn hD hq hds hdst' hnd hsz hS hper hstep htail n (Array.replicate l.toArray.size false) a { W with drawn := W.drawn + 1 } inv0
    ⟨⟨rfl, rfl, rfl, Nat.le_refl _, fun _ _ => rfl⟩, rfl, rfl, fun _ _ => rfl, fun i d _ _ h => by
      rename_i hi _
      rw [getD_in (by simp; simp at hn; omega) (getD_replicate_false _ _)] at h
      cases h⟩ (unl_start _ (by omega))
  rw [show n + (l.toArray.size - n) = l.toArray.size by omega] at H
  exact H
end
theorem len_cons {α : Type} {l : List α} {n : Nat} (h : l.length = n + 1) : ∃ x t, l = x :: t ∧ t.length = n := by
  cases l with
  | nil => cases h
  | cons x t => exact ⟨x, t, rfl, by simpa using h⟩
/-- What keeps all that the operations have left. -/
def SoftS (W : World) (pv : List (Value → World → Prop)) (w w' : World) : Prop := Below W.heap.size w w' ∧ ∀ i v, pv.getD i (fun _ _ => True) v w → pv.getD i (fun _ _ => True) v w'
theorem softS_below {W : World} {pv : List (Value → World → Prop)} (hPB : allP (fun p => ∀ v w w', p v w → Below w.heap.size w w' → p v w') pv) {w w' : World} (hb : Below W.heap.size W w) (h : Below w.heap.size w w') : SoftS W pv w w' :=
  ⟨h.mono hb.size, fun i v hv => allP_get (C := fun p => ∀ v w w', p v w → Below w.heap.size w w' → p v w') (fun _ _ _ _ _ => trivial) pv i hPB v w w' hv h⟩
theorem wp_soft_pv {P : Program} {l : List Oper} {Q : Exit → Act → World → Prop} {a : Act} {W : World} {id : Nat} (n : Nat) (ds : List Nat) (pv : List (Value → World → Prop)) (hm : P.follows .mixedOrders = true) (hs : Region.sinkB .any l.toArray n = true) (hc : Region.chainB .any l.toArray n = true) (hn : n < l.toArray.size) (hD : depsB l.toArray n = true) (hq : Region.seqB .any l.toArray (l.toArray.size - n) n (List.replicate n true ++ List.replicate (l.toArray.size - n) false).toArray = true)
    (hds : ds.length = n) (hdst : (l.take n).map (·.dst) = ds.map some) (hnd : ds.Nodup) (hsz : ∀ d ∈ ds, d < a.tmps.size)
    (hstep : ∀ i o, i < n → l.toArray[i]? = some o → ∀ (a' : Act) (w' : World), Below W.heap.size W w' → (∀ t, t ∉ ds → a'.tmps.getD t undef = a.tmps.getD t undef) →
      (∀ j d, j < n → ds[j]? = some d → (o.after.any fun e => Region.binds .any e && e.on == j) = true → pv.getD j (fun _ _ => True) (a'.tmps.getD d undef) w') →
      ∀ K : Act → World → Prop, (∀ v w'', SoftS W pv w' w'' → pv.getD i (fun _ _ => True) v w'' → K (a'.put o.dst v) w'') → o.wp P a' w' K Q)
    (htail : ∀ vs w', vs.length = n → Below W.heap.size W w' → (∀ i v, vs[i]? = some v → pv.getD i (fun _ _ => True) v w') → wpList P l.toArray Q (l.drop n) (puts ds vs a) w') :
    (Code.region id l.toArray true).wp P Q a W := by
  refine wp_region_softS (S := SoftS W pv) n ds (fun i v w => pv.getD i (fun _ _ => True) v w) hm hs hc hn hD hq hds hdst hnd hsz (fun w w' h s => h.trans s.1) (fun i v w w' h s => s.2 i v h) hstep fun a' w' hb h1 h2 h3 h4 => ?_
  rw [puts_of ds a h1 h2 hsz h3]
  refine htail _ w' (by rw [List.length_map, hds]) hb fun i v hv => ?_
  rw [List.getElem?_map] at hv
  cases hd : ds[i]? with
  | none => rw [hd] at hv; cases hv
  | some d =>
    rw [hd] at hv
    injection hv with hv
    rw [← hv]
    refine h4 i d ?_ hd
    have := (List.getElem?_eq_some_iff.1 hd).1
    omega
def NilsV (N : Nat) (e : TypeId) (size : Nat) (v : Value) (w : World) : Prop := w.ownsRow N e size v 0 [] ∧ ∃ ao, v = .slice ao 0 0
theorem NilsV.below {N : Nat} {e : TypeId} {size : Nat} {v : Value} {w w' : World} (h : NilsV N e size v w) (hb : Below w.heap.size w w') : NilsV N e size v w' := ⟨owned_below h.1 hb, h.2⟩
theorem nilsV_new {N : Nat} (W : World) (e : TypeId) (size : Nat) (hN : N ≤ W.heap.size) : NilsV N e size (.slice (some ⟨W.heap.size, 0, none⟩) 0 0) (W.alloc (.cells #[] e)) := ⟨World.ownsRow_lit W #[] 0 hN (by decide) (by simp), _, rfl⟩
def OneV (N : Nat) (x : Value) (v : Value) (w : World) : Prop := ∃ ad : Addr, v = .slice (some ad) 1 1 ∧ (N ≤ ad.block ∧ ad.block < w.heap.size) ∧ ∀ j u, [x][j]? = some u → w.cell? (ad.add j) = some u
theorem addr_add_block (ad : Addr) (j : Nat) : (ad.add j).block = ad.block := by
  obtain ⟨b, o, s⟩ := ad
  unfold Addr.add
  split <;> rfl
theorem OneV.below {N : Nat} {x v : Value} {w w' : World} (h : OneV N x v w) (hb : Below w.heap.size w w') : OneV N x v w' := by
  obtain ⟨ad, e, ⟨hn, hl⟩, hc⟩ := h
  exact ⟨ad, e, ⟨hn, Nat.lt_of_lt_of_le hl hb.size⟩, fun j u hj => (hb.cell (p := ad.add j) (by rw [addr_add_block]; exact hl)).trans (hc j u hj)⟩
theorem oneV_new {N : Nat} (W : World) (x : Value) (t : TypeId) (hN : N ≤ W.heap.size) : OneV N x (.slice (some ⟨W.heap.size, 0, none⟩) 1 1) (W.alloc (.cells #[x] t)) := by
  refine ⟨_, rfl, ⟨hN, by simp⟩, fun j u hj => ?_⟩
  match j, hj with
  | 0, hj =>
    obtain rfl : x = u := by simpa using hj
    exact cell_of_row _ _ _ _ _ _ (heap_alloc_new W (.cells #[x] t))
def OwnV (N : Nat) (e : TypeId) (size n : Nat) (xs : List Value) (v : Value) (w : World) : Prop := w.ownsRow N e size v n xs
theorem OwnV.below {N : Nat} {e : TypeId} {size n : Nat} {xs : List Value} {v : Value} {w w' : World} (h : OwnV N e size n xs v w) (hb : Below w.heap.size w w') : OwnV N e size n xs v w' := owned_below h hb
def PutV (N : Nat) (e : TypeId) (size n : Nat) (xs A B : List Value) (v : Value) (w : World) : Prop := ∃ p c, v = .agg (A ++ [Value.slice p n c] ++ B).toArray ∧ w.ownsRow N e size (.slice p n c) n xs
theorem PutV.below {N : Nat} {e : TypeId} {size n : Nat} {xs A B : List Value} {v : Value} {w w' : World} (h : PutV N e size n xs A B v w) (hb : Below w.heap.size w w') : PutV N e size n xs A B v w' := by
  obtain ⟨p, c, e, h⟩ := h
  exact ⟨p, c, e, owned_below h hb⟩
/-! Rows of the call's own, one cell stored. -/
theorem own_set {w : World} {base : Nat} {e : TypeId} {v : Value} {n : Nat} {xs : List Value} (h : w.ownsRow base e 1 v n xs) {g k : Nat} {u : Value} (hu : ∀ y, xs[k]? = some y → y = u) : (w.setCell ⟨g, k, none⟩ u).ownsRow base e 1 v n xs := by
  by_cases hg : v.ownBlock = some g
  · obtain ⟨p, cap, rfl, -⟩ := owned_new h
    rcases h.2 with ⟨hv, h0⟩ | ⟨g', cap', cur, hv, -⟩
    · injection hv with hv
      subst hv
      cases hg
    · injection hv with hv
      subst hv
      obtain rfl : g' = g := Option.some.inj hg
      have h2 := (h.stored k u).1
      have hs : xs.set k u = xs := by
        apply List.ext_getElem?
        intro j
        rw [List.getElem?_set]
        by_cases e : k = j
        · subst e
          rw [if_pos rfl]
          by_cases hk : k < xs.length
          · rw [if_pos hk, List.getElem?_eq_getElem hk, hu _ (List.getElem?_eq_getElem hk)]
          · rw [if_neg hk, List.getElem?_eq_none (by omega)]
        · rw [if_neg e]
      rwa [hs] at h2
  · exact owned_setCell h hg k u
theorem OneV.set {N : Nat} {x v : Value} {w : World} (h : OneV N x v w) (g k : Nat) : OneV N x v (w.setCell ⟨g, k, none⟩ x) := by
  obtain ⟨ad, e, hl, hc⟩ := h
  refine ⟨ad, e, by simpa [World.setCell] using hl, fun j u hj => ?_⟩
  have hu : x = u := by
    match j, hj with
    | 0, hj => simpa using hj
  subst hu
  have hcj := hc j _ hj
  by_cases ea : (⟨g, k, none⟩ : Addr) = ad.add j
  · rw [← ea] at hcj ⊢
    exact World.cell?_setCell_same w ⟨g, k, none⟩ x hcj
  · rw [World.cell?_setCell_other w _ _ _ (fun h => ea h)]
    exact hcj
theorem NilsV.set {N : Nat} {e : TypeId} {v : Value} {w : World} (h : NilsV N e 1 v w) (g k : Nat) (u : Value) : NilsV N e 1 v (w.setCell ⟨g, k, none⟩ u) := ⟨own_set h.1 (fun y hy => by simp at hy), h.2⟩
theorem OwnV.set {N : Nat} {e : TypeId} {n : Nat} {xs : List Value} {v : Value} {w : World} (h : OwnV N e 1 n xs v w) {g k : Nat} {u : Value} (hu : ∀ y, xs[k]? = some y → y = u) : OwnV N e 1 n xs v (w.setCell ⟨g, k, none⟩ u) := own_set h hu
theorem PutV.set {N : Nat} {e : TypeId} {n : Nat} {xs A B : List Value} {v : Value} {w : World} (h : PutV N e 1 n xs A B v w) {g k : Nat} {u : Value} (hu : ∀ y, xs[k]? = some y → y = u) : PutV N e 1 n xs A B v (w.setCell ⟨g, k, none⟩ u) := by
  obtain ⟨p, c, e, h⟩ := h
  exact ⟨p, c, e, own_set h hu⟩
/-- 'append(s, x)', s the call's own, as one step of a region: in place, or a new row. -/
theorem step_append_one {P : Program} {o : Oper} {a : Act} {w : World} {K : Act → World → Prop} {Q : Exit → Act → World → Prop}
    (hg : o.guard = none) (s x : Operand) (t : TypeId) (hop : o.op = Op.call { callee := Callee.builtin Builtin.append, args := #[s, x], argTypes := #[t, t] })
    (e : TypeId) (i : TypeInfo) (z0 : Value) (bytes : Nat) (h1 : P.underlying t = some (.slice e)) (h2 : P.info? e = some i) (h3 : i.zero = some z0) (h4 : i.size = 1) (h5 : i.bytes = bytes) (h6 : z0.cells.size = 1)
    (N : Nat) (v : Value) (n : Nat) (xs : List Value) (hs : a.eval s = v) (hown : w.ownsRow N e 1 v n xs) (ad : Addr) (u : Value) (hx : a.eval x = .slice (some ad) 1 1) (hc : ∀ j y, [u][j]? = some y → w.cell? (ad.add j) = some y) (h1c : u.oneCell' = true)
    (b1 : n + 1 ≤ maxLen) (b2 : (n + 1) * bytes ≤ 140737488355328) (hN : N ≤ w.heap.size)
    (hK : ∀ v' w', w'.ownsRow N e 1 v' (n + 1) (xs ++ [u]) → (Below w.heap.size w w' ∨ ∃ g, N ≤ g ∧ w' = w.setCell ⟨g, n, none⟩ u) → K (a.put o.dst v') w') : o.wp P a w K Q := by
  have h1c' : ∀ y ∈ [u], y.oneCell' = true := fun y hy => by rw [List.mem_singleton.1 hy]; exact h1c
  have hlen : xs.length = n := by have := hown.1; omega
  rcases hown.2 with ⟨hv, h0⟩ | ⟨g, cap, cur, hv, hb, hg', hnc, hcm, hcs, htake⟩
  · subst h0
    obtain rfl : xs = [] := List.eq_nil_of_length_eq_zero hlen
    refine wp_wanted hg (step_append_grows hg s x t hop e i z0 1 bytes h1 h2 h3 h4 h5 h6 (by decide) none 0 0 [] (hs.trans hv) (fun _ => ⟨rfl, rfl⟩) rfl (fun b hb => by cases hb) ad 1 1 [u] hx rfl hc h1c' (by omega) b1 b2 fun v' w' ho hgr => ?_)
    exact hK v' w' (owned_base (by simpa using ho) hN) (.inl ((Below.refl _ _).grown hgr (Nat.le_refl _) (fun k hk => by cases hk)))
  · by_cases hr : n < cap
    · have hcell : ∀ j, j < [u].length → (w.cell? ⟨g, 0 + n * 1 + j, none⟩).isSome = true ∧ w.frozen? ⟨g, 0 + n * 1 + j, none⟩ = false := fun j hj => by
        obtain rfl : j = 0 := by simpa using hj
        refine ⟨?_, frozen_of_row w g _ cur e hg'⟩
        rw [cell_of_row w g _ cur e _ hg']
        have hlt : n < cur.size := by omega
        rw [show 0 + n * 1 + 0 = n by omega, Array.getElem?_eq_getElem hlt]
        rfl
      refine wp_wanted hg (step_append_room hg s x t hop e i 1 h1 h2 h4 g 0 n cap (hs.trans hv) ad 1 1 [u] hx rfl hc h1c' (by omega) hcell ?_)
      have hw : w.setCells g (0 + n * 1) [u] = w.setCell ⟨g, n, none⟩ u := by rw [show 0 + n * 1 = n by omega]; rfl
      rw [hw]
      refine hK _ _ ⟨by simp [hlen], .inr ⟨g, cap, cur.setIfInBounds n u, rfl, hb, heap_setCell_same w g n cur e u hg', by omega, hcm, by simpa using hcs, ?_⟩⟩ (.inr ⟨g, hb, rfl⟩)
      rw [Array.toList_setIfInBounds, ← htake]
      apply List.ext_getElem?
      intro j
      have hl : cur.toList.length = cap := by simpa using hcs
      rw [List.getElem?_take, List.getElem?_set, List.getElem?_append, List.length_take, hl]
      by_cases hj : j < n
      · rw [if_pos (by omega), if_neg (by omega), if_pos (by omega), List.getElem?_take, if_pos (by omega)]
      · by_cases hj' : j = n
        · subst hj'
          rw [if_pos (by omega), if_pos rfl, if_pos (by omega), if_neg (by omega)]
          rw [show j - min (j * 1) cap = 0 by omega]
          rfl
        · rw [if_neg (by omega), if_neg (by omega)]
          rw [List.getElem?_eq_none (by simp; omega)]
    · refine wp_wanted hg (step_append_grows hg s x t hop e i z0 1 bytes h1 h2 h3 h4 h5 h6 (by decide) (some ⟨g, 0, none⟩) n cap xs (hs.trans hv) (fun h => by cases h) (by omega) (fun b hb' j y hj => ?_) ad 1 1 [u] hx rfl hc h1c' (by omega) b1 b2 fun v' w' ho hgr => ?_)
      · injection hb' with hb'
        subst hb'
        have hjn : j < n := by have := (List.getElem?_eq_some_iff.1 hj).1; omega
        rw [add_none, Nat.zero_add, cell_of_row w g _ cur e _ hg', ← Array.getElem?_toList]
        rw [← htake, List.getElem?_take, if_pos (by omega)] at hj
        exact hj
      · exact hK v' w' (owned_base ho hN) (.inl ((Below.refl _ _).grown hgr (Nat.le_refl _) (fun k hk => by cases hk)))
/-- 'append(s, x...)' of an x of nothing: s. -/
theorem run_append_zero {P : Program} {w : World} (t ty e : TypeId) (i : TypeInfo) (ht : P.underlying t = some (.slice e)) (hi : P.info? e = some i) (ao : Option Addr) (n cap : Nat) (hnc : n ≤ cap) (q : Option Addr) (c : Nat) :
    (Builtin.append_ #[t, t] ty #[.slice ao n cap, .slice q 0 c]).run P w = .ok (.slice ao n cap) w := by
  have hfc : (Builtin.firstCells i.size 0 (.slice q 0 c)).run P w = .ok #[] w := by
    cases q with
    | none => simp [Builtin.firstCells]
    | some a => exact run_firstCells_some (P := P) w i.size 0 a 0 c [] (by simp) (fun j u hj => by simp at hj)
  cases ao <;> simp [Builtin.append_, run_underlying ht, sizeOf, typeInfo, hi, Builtin.lenOf, hnc, hfc, storeCells]
/-- 'append([]T{}, x...)', x integers that came in, as one step of a region. -/
theorem step_append_nil {P : Program} {o : Oper} {a : Act} {w : World} {K : Act → World → Prop} {Q : Exit → Act → World → Prop}
    (hg : o.guard = none) (s x : Operand) (t : TypeId) (hop : o.op = Op.call { callee := Callee.builtin Builtin.append, args := #[s, x], argTypes := #[t, t] })
    (e : TypeId) (i : TypeInfo) (z0 : Value) (bytes : Nat) (h1 : P.underlying t = some (.slice e)) (h2 : P.info? e = some i) (h3 : i.zero = some z0) (h4 : i.size = 1) (h5 : i.bytes = bytes) (h6 : z0.cells.size = 1)
    (N : Nat) (v : Value) (hs : a.eval s = v) (hown : NilsV N e 1 v w) (k : IntKind) (p : Option Addr) (n c : Nat) (z : Nat → Int) (hx : a.eval x = .slice p n c) (hin : Ints k w p n z)
    (b1 : n ≤ maxLen) (b2 : n * bytes ≤ 140737488355328) (hN : N ≤ w.heap.size)
    (hK : ∀ v' w', w'.ownsRow N e 1 v' n (vals k n z) → Below w.heap.size w w' → K (a.put o.dst v') w') : o.wp P a w K Q := by
  obtain ⟨ho, ao, rfl⟩ := hown
  by_cases h0 : n = 0
  · subst h0
    have hrun := run_append_zero (P := P) (w := w) t o.type e i h1 h2 ao 0 0 (Nat.le_refl _) p c
    unfold Oper.wp
    simp [execOp, hop, resolve, invoke, builtin, hs, hx, hrun, Result.andThen]
    exact hK _ _ (by simpa [vals] using ho) (Below.refl _ _)
  · obtain ⟨ad, rfl, hc⟩ := hin.cells (by omega)
    refine wp_wanted hg (step_append_grows hg s x t hop e i z0 1 bytes h1 h2 h3 h4 h5 h6 (by decide) ao 0 0 [] hs (fun _ => ⟨rfl, rfl⟩) rfl (fun b _ j u hj => by simp at hj) ad n c (vals k n z) hx (by simp [vals_length]) hc (vals_one _ _ _) (by omega) (by rw [Nat.zero_add]; exact b1) (by rw [Nat.zero_add]; exact b2) fun v' w' h hgr => ?_)
    rw [Nat.zero_add, List.nil_append] at h
    exact hK v' w' (owned_base h hN) ((Below.refl _ _).grown hgr (Nat.le_refl _) (fun k hk => by cases hk))
/-! A store into a variable that lies below. -/
theorem OneV.under {N : Nat} {x v : Value} {w : World} (h : OneV N x v w) {g : Nat} (hg : g < N) (k : Nat) (u : Value) : OneV N x v (w.setCell ⟨g, k, none⟩ u) := by
  obtain ⟨ad, e, hl, hc⟩ := h
  refine ⟨ad, e, by simpa [World.setCell] using hl, fun j y hj => ?_⟩
  rw [World.cell?_setCell_other w _ _ _ (fun h => by have h2 := congrArg Addr.block h; rw [addr_add_block] at h2; have h3 : g = ad.block := h2; omega)]
  exact hc j y hj
theorem OwnV.under {N : Nat} {e : TypeId} {size n : Nat} {xs : List Value} {v : Value} {w : World} (h : OwnV N e size n xs v w) {g : Nat} (hg : g < N) (k : Nat) (u : Value) : OwnV N e size n xs v (w.setCell ⟨g, k, none⟩ u) :=
  owned_setCell h (fun e => by have := (World.ownsRow.lt h g e).1; omega) k u
theorem NilsV.under {N : Nat} {e : TypeId} {size : Nat} {v : Value} {w : World} (h : NilsV N e size v w) {g : Nat} (hg : g < N) (k : Nat) (u : Value) : NilsV N e size v (w.setCell ⟨g, k, none⟩ u) := ⟨OwnV.under (n := 0) (xs := []) h.1 hg k u, h.2⟩
theorem PutV.under {N : Nat} {e : TypeId} {size n : Nat} {xs A B : List Value} {v : Value} {w : World} (h : PutV N e size n xs A B v w) {g : Nat} (hg : g < N) (k : Nat) (u : Value) : PutV N e size n xs A B v (w.setCell ⟨g, k, none⟩ u) := by
  obtain ⟨p, c, e, h⟩ := h
  exact ⟨p, c, e, OwnV.under h hg k u⟩
/-! A region that draws its order, each operation told by itself, stores into what lies below too. -/
/-- A variable of n cells, to be written. -/
def ShapeN (g n : Nat) (w : World) : Prop := g < w.heap.size ∧ ∀ j, j < n → (∃ y, w.cell? ⟨g, j, none⟩ = some y) ∧ w.frozen? ⟨g, j, none⟩ = false
theorem ShapeN.below {g n : Nat} {w w' : World} (h : ShapeN g n w) (hb : Below w.heap.size w w') : ShapeN g n w' :=
  ⟨Nat.lt_of_lt_of_le h.1 hb.size, fun j hj => by
    obtain ⟨⟨y, hy⟩, hf⟩ := h.2 j hj
    exact ⟨⟨y, (hb.cell (p := ⟨g, j, none⟩) h.1).trans hy⟩, (hb.frozen (p := ⟨g, j, none⟩) h.1).trans hf⟩⟩
theorem ShapeN.set {g n : Nat} {w : World} (h : ShapeN g n w) (b k : Nat) (u : Value) : ShapeN g n (w.setCell ⟨b, k, none⟩ u) :=
  ⟨by simpa [World.setCell] using h.1, fun j hj => by
    obtain ⟨⟨y, hy⟩, hf⟩ := h.2 j hj
    refine ⟨?_, by rw [World.frozen?_setCell]; exact hf⟩
    by_cases e : (⟨b, k, none⟩ : Addr) = ⟨g, j, none⟩
    · rw [e]; exact ⟨u, World.cell?_setCell_same w _ _ hy⟩
    · exact ⟨y, (World.cell?_setCell_other w _ _ _ e).trans hy⟩⟩
theorem shape_2 {g : Nat} {w : World} {a b : Value} (h : g < w.heap.size) (h0 : w.cell? ⟨g, 0, none⟩ = some a) (h1 : w.cell? ⟨g, 1, none⟩ = some b) (f0 : w.frozen? ⟨g, 0, none⟩ = false) (f1 : w.frozen? ⟨g, 1, none⟩ = false) : ShapeN g 2 w := ⟨h, fun j hj => by
  match j, hj with
  | 0, _ => exact ⟨⟨_, h0⟩, f0⟩
  | 1, _ => exact ⟨⟨_, h1⟩, f1⟩⟩
/-- What a variable holds. -/
def CellsV (g : Nat) (xs : List Value) (_ : Value) (w : World) : Prop := g < w.heap.size ∧ ∀ j u, xs[j]? = some u → w.cell? ⟨g, j, none⟩ = some u
theorem CellsV.below {g : Nat} {xs : List Value} {v : Value} {w w' : World} (h : CellsV g xs v w) (hb : Below w.heap.size w w') : CellsV g xs v w' :=
  ⟨Nat.lt_of_lt_of_le h.1 hb.size, fun j u hj => (hb.cell (p := ⟨g, j, none⟩) h.1).trans (h.2 j u hj)⟩
theorem CellsV.far {g : Nat} {xs : List Value} {v : Value} {w : World} (h : CellsV g xs v w) {b : Nat} (hb : ¬ b = g) (k : Nat) (u : Value) : CellsV g xs v (w.setCell ⟨b, k, none⟩ u) :=
  ⟨by simpa [World.setCell] using h.1, fun j y hj => (World.cell?_setCell_other w _ _ _ (fun e => hb (congrArg Addr.block e))).trans (h.2 j y hj)⟩
theorem cellsV_2 {g : Nat} {w : World} (h : ShapeN g 2 w) (a b v : Value) : CellsV g [a, b] v ((w.setCell ⟨g, 0, none⟩ a).setCell ⟨g, 1, none⟩ b) := by
  obtain ⟨⟨y0, s0⟩, -⟩ := h.2 0 (by decide)
  obtain ⟨⟨y1, s1⟩, -⟩ := h.2 1 (by decide)
  have h1 : (w.setCell ⟨g, 0, none⟩ a).cell? ⟨g, 1, none⟩ = some y1 := (World.cell?_setCell_other w _ _ _ (by simp)).trans s1
  refine ⟨by simpa [World.setCell] using h.1, fun j u hj => ?_⟩
  match j, hj with
  | 0, hj =>
    obtain rfl : a = u := by simpa using hj
    exact (World.cell?_setCell_other _ _ _ _ (by simp)).trans (World.cell?_setCell_same w _ _ s0)
  | 1, hj =>
    obtain rfl : b = u := by simpa using hj
    exact World.cell?_setCell_same _ _ _ h1
/-- What a variable holds: a struct with a row of the call's own. -/
def StoreV (g N : Nat) (e : TypeId) (size n : Nat) (xs A B : List Value) (v : Value) (w : World) : Prop := ∃ p c, CellsV g (A ++ [Value.slice p n c] ++ B) v w ∧ w.ownsRow N e size (.slice p n c) n xs
theorem StoreV.below {g N : Nat} {e : TypeId} {size n : Nat} {xs A B : List Value} {v : Value} {w w' : World} (h : StoreV g N e size n xs A B v w) (hb : Below w.heap.size w w') : StoreV g N e size n xs A B v w' := by
  obtain ⟨p, c, h1, h2⟩ := h
  exact ⟨p, c, h1.below hb, owned_below h2 hb⟩
theorem StoreV.far {g N : Nat} {e : TypeId} {n : Nat} {xs A B : List Value} {v : Value} {w : World} (h : StoreV g N e 1 n xs A B v w) {b k : Nat} (hb : ¬ b = g) {u : Value} (hu : ∀ y, xs[k]? = some y → y = u) : StoreV g N e 1 n xs A B v (w.setCell ⟨b, k, none⟩ u) := by
  obtain ⟨p, c, h1, h2⟩ := h
  exact ⟨p, c, h1.far hb k u, own_set h2 hu⟩
def ToldS (N : Nat) (Sh : World → Prop) (pv : List (Value → World → Prop)) (w w' : World) : Prop := Below N w w' ∧ (Sh w → Sh w') ∧ ∀ i v, pv.getD i (fun _ _ => True) v w → pv.getD i (fun _ _ => True) v w'
theorem toldS_below {N : Nat} {Sh : World → Prop} (hSh : ∀ w w', Sh w → Below w.heap.size w w' → Sh w') {pv : List (Value → World → Prop)} (hPB : allP (fun p => ∀ v w w', p v w → Below w.heap.size w w' → p v w') pv) {w w' : World} (hN : N ≤ w.heap.size) (h : Below w.heap.size w w') : ToldS N Sh pv w w' :=
  ⟨h.mono hN, fun hs => hSh _ _ hs h, fun i v hv => allP_get (C := fun p => ∀ v w w', p v w → Below w.heap.size w w' → p v w') (fun _ _ _ _ _ => trivial) pv i hPB v w w' hv h⟩
def toldStep (P : Program) (Q : Exit → Act → World → Prop) (a : Act) (W : World) (N : Nat) (Sh : World → Prop) (ds : List (Option Nat)) (pv : List (Value → World → Prop)) (i : Nat) (o : Oper) : Prop :=
  ∀ (a' : Act) (w' : World), Below N W w' → W.heap.size ≤ w'.heap.size → Sh w' → (∀ t, some t ∉ ds → a'.tmps[t]?.getD undef = a.tmps[t]?.getD undef) →
    (∀ j d, (o.after.any fun e => Region.binds .any e && e.on == j) = true → ds[j]? = some (some d) → pv.getD j (fun _ _ => True) (a'.tmps[d]?.getD undef) w') →
    ∀ K : Act → World → Prop, (∀ v w'', ToldS N Sh pv w' w'' → pv.getD i (fun _ _ => True) (valOf o v) w'' → K (a'.put o.dst v) w'') → o.wp P a' w' K Q
theorem wp_told_pv {P : Program} {l : List Oper} {Q : Exit → Act → World → Prop} {a : Act} {W : World} {id : Nat} (N : Nat) (Sh : World → Prop) (ds : List (Option Nat)) (ts : List Nat) (pv : List (Value → World → Prop)) (k : Nat) (hm : P.follows .mixedOrders = true) (hD : depsAllB l.toArray = true) (hds : l.map (·.dst) = ds) (hts : (ds.filterMap fun x => x) = ts) (hnd : nodupB ds = true) (hlt : ltB k ds = true) (hk : k ≤ a.tmps.size) (hW : Sh { W with drawn := W.drawn + 1 })
    (hstep : stepsF (toldStep P Q a W N Sh ds pv) 0 l)
    (hend : ∀ (X : Nat → Value) (w' : World), Below N W w' → W.heap.size ≤ w'.heap.size → (∀ i d, ds[i]? = some (some d) → pv.getD i (fun _ _ => True) (X d) w') → (∀ i, ds[i]? = some none → pv.getD i (fun _ _ => True) undef w') → Q .normal (puts ts (ts.map X) a) w') :
    (Code.region id l.toArray true).wp P Q a W := by
  have hsz : ∀ d, some d ∈ ds → d < a.tmps.size := fun d hd => by have := lt_of_ltB hlt d hd; omega
  have hND := nodup_of hnd
  have hst : ∀ i o, l.toArray[i]? = some o → toldStep P Q a W N Sh ds pv i o := fun i o ho => by
    have := steps_get l 0 i o hstep (by simpa using ho)
    rwa [Nat.zero_add] at this
  have hdsi : ∀ (i : Nat) (o : Oper), l.toArray[i]? = some o → ds[i]? = some o.dst := fun i o ho => by
    rw [← hds, List.getElem?_map]
    have : l[i]? = some o := by simpa using ho
    rw [this]; rfl
  refine wp_region_whole (W := W) ds (fun i V w => pv.getD i (fun _ _ => True) (V i) w) (fun w' => Below N W w' ∧ W.heap.size ≤ w'.heap.size ∧ Sh w') (fun _ w w' => ToldS N Sh pv w w') hm hD hds hND hsz (fun i j V v w w' hne _ _ hp hv => ?_) ⟨(Below.refl _ _).drew, Nat.le_refl _, hW⟩ (fun i o ho a' w' hR hsame hdep K hK => ?_) (fun a' w' hR hdf hsz' hsame hf => ?_)
  · show pv.getD j _ (upd V i v j) w'
    rw [upd_other _ _ (fun h => hne h.symm)]
    exact hp.2.2 j _ hv
  · refine hst i o ho a' w' hR.1 hR.2.1 hR.2.2 (fun t ht => by have := hsame t ht; rwa [Array.getD_eq_getD_getElem?, Array.getD_eq_getD_getElem?] at this) (fun j d ha hd => ?_) K fun v w'' hs hv => ?_
    · have := hdep j ha
      rwa [slotVals_at hd] at this
    · refine hK v w'' ⟨hR.1.trans hs.1, Nat.le_trans hR.2.1 hs.1.size, hs.2.1 hR.2.2⟩ hs ?_
      show pv.getD i _ (upd _ i _ i) w''
      rw [upd_self]
      exact hv
  · rw [← hts] at hend
    have hputs := puts_of (ds.filterMap fun x => x) a hdf hsz' (fun t ht => by
      obtain ⟨x, hx, rfl⟩ := List.mem_filterMap.1 ht
      exact hsz _ hx) (fun t ht => hsame t (fun h => ht (List.mem_filterMap.2 ⟨_, h, rfl⟩)))
    have hl : ∀ (i : Nat) (x : Option Nat), ds[i]? = some x → i < l.length := fun i x hd => by
      have := (List.getElem?_eq_some_iff.1 hd).1
      rw [← hds] at this
      simpa using this
    have h := hend (fun t => a'.tmps.getD t undef) w' hR.1 hR.2.1 (fun i d hd => by
      have := hf i (hl i _ hd)
      rw [slotVals_at hd] at this
      rw [Array.getD_eq_getD_getElem?]
      exact this) (fun i hd => by
      have := hf i (hl i _ hd)
      have e : slotVals a' ds i = undef := by unfold slotVals; rw [hd]
      rwa [e] at this)
    rw [← hputs] at h
    exact h
/-- The first n operations of a drawn region told by themselves; the rest is left to the walk. -/
theorem wp_toldhead_pv {P : Program} {l : List Oper} {Q : Exit → Act → World → Prop} {a : Act} {W : World} {id : Nat} (n : Nat) (ds : List Nat) (pv : List (Value → World → Prop)) (hm : P.follows .mixedOrders = true) (hs : Region.sinkB .any l.toArray n = true) (hc : Region.chainB .any l.toArray n = true) (hn : n < l.toArray.size) (hD : depsB l.toArray n = true) (hq : Region.seqB .any l.toArray (l.toArray.size - n) n (List.replicate n true ++ List.replicate (l.toArray.size - n) false).toArray = true)
    (hds : ds.length = n) (hdst : (l.take n).map (·.dst) = ds.map some) (hnd : ds.Nodup) (hsz : ∀ d ∈ ds, d < a.tmps.size)
    (hstep : stepsF (toldStep P Q a W W.heap.size (fun _ => True) (ds.map some) pv) 0 (l.take n))
    (htail : ∀ (X : Nat → Value) (w' : World), Below W.heap.size W w' → (∀ i d, ds[i]? = some d → pv.getD i (fun _ _ => True) (X d) w') → wpList P l.toArray Q (l.drop n) (puts ds (ds.map X) a) w') :
    (Code.region id l.toArray true).wp P Q a W := by
  refine wp_region_softS (S := ToldS W.heap.size (fun _ => True) pv) n ds (fun i v w => pv.getD i (fun _ _ => True) v w) hm hs hc hn hD hq hds hdst hnd hsz (fun w w' h s => h.trans s.1) (fun i v w w' h s => s.2.2 i v h) (fun i o hi ho a' w' hb hsame hdep K hK => ?_) (fun a' w' hb h1 h2 h3 h4 => ?_)
  · have hot : (l.take n)[i]? = some o := by
      rw [List.getElem?_take, if_pos hi]
      simpa using ho
    have H := steps_get (l.take n) 0 i o hstep hot
    rw [Nat.zero_add] at H
    have hdl : ∀ j d, (ds.map some)[j]? = some (some d) → ds[j]? = some d := fun j d h => by
      rw [List.getElem?_map] at h
      cases e : ds[j]? with
      | none => rw [e] at h; cases h
      | some x => rw [e] at h; simpa using h
    refine H a' w' hb hb.size trivial (fun t ht => ?_) (fun j d ha hd => ?_) K fun v w'' hs hv => ?_
    · have := hsame t (fun h => ht (List.mem_map.2 ⟨_, h, rfl⟩))
      rwa [Array.getD_eq_getD_getElem?, Array.getD_eq_getD_getElem?] at this
    · have hj := hdl j d hd
      have hjn : j < n := by have := (List.getElem?_eq_some_iff.1 hj).1; omega
      have := hdep j d hjn hj ha
      rwa [Array.getD_eq_getD_getElem?] at this
    · refine hK v w'' hs ?_
      have e : ((l.take n).map (·.dst))[i]? = some o.dst := by rw [List.getElem?_map, hot]; rfl
      rw [hdst, List.getElem?_map] at e
      have e2 : valOf o v = v := by
        cases e3 : ds[i]? with
        | none => rw [e3] at e; cases e
        | some x =>
          rw [e3] at e
          injection e with e
          unfold valOf
          rw [← e]; rfl
      rwa [e2] at hv
  · rw [puts_of ds a h1 h2 hsz h3]
    refine htail (fun d => a'.tmps.getD d undef) w' hb fun i d hd => ?_
    have hi : i < n := by have := (List.getElem?_eq_some_iff.1 hd).1; omega
    exact h4 i d hi hd
/-- The nil slice is a row of the call's own, without elements. -/
theorem nilsV_nil (N : Nat) (e : TypeId) (size : Nat) (w : World) : NilsV N e size (.slice none 0 0) w := ⟨⟨by simp, .inl ⟨rfl, rfl⟩⟩, none, rfl⟩
end Go.Proofs.YtonjnedlnfdanaaDoor
