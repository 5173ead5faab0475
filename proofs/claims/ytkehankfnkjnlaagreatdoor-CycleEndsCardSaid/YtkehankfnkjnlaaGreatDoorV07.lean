import Derived.Test.YtkehankfnkjnlaaGreatDoorV01
import Derived.StillTailTactics
import Derived.Deep.Cut
import Derived.BigRegion
import Derived.Deep.RegionLawGrows
import Derived.ArgAppend
import Derived.Lib.SliceRun
namespace Go.Proofs.YtkehankfnkjnlaaGreatDoor
set_option linter.unusedSimpArgs false
set_option linter.unusedVariables false
set_option maxHeartbeats 16000000
set_option maxRecDepth 20000
open Go.ChangeAt Go.ChangeShapes Go.Joins Go.RowKit Go.WideShapes
def unl (b : Array Bool) : Nat → Nat
 | 0 => 0
 | k + 1 => unl b k + (if b.getD k true = false then 1 else 0)
theorem zlj {b : Array Bool} {i : Nat} : ∀ {k : Nat}, k ≤ i → unl (b.setIfInBounds i true) k = unl b k
 | 0, _ => rfl
 | k + 1, h => by
  simp only [unl]
  rw [zlj (k := k) (by omega), getD_set_ne true (by omega)]
theorem zev {b : Array Bool} {i : Nat} (hb : b.getD i true = false) : ∀ {k : Nat}, i < k → unl (b.setIfInBounds i true) k + 1 = unl b k
 | 0, h => by omega
 | k + 1, h => by
  simp only [unl]
  by_cases e : i = k
  ·subst e
   have hi : i < b.size := by
    rcases Nat.lt_or_ge i b.size with h' | h'
    ·exact h'
    ·simp [Array.getElem?_eq_none h'] at hb
   rw [zlj (Nat.le_refl _), if_pos hb, if_neg (by simp [hi])]
  ·rw [getD_set_ne true e]
   have := zev hb (k := k) (by omega)
   omega
theorem zc8 {b : Array Bool} : ∀ {k : Nat}, unl b k = 0 → ∀ i, i < k → b.getD i true = true
 | 0, _, i, h => by omega
 | k + 1, h, i, hi => by
  simp only [unl] at h
  by_cases e : i = k
  ·subst e
   cases hb : b.getD i true with
   | true => rfl
   | false => rw [if_pos hb] at h; omega
  ·exact zc8 (k := k) (by omega) i (by omega)
theorem zeb {b : Array Bool} : ∀ {k : Nat}, unl b k ≠ 0 → ∃ i, i < k ∧ b.getD i true = false ∧ ∀ j, j < i → b.getD j true = true
 | 0, h => by simp [unl] at h
 | k + 1, h => by
  by_cases e : unl b k = 0
  ·refine ⟨k, by omega, ?_, zc8 e⟩
   simp only [unl, e] at h
   cases hb : b.getD k true with
   | false => rfl
   | true => rw [if_neg (by simp [hb])] at h; simp at h
  ·obtain ⟨i, h1, h2, h3⟩ := zeb (k := k) e
   exact ⟨i, by omega, h2, h3⟩
theorem zc1 (m : Nat) : ∀ {k : Nat}, k ≤ m → unl (Array.replicate m false) k = k
 | 0, _ => rfl
 | k + 1, h => by
  simp only [unl]
  rw [zc1 m (k := k) (by omega), if_pos (getD_in (by simp; omega) (getD_replicate_false _ _))]
def depsB (ops : Array Oper) (n : Nat) : Bool := (List.range n).all fun i => match ops[i]? with | some o => o.guard.isNone && o.after.all fun e => decide (e.on < i) | none => false
structure SoftInv (a : Act) (ds : List Nat) (Φ : Nat → Value → World → Prop) (W : World) (n : Nat) (b : Array Bool) (a' : Act) (w' : World) : Prop where
 grown : Below W.heap.size W w'
 defers : a'.defers = a.defers
 size : a'.tmps.size = a.tmps.size
 same : ∀ t, t ∉ ds → a'.tmps[t]? = a.tmps[t]?
 facts : ∀ i d, i < n → ds[i]? = some d → b.getD i true = true → Φ i (a'.tmps.getD d undef) w'
section
variable {P : Program} {l : List Oper} {Q : Exit → Act → World → Prop} {a : Act} {ds : List Nat} {Φ : Nat → Value → World → Prop} {W : World} {n : Nat}
theorem zuh (hs : Region.sinkB .any l.toArray n = true) (hc : Region.chainB .any l.toArray n = true) (hn : n < l.toArray.size) (hD : depsB l.toArray n = true) (hq : Region.seqB .any l.toArray (l.toArray.size - n) n (List.replicate n true ++ List.replicate (l.toArray.size - n) false).toArray = true)
  (hds : ds.length = n) (hdst : ∀ i o d, i < n → l.toArray[i]? = some o → ds[i]? = some d → o.dst = some d) (hnd : ds.Nodup) (hsz : ∀ d ∈ ds, d < a.tmps.size)
  (hper : ∀ i v w w', Φ i v w → Below w.heap.size w w' → Φ i v w')
  (hstep : ∀ i o, i < n → l.toArray[i]? = some o → ∀ (a' : Act) (w' : World), Below W.heap.size W w' → (∀ t, t ∉ ds → a'.tmps.getD t undef = a.tmps.getD t undef) →
   (∀ j d, j < n → ds[j]? = some d → (o.after.any fun e => Region.binds .any e && e.on == j) = true → Φ j (a'.tmps.getD d undef) w') →
   ∀ K : Act → World → Prop, (∀ v w'', Below w'.heap.size w' w'' → Φ i v w'' → K (a'.put o.dst v) w'') → o.wp P a' w' K Q)
  (htail : ∀ a' w', Below W.heap.size W w' → a'.defers = a.defers → a'.tmps.size = a.tmps.size → (∀ t, t ∉ ds → a'.tmps[t]? = a.tmps[t]?) → (∀ i d, i < n → ds[i]? = some d → Φ i (a'.tmps.getD d undef) w') → wpList P l.toArray Q (l.drop n) a' w') :
  ∀ (f : Nat) (b : Array Bool) (a' : Act) (w' : World), HeadInv .any l.toArray n b → SoftInv a ds Φ W n b a' w' → unl b n = f → wpAny P .any l.toArray Q (f + (l.toArray.size - n)) b a' w' := by
 intro f
 induction f with
 | zero =>
  intro b a' w' inv si hu
  have hall := zc8 hu
  rw [Nat.zero_add]
  have hb : b = (List.replicate n true ++ List.replicate (l.toArray.size - n) false).toArray := by
   have hsz' := inv.size
   apply Array.ext
   ·simp [hsz']; simp at hn; omega
   ·intro i h1 h2
    by_cases h : i < n
    ·have := hall i h
     simp [h1] at this
     rw [this]
     simp [List.getElem_append, h]
    ·have := inv.tail i (by omega) (by omega)
     simp [h1] at this
     rw [this]
     simp [List.getElem_append, h]
  have := wpAny_of_seq (P := P) (md := .any) (ops := l.toArray) (Q' := Q) (l.drop n) n b a' w' (fun j => by simp [List.getElem?_drop])
   (by rw [List.length_drop, show l.length - n = l.toArray.size - n by simp, hb]; exact hq)
   (htail a' w' si.grown si.defers si.size si.same fun i d hi hd => si.facts i d hi hd (hall i hi))
  rwa [List.length_drop, show l.length - n = l.toArray.size - n by simp] at this
 | succ f ih =>
  intro b a' w' inv si hu
  obtain ⟨i0, h0, hb0, hmin⟩ := zeb (b := b) (k := n) (by omega)
  have hdep : ∀ i, i < n → ∃ o, l.toArray[i]? = some o ∧ o.guard = none ∧ ∀ e ∈ o.after, e.on < i := by
   intro i hi
   have h1 := List.all_eq_true.1 hD i (List.mem_range.2 hi)
   cases ho : l.toArray[i]? with
   | none => simp only [ho] at h1; cases h1
   | some o =>
    simp only [ho, Bool.and_eq_true, Option.isNone_iff_eq_none] at h1
    refine ⟨o, rfl, h1.1, fun e he => ?_⟩
    have := (Array.all_eq_true'.1 h1.2) e he
    simpa using this
  have hbsz : ∀ i, i < n → i < b.size := fun i hi => by rw [inv.size]; omega
  have hready : i0 ∈ Region.ready .any l.toArray b := by
   obtain ⟨o, ho, -, hd⟩ := hdep i0 h0
   refine mem_ready.2 ⟨hb0, o, ho, fun e he _ => ?_⟩
   have h2 := hd e he
   have h3 := hmin e.on h2
   have h4 := hbsz e.on (by omega)
   simp [h4] at h3 ⊢
   exact h3
  rw [show f + 1 + (l.toArray.size - n) = (f + (l.toArray.size - n)) + 1 by omega]
  refine ⟨fun h => (by rw [h] at hready; cases hready), fun i hi => ?_⟩
  have hin : i < n := by
   rcases Nat.lt_or_ge i n with h | h
   ·exact h
   ·exact absurd hi (tail_waits hs hc hn inv _ i0 rfl h0 hb0 i h)
  obtain ⟨hun, o, ho, hall⟩ := mem_ready.1 hi
  obtain ⟨o', ho', hgd, -⟩ := hdep i hin
  have : o' = o := Option.some.inj (ho'.symm.trans ho)
  subst this
  unfold wpOp
  simp only [ho]
  rw [if_pos (by simp [Region.wanted, hgd])]
  refine .inl (hstep i o' hin ho a' w' si.grown (fun t ht => ?_) (fun j d hj hd ha => ?_) _ fun v w'' hb hv => ?_)
  ·have := si.same t ht
   rw [Array.getD_eq_getD_getElem?, Array.getD_eq_getD_getElem?, this]
  ·refine si.facts j d hj hd ?_
   obtain ⟨e, he, h2⟩ := Array.any_eq_true'.1 ha
   simp only [Bool.and_eq_true, beq_iff_eq] at h2
   have h3 := hall e he h2.1
   rw [h2.2] at h3
   have h4 := hbsz j hj
   simp [h4] at h3 ⊢
   exact h3
  ·obtain ⟨d, hd⟩ : ∃ d, ds[i]? = some d := ⟨ds[i]'(by omega), List.getElem?_eq_getElem _⟩
   have hod := hdst i o' d hin ho hd
   have hdl : d < a.tmps.size := hsz d (List.mem_of_getElem? hd)
   refine ih _ _ _ (inv.set hi hin) ?_ (by have := zev hun hin; omega)
   rw [hod]
   refine ⟨bjoin hb si.grown, si.defers, ?_, fun t ht => ?_, fun j d' hj hd' hbj => ?_⟩
   ·show (a'.tmps.setIfInBounds d v).size = _
    rw [Array.size_setIfInBounds]; exact si.size
   ·show (a'.tmps.setIfInBounds d v)[t]? = _
    rw [Array.getElem?_setIfInBounds_ne (show d ≠ t from fun e => ht (e ▸ List.mem_of_getElem? hd))]
    exact si.same t ht
   ·show Φ j ((a'.tmps.setIfInBounds d v).getD d' undef) w''
    by_cases e : j = i
    ·subst e
     rw [hd] at hd'
     injection hd' with hd'
     subst hd'
     have hds' : d < a'.tmps.size := by rw [si.size]; exact hdl
     have : (a'.tmps.setIfInBounds d v).getD d undef = v := by simp [Array.getD_eq_getD_getElem?, hds']
     rw [this]; exact hv
    ·have hne : d ≠ d' := fun h => by
      subst h
      have hi' : i < ds.length := by omega
      have hj' : j < ds.length := by omega
      have e1 : ds[i] = ds[j] := by
       rw [List.getElem?_eq_getElem hi'] at hd
       rw [List.getElem?_eq_getElem hj'] at hd'
       injection hd with h1; injection hd' with h2
       rw [h1, h2]
      exact e ((List.getElem_inj hnd).1 e1).symm
     have : (a'.tmps.setIfInBounds d v).getD d' undef = a'.tmps.getD d' undef := by
      rw [Array.getD_eq_getD_getElem?, Array.getD_eq_getD_getElem?, Array.getElem?_setIfInBounds_ne hne]
     rw [this]
     rw [getD_set_ne true (fun h => e h.symm)] at hbj
     exact hper j _ _ _ (si.facts j d' hj hd' hbj) hb
theorem zb3 {id : Nat} (n : Nat) (ds : List Nat) (Φ : Nat → Value → World → Prop) (hm : P.follows .mixedOrders = true) (hs : Region.sinkB .any l.toArray n = true) (hc : Region.chainB .any l.toArray n = true) (hn : n < l.toArray.size) (hD : depsB l.toArray n = true) (hq : Region.seqB .any l.toArray (l.toArray.size - n) n (List.replicate n true ++ List.replicate (l.toArray.size - n) false).toArray = true)
  (hds : ds.length = n) (hdst : (l.take n).map (·.dst) = ds.map some) (hnd : ds.Nodup) (hsz : ∀ d ∈ ds, d < a.tmps.size)
  (hper : ∀ i v w w', Φ i v w → Below w.heap.size w w' → Φ i v w')
  (hstep : ∀ i o, i < n → l.toArray[i]? = some o → ∀ (a' : Act) (w' : World), Below W.heap.size W w' → (∀ t, t ∉ ds → a'.tmps.getD t undef = a.tmps.getD t undef) →
   (∀ j d, j < n → ds[j]? = some d → (o.after.any fun e => Region.binds .any e && e.on == j) = true → Φ j (a'.tmps.getD d undef) w') →
   ∀ K : Act → World → Prop, (∀ v w'', Below w'.heap.size w' w'' → Φ i v w'' → K (a'.put o.dst v) w'') → o.wp P a' w' K Q)
  (htail : ∀ a' w', Below W.heap.size W w' → a'.defers = a.defers → a'.tmps.size = a.tmps.size → (∀ t, t ∉ ds → a'.tmps[t]? = a.tmps[t]?) → (∀ i d, i < n → ds[i]? = some d → Φ i (a'.tmps.getD d undef) w') → wpList P l.toArray Q (l.drop n) a' w') :
  (Code.region id l.toArray true).wp P Q a W := by
 refine wp_region_any hm ?_
 have hdst' : ∀ i o d, i < n → l.toArray[i]? = some o → ds[i]? = some d → o.dst = some d := by
  intro i o d hi ho hd
  have h1 : ((l.take n).map (·.dst))[i]? = some o.dst := by
   have : l[i]? = some o := by simpa using ho
   simp [List.getElem?_take, hi, this]
  rw [hdst, List.getElem?_map, hd] at h1
  simpa using h1.symm
 have inv0 : HeadInv .any l.toArray n (Array.replicate l.toArray.size false) :=
  ⟨by simp, fun j x _ hl => (by rw [getD_replicate_false] at hl; cases hl), fun t _ ht => getD_in (by simpa using ht) (getD_replicate_false _ _)⟩
 have H := zuh (P := P) (Q := Q) (a := a) (W := W) (Φ := Φ) hs hc hn hD hq hds hdst' hnd hsz hper hstep htail n (Array.replicate l.toArray.size false) a { W with drawn := W.drawn + 1 } inv0
  ⟨⟨rfl, rfl, rfl, Nat.le_refl _, fun _ _ => rfl⟩, rfl, rfl, fun _ _ => rfl, fun i d _ _ h => by
   rename_i hi _
   rw [getD_in (by simp; simp at hn; omega) (getD_replicate_false _ _)] at h
   cases h⟩ (zc1 _ (by omega))
 rw [show n + (l.toArray.size - n) = l.toArray.size by omega] at H
 exact H
end
def puts : List Nat → List Value → Act → Act
 | d :: ds, v :: vs, a => puts ds vs (a.put (some d) v)
 | _, _, a => a
theorem zc9 {a' : Act} : ∀ (ds : List Nat) (a : Act), a'.defers = a.defers → a'.tmps.size = a.tmps.size → (∀ d ∈ ds, d < a.tmps.size) → (∀ t, t ∉ ds → a'.tmps[t]? = a.tmps[t]?) → a' = puts ds (ds.map fun d => a'.tmps.getD d undef) a
 | [], a, h1, h2, _, h4 => by
  show a' = a
  obtain ⟨t', d'⟩ := a'
  obtain ⟨t, d⟩ := a
  simp only [] at h1 h2 h4
  subst h1
  have : t' = t := Array.ext_getElem? fun i => h4 i (by simp)
  rw [this]
 | d :: ds, a, h1, h2, h3, h4 => by
  show a' = puts ds (ds.map fun d => a'.tmps.getD d undef) (a.put (some d) (a'.tmps.getD d undef))
  refine zc9 ds _ h1 ?_ ?_ ?_
  ·show _ = (a.tmps.setIfInBounds d _).size
   rw [Array.size_setIfInBounds]; exact h2
  ·intro x hx
   show x < (a.tmps.setIfInBounds d _).size
   rw [Array.size_setIfInBounds]; exact h3 x (by simp [hx])
  ·intro t ht
   show _ = (a.tmps.setIfInBounds d _)[t]?
   have hd := h3 d (by simp)
   by_cases e : t = d
   ·subst e
    rw [Array.getElem?_setIfInBounds_self_of_lt hd, Array.getD_eq_getD_getElem?]
    have : t < a'.tmps.size := by omega
    simp [this]
   ·rw [Array.getElem?_setIfInBounds_ne (Ne.symm e)]
    exact h4 t (by simp [e, ht])
theorem zg0 {P : Program} {l : List Oper} {Q : Exit → Act → World → Prop} {a : Act} {W : World} {id : Nat} (n : Nat) (ds : List Nat) (Φ : Nat → Value → World → Prop) (hm : P.follows .mixedOrders = true) (hs : Region.sinkB .any l.toArray n = true) (hc : Region.chainB .any l.toArray n = true) (hn : n < l.toArray.size) (hD : depsB l.toArray n = true) (hq : Region.seqB .any l.toArray (l.toArray.size - n) n (List.replicate n true ++ List.replicate (l.toArray.size - n) false).toArray = true)
  (hds : ds.length = n) (hdst : (l.take n).map (·.dst) = ds.map some) (hnd : ds.Nodup) (hsz : ∀ d ∈ ds, d < a.tmps.size)
  (hper : ∀ i v w w', Φ i v w → Below w.heap.size w w' → Φ i v w')
  (hstep : ∀ i o, i < n → l.toArray[i]? = some o → ∀ (a' : Act) (w' : World), Below W.heap.size W w' → (∀ t, t ∉ ds → a'.tmps.getD t undef = a.tmps.getD t undef) →
   (∀ j d, j < n → ds[j]? = some d → (o.after.any fun e => Region.binds .any e && e.on == j) = true → Φ j (a'.tmps.getD d undef) w') →
   ∀ K : Act → World → Prop, (∀ v w'', Below w'.heap.size w' w'' → Φ i v w'' → K (a'.put o.dst v) w'') → o.wp P a' w' K Q)
  (htail : ∀ vs w', vs.length = n → Below W.heap.size W w' → (∀ i v, vs[i]? = some v → Φ i v w') → wpList P l.toArray Q (l.drop n) (puts ds vs a) w') :
  (Code.region id l.toArray true).wp P Q a W := by
 refine zb3 n ds Φ hm hs hc hn hD hq hds hdst hnd hsz hper hstep fun a' w' hb h1 h2 h3 h4 => ?_
 rw [zc9 ds a h1 h2 hsz h3]
 refine htail _ w' (by rw [List.length_map, hds]) hb fun i v hv => ?_
 rw [List.getElem?_map] at hv
 cases hd : ds[i]? with
 | none => rw [hd] at hv; cases hv
 | some d =>
  rw [hd] at hv
  injection hv with hv
  rw [← hv]
  refine h4 i d ?_ hd
  have := (List.getElem?_eq_some_iff.1 hd).1
  omega
theorem zc2 {P : Program} {o : Oper} {a : Act} {w : World} {K : Act → World → Prop} {Q : Exit → Act → World → Prop} (hg : o.guard = none) (h : if Region.wanted o (yielded #[] a.tmps) = true then o.wp P a w K Q else False) : o.wp P a w K Q := by
 rwa [if_pos (by simp [Region.wanted, hg])] at h
end Go.Proofs.YtkehankfnkjnlaaGreatDoor
