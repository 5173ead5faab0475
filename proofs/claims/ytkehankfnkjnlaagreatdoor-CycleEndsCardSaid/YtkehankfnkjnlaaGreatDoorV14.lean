import Derived.Test.YtkehankfnkjnlaaGreatDoorV13
namespace Go.Proofs.YtkehankfnkjnlaaGreatDoor
set_option linter.unusedSimpArgs false
set_option linter.unusedVariables false
set_option maxHeartbeats 16000000
set_option maxRecDepth 20000
open Go.ChangeAt Go.ChangeShapes Go.Joins Go.RowKit Go.WideShapes
variable {h : Hp} {w w' W W' : World} {p q : Option Addr} {n g : Nat} {a : Int} {v : Value}
structure LateInv (ops : Array Oper) (a : Act) (ds : List (Option Nat)) (Φ : Nat → (Nat → Value) → World → Prop) (R : World → Prop) (skip : Nat → Bool) (b : Array Bool) (a' : Act) (w' : World) : Prop where
 world : R w'
 bsize : b.size = ops.size
 defers : a'.defers = a.defers
 size : a'.tmps.size = a.tmps.size
 same : ∀ t, some t ∉ ds → a'.tmps[t]? = a.tmps[t]?
 closed : ∀ j o, ops[j]? = some o → b.getD j false = true → ∀ e ∈ o.after, Region.binds .any e = true → b.getD e.on false = true
 facts : ∀ i, b.getD i false = true → skip i = false → Φ i (slotVals a' ds) w'
section
variable {P : Program} {l : List Oper} {Q : Exit → Act → World → Prop} {a : Act} {ds : List (Option Nat)} {Φ : Nat → (Nat → Value) → World → Prop} {R : World → Prop} {skip : Nat → Bool} {Per : Nat → World → World → Prop}
theorem zs6 (hD : depsGB l.toArray = true) (hds : l.map (·.dst) = ds) (hnd : ∀ (j k : Nat) (d : Nat), ds[j]? = some (some d) → ds[k]? = some (some d) → j = k) (hsz : ∀ d, some d ∈ ds → d < a.tmps.size) 
  (hgd : ∀ i o g bb, l.toArray[i]? = some o → o.guard = some (g, bb) → skip g = false ∧ (∃ d, ds[g]? = some (some d)) ∧ ∀ V w, Φ g V w → V g = .bool (if skip i = true then !bb else bb))
  (hskip : ∀ i o, l.toArray[i]? = some o → o.guard = none → skip i = false)
  (hpas : ∀ i j V w, i ≠ j → skip i = true → skip j = false → Φ j V w → Φ j (upd V i undef) w)
  (hper : ∀ i j V v w w', i ≠ j → skip i = false → skip j = false → (∀ o, l.toArray[j]? = some o → (o.after.any fun e => Region.binds .any e && e.on == i) = false) → R w → Per i w w' → Φ j V w → Φ j (upd V i v) w')
  (hstep : ∀ i o, l.toArray[i]? = some o → skip i = false → ∀ (a' : Act) (w' : World), R w' → (∀ t, some t ∉ ds → a'.tmps.getD t undef = a.tmps.getD t undef) →
   (∀ j, (o.after.any fun e => Region.binds .any e && e.on == j) = true → skip j = false → Φ j (slotVals a' ds) w') →
   ∀ K : Act → World → Prop, (∀ v w'', R w'' → Per i w' w'' → Φ i (upd (slotVals a' ds) i (valOf o v)) w'' → K (a'.put o.dst v) w'') → o.wp P a' w' K Q)
  (hend : ∀ a' w', R w' → a'.defers = a.defers → a'.tmps.size = a.tmps.size → (∀ t, some t ∉ ds → a'.tmps[t]? = a.tmps[t]?) → (∀ i, i < l.length → skip i = false → Φ i (slotVals a' ds) w') → Q .normal a' w') :
  ∀ (f : Nat) (b : Array Bool) (a' : Act) (w' : World), LateInv l.toArray a ds Φ R skip b a' w' → unl b l.length = f → wpAny P .any l.toArray Q f b a' w' := by
 have hdep : ∀ i, i < l.length → ∃ o, l.toArray[i]? = some o ∧ (∀ g bb, o.guard = some (g, bb) → (o.after.any fun e => Region.binds .any e && e.on == g) = true) ∧ ∀ e ∈ o.after, Region.binds .any e = true → e.on < i := by
  intro i hi
  have h1 := List.all_eq_true.1 hD i (List.mem_range.2 (by simpa using hi))
  cases ho : l.toArray[i]? with
  | none => simp only [ho] at h1; cases h1
  | some o =>
   simp only [ho, Bool.and_eq_true] at h1
   refine ⟨o, rfl, fun g bb hg => ?_, fun e he hb => ?_⟩
   ·have := h1.1
    rw [hg] at this
    exact this
   ·have := (Array.all_eq_true'.1 h1.2) e he
    rw [hb] at this
    simpa using this
 have hgf : ∀ (b : Array Bool) i, i < b.size → b.getD i true = b.getD i false := fun b i hi => by simp [hi]
 intro f
 induction f with
 | zero =>
  intro b a' w' inv hu
  have hall := zc8 hu
  have hbs := inv.bsize
  refine ⟨?_, hend a' w' inv.world inv.defers inv.size inv.same fun i hi hk => inv.facts i (by rw [← hgf b i (by rw [hbs]; simpa using hi)]; exact hall i hi) hk⟩
  cases hr : Region.ready .any l.toArray b with
  | nil => rfl
  | cons i r =>
   have hi : i ∈ Region.ready .any l.toArray b := by rw [hr]; simp
   obtain ⟨hun, o, ho, -⟩ := mem_ready.1 hi
   have hil : i < l.length := by
    rcases Nat.lt_or_ge i l.length with h | h
    ·exact h
    ·simp [h] at ho
   rw [hall i hil] at hun; cases hun
 | succ f ih =>
  intro b a' w' inv hu
  have hbs := inv.bsize
  obtain ⟨i0, h0, hb0, hmin⟩ := zeb (b := b) (k := l.length) (by omega)
  have hbsz : ∀ i, i < l.length → i < b.size := fun i hi => by rw [hbs]; simpa using hi
  have hready : i0 ∈ Region.ready .any l.toArray b := by
   obtain ⟨o, ho, -, hd⟩ := hdep i0 h0
   refine mem_ready.2 ⟨hb0, o, ho, fun e he hb => ?_⟩
   have h2 := hd e he hb
   rw [← hgf b e.on (hbsz _ (by omega))]
   exact hmin e.on h2
  refine ⟨fun h => (by rw [h] at hready; cases hready), fun i hi => ?_⟩
  obtain ⟨hun, o, ho, hall⟩ := mem_ready.1 hi
  have hin : i < l.length := by
   rcases Nat.lt_or_ge i l.length with h | h
   ·exact h
   ·simp [h] at ho
  obtain ⟨o', ho', hgd', -⟩ := hdep i hin
  have : o' = o := Option.some.inj (ho'.symm.trans ho)
  subst this
  have hdi : ds[i]? = some o'.dst := by
   rw [← hds, List.getElem?_map]
   have : l[i]? = some o' := by simpa using ho
   rw [this]; rfl
  have hib := hbsz i hin
  have hset : ∀ j, (b.setIfInBounds i true).getD j false = true → j = i ∨ j ≠ i ∧ b.getD j false = true := fun j hj => by
   by_cases e : j = i
   ·exact .inl e
   ·refine .inr ⟨e, ?_⟩
    rwa [getD_set_ne false (fun h => e h.symm)] at hj
  have hmono : ∀ j, b.getD j false = true → (b.setIfInBounds i true).getD j false = true := fun j hj => by
   by_cases e : j = i
   ·subst e; simp [hib]
   ·rwa [getD_set_ne false (fun h => e h.symm)]
  have hclosed : ∀ j x, l.toArray[j]? = some x → (b.setIfInBounds i true).getD j false = true → ∀ e ∈ x.after, Region.binds .any e = true → (b.setIfInBounds i true).getD e.on false = true := fun j x hx hj e he hbd => by
   rcases hset j hj with rfl | ⟨-, hj'⟩
   ·have : x = o' := Option.some.inj (hx.symm.trans ho)
    subst this
    exact hmono _ (hall e he hbd)
   ·exact hmono _ (inv.closed j x hx hj' e he hbd)
  have hwant : Region.wanted o' (yielded l.toArray a'.tmps) = !skip i := by
   cases hg : o'.guard with
   | none => rw [hskip i o' ho hg]; simp [Region.wanted, hg]
   | some x =>
    obtain ⟨g, bb⟩ := x
    obtain ⟨k0, ⟨d, hd⟩, k1⟩ := hgd i o' g bb ho hg
    obtain ⟨e, he, h2⟩ := Array.any_eq_true'.1 (hgd' g bb hg)
    simp only [Bool.and_eq_true, beq_iff_eq] at h2
    have h3 := hall e he h2.1
    rw [h2.2] at h3
    have hv := k1 _ _ (inv.facts g h3 k0)
    have hdl : d < a'.tmps.size := by rw [inv.size]; exact hsz d (List.mem_of_getElem? hd)
    have hsv : slotVals a' ds g = a'.tmps.getD d undef := by unfold slotVals; rw [hd]
    rw [hsv] at hv
    have hy : (l.toArray[g]?).bind (·.dst) = some d := by
     have : (l.map (·.dst))[g]? = some (some d) := by rw [hds]; exact hd
     rw [List.getElem?_map] at this
     cases hlg : l[g]? with
     | none => rw [hlg] at this; cases this
     | some og => rw [hlg] at this; simp at this; simp [hlg, this]
    have hyv : yielded l.toArray a'.tmps g = some (if skip i = true then !bb else bb) := by
     unfold yielded
     rw [hy]
     have ht : a'.tmps[d]? = some (a'.tmps.getD d undef) := by simp [hdl]
     simp only [Option.bind_some, ht, hv]
    unfold Region.wanted
    rw [hg]
    simp only [hyv]
    cases skip i <;> cases bb <;> rfl
  have hdl : ∀ d, o'.dst = some d → d < a'.tmps.size := fun d hd => by rw [inv.size]; exact hsz d (by rw [← hd]; exact List.mem_of_getElem? hdi)
  have hdf : ∀ v, (a'.put o'.dst v).defers = a.defers := fun v => by cases o'.dst <;> exact inv.defers
  have hsi : ∀ v, (a'.put o'.dst v).tmps.size = a.tmps.size := fun v => by
   cases hdd : o'.dst with
   | none => exact inv.size
   | some d =>
    show (a'.tmps.setIfInBounds d v).size = _
    rw [Array.size_setIfInBounds]; exact inv.size
  have hsm : ∀ v t, some t ∉ ds → (a'.put o'.dst v).tmps[t]? = a.tmps[t]? := fun v t ht => by
   cases hdd : o'.dst with
   | none => exact inv.same t ht
   | some d =>
    show (a'.tmps.setIfInBounds d v)[t]? = _
    rw [Array.getElem?_setIfInBounds_ne (show d ≠ t from fun e => ht (by rw [← e, ← hdd]; exact List.mem_of_getElem? hdi))]
    exact inv.same t ht
  unfold wpOp
  simp only [ho]
  cases hs : skip i with
  | true =>
   rw [hs] at hwant
   rw [if_neg (by simp [hwant])]
   have hsv := zcq (a' := a') hdi hnd hdl undef
   refine ih _ _ _ ⟨inv.world, by rw [Array.size_setIfInBounds]; exact hbs, hdf undef, hsi undef, hsm undef, hclosed, fun j hj hk => ?_⟩ (by have := zev hun hin; omega)
   rcases hset j hj with rfl | ⟨hne, hj'⟩
   ·rw [hs] at hk; cases hk
   ·rw [hsv]
    have e : valOf o' undef = undef := by unfold valOf; split <;> rfl
    rw [e]
    exact hpas i j _ _ (fun h => hne h.symm) hs hk (inv.facts j hj' hk)
  | false =>
   rw [hs] at hwant
   rw [if_pos (by simp [hwant])]
   refine .inl (hstep i o' ho hs a' w' inv.world (fun t ht => ?_) (fun j ha hk => ?_) _ fun v w'' hR hp hv => ?_)
   ·have := inv.same t ht
    rw [Array.getD_eq_getD_getElem?, Array.getD_eq_getD_getElem?, this]
   ·obtain ⟨e, he, h2⟩ := Array.any_eq_true'.1 ha
    simp only [Bool.and_eq_true, beq_iff_eq] at h2
    have h3 := hall e he h2.1
    rw [h2.2] at h3
    exact inv.facts j h3 hk
   ·have hsv := zcq (a' := a') hdi hnd hdl v
    refine ih _ _ _ ⟨hR, by rw [Array.size_setIfInBounds]; exact hbs, hdf v, hsi v, hsm v, hclosed, fun j hj hk => ?_⟩ (by have := zev hun hin; omega)
    rw [hsv]
    rcases hset j hj with rfl | ⟨hne, hj'⟩
    ·exact hv
    ·refine hper i j _ _ w' w'' (fun h => hne h.symm) hs hk (fun x hx => ?_) inv.world hp (inv.facts j hj' hk)
     cases hany : (x.after.any fun e => Region.binds .any e && e.on == i) with
     | false => rfl
     | true =>
      obtain ⟨e, he, h2⟩ := Array.any_eq_true'.1 hany
      simp only [Bool.and_eq_true, beq_iff_eq] at h2
      have h3 := inv.closed j x hx hj' e he h2.1
      rw [h2.2, ← hgf b i hib, hun] at h3
      cases h3
end
def latePhi (N : Nat) (pv : List (Value → World → Prop)) (ia is : Nat) (Shape Full : Nat → World → Prop) : Nat → (Nat → Value) → World → Prop := fun i V w =>
 if i = ia then ∃ g, V i = .pointer (some ⟨g, 0, none⟩) ∧ N ≤ g ∧ Shape g w
 else if i = is then ∃ g, V ia = .pointer (some ⟨g, 0, none⟩) ∧ N ≤ g ∧ Full g w
 else pv.getD i (fun _ _ => True) (V i) w
def latePer (N : Nat) (pv : List (Value → World → Prop)) (is : Nat) (Shape : Nat → World → Prop) : Nat → World → World → Prop := fun i w w' =>
 if i = is then Below N w w' ∧ (∀ g, Shape g w → Shape g w') ∧ ∀ j v, pv.getD j (fun _ _ => True) v w → pv.getD j (fun _ _ => True) v w' else Below w.heap.size w w'
def allP (C : (Value → World → Prop) → Prop) : List (Value → World → Prop) → Prop
 | [] => True
 | p :: r => C p ∧ allP C r
theorem zb9 {C : (Value → World → Prop) → Prop} (h0 : C fun _ _ => True) : ∀ (L : List (Value → World → Prop)) (j : Nat), allP C L → C (L.getD j fun _ _ => True)
 | [], _, _ => h0
 | _ :: _, 0, h => h.1
 | _ :: r, j + 1, h => zb9 h0 r j h.2
def nodupB (ds : List (Option Nat)) : Bool := (List.range ds.length).all fun i => (List.range ds.length).all fun j => i == j || (match ds[i]?, ds[j]? with | some (some x), some (some y) => x != y | _, _ => true)
theorem zjp {ds : List (Option Nat)} (h : nodupB ds = true) : ∀ (j k d : Nat), ds[j]? = some (some d) → ds[k]? = some (some d) → j = k := fun j k d hj hk => by
 have lj : j < ds.length := (List.getElem?_eq_some_iff.1 hj).1
 have lk : k < ds.length := (List.getElem?_eq_some_iff.1 hk).1
 have := List.all_eq_true.1 (List.all_eq_true.1 h j (List.mem_range.2 lj)) k (List.mem_range.2 lk)
 rw [hj, hk] at this
 simpa using this
def ltB (k : Nat) (ds : List (Option Nat)) : Bool := ds.all fun d => match d with | some d => decide (d < k) | none => true
theorem zge {k : Nat} {ds : List (Option Nat)} (h : ltB k ds = true) : ∀ d, some d ∈ ds → d < k := fun d hd => by
 have := List.all_eq_true.1 h (some d) hd
 simpa using this
def stepsF (S : Nat → Oper → Prop) : Nat → List Oper → Prop
 | _, [] => True
 | i, o :: r => S i o ∧ stepsF S (i + 1) r
theorem zc4 {S : Nat → Oper → Prop} : ∀ (l : List Oper) (k i : Nat) (o : Oper), stepsF S k l → l[i]? = some o → S (k + i) o
 | [], _, _, _, _, h => by simp at h
 | x :: r, k, 0, o, h, e => by
  have : x = o := by simpa using e
  subst this
  exact h.1
 | x :: r, k, i + 1, o, h, e => by
  have := zc4 r (k + 1) i o h.2 (by simpa using e)
  rwa [show k + (i + 1) = k + 1 + i by omega]
def guardOk (ds : List (Option Nat)) (pv : List (Value → World → Prop)) (skip : Nat → Bool) (ia is : Nat) (i : Nat) (o : Oper) : Prop :=
 match o.guard with
 | none => skip i = false
 | some (g, bb) => skip g = false ∧ (∃ d, ds[g]? = some (some d)) ∧ g ≠ ia ∧ g ≠ is ∧ ∀ v w, pv.getD g (fun _ _ => True) v w → v = .bool (if skip i = true then !bb else bb)
section
variable {P : Program} {l : List Oper} {Q : Exit → Act → World → Prop} {a : Act} {W : World}
def lateStep (P : Program) (Q : Exit → Act → World → Prop) (a : Act) (W : World) (ds : List (Option Nat)) (pv : List (Value → World → Prop)) (skip : Nat → Bool) (ia is : Nat) (Shape Full : Nat → World → Prop) (i : Nat) (o : Oper) : Prop :=
 skip i = false → ∀ (a' : Act) (w' : World), Below W.heap.size W w' → (∀ t, some t ∉ ds → a'.tmps[t]?.getD undef = a.tmps[t]?.getD undef) →
  (∀ j d, (o.after.any fun e => Region.binds .any e && e.on == j) = true → skip j = false → j ≠ ia → j ≠ is → ds[j]? = some (some d) → pv.getD j (fun _ _ => True) (a'.tmps[d]?.getD undef) w') →
  (∀ d, (o.after.any fun e => Region.binds .any e && e.on == ia) = true → skip ia = false → ds[ia]? = some (some d) → ∃ g, a'.tmps[d]?.getD undef = .pointer (some ⟨g, 0, none⟩) ∧ W.heap.size ≤ g ∧ Shape g w') →
  ∀ K : Act → World → Prop,
   (if i = ia then ∀ g w'', Below w'.heap.size w' w'' → w'.heap.size ≤ g → Shape g w'' → K (a'.put o.dst (.pointer (some ⟨g, 0, none⟩))) w''
   else if i = is then ∀ g v w'', (∀ d, ds[ia]? = some (some d) → a'.tmps[d]?.getD undef = .pointer (some ⟨g, 0, none⟩)) → Below W.heap.size w' w'' → W.heap.size ≤ g → Full g w'' → (∀ g', Shape g' w' → Shape g' w'') →
    allP (fun p => ∀ v, p v w' → p v w'') pv → K (a'.put o.dst v) w''
   else ∀ v w'', Below w'.heap.size w' w'' → pv.getD i (fun _ _ => True) (valOf o v) w'' → K (a'.put o.dst v) w'') → o.wp P a' w' K Q
theorem za3 {a' : Act} {ds : List (Option Nat)} {j d : Nat} (h : ds[j]? = some (some d)) : slotVals a' ds j = a'.tmps[d]?.getD undef := by
 unfold slotVals; rw [h]; exact Array.getD_eq_getD_getElem? ..
theorem zdx {id : Nat} (ds : List (Option Nat)) (ts : List Nat) (pv : List (Value → World → Prop)) (skip : Nat → Bool) (ia is k : Nat) (Shape Full : Nat → World → Prop) (hm : P.follows .mixedOrders = true) (hD : depsGB l.toArray = true) (hds : l.map (·.dst) = ds) (hts : (ds.filterMap fun x => x) = ts) (hnd : nodupB ds = true) (hlt : ltB k ds = true) (hk : k ≤ a.tmps.size) 
  (hia : ia = is ∨ (∃ d, ds[ia]? = some (some d)) ∧ skip ia = false ∧ ∃ o, l[is]? = some o ∧ (o.after.any fun e => Region.binds .any e && e.on == ia) = true ∧ is < l.length ∧ skip is = false) (hout : ia = is → l.length ≤ ia)
  (hSB : ∀ g w w', Shape g w → Below w.heap.size w w' → Shape g w') (hFB : ∀ g w w', Full g w → Below w.heap.size w w' → Full g w')
  (hPB : allP (fun p => ∀ v w w', p v w → Below w.heap.size w w' → p v w') pv)
  (hgd : stepsF (guardOk ds pv skip ia is) 0 l) (hstep : stepsF (lateStep P Q a W ds pv skip ia is Shape Full) 0 l)
  (hend : ∀ (X : Nat → Value) (g : Nat) (w' : World), (ia ≠ is → W.heap.size ≤ g ∧ Full g w' ∧ ∀ d, ds[ia]? = some (some d) → X d = .pointer (some ⟨g, 0, none⟩)) → Below W.heap.size W w' →
   (∀ i d, ds[i]? = some (some d) → skip i = false → i ≠ ia → i ≠ is → pv.getD i (fun _ _ => True) (X d) w') → Q .normal (puts ts (ts.map X) a) w') :
  (Code.region id l.toArray true).wp P Q a W := by
 have hsz : ∀ d, some d ∈ ds → d < a.tmps.size := fun d hd => by have := zge hlt d hd; omega
 have hND := zjp hnd
 have hPB' : ∀ j v w w', pv.getD j (fun _ _ => True) v w → Below w.heap.size w w' → pv.getD j (fun _ _ => True) v w' := fun j => zb9 (C := fun p => ∀ v w w', p v w → Below w.heap.size w w' → p v w') (fun _ _ _ _ _ => trivial) pv j hPB
 have hgo : ∀ i o, l.toArray[i]? = some o → guardOk ds pv skip ia is i o := fun i o ho => by
  have := zc4 l 0 i o hgd (by simpa using ho)
  rwa [Nat.zero_add] at this
 have hst : ∀ i o, l.toArray[i]? = some o → lateStep P Q a W ds pv skip ia is Shape Full i o := fun i o ho => by
  have := zc4 l 0 i o hstep (by simpa using ho)
  rwa [Nat.zero_add] at this
 have hdsi : ∀ (i : Nat) (o : Oper), l.toArray[i]? = some o → ds[i]? = some o.dst := fun i o ho => by
  rw [← hds, List.getElem?_map]
  have : l[i]? = some o := by simpa using ho
  rw [this]; rfl
 refine wp_region_any hm ?_
 have hz : ∀ j, (Array.replicate l.toArray.size false).getD j false = false := fun j => by
  by_cases h : j < l.length
  ·simp [h]
  ·simp [h]
 have H := zs6 (P := P) (l := l) (Q := Q) (a := a) (ds := ds) (Φ := latePhi W.heap.size pv ia is Shape Full) (R := fun w' => Below W.heap.size W w') (skip := skip) (Per := latePer W.heap.size pv is Shape) hD hds hND hsz
  (fun i o g bb ho hg => by
   have h := hgo i o ho
   unfold guardOk at h
   rw [hg] at h
   obtain ⟨h1, h2, h3, h4, h5⟩ := h
   refine ⟨h1, h2, fun V w hv => ?_⟩
   unfold latePhi at hv
   rw [if_neg h3, if_neg h4] at hv
   exact h5 _ _ hv)
  (fun i o ho hg => by
   have h := hgo i o ho
   unfold guardOk at h
   rw [hg] at h
   exact h)
  (fun i j V w hne hi hj hv => by
   unfold latePhi at hv ⊢
   by_cases h1 : j = ia
   ·rw [if_pos h1] at hv ⊢
    obtain ⟨g, e, h⟩ := hv
    exact ⟨g, (zbl _ _ (fun h => hne h.symm)).trans e, h⟩
   ·rw [if_neg h1] at hv ⊢
    by_cases h2 : j = is
    ·rw [if_pos h2] at hv ⊢
     obtain ⟨g, e, h⟩ := hv
     rcases hia with h3 | ⟨-, h3, -⟩
     ·exact absurd (h2.trans h3.symm) h1
     ·exact ⟨g, (zbl _ _ (fun h => by subst h; rw [hi] at h3; cases h3)).trans e, h⟩
    ·rw [if_neg h2] at hv ⊢
     rw [zbl _ _ (fun h => hne h.symm)]
     exact hv)
  (fun i j V v w w' hne hi hj hdep hR hp hv => by
   unfold latePhi at hv ⊢
   unfold latePer at hp
   have hbS : ∀ g, Shape g w → Shape g w' := fun g hg => by
    by_cases h : i = is
    ·rw [if_pos h] at hp; exact hp.2.1 g hg
    ·rw [if_neg h] at hp; exact hSB g w w' hg hp
   have hbP : ∀ j v, pv.getD j (fun _ _ => True) v w → pv.getD j (fun _ _ => True) v w' := fun j v hv => by
    by_cases h : i = is
    ·rw [if_pos h] at hp; exact hp.2.2 j v hv
    ·rw [if_neg h] at hp; exact hPB' j v w w' hv hp
   by_cases h1 : j = ia
   ·rw [if_pos h1] at hv ⊢
    obtain ⟨g, e, h2, h3⟩ := hv
    exact ⟨g, (zbl _ _ (fun h => hne h.symm)).trans e, h2, hbS g h3⟩
   ·rw [if_neg h1] at hv ⊢
    by_cases h2 : j = is
    ·rw [if_pos h2] at hv ⊢
     obtain ⟨g, e, h3, h4⟩ := hv
     rcases hia with h5 | ⟨-, h5, o, ho, ha, hl, -⟩
     ·exact absurd (h2.trans h5.symm) h1
     ·have hii : ¬ i = ia := fun h => by
       have := hdep o (by rw [h2]; simpa using ho)
       rw [h, ha] at this
       cases this
      have hni : ¬ i = is := fun h => hne (h.trans h2.symm)
      rw [if_neg hni] at hp
      exact ⟨g, (zbl _ _ (fun h => hii h.symm)).trans e, h3, hFB g w w' h4 hp⟩
    ·rw [if_neg h2] at hv ⊢
     rw [zbl _ _ (fun h => hne h.symm)]
     exact hbP j _ hv)
  (fun i o ho hs a' w' hb' hsame hdep K hK => by
   refine hst i o ho hs a' w' hb' (fun t ht => by have := hsame t ht; rwa [Array.getD_eq_getD_getElem?, Array.getD_eq_getD_getElem?] at this) (fun j d ha hk h1 h2 hd => ?_) (fun d ha hk hd => ?_) K ?_
   ·have := hdep j ha hk
    unfold latePhi at this
    rw [if_neg h1, if_neg h2, za3 hd] at this
    exact this
   ·have := hdep ia ha hk
    unfold latePhi at this
    rw [if_pos rfl, za3 hd] at this
    exact this
   ·by_cases h1 : i = ia
    ·rw [if_pos h1]
     intro g w'' hb2 hg hS
     refine hK _ _ (bjoin hb2 hb') ?_ ?_
     ·unfold latePer
      by_cases h2 : i = is
      ·exfalso
       have hil : i < l.length := by
        rcases Nat.lt_or_ge i l.length with h | h
        ·exact h
        ·simp [h] at ho
       have := hout (h1.symm.trans h2)
       omega
      ·rw [if_neg h2]; exact hb2
     ·unfold latePhi
      rw [if_pos h1]
      refine ⟨g, ?_, by have := hb'.size; omega, hS⟩
      rw [zdz]
      unfold valOf
      rcases hia with h3 | ⟨⟨d, hd⟩, -⟩
      ·exfalso
       have hil : i < l.length := by
        rcases Nat.lt_or_ge i l.length with h | h
        ·exact h
        ·simp [h] at ho
       have := hout h3
       omega
      ·have h4 := hdsi i o ho
       rw [h1, hd] at h4
       have h5 : o.dst = some d := (Option.some.inj h4).symm
       rw [h5]; rfl
    ·rw [if_neg h1]
     by_cases h2 : i = is
     ·rw [if_pos h2]
      intro g v w'' hg0 hb2 hg hF hS hP
      refine hK _ _ (hb'.trans hb2) ?_ ?_
      ·unfold latePer; rw [if_pos h2]; exact ⟨hb2, hS, fun j => zb9 (C := fun p => ∀ v, p v w' → p v w'') (fun _ _ => trivial) pv j hP⟩
      ·unfold latePhi
       rw [if_neg h1, if_pos h2]
       rcases hia with h3 | ⟨⟨d, hd⟩, -⟩
       ·exact absurd (h2.trans h3.symm) h1
       ·refine ⟨g, ?_, hg, hF⟩
        rw [zbl _ _ (fun h => h1 h.symm), za3 hd]
        exact hg0 d hd
     ·rw [if_neg h2]
      intro v w'' hb2 hv
      refine hK _ _ (bjoin hb2 hb') ?_ ?_
      ·unfold latePer; rw [if_neg h2]; exact hb2
      ·unfold latePhi
       rw [if_neg h1, if_neg h2, zdz]
       exact hv)
  (fun a' w' hb' hdf hsz' hsame hf => by
   rw [← hts] at hend
   have hputs := zc9 (ds.filterMap fun x => x) a hdf hsz' (fun t ht => by
    obtain ⟨x, hx, rfl⟩ := List.mem_filterMap.1 ht
    exact hsz _ hx) (fun t ht => hsame t (fun h => ht (List.mem_filterMap.2 ⟨_, h, rfl⟩)))
   have hQ : ∀ g, (ia ≠ is → W.heap.size ≤ g ∧ Full g w' ∧ ∀ d, ds[ia]? = some (some d) → a'.tmps.getD d undef = .pointer (some ⟨g, 0, none⟩)) → Q .normal a' w' := fun g hg => by
    have h := hend (fun t => a'.tmps.getD t undef) g w' hg hb' (fun i d hd hs h1 h2 => by
     have hl : i < l.length := by
      have := (List.getElem?_eq_some_iff.1 hd).1
      rw [← hds] at this
      simpa using this
     have := hf i hl hs
     unfold latePhi at this
     rw [if_neg h1, if_neg h2, za3 hd] at this
     rw [Array.getD_eq_getD_getElem?]
     exact this)
    rw [← hputs] at h
    exact h
   by_cases h : ia = is
   ·exact hQ 0 fun h' => absurd h h'
   ·rcases hia with h3 | ⟨⟨d, hd⟩, h4, o, ho, ha, hl, hs⟩
    ·exact absurd h3 h
    ·have := hf is hl hs
     unfold latePhi at this
     rw [if_neg (fun e => h e.symm), if_pos rfl] at this
     obtain ⟨g, e, g1, g2⟩ := this
     refine hQ g fun _ => ⟨g1, g2, fun d' hd' => ?_⟩
     rw [Array.getD_eq_getD_getElem?, ← za3 hd']
     exact e)
  l.toArray.size (Array.replicate l.toArray.size false) a { W with drawn := W.drawn + 1 }
  ⟨zr.drew, by simp, rfl, rfl, fun _ _ => rfl, fun j o _ h => (by rw [hz] at h; cases h), fun i h => (by rw [hz] at h; cases h)⟩ (by rw [show l.toArray.size = l.length by simp]; exact zc1 _ (Nat.le_refl _))
 exact H
end
def puts3 (b : Nat) (y0 y1 y2 : Value) (W : World) : World := ((W.setCell ⟨b, 0, none⟩ y0).setCell ⟨b, 1, none⟩ y1).setCell ⟨b, 2, none⟩ y2
theorem Box3.puts {b : Nat} {x0 x1 x2 : Value} (h : Box3 b x0 x1 x2 W) (y0 y1 y2 : Value) : Box3 b y0 y1 y2 (puts3 b y0 y1 y2 W) := h.stores y0 y1 y2
theorem zmm {b g : Nat} {x0 x1 x2 : Value} (h : Box3 g x0 x1 x2 W) (hg : ¬ b = g) (y0 y1 y2 : Value) : Box3 g x0 x1 x2 (puts3 b y0 y1 y2 W) := h.others hg y0 y1 y2
theorem zhd {n b : Nat} (hn : n ≤ b) (y0 y1 y2 : Value) (W : World) : Below n W (puts3 b y0 y1 y2 W) := (((Below.refl n W).setCell hn _).setCell hn _).setCell hn _
def Shape4 (g : Nat) (w : World) : Prop := ∃ x0 x1 x2 x3, Box4 g x0 x1 x2 x3 w
theorem zfz (g : Nat) (w w' : World) (h : Shape4 g w) (hb : Below w.heap.size w w') : Shape4 g w' := by
 obtain ⟨x0, x1, x2, x3, h⟩ := h
 exact ⟨x0, x1, x2, x3, h.below hb⟩
theorem zgj {b : Nat} {x0 x1 x2 x3 : Value} (h : Box4 b x0 x1 x2 x3 W) (y0 y1 y2 y3 : Value) (g' : Nat) (hs : Shape4 g' W) : Shape4 g' (puts4 b y0 y1 y2 y3 W) := by
 by_cases e : g' = b
 ·subst e; exact ⟨_, _, _, _, h.put y0 y1 y2 y3⟩
 ·obtain ⟨z0, z1, z2, z3, hz⟩ := hs
  exact ⟨z0, z1, z2, z3, hz.of_block (zmg _ _ _ _ _ e) (by rw [zof]; exact Nat.le_refl _)⟩
def RowV (n : Nat) (z : Nat → Int) (v : Value) (w : World) : Prop := ∃ p c, v = .slice p n c ∧ Ints .i64 w p n z
theorem RowV.below {z : Nat → Int} (h : RowV n z v w) (hb : Below w.heap.size w w') : RowV n z v w' := by
 obtain ⟨p, c, e, h⟩ := h
 exact ⟨p, c, e, h.below hb⟩
end Go.Proofs.YtkehankfnkjnlaaGreatDoor
