import Derived.Test.YtkehankfnkjnlaaGreatDoorV03
import Derived.Test.YtkehankfnkjnlaaGreatDoorV07
namespace Go.Proofs.YtkehankfnkjnlaaGreatDoor
set_option linter.unusedSimpArgs false
set_option linter.unusedVariables false
set_option maxHeartbeats 16000000
set_option maxRecDepth 20000
open Go.ChangeAt Go.ChangeShapes Go.Joins Go.RowKit Go.WideShapes
variable {h : Hp} {w w' W W' : World} {p q : Option Addr} {n g : Nat} {a : Int} {v : Value}
def depsAllB (ops : Array Oper) : Bool := (List.range ops.size).all fun i => match ops[i]? with | some o => o.guard.isNone && o.after.all fun e => !Region.binds .any e || decide (e.on < i) | none => false
def slotVals (a : Act) (ds : List (Option Nat)) : Nat → Value := fun j => match ds[j]? with | some (some d) => a.tmps.getD d undef | _ => undef
def upd (V : Nat → Value) (i : Nat) (v : Value) : Nat → Value := fun k => if k = i then v else V k
def valOf (o : Oper) (v : Value) : Value := if o.dst.isSome then v else undef
theorem zdz (V : Nat → Value) (i : Nat) (v : Value) : upd V i v i = v := by unfold upd; rw [if_pos rfl]
theorem zbl (V : Nat → Value) {i k : Nat} (v : Value) (h : ¬ k = i) : upd V i v k = V k := by unfold upd; rw [if_neg h]
structure WholeInv (ops : Array Oper) (a : Act) (ds : List (Option Nat)) (Φ : Nat → (Nat → Value) → World → Prop) (R : World → Prop) (b : Array Bool) (a' : Act) (w' : World) : Prop where
 world : R w'
 bsize : b.size = ops.size
 defers : a'.defers = a.defers
 size : a'.tmps.size = a.tmps.size
 same : ∀ t, some t ∉ ds → a'.tmps[t]? = a.tmps[t]?
 closed : ∀ j o, ops[j]? = some o → b.getD j false = true → ∀ e ∈ o.after, Region.binds .any e = true → b.getD e.on false = true
 facts : ∀ i, b.getD i false = true → Φ i (slotVals a' ds) w'
section
variable {P : Program} {l : List Oper} {Q : Exit → Act → World → Prop} {a : Act} {ds : List (Option Nat)} {Φ : Nat → (Nat → Value) → World → Prop} {R : World → Prop} {Per : Nat → World → World → Prop}
theorem zcq {i : Nat} {o : Oper} {a' : Act} (hd : ds[i]? = some o.dst) (hnd : ∀ (j k : Nat) (d : Nat), ds[j]? = some (some d) → ds[k]? = some (some d) → j = k) (hsz : ∀ d, o.dst = some d → d < a'.tmps.size) (v : Value) :
  slotVals (a'.put o.dst v) ds = upd (slotVals a' ds) i (valOf o v) := by
 funext k
 unfold upd
 cases ho : o.dst with
 | none =>
  have e : valOf o v = undef := by unfold valOf; rw [ho]; rfl
  rw [ho] at hd
  show slotVals a' ds k = _
  by_cases hk : k = i
  ·subst hk; rw [if_pos rfl, e]; unfold slotVals; rw [hd]
  ·rw [if_neg hk]
 | some d =>
  have e : valOf o v = v := by unfold valOf; rw [ho]; rfl
  rw [ho] at hd
  have hdl := hsz d ho
  by_cases hk : k = i
  ·subst hk
   rw [if_pos rfl, e]
   unfold slotVals
   rw [hd]
   show (a'.tmps.setIfInBounds d v).getD d undef = v
   simp [Array.getD_eq_getD_getElem?, hdl]
  ·rw [if_neg hk]
   unfold slotVals
   cases hk' : ds[k]? with
   | none => rfl
   | some x =>
    cases x with
    | none => rfl
    | some d' =>
     have hne : d ≠ d' := fun h => hk (hnd k i d' hk' (by rw [hd, h]))
     show (a'.tmps.setIfInBounds d v).getD d' undef = a'.tmps.getD d' undef
     rw [Array.getD_eq_getD_getElem?, Array.getD_eq_getD_getElem?, Array.getElem?_setIfInBounds_ne hne]
theorem zpx (hD : depsAllB l.toArray = true) (hds : l.map (·.dst) = ds) (hnd : ∀ (j k : Nat) (d : Nat), ds[j]? = some (some d) → ds[k]? = some (some d) → j = k) (hsz : ∀ d, some d ∈ ds → d < a.tmps.size) 
  (hper : ∀ i j V v w w', i ≠ j → (∀ o, l.toArray[j]? = some o → (o.after.any fun e => Region.binds .any e && e.on == i) = false) → R w → Per i w w' → Φ j V w → Φ j (upd V i v) w')
  (hstep : ∀ i o, l.toArray[i]? = some o → ∀ (a' : Act) (w' : World), R w' → (∀ t, some t ∉ ds → a'.tmps.getD t undef = a.tmps.getD t undef) →
   (∀ j, (o.after.any fun e => Region.binds .any e && e.on == j) = true → Φ j (slotVals a' ds) w') →
   ∀ K : Act → World → Prop, (∀ v w'', R w'' → Per i w' w'' → Φ i (upd (slotVals a' ds) i (valOf o v)) w'' → K (a'.put o.dst v) w'') → o.wp P a' w' K Q)
  (hend : ∀ a' w', R w' → a'.defers = a.defers → a'.tmps.size = a.tmps.size → (∀ t, some t ∉ ds → a'.tmps[t]? = a.tmps[t]?) → (∀ i, i < l.length → Φ i (slotVals a' ds) w') → Q .normal a' w') :
  ∀ (f : Nat) (b : Array Bool) (a' : Act) (w' : World), WholeInv l.toArray a ds Φ R b a' w' → unl b l.length = f → wpAny P .any l.toArray Q f b a' w' := by
 have hdep : ∀ i, i < l.length → ∃ o, l.toArray[i]? = some o ∧ o.guard = none ∧ ∀ e ∈ o.after, Region.binds .any e = true → e.on < i := by
  intro i hi
  have h1 := List.all_eq_true.1 hD i (List.mem_range.2 (by simpa using hi))
  cases ho : l.toArray[i]? with
  | none => simp only [ho] at h1; cases h1
  | some o =>
   simp only [ho, Bool.and_eq_true, Option.isNone_iff_eq_none] at h1
   refine ⟨o, rfl, h1.1, fun e he hb => ?_⟩
   have := (Array.all_eq_true'.1 h1.2) e he
   rw [hb] at this
   simpa using this
 have hgf : ∀ (b : Array Bool) i, i < b.size → b.getD i true = b.getD i false := fun b i hi => by simp [hi]
 intro f
 induction f with
 | zero =>
  intro b a' w' inv hu
  have hall := zc8 hu
  have hbs := inv.bsize
  refine ⟨?_, hend a' w' inv.world inv.defers inv.size inv.same fun i hi => inv.facts i (by rw [← hgf b i (by rw [hbs]; simpa using hi)]; exact hall i hi)⟩
  cases hr : Region.ready .any l.toArray b with
  | nil => rfl
  | cons i r =>
   have hi : i ∈ Region.ready .any l.toArray b := by rw [hr]; simp
   obtain ⟨hun, o, ho, -⟩ := mem_ready.1 hi
   have hil : i < l.length := by
    rcases Nat.lt_or_ge i l.length with h | h
    ·exact h
    ·simp [h] at ho
   rw [hall i hil] at hun; cases hun
 | succ f ih =>
  intro b a' w' inv hu
  have hbs := inv.bsize
  obtain ⟨i0, h0, hb0, hmin⟩ := zeb (b := b) (k := l.length) (by omega)
  have hbsz : ∀ i, i < l.length → i < b.size := fun i hi => by rw [hbs]; simpa using hi
  have hready : i0 ∈ Region.ready .any l.toArray b := by
   obtain ⟨o, ho, -, hd⟩ := hdep i0 h0
   refine mem_ready.2 ⟨hb0, o, ho, fun e he hb => ?_⟩
   have h2 := hd e he hb
   rw [← hgf b e.on (hbsz _ (by omega))]
   exact hmin e.on h2
  refine ⟨fun h => (by rw [h] at hready; cases hready), fun i hi => ?_⟩
  obtain ⟨hun, o, ho, hall⟩ := mem_ready.1 hi
  have hin : i < l.length := by
   rcases Nat.lt_or_ge i l.length with h | h
   ·exact h
   ·simp [h] at ho
  obtain ⟨o', ho', hgd, -⟩ := hdep i hin
  have : o' = o := Option.some.inj (ho'.symm.trans ho)
  subst this
  unfold wpOp
  simp only [ho]
  rw [if_pos (by simp [Region.wanted, hgd])]
  have hdi : ds[i]? = some o'.dst := by
   rw [← hds, List.getElem?_map]
   have : l[i]? = some o' := by simpa using ho
   rw [this]; rfl
  refine .inl (hstep i o' ho a' w' inv.world (fun t ht => ?_) (fun j ha => ?_) _ fun v w'' hR hp hv => ?_)
  ·have := inv.same t ht
   rw [Array.getD_eq_getD_getElem?, Array.getD_eq_getD_getElem?, this]
  ·obtain ⟨e, he, h2⟩ := Array.any_eq_true'.1 ha
   simp only [Bool.and_eq_true, beq_iff_eq] at h2
   have h3 := hall e he h2.1
   rw [h2.2] at h3
   exact inv.facts j h3
  ·have hib := hbsz i hin
   have hdl : ∀ d, o'.dst = some d → d < a'.tmps.size := fun d hd => by rw [inv.size]; exact hsz d (by rw [← hd]; exact List.mem_of_getElem? hdi)
   have hsv := zcq (a' := a') hdi hnd hdl v
   have hset : ∀ j, (b.setIfInBounds i true).getD j false = true → j = i ∨ j ≠ i ∧ b.getD j false = true := fun j hj => by
    by_cases e : j = i
    ·exact .inl e
    ·refine .inr ⟨e, ?_⟩
     rwa [getD_set_ne false (fun h => e h.symm)] at hj
   have hmono : ∀ j, b.getD j false = true → (b.setIfInBounds i true).getD j false = true := fun j hj => by
    by_cases e : j = i
    ·subst e; simp [hib]
    ·rwa [getD_set_ne false (fun h => e h.symm)]
   refine ih _ _ _ ⟨hR, by rw [Array.size_setIfInBounds]; exact hbs, ?_, ?_, fun t ht => ?_, fun j x hx hj e he hbd => ?_, fun j hj => ?_⟩ (by have := zev hun hin; omega)
   ·cases o'.dst <;> exact inv.defers
   ·cases hdd : o'.dst with
    | none => exact inv.size
    | some d =>
     show (a'.tmps.setIfInBounds d v).size = _
     rw [Array.size_setIfInBounds]; exact inv.size
   ·cases hdd : o'.dst with
    | none => exact inv.same t ht
    | some d =>
     show (a'.tmps.setIfInBounds d v)[t]? = _
     rw [Array.getElem?_setIfInBounds_ne (show d ≠ t from fun e => ht (by rw [← e, ← hdd]; exact List.mem_of_getElem? hdi))]
     exact inv.same t ht
   ·rcases hset j hj with rfl | ⟨-, hj'⟩
    ·have : x = o' := Option.some.inj (hx.symm.trans ho)
     subst this
     exact hmono _ (hall e he hbd)
    ·exact hmono _ (inv.closed j x hx hj' e he hbd)
   ·rw [hsv]
    rcases hset j hj with rfl | ⟨hne, hj'⟩
    ·exact hv
    ·refine hper i j _ _ w' w'' (fun h => hne h.symm) (fun x hx => ?_) inv.world hp (inv.facts j hj')
     cases hany : (x.after.any fun e => Region.binds .any e && e.on == i) with
     | false => rfl
     | true =>
      obtain ⟨e, he, h2⟩ := Array.any_eq_true'.1 hany
      simp only [Bool.and_eq_true, beq_iff_eq] at h2
      have h3 := inv.closed j x hx hj' e he h2.1
      rw [h2.2, ← hgf b i hib, hun] at h3
      cases h3
theorem zhl {id : Nat} (ds : List (Option Nat)) (Φ : Nat → (Nat → Value) → World → Prop) (R : World → Prop) (Per : Nat → World → World → Prop) (hm : P.follows .mixedOrders = true) (hD : depsAllB l.toArray = true) (hds : l.map (·.dst) = ds) (hnd : ∀ (j k : Nat) (d : Nat), ds[j]? = some (some d) → ds[k]? = some (some d) → j = k) (hsz : ∀ d, some d ∈ ds → d < a.tmps.size) 
  (hper : ∀ i j V v w w', i ≠ j → (∀ o, l.toArray[j]? = some o → (o.after.any fun e => Region.binds .any e && e.on == i) = false) → R w → Per i w w' → Φ j V w → Φ j (upd V i v) w')
  (hR0 : R { W with drawn := W.drawn + 1 })
  (hstep : ∀ i o, l.toArray[i]? = some o → ∀ (a' : Act) (w' : World), R w' → (∀ t, some t ∉ ds → a'.tmps.getD t undef = a.tmps.getD t undef) →
   (∀ j, (o.after.any fun e => Region.binds .any e && e.on == j) = true → Φ j (slotVals a' ds) w') →
   ∀ K : Act → World → Prop, (∀ v w'', R w'' → Per i w' w'' → Φ i (upd (slotVals a' ds) i (valOf o v)) w'' → K (a'.put o.dst v) w'') → o.wp P a' w' K Q)
  (hend : ∀ a' w', R w' → a'.defers = a.defers → a'.tmps.size = a.tmps.size → (∀ t, some t ∉ ds → a'.tmps[t]? = a.tmps[t]?) → (∀ i, i < l.length → Φ i (slotVals a' ds) w') → Q .normal a' w') :
  (Code.region id l.toArray true).wp P Q a W := by
 refine wp_region_any hm ?_
 have hz : ∀ j, (Array.replicate l.toArray.size false).getD j false = false := fun j => by
  by_cases h : j < l.length
  ·simp [h]
  ·simp [h]
 have H := zpx (P := P) (Q := Q) (a := a) (Φ := Φ) (R := R) (Per := Per) hD hds hnd hsz hper hstep hend l.toArray.size (Array.replicate l.toArray.size false) a { W with drawn := W.drawn + 1 }
  ⟨hR0, by simp, rfl, rfl, fun _ _ => rfl, fun j o _ h => (by rw [hz] at h; cases h), fun i h => (by rw [hz] at h; cases h)⟩ (by rw [show l.toArray.size = l.length by simp]; exact zc1 _ (Nat.le_refl _))
 exact H
end
structure Box4 (b : Nat) (x0 x1 x2 x3 : Value) (W : World) : Prop where
 lt : b < W.heap.size
 c0 : W.cell? ⟨b, 0, none⟩ = some x0
 c1 : W.cell? ⟨b, 1, none⟩ = some x1
 c2 : W.cell? ⟨b, 2, none⟩ = some x2
 c3 : W.cell? ⟨b, 3, none⟩ = some x3
 f0 : W.frozen? ⟨b, 0, none⟩ = false
 f1 : W.frozen? ⟨b, 1, none⟩ = false
 f2 : W.frozen? ⟨b, 2, none⟩ = false
 f3 : W.frozen? ⟨b, 3, none⟩ = false
theorem Box4.of_block {b : Nat} {x0 x1 x2 x3 : Value} (h : Box4 b x0 x1 x2 x3 W) (e : W'.heap[b]? = W.heap[b]?) (hl : W.heap.size ≤ W'.heap.size) : Box4 b x0 x1 x2 x3 W' :=
 ⟨Nat.lt_of_lt_of_le h.lt hl, by rw [World.cell?_of_block (w := W) (a := ⟨b, 0, none⟩) e]; exact h.c0, by rw [World.cell?_of_block (w := W) (a := ⟨b, 1, none⟩) e]; exact h.c1, by rw [World.cell?_of_block (w := W) (a := ⟨b, 2, none⟩) e]; exact h.c2, by rw [World.cell?_of_block (w := W) (a := ⟨b, 3, none⟩) e]; exact h.c3,
  by rw [World.frozen?_of_block (w := W) (a := ⟨b, 0, none⟩) e]; exact h.f0, by rw [World.frozen?_of_block (w := W) (a := ⟨b, 1, none⟩) e]; exact h.f1, by rw [World.frozen?_of_block (w := W) (a := ⟨b, 2, none⟩) e]; exact h.f2, by rw [World.frozen?_of_block (w := W) (a := ⟨b, 3, none⟩) e]; exact h.f3⟩
theorem Box4.below {b : Nat} {x0 x1 x2 x3 : Value} (h : Box4 b x0 x1 x2 x3 W) (hb : Below W.heap.size W W') : Box4 b x0 x1 x2 x3 W' := h.of_block (hb.block b h.lt) hb.size
theorem Box4.new (W : World) (x0 x1 x2 x3 : Value) (t : TypeId) : Box4 W.heap.size x0 x1 x2 x3 (W.alloc (.cells #[x0, x1, x2, x3] t)) := by
 refine ⟨by simp, ?_, ?_, ?_, ?_, ?_, ?_, ?_, ?_⟩ <;> simp [go_sem]
def puts4 (b : Nat) (y0 y1 y2 y3 : Value) (W : World) : World := (((W.setCell ⟨b, 0, none⟩ y0).setCell ⟨b, 1, none⟩ y1).setCell ⟨b, 2, none⟩ y2).setCell ⟨b, 3, none⟩ y3
theorem Box4.put {b : Nat} {x0 x1 x2 x3 : Value} (h : Box4 b x0 x1 x2 x3 W) (y0 y1 y2 y3 : Value) : Box4 b y0 y1 y2 y3 (puts4 b y0 y1 y2 y3 W) := by
 obtain ⟨h0, h1, h2, h3, h4, h5, h6, h7, h8⟩ := h
 unfold puts4
 refine ⟨by simpa [World.setCell] using h0, ?_, ?_, ?_, ?_, ?_, ?_, ?_, ?_⟩ <;> simp [go_sem, *]
theorem zmg {b : Nat} (y0 y1 y2 y3 : Value) (W : World) {k : Nat} (hk : ¬ k = b) : (puts4 b y0 y1 y2 y3 W).heap[k]? = W.heap[k]? := by
 unfold puts4
 rw [Below.heap_setCell _ _ _ _ hk, Below.heap_setCell _ _ _ _ hk, Below.heap_setCell _ _ _ _ hk, Below.heap_setCell _ _ _ _ hk]
theorem zof (b : Nat) (y0 y1 y2 y3 : Value) (W : World) : (puts4 b y0 y1 y2 y3 W).heap.size = W.heap.size := by simp [puts4, World.setCell]
theorem zhe {n b : Nat} (hn : n ≤ b) (y0 y1 y2 y3 : Value) (W : World) : Below n W (puts4 b y0 y1 y2 y3 W) := ((((Below.refl n W).setCell hn _).setCell hn _).setCell hn _).setCell hn _
end Go.Proofs.YtkehankfnkjnlaaGreatDoor
