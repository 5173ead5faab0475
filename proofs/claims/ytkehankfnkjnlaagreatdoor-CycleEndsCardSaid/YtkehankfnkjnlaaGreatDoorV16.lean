import Derived.Test.YtkehankfnkjnlaaGreatDoorV15
namespace Go.Proofs.YtkehankfnkjnlaaGreatDoor
set_option linter.unusedSimpArgs false
set_option linter.unusedVariables false
set_option maxHeartbeats 16000000
set_option maxRecDepth 20000
open Go.ChangeAt Go.ChangeShapes Go.Joins Go.RowKit Go.WideShapes
variable {h : Hp} {w w' W W' : World} {p q : Option Addr} {n g : Nat} {a : Int} {v : Value}
def Rch (h : Hp) (S : List Int) (a : Int) : Prop :=
 ∀ P : Int → Prop, (∀ x, x ∈ S → obB h x = true → P x) → (∀ x y, P x → y ∈ rfH h x → obB h y = true → P y) → P a
theorem Rch.root {S : List Int} (hm : a ∈ S) (ho : obB h a = true) : Rch h S a := fun _ h0 _ => h0 a hm ho
theorem Rch.step {S : List Int} {a b : Int} (hr : Rch h S a) (hm : b ∈ rfH h a) (ho : obB h b = true) : Rch h S b := fun P h0 h1 => h1 a b (hr P h0 h1) hm ho
theorem Rch.obj {S : List Int} (hr : Rch h S a) : obB h a = true := hr (fun x => obB h x = true) (fun _ _ ho => ho) (fun _ _ _ _ ho => ho)
open Classical in
noncomputable def rcL (h : Hp) (S : List Int) : List Int := (obL h h.n).filter fun a => decide (Rch h S a)
theorem zv6 (hF : formB h = true) (ho : obB h a = true) : 0 ≤ a ∧ a < h.n := by
 obtain ⟨-, -, a0, a1, -⟩ := zbj hF ho
 have := ztk hF ho
 omega
theorem mem_rc {S : List Int} (hF : formB h = true) : a ∈ rcL h S ↔ Rch h S a := by
 unfold rcL
 rw [List.mem_filter, zc6]
 constructor
 ·rintro ⟨-, h2⟩; simpa using h2
 ·intro hr
  have := zv6 hF hr.obj
  exact ⟨⟨this.1, this.2, hr.obj⟩, by simpa using hr⟩
theorem rc_len (S : List Int) : (rcL h S).length ≤ h.n := Nat.le_trans (List.length_filter_le _ _) (zb1 h h.n)
theorem rc_wf (hn : h.n ≤ 512) (S : List Int) : ∀ x ∈ rcL h S, (Lit.int .i64 x).wf = true := fun x hx => znj h hn x (List.mem_filter.1 hx).1
def wdL (h : Hp) (l : List Int) : Int := (((obL h h.n).filter fun a => decide (a ∈ l)).map fun a => szW (obK h a)).sum
theorem zfm (c : Int) : 0 ≤ szW c ∧ szW c ≤ 16 := by
 unfold szW
 split
 ·omega
 ·split
  ·omega
  ·split
   ·omega
   ·split <;> omega
theorem zum (f : Int → Int) (hf : ∀ x, 0 ≤ f x) (p q : Int → Bool) (hpq : ∀ x, p x = true → q x = true) : ∀ L : List Int, ((L.filter p).map f).sum ≤ ((L.filter q).map f).sum
 | [] => by simp
 | x :: L => by
  have ih := zum f hf p q hpq L
  by_cases hp : p x = true
  ·rw [List.filter_cons_of_pos hp, List.filter_cons_of_pos (hpq x hp)]
   simp only [List.map_cons, List.sum_cons]
   omega
  ·rw [List.filter_cons_of_neg hp]
   by_cases hq : q x = true
   ·rw [List.filter_cons_of_pos hq]
    simp only [List.map_cons, List.sum_cons]
    have := hf x
    omega
   ·rw [List.filter_cons_of_neg hq]
    exact ih
theorem zhf (f : Int → Int) (hf : ∀ x, 0 ≤ f x ∧ f x ≤ 16) : ∀ L : List Int, 0 ≤ (L.map f).sum ∧ (L.map f).sum ≤ 16 * L.length
 | [] => by simp
 | x :: L => by
  have ih := zhf f hf L
  have := hf x
  simp only [List.map_cons, List.sum_cons, List.length_cons]
  omega
theorem zf9 (l : List Int) (hn : h.n ≤ 512) : 0 ≤ wdL h l ∧ wdL h l ≤ 8192 := by
 have h1 := zhf (fun a => szW (obK h a)) (fun x => zfm _) ((obL h h.n).filter fun a => decide (a ∈ l))
 have h2 := Nat.le_trans (List.length_filter_le (fun a => decide (a ∈ l)) (obL h h.n)) (zb1 h h.n)
 unfold wdL
 omega
def bkL (h : Hp) : List Int := (obL h h.n).filter fun a => blB h a
theorem zhr (p : Option Addr) (c : Nat) (q : Option Addr) (d : Nat) (h : Hp) (w : World) (hh : HpAt w p c q d h) (hF : formB h = true) :
  Calls Tryz.prog 24 #[.agg #[.slice p h.n c, .slice q h.m d, .bool h.b]] w fun e w' => ∃ v, e = .returned v ∧ w'.ownsRow w.heap.size 3 1 v (obL h h.n).length ((obL h h.n).map (Value.int .i64)) ∧ Below w.heap.size w w' := by
 obtain ⟨w0, hw0⟩ : ∃ w0, w0 = w.alloc (.cells #[.slice p h.n c, .slice q h.m d, .bool h.b] 27) := ⟨_, rfl⟩
 have gB : Box3 w.heap.size (.slice p h.n c) (.slice q h.m d) (.bool h.b) w0 := by rw [hw0]; exact Box3.new _ _ _ _ _
 have hst : Below w.heap.size w w0 := by rw [hw0]; go_grown
 have hat := hh.below hst
 have hsz0 : w.heap.size ≤ w0.heap.size := hst.size
 obtain ⟨l0, x0, x1, x2, -, -, -⟩ := id gB
 obtain ⟨i0, hi, hz0, hz1, hz2⟩ := info_parts zgz
 have hnl : h.n ≤ 512 := by have := zad.1 hF; omega
 have hF' : Hid (formB h = true) := hF
 have hlen := zb1 h
 clear hF hh
 go_enter Tryz.func24, Tryz.ntmps24
 go_upto_region 1 with fail
 rw [← hw0]
 clear hw0
 go_wp2
 go_loopg [3, 4] h.n (fun g ov iv wr => ∃ j : Nat, j ≤ h.n ∧ g = h.n - j ∧ iv = .int .i64 j ∧ wr.ownsRow w0.heap.size 3 1 ov (obL h j).length ((obL h j).map (Value.int .i64)) ∧ Below w0.heap.size w0 wr)
 case atStart => exact ⟨0, by omega, by omega, rfl, World.ownsRow_nil _ _ _ _, zr⟩
 case round =>
  obtain ⟨j, jh, rfl, rfl, hown, hbw⟩ := hrel
  have gr := gB.below hbw
  clear x0 x1 x2 l0
  obtain ⟨l0, x0, x1, x2, -, -, -⟩ := id gr
  have hsz : w0.heap.size ≤ wr.heap.size := hbw.size
  by_cases hj : j < h.n
  ·have hG := zgr p c q d h j wr (hat.below hbw) hF'.out
   have hl := hlen j
   cases ho : obB h j with
   | true =>
    rw [ho] at hG
    have e1 := zg9 ho
    generalize obC h j = C at *
    generalize obK h j = K at *
    generalize obN h j = N at *
    clear ho
    go_wp2_with (first
  | (go_at_call 25; refine zm (hG) ?_; rintro e w' ⟨rfl, hb⟩; obtain ⟨hc, hf, hb, hz⟩ := bstep hb (w := wr) (by go_grown); try simp only [za, zb, zd] at hc hf hz)
     | (at_builtin; refine wpList_append_own _ rfl (.tmp 21) (.tmp 23) 29 rfl w0.heap.size 3 i0 (.int .i64 0) 1 8 Tryz.underlying29 hi hz0 hz1 hz2 rfl (by decide) _ _ _ rfl (((zaa hown hb).alloc _).alloc _) ⟨w'.heap.size + 1, 0, none⟩ 1 1 [.int .i64 (j : Int)] rfl rfl (by have := zri (w'.alloc (.cells #[.bool true, .bool C, .int .i64 K, .int .i64 N] 60)) (.int .i64 (j : Int)) 3; simpa using this) (by simp [Value.oneCell']) (by simp only [maxLen]; omega) (by omega) (by simp; omega) ?_; intro ov w1 hown' hgrow _)
    )
    have hown2 : w1.ownsRow w0.heap.size 3 1 ov (obL h (j + 1)).length ((obL h (j + 1)).map (Value.int .i64)) := by rw [e1]; simpa using hown'
    have hb2 := ((bjoin hb hbw).alloc (by have := hb.size; omega) (.cells #[.bool true, .bool C, .int .i64 K, .int .i64 N] 60)).alloc (by have := hb.size; simp; omega) (.cells #[.int .i64 (j : Int)] 3)
    have hb3 := hb2.grown hgrow (by have := hb.size; simp; omega) (fun k hk => (hown.lt k hk).1)
    go_roundg (h.n - (j + 1))
    case measure => omega
    case rel => exact ⟨j + 1, by omega, rfl, by go_num, hown2, hb3⟩
   | false =>
    obtain ⟨o1, o2, o3⟩ := zfn ho
    rw [ho, o1, o2, o3] at hG
    have e1 := zjy ho
    clear ho o1 o2 o3
    go_wp2_with (first
  | (go_at_call 25; refine zm (hG) ?_; rintro e w' ⟨rfl, hb⟩; obtain ⟨hc, hf, hb, hz⟩ := bstep hb (w := wr) (by go_grown); try simp only [za, zb, zd] at hc hf hz)
    )
    have hown2 : (w'.alloc (.cells #[.bool false, .bool false, .int .i64 0, .int .i64 0] 60)).ownsRow w0.heap.size 3 1 u3 (obL h (j + 1)).length ((obL h (j + 1)).map (Value.int .i64)) := by rw [e1]; exact (zaa hown hb).alloc _
    have hb2 := (bjoin hb hbw).alloc (by have := hb.size; omega) (.cells #[.bool false, .bool false, .int .i64 0, .int .i64 0] 60)
    go_roundg (h.n - (j + 1))
    case measure => omega
    case rel => exact ⟨j + 1, by omega, rfl, by go_num, hown2, hb2⟩
  ·obtain rfl : j = h.n := by omega
   obtain ⟨q', cap', rfl, -⟩ := zaf hown
   go_wp2
   go_returns
   exact ⟨_, rfl, zag hown hsz0, bjoin hbw hst⟩
def ShapeH (g : Nat) (w : World) : Prop := (∃ p n c q m d b, Box3 g (.slice p n c) (.slice q m d) (.bool b) w) ∧ ∀ k, 3 ≤ k → w.cell? ⟨g, k, none⟩ = none
theorem zf1 (g : Nat) (w w' : World) (h : ShapeH g w) (hb : Below w.heap.size w w') : ShapeH g w' := by
 obtain ⟨⟨p, n, c, q, m, d, b, h⟩, hk⟩ := h
 refine ⟨⟨p, n, c, q, m, d, b, h.below hb⟩, fun k hk' => ?_⟩
 rw [hb.cell (p := ⟨g, k, none⟩) h.1]
 exact hk k hk'
theorem zh0 (W : World) (t : TypeId) : ShapeH W.heap.size (W.alloc (.cells #[.slice none 0 0, .slice none 0 0, .bool false] t)) := by
 refine ⟨⟨none, 0, 0, none, 0, 0, false, Box3.new _ _ _ _ _⟩, fun k hk => ?_⟩
 have hg := heap_alloc_new W (.cells #[.slice none 0 0, .slice none 0 0, .bool false] t)
 rw [cell_of_row _ _ _ _ _ _ hg]
 simp
 omega
theorem zcs {n c : Nat} {m d : Nat} {b : Bool} (hs : ShapeH g w) (hh : HpIn w p n c q m d b h) (hn : 0 < n) (hm : 0 < m) : Clear g p q := by
 obtain ⟨⟨p', n', c', q', m', d', b', hB⟩, hk⟩ := hs
 obtain ⟨-, k0, k1, k2, -, -, -⟩ := hB
 obtain ⟨rfl, rfl, rfl, hat⟩ := hh
 have hno : ∀ (k : Nat) (kd : IntKind) (x : Int), ¬ w.cell? ⟨g, k, none⟩ = some (.int kd x) := fun k kd x e => by
  match k, e with
  | 0, e => rw [k0] at e; cases e
  | 1, e => rw [k1] at e; cases e
  | 2, e => rw [k2] at e; cases e
  | k + 3, e => rw [hk (k + 3) (by omega)] at e; cases e
 constructor
 ·intro b off sp e he
  obtain ⟨⟨b1, off1, e1, -, v⟩, -⟩ := hat.ints 0 hn
  rw [e] at e1
  injection e1 with e1
  injection e1 with e1 e2 e3
  subst e1 e2 e3
  subst he
  exact hno _ _ _ v
 ·intro b off sp e he
  obtain ⟨⟨b1, off1, e1, -, v, -, -⟩, -⟩ := hat.spans 0 hm
  rw [e] at e1
  injection e1 with e1
  injection e1 with e1 e2 e3
  subst e1 e2 e3
  subst he
  exact hno _ _ _ v
theorem zb2 (W : World) (x y : Addr) (v : Value) (h : x ≠ y) : (W.setCell x v).cell? y = W.cell? y := World.cell?_setCell_other W x y v h
theorem zgu {b : Nat} {x0 x1 x2 : Value} (h : Box3 b x0 x1 x2 W) (hk : ∀ k, 3 ≤ k → W.cell? ⟨b, k, none⟩ = none) (p : Option Addr) (n c : Nat) (q : Option Addr) (m d : Nat) (bb : Bool) (g' : Nat) (hs : ShapeH g' W) : ShapeH g' (puts3 b (.slice p n c) (.slice q m d) (.bool bb) W) := by
 by_cases e : b = g'
 ·subst e
  refine ⟨⟨p, n, c, q, m, d, bb, h.puts _ _ _⟩, fun k hk' => ?_⟩
  unfold puts3
  rw [zb2 _ _ _ _ (by intro e; injection e with e1 e2; omega), zb2 _ _ _ _ (by intro e; injection e with e1 e2; omega), zb2 _ _ _ _ (by intro e; injection e with e1 e2; omega)]
  exact hk k hk'
 ·obtain ⟨⟨p', n', c', q', m', d', b', hz⟩, hk'⟩ := hs
  refine ⟨⟨p', n', c', q', m', d', b', zmm hz e _ _ _⟩, fun k h3 => ?_⟩
  unfold puts3
  rw [zb2 _ _ _ _ (by intro h; injection h with e1 e2; omega), zb2 _ _ _ _ (by intro h; injection h with e1 e2; omega), zb2 _ _ _ _ (by intro h; injection h with e1 e2; omega)]
  exact hk' k h3
def HpV (n m : Nat) (b : Bool) (H : Hp) (v : Value) (w : World) : Prop := ∃ p c q d, v = .agg #[.slice p n c, .slice q m d, .bool b] ∧ HpIn w p n c q m d b H
def HpT (n m : Nat) (b : Bool) (H : Hp) (t : Value) (v : Value) (w : World) : Prop := ∃ p c q d, v = .tuple #[.agg #[.slice p n c, .slice q m d, .bool b], t] ∧ HpIn w p n c q m d b H
def FullH (n m : Nat) (b : Bool) (H : Hp) (g : Nat) (w : World) : Prop := ∃ p c q d, Box3 g (.slice p n c) (.slice q m d) (.bool b) w ∧ HpIn w p n c q m d b H
theorem HpV.below {n m : Nat} {b : Bool} {H : Hp} (h : HpV n m b H v w) (hb : Below w.heap.size w w') : HpV n m b H v w' := by
 obtain ⟨p, c, q, d, e, h⟩ := h
 exact ⟨p, c, q, d, e, h.below hb⟩
theorem HpT.below {n m : Nat} {b : Bool} {H : Hp} {t v : Value} (h : HpT n m b H t v w) (hb : Below w.heap.size w w') : HpT n m b H t v w' := by
 obtain ⟨p, c, q, d, e, h⟩ := h
 exact ⟨p, c, q, d, e, h.below hb⟩
theorem zg3 {n m : Nat} {b : Bool} {H : Hp} (g : Nat) (w w' : World) (h : FullH n m b H g w) (hb : Below w.heap.size w w') : FullH n m b H g w' := by
 obtain ⟨p, c, q, d, e, h⟩ := h
 exact ⟨p, c, q, d, e.below hb, h.below hb⟩
theorem HpV.puts {n m : Nat} {b : Bool} {H : Hp} (h : HpV n m b H v w) (hs : ShapeH g w) (hn : 0 < n) (hm : 0 < m) (y0 y1 y2 : Value) : HpV n m b H v (puts3 g y0 y1 y2 w) := by
 obtain ⟨p, c, q, d, e, h⟩ := h
 exact ⟨p, c, q, d, e, h.stores (zcs hs h hn hm) _ _ _⟩
theorem HpT.puts {n m : Nat} {b : Bool} {H : Hp} {t v : Value} (h : HpT n m b H t v w) (hs : ShapeH g w) (hn : 0 < n) (hm : 0 < m) (y0 y1 y2 : Value) : HpT n m b H t v (puts3 g y0 y1 y2 w) := by
 obtain ⟨p, c, q, d, e, h⟩ := h
 exact ⟨p, c, q, d, e, h.stores (zcs hs h hn hm) _ _ _⟩
def layOf (sto : List (Nat × Nat)) (i : Nat) : Option Nat := (sto.find? fun p => p.1 == i).map (·.2)
def stoOK (ops : Array Oper) (ds : List (Option Nat)) (sto : List (Nat × Nat)) : Bool := sto.all fun p => match ops[p.1]? with | some o => (o.after.any fun e => Region.binds .any e && e.on == p.2) && decide (p.1 < ops.size) && (match ds[p.2]? with | some (some _) => true | _ => false) && (match ds[p.1]? with | some none => true | _ => false) | none => false
def newsStep (P : Program) (Q : Exit → Act → World → Prop) (a : Act) (W : World) (sto : List (Nat × Nat)) (ds : List (Option Nat)) (pv : List (Value → World → Prop)) (Full : Nat → Nat → World → Prop) (i : Nat) (o : Oper) : Prop :=
 ∀ (a' : Act) (w' : World), Below W.heap.size W w' → (∀ t, some t ∉ ds → a'.tmps[t]?.getD undef = a.tmps[t]?.getD undef) →
  (∀ j d, (o.after.any fun e => Region.binds .any e && e.on == j) = true → ds[j]? = some (some d) → pv.getD j (fun _ _ => True) (a'.tmps[d]?.getD undef) w') →
  ∀ K : Act → World → Prop,
   (match layOf sto i with
   | some ia => ∀ g v w'', (∀ d, ds[ia]? = some (some d) → a'.tmps[d]?.getD undef = .pointer (some ⟨g, 0, none⟩)) → Below W.heap.size w' w'' → Full i g w'' → (∀ j g', j ≠ i → Full j g' w' → Full j g' w'') → allP (fun p => ∀ v, p v w' → p v w'') pv → K (a'.put o.dst v) w''
   | none => ∀ v w'', Below w'.heap.size w' w'' → pv.getD i (fun _ _ => True) (valOf o v) w'' → K (a'.put o.dst v) w'') → o.wp P a' w' K Q
theorem zbb {P : Program} {Q : Exit → Act → World → Prop} {a : Act} {sto : List (Nat × Nat)} {ds : List (Option Nat)} {pv : List (Value → World → Prop)} {Full : Nat → Nat → World → Prop} {i : Nat} {o : Oper} (h : layOf sto i = none) 
  (H : ∀ (a' : Act) (w' : World), Below W.heap.size W w' → (∀ t, some t ∉ ds → a'.tmps[t]?.getD undef = a.tmps[t]?.getD undef) →
   (∀ j d, (o.after.any fun e => Region.binds .any e && e.on == j) = true → ds[j]? = some (some d) → pv.getD j (fun _ _ => True) (a'.tmps[d]?.getD undef) w') →
   ∀ K : Act → World → Prop, (∀ v w'', Below w'.heap.size w' w'' → pv.getD i (fun _ _ => True) (valOf o v) w'' → K (a'.put o.dst v) w'') → o.wp P a' w' K Q) : newsStep P Q a W sto ds pv Full i o := by
 intro a' w' hb hs hd K hK
 simp only [h] at hK
 exact H a' w' hb hs hd K hK
theorem zj4 {P : Program} {Q : Exit → Act → World → Prop} {a : Act} {sto : List (Nat × Nat)} {ds : List (Option Nat)} {pv : List (Value → World → Prop)} {Full : Nat → Nat → World → Prop} {i : Nat} {o : Oper} (ia dd : Nat) (h : layOf sto i = some ia) (hdd : ds[ia]? = some (some dd)) 
  (H : ∀ (a' : Act) (w' : World), Below W.heap.size W w' → (∀ t, some t ∉ ds → a'.tmps[t]?.getD undef = a.tmps[t]?.getD undef) →
   (∀ j d, (o.after.any fun e => Region.binds .any e && e.on == j) = true → ds[j]? = some (some d) → pv.getD j (fun _ _ => True) (a'.tmps[d]?.getD undef) w') →
   ∀ K : Act → World → Prop, (∀ g v w'', a'.tmps[dd]?.getD undef = .pointer (some ⟨g, 0, none⟩) → Below W.heap.size w' w'' → Full i g w'' → (∀ j g', j ≠ i → Full j g' w' → Full j g' w'') → allP (fun p => ∀ v, p v w' → p v w'') pv → K (a'.put o.dst v) w'') → o.wp P a' w' K Q) : newsStep P Q a W sto ds pv Full i o := by
 intro a' w' hb hs hd K hK
 simp only [h] at hK
 refine H a' w' hb hs hd K fun g v w'' hg => hK g v w'' fun d hd' => ?_
 rw [hdd] at hd'
 injection hd' with hd'
 injection hd' with hd'
 subst hd'
 exact hg
def nsF : List (Nat × (Nat → World → Prop)) → Nat → Nat → World → Prop
 | [], _, _, _ => True
 | p :: l, i, g, w => match p.1 == i with | true => p.2 g w | false => nsF l i g w
theorem ztg {p : Nat × (Nat → World → Prop)} {l : List (Nat × (Nat → World → Prop))} {i g : Nat} (e : (p.1 == i) = true) : nsF (p :: l) i g w = p.2 g w := by
 unfold nsF; rw [e]
theorem zwg {p : Nat × (Nat → World → Prop)} {l : List (Nat × (Nat → World → Prop))} {i g : Nat} (e : (p.1 == i) = false) : nsF (p :: l) i g w = nsF l i g w := by
 rw [nsF, e]
def stayL (i : Nat) (w w' : World) : List (Nat × (Nat → World → Prop)) → Prop
 | [] => True
 | p :: l => (p.1 = i ∨ ∀ g, p.2 g w → p.2 g w') ∧ stayL i w w' l
theorem zje {i : Nat} : ∀ {l : List (Nat × (Nat → World → Prop))}, stayL i w w' l → ∀ j g, j ≠ i → nsF l j g w → nsF l j g w'
 | [], _, _, _, _, _ => trivial
 | p :: l, h, j, g, hj, hf => by
  cases e : p.1 == j with
  | true =>
   rw [ztg e] at hf ⊢
   have e' : p.1 = j := by simpa using e
   rcases h.1 with h1 | h1
   ·exact absurd (e'.symm.trans h1) hj
   ·exact h1 g hf
  | false =>
   rw [zwg e] at hf ⊢
   exact zje h.2 j g hj hf
def bowL : List (Nat × (Nat → World → Prop)) → Prop
 | [] => True
 | p :: l => (∀ g w w', p.2 g w → Below w.heap.size w w' → p.2 g w') ∧ bowL l
theorem zku : ∀ {l : List (Nat × (Nat → World → Prop))}, bowL l → ∀ i g w w', nsF l i g w → Below w.heap.size w w' → nsF l i g w'
 | [], _, _, _, _, _, _, _ => trivial
 | p :: l, h, i, g, w, w', hf, hb => by
  cases e : p.1 == i with
  | true =>
   rw [ztg e] at hf ⊢
   exact h.1 g w w' hf hb
  | false =>
   rw [zwg e] at hf ⊢
   exact zku h.2 i g w w' hf hb
theorem zpr {P : Program} {l : List Oper} {Q : Exit → Act → World → Prop} {a : Act} {id : Nat} (sto : List (Nat × Nat)) (ds : List (Option Nat)) (ts : List Nat) (pv : List (Value → World → Prop)) (Full : Nat → Nat → World → Prop) (k : Nat) (hm : P.follows .mixedOrders = true) (hD : depsAllB l.toArray = true) (hds : l.map (·.dst) = ds) (hts : (ds.filterMap fun x => x) = ts) (hnd : nodupB ds = true) (hlt : ltB k ds = true) (hk : k ≤ a.tmps.size) 
  (hsto : stoOK l.toArray ds sto = true)
  (hPB : allP (fun p => ∀ v w w', p v w → Below w.heap.size w w' → p v w') pv) (hFB : ∀ i g w w', Full i g w → Below w.heap.size w w' → Full i g w')
  (hstep : stepsF (newsStep P Q a W sto ds pv Full) 0 l)
  (hend : ∀ (X : Nat → Value) (w' : World), Below W.heap.size W w' → (∀ i d, ds[i]? = some (some d) → pv.getD i (fun _ _ => True) (X d) w') → (∀ i ia d, layOf sto i = some ia → ds[ia]? = some (some d) → ∃ g, X d = .pointer (some ⟨g, 0, none⟩) ∧ Full i g w') → Q .normal (puts ts (ts.map X) a) w') :
  (Code.region id l.toArray true).wp P Q a W := by
 have hsz : ∀ d, some d ∈ ds → d < a.tmps.size := fun d hd => by have := zge hlt d hd; omega
 have hND := zjp hnd
 have hst : ∀ i o, l.toArray[i]? = some o → newsStep P Q a W sto ds pv Full i o := fun i o ho => by
  have := zc4 l 0 i o hstep (by simpa using ho)
  rwa [Nat.zero_add] at this
 have hPB' : ∀ j v w w', pv.getD j (fun _ _ => True) v w → Below w.heap.size w w' → pv.getD j (fun _ _ => True) v w' := fun j => zb9 (C := fun p => ∀ v w w', p v w → Below w.heap.size w w' → p v w') (fun _ _ _ _ _ => trivial) pv j hPB
 have hl : ∀ (i : Nat) (x : Option Nat), ds[i]? = some x → i < l.length := fun i x hd => by
  have := (List.getElem?_eq_some_iff.1 hd).1
  rw [← hds] at this
  simpa using this
 have hlay : ∀ i ia, layOf sto i = some ia → ∃ o d, l.toArray[i]? = some o ∧ (o.after.any fun e => Region.binds .any e && e.on == ia) = true ∧ i < l.length ∧ ds[ia]? = some (some d) ∧ ds[i]? = some none := fun i ia h => by
  unfold layOf at h
  cases hf : sto.find? (fun p => p.1 == i) with
  | none => rw [hf] at h; cases h
  | some p =>
   rw [hf] at h
   obtain ⟨p1, p2⟩ := p
   obtain rfl : p2 = ia := by simpa using h
   have hp1 : p1 = i := by simpa using List.find?_some hf
   subst hp1
   have h1 := List.all_eq_true.1 hsto _ (List.mem_of_find?_eq_some hf)
   cases ho : l.toArray[p1]? with
   | none => simp only [ho] at h1; cases h1
   | some o =>
    simp only [ho, Bool.and_eq_true, decide_eq_true_eq] at h1
    obtain ⟨⟨⟨h2, h3⟩, h4⟩, h5⟩ := h1
    cases hd : ds[p2]? with
    | none => rw [hd] at h4; cases h4
    | some x =>
     cases x with
     | none => rw [hd] at h4; cases h4
     | some d =>
      cases he : ds[p1]? with
      | none => rw [he] at h5; cases h5
      | some y =>
       cases y with
       | some _ => rw [he] at h5; cases h5
       | none => exact ⟨o, d, rfl, h2, by simpa using h3, rfl, rfl⟩
 refine zhl (W := W) ds
  (fun i V w => match layOf sto i with | some ia => ∃ g, V ia = .pointer (some ⟨g, 0, none⟩) ∧ Full i g w | none => pv.getD i (fun _ _ => True) (V i) w)
  (fun w' => Below W.heap.size W w')
  (fun i w w' => match layOf sto i with | some _ => allP (fun p => ∀ v, p v w → p v w') pv ∧ ∀ j g', j ≠ i → Full j g' w → Full j g' w' | none => Below w.heap.size w w') hm hD hds hND hsz
  (fun i j V v w w' hne hw _ hp hv => ?_) zr.drew (fun i o ho a' w' hR hsame hdep K hK => ?_) (fun a' w' hR hdf hsz' hsame hf => ?_)
 ·cases hj : layOf sto j with
  | some ia =>
   simp only [hj] at hv ⊢
   obtain ⟨g, e, hF⟩ := hv
   obtain ⟨o, d, ho, ha, -⟩ := hlay j ia hj
   have hia : ¬ ia = i := fun e => by
    subst e
    rw [hw o ho] at ha
    cases ha
   refine ⟨g, by rw [zbl _ _ hia]; exact e, ?_⟩
   cases hi : layOf sto i with
   | some _ => simp only [hi] at hp; exact hp.2 j g (fun e => hne e.symm) hF
   | none => simp only [hi] at hp; exact hFB j g _ _ hF hp
  | none =>
   simp only [hj] at hv ⊢
   rw [zbl _ _ (fun h => hne h.symm)]
   cases hi : layOf sto i with
   | some _ => simp only [hi] at hp; exact zb9 (C := fun p => ∀ v, p v w → p v w') (fun _ _ => trivial) pv j hp.1 _ hv
   | none => simp only [hi] at hp; exact hPB' j _ _ _ hv hp
 ·have hs := hst i o ho
  unfold newsStep at hs
  refine hs a' w' hR (fun t ht => by have := hsame t ht; rwa [Array.getD_eq_getD_getElem?, Array.getD_eq_getD_getElem?] at this) (fun j d ha hd => ?_) K ?_
  ·have := hdep j ha
   have hj : layOf sto j = none := by
    cases hj : layOf sto j with
    | none => rfl
    | some ia =>
     obtain ⟨_, _, _, _, _, _, h6⟩ := hlay j ia hj
     rw [hd] at h6; cases h6
   simp only [hj] at this
   rwa [za3 hd] at this
  ·cases hi : layOf sto i with
   | some ia =>
    simp only [hi] at hK ⊢
    intro g v w'' hg hb hF hO hk
    obtain ⟨_, d, _, _, _, hda, hdi⟩ := hlay i ia hi
    refine hK v w'' (hR.trans hb) ⟨hk, hO⟩ ⟨g, ?_, hF⟩
    have hne : ¬ ia = i := fun e => by subst e; rw [hda] at hdi; cases hdi
    rw [zbl _ _ hne, za3 hda]
    exact hg d hda
   | none =>
    simp only [hi] at hK ⊢
    intro v w'' hb hv
    refine hK v w'' (hR.trans (hb.mono hR.size)) hb ?_
    rw [zdz]
    exact hv
 ·rw [← hts] at hend
  have hputs := zc9 (ds.filterMap fun x => x) a hdf hsz' (fun t ht => by
   obtain ⟨x, hx, rfl⟩ := List.mem_filterMap.1 ht
   exact hsz _ hx) (fun t ht => hsame t (fun h => ht (List.mem_filterMap.2 ⟨_, h, rfl⟩)))
  have h := hend (fun t => a'.tmps.getD t undef) w' hR (fun i d hd => by
   have := hf i (hl i _ hd)
   have hj : layOf sto i = none := by
    cases hj : layOf sto i with
    | none => rfl
    | some ia =>
     obtain ⟨_, _, _, _, _, _, h6⟩ := hlay i ia hj
     rw [hd] at h6; cases h6
   simp only [hj] at this
   rw [za3 hd] at this
   rw [Array.getD_eq_getD_getElem?]
   exact this) (fun i ia d hi hda => by
   obtain ⟨_, _, _, _, h5, _, _⟩ := hlay i ia hi
   have := hf i h5
   simp only [hi] at this
   obtain ⟨g, e, hF⟩ := this
   rw [za3 hda] at e
   exact ⟨g, by rw [Array.getD_eq_getD_getElem?]; exact e, hF⟩)
  rw [← hputs] at h
  exact h
theorem GrAt.of_block {c n : Nat} {z : Nat → Int} (h : GrAt w p c n z) (hl : w.heap.size ≤ w'.heap.size) (e : 0 < n → ∀ b off sp, p = some ⟨b, off, sp⟩ → w'.heap[b]? = w.heap[b]?) : GrAt w' p c n z := ⟨h.ints.of_block hl e, h.nle, h.pnil, h.ncap⟩
theorem zdk : ∀ (ys : List Value) (k : Nat) (cur : Array Value), k + ys.length ≤ cur.size → (setFrom cur k ys).toList.take (k + ys.length) = cur.toList.take k ++ ys
 | [], k, cur, _ => by simp [setFrom]
 | y :: ys, k, cur, h => by
  simp only [List.length_cons] at h
  have ih := zdk ys (k + 1) (cur.setIfInBounds k y) (by simp; omega)
  rw [setFrom, List.length_cons, show k + (ys.length + 1) = k + 1 + ys.length by omega, ih, Array.toList_setIfInBounds]
  have e : (cur.toList.set k y).take (k + 1) = cur.toList.take k ++ [y] := by
   rw [List.take_succ_eq_append_getElem (by simp; omega)]
   simp [List.take_set]
   exact List.set_eq_of_length_le (by simp; omega)
  rw [e]
  simp
theorem zei : ∀ (ys : List Value) (k m : Nat) (cur : Array Value), m ≤ k → (setFrom cur k ys).toList.take m = cur.toList.take m
 | [], _, _, _, _ => rfl
 | y :: ys, k, m, cur, h => by
  rw [setFrom, zei ys (k + 1) m _ (by omega), Array.toList_setIfInBounds, List.take_set, List.set_eq_of_length_le (by simp; omega)]
def NilB (N : Nat) (T : TypeId) (v : Value) (w : World) : Prop := ∃ g, v = .slice (some ⟨g, 0, none⟩) 0 0 ∧ N ≤ g ∧ TBox T g #[] w
def OneB (N : Nat) (T : TypeId) (ys : List Value) (v : Value) (w : World) : Prop := ∃ g, v = .slice (some ⟨g, 0, none⟩) 1 1 ∧ N ≤ g ∧ TBox T g ys.toArray w
def CopyB (N : Nat) (T : TypeId) (s n : Nat) (xs : List Value) (v : Value) (w : World) : Prop := w.ownsRow N T s v n xs ∧ (n = 0 → ∃ ao, v = .slice ao 0 0)
theorem NilB.below {N : Nat} {T : TypeId} (h : NilB N T v w) (hb : Below w.heap.size w w') : NilB N T v w' := by
 obtain ⟨g, e, hn, h⟩ := h
 exact ⟨g, e, hn, h.below hb⟩
theorem OneB.below {N : Nat} {T : TypeId} {ys : List Value} (h : OneB N T ys v w) (hb : Below w.heap.size w w') : OneB N T ys v w' := by
 obtain ⟨g, e, hn, h⟩ := h
 exact ⟨g, e, hn, h.below hb⟩
theorem CopyB.below {N : Nat} {T : TypeId} {s n : Nat} {xs : List Value} (h : CopyB N T s n xs v w) (hb : Below w.heap.size w w') : CopyB N T s n xs v w' := ⟨zaa h.1 hb, h.2⟩
theorem zf6 {N : Nat} (W : World) (T : TypeId) (hN : N ≤ W.heap.size) : NilB N T (.slice (some ⟨W.heap.size, 0, none⟩) 0 0) (W.alloc (.cells #[] T)) := ⟨_, rfl, hN, TBox.new _ _ _⟩
theorem zvz {N : Nat} (W : World) (T : TypeId) (ys : List Value) (hN : N ≤ W.heap.size) : OneB N T ys (.slice (some ⟨W.heap.size, 0, none⟩) 1 1) (W.alloc (.cells ys.toArray T)) := ⟨_, rfl, hN, TBox.new _ _ _⟩
theorem CopyB.under {N : Nat} {T : TypeId} {s n : Nat} {xs : List Value} (h : CopyB N T s n xs v w) (hg : g < N) (k : Nat) (u : Value) : CopyB N T s n xs v (w.setCell ⟨g, k, none⟩ u) := ⟨OwnV.under h.1 hg k u, h.2⟩
theorem NilB.owns {N : Nat} {T : TypeId} (h : NilB N T v w) (s : Nat) : CopyB N T s 0 [] v w := by
 obtain ⟨g, rfl, hn, h⟩ := h
 exact ⟨⟨by simp, .inr ⟨g, 0, #[], rfl, hn, h, Nat.le_refl _, by decide, by simp, by simp⟩⟩, fun _ => ⟨_, rfl⟩⟩
theorem zsw (N : Nat) (T : TypeId) (s : Nat) (w : World) : CopyB N T s 0 [] (.slice none 0 0) w := ⟨⟨by simp, .inl ⟨rfl, rfl⟩⟩, fun _ => ⟨_, rfl⟩⟩
def InPl (N : Nat) (T : TypeId) (s n k : Nat) (ys : List Value) (v : Value) (w w' : World) : Prop := ∃ g cap cur, v = .slice (some ⟨g, 0, none⟩) n cap ∧ N ≤ g ∧ TBox T g cur w ∧ cur.size = cap * s ∧ (n + k ≤ cap ∧ 1 ≤ k) ∧ 1 ≤ n ∧ w' = putsL g (n * s) ys w
section
variable {N : Nat} {T : TypeId} {s n k : Nat} {ys : List Value} {v : Value} {w w' : World}
theorem InPl.lower (h : InPl N T s n k ys v w w') : Below N w w' := by
 obtain ⟨g, cap, cur, -, hN, -, -, -, -, rfl⟩ := h
 exact zao hN _ _ _
theorem InPl.size (h : InPl N T s n k ys v w w') : w'.heap.size = w.heap.size := by
 obtain ⟨g, cap, cur, -, hN, -, -, -, -, rfl⟩ := h
 exact zbf _ _ _
theorem OneB.inPl {y0 : List Value} {v0 : Value} (h0 : OneB N T y0 v0 w) (h : InPl N T s n k ys v w w') (hs : 1 ≤ s) (hl : y0.length = s) : OneB N T y0 v0 w' := by
 obtain ⟨b, e, hn, hb⟩ := h0
 obtain ⟨g, cap, cur, -, hN, hg, hc, h1, h2, rfl⟩ := h
 refine ⟨b, e, hn, hb.of_block (zah ?_ _ _ _)⟩
 rintro rfl
 have := hb.symm.trans hg
 injection this with this
 injection this with this
 have h3 : cur.size = s := by rw [← this]; simpa using hl
 have h4 : 2 * s ≤ cap * s := Nat.mul_le_mul_right s (by omega)
 omega
theorem zux {m : Nat} {zs : List Value} {v0 : Value} (h0 : w.ownsRow N T s v0 m zs) (h : InPl N T s n k ys v w w') (hl : ys.length = k * s) (hm : m ≤ n ∨ ∃ xs, m = n + k ∧ zs = xs ++ ys) : w'.ownsRow N T s v0 m zs := by
 obtain ⟨g, cap, cur, -, hN, hg, hc, h1, h2, rfl⟩ := h
 rcases h0.2 with ⟨hv, e⟩ | ⟨b, cap', cur', hv, hb, hgb, hnc, hcm, hcs, htk⟩
 ·exact ⟨h0.1, .inl ⟨hv, e⟩⟩
 ·by_cases e : b = g
  ·subst e
   have := hg.symm.trans hgb
   injection this with this
   injection this with this
   subst this
   refine ⟨h0.1, .inr ⟨b, cap', _, hv, hb, hg.putsL ys (n * s), hnc, hcm, by rw [zb7]; exact hcs, ?_⟩⟩
   rcases hm with hm | ⟨xs, rfl, rfl⟩
   ·rw [zei ys (n * s) (m * s) cur (Nat.mul_le_mul_right s hm)]
    exact htk
   ·have e1 : (n + k) * s = n * s + ys.length := by rw [Nat.add_mul, hl]
    have hxl : xs.length = n * s := by
     have := h0.1
     rw [List.length_append, e1] at this
     omega
    have hle : n * s + ys.length ≤ cur.size := by rw [← e1, hc]; exact Nat.mul_le_mul_right s h1.1
    rw [e1, zdk ys (n * s) cur hle]
    congr 1
    have h5 := congrArg (List.take (n * s)) htk
    rw [List.take_take, e1, Nat.min_eq_left (Nat.le_add_right _ _), List.take_append_of_le_length (Nat.le_of_eq hxl.symm)] at h5
    rw [h5, List.take_of_length_le (Nat.le_of_eq hxl)]
  ·exact ⟨h0.1, .inr ⟨b, cap', cur', hv, hb, (zah e _ _ _).trans hgb, hnc, hcm, hcs, htk⟩⟩
theorem CopyB.inPl {xs : List Value} {v0 : Value} (h0 : CopyB N T s n xs v0 w) (h : InPl N T s n k ys v w w') (hl : ys.length = k * s) : CopyB N T s n xs v0 w' := ⟨zux h0.1 h hl (.inl (Nat.le_refl _)), h0.2⟩
end
section
variable {P : Program} {o : Oper} {a : Act} {w : World} {K : Act → World → Prop} {Q : Exit → Act → World → Prop}
theorem zsd (hg : o.guard = none) (so x : Operand) (t : TypeId) (hop : o.op = Op.call { callee := Callee.builtin Builtin.append, args := #[so, x], argTypes := #[t, t] }) 
  (e : TypeId) (i : TypeInfo) (z0 : Value) (s bytes : Nat) (h1 : P.underlying t = some (.slice e)) (h2 : P.info? e = some i) (h3 : i.zero = some z0) (h4 : i.size = s) (h5 : i.bytes = bytes) (h6 : z0.cells.size = s) (h7 : 0 < s)
  (N : Nat) (v : Value) (hs : a.eval so = v) (hown : CopyB N e s 0 [] v w) (p : Option Addr) (n c : Nat) (xs : List Value) (hx : a.eval x = .slice p n c) (hl : xs.length = n * s) (hnil : p = none → n = 0)
  (hcells : ∀ ad, p = some ad → ∀ j u, xs[j]? = some u → w.cell? (ad.add j) = some u) (h1c : ∀ u ∈ xs, u.oneCell' = true)
  (b1 : n ≤ maxLen) (b2 : n * bytes ≤ 140737488355328) (hN : N ≤ w.heap.size)
  (hK : ∀ v' w', CopyB N e s n xs v' w' → Below w.heap.size w w' → K (a.put o.dst v') w') : o.wp P a w K Q := by
 obtain ⟨ho, hv0⟩ := hown
 obtain ⟨ao, rfl⟩ := hv0 rfl
 by_cases h0 : n = 0
 ·subst h0
  have hrun := zdu (P := P) (w := w) t o.type e i h1 h2 ao 0 0 (Nat.le_refl _) p c
  unfold Oper.wp
  simp [execOp, hop, resolve, invoke, builtin, hs, hx, hrun, Result.andThen]
  obtain rfl : xs = [] := List.eq_nil_of_length_eq_zero (by omega)
  exact hK _ _ ⟨ho, fun _ => ⟨_, rfl⟩⟩ zr
 ·cases p with
  | none => exact absurd (hnil rfl) h0
  | some ad =>
   refine zc2 hg (step_append_grows hg so x t hop e i z0 s bytes h1 h2 h3 h4 h5 h6 h7 ao 0 0 [] hs (fun _ => ⟨rfl, rfl⟩) (by simp) (fun b _ j u hj => by simp at hj) ad n c xs hx hl (hcells ad rfl) h1c (by omega) (by rw [Nat.zero_add]; exact b1) (by rw [Nat.zero_add]; exact b2) fun v' w' h hgr => ?_)
   rw [Nat.zero_add, List.nil_append] at h
   exact hK v' w' ⟨zag h hN, fun e => absurd e h0⟩ (zr.grown hgr (Nat.le_refl _) (fun k hk => by cases hk))
theorem zsz (hg : o.guard = none) (so x : Operand) (t : TypeId) (hop : o.op = Op.call { callee := Callee.builtin Builtin.append, args := #[so, x], argTypes := #[t, t] }) 
  (e : TypeId) (i : TypeInfo) (z0 : Value) (s bytes : Nat) (h1 : P.underlying t = some (.slice e)) (h2 : P.info? e = some i) (h3 : i.zero = some z0) (h4 : i.size = s) (h5 : i.bytes = bytes) (h6 : z0.cells.size = s) (h7 : 0 < s)
  (N : Nat) (v : Value) (n : Nat) (xs : List Value) (hs : a.eval so = v) (hown : CopyB N e s n xs v w) (p : Option Addr) (m c : Nat) (ys : List Value) (hx : a.eval x = .slice p m c) (hyl : ys.length = m * s) (hnil : p = none → m = 0)
  (hcells : ∀ ad, p = some ad → ∀ j u, ys[j]? = some u → w.cell? (ad.add j) = some u) (h1c : ∀ y ∈ ys, y.oneCell' = true)
  (b1 : n + m ≤ maxLen) (b2 : (n + m) * bytes ≤ 140737488355328) (hN : N ≤ w.heap.size)
  (hK : ∀ v' w', w'.ownsRow N e s v' (n + m) (xs ++ ys) → (Below w.heap.size w w' ∨ InPl N e s n m ys v w w') → K (a.put o.dst v') w') : o.wp P a w K Q := by
 obtain ⟨hown, hz⟩ := hown
 have hlen := hown.1
 by_cases hm0 : m = 0
 ·subst hm0
  obtain rfl : ys = [] := List.eq_nil_of_length_eq_zero (by omega)
  obtain ⟨ao, cap, hv, hcap⟩ : ∃ ao cap, v = .slice ao n cap ∧ n ≤ cap := by
   rcases hown.2 with ⟨hv, h0⟩ | ⟨g, cap, cur, hv, -, -, hnc, -⟩
   ·exact ⟨none, 0, by rw [hv, h0], by omega⟩
   ·exact ⟨_, cap, hv, hnc⟩
  subst hv
  have hrun := zdu (P := P) (w := w) t o.type e i h1 h2 ao n cap hcap p c
  unfold Oper.wp
  simp [execOp, hop, resolve, invoke, builtin, hs, hx, hrun, Result.andThen]
  exact hK _ _ (by simpa using hown) (.inl zr)
 ·cases p with
  | none => exact absurd (hnil rfl) hm0
  | some ad =>
  have hc := hcells ad rfl
  rcases hown.2 with ⟨hv, h0⟩ | ⟨g, cap, cur, hv, hb, hg', hnc, hcm, hcs, htake⟩
  ·subst h0
   obtain rfl : xs = [] := List.eq_nil_of_length_eq_zero (by omega)
   refine zc2 hg (step_append_grows hg so x t hop e i z0 s bytes h1 h2 h3 h4 h5 h6 h7 none 0 0 [] (hs.trans hv) (fun _ => ⟨rfl, rfl⟩) (by simp) (fun b hb => by cases hb) ad m c ys hx hyl hc h1c (by omega) b1 b2 fun v' w' ho hgr => ?_)
   exact hK v' w' (zag (by simpa using ho) hN) (.inl (zr.grown hgr (Nat.le_refl _) (fun k hk => by cases hk)))
  ·by_cases hr : n + m ≤ cap
   ·have hn1 : 1 ≤ n := by
     rcases Nat.eq_zero_or_pos n with h0 | h0
     ·obtain ⟨ao, e'⟩ := hz h0
      rw [hv] at e'
      injection e' with _ _ e'
      omega
     ·exact h0
    have e1 : (n + m) * s = n * s + ys.length := by rw [Nat.add_mul, hyl]
    have hle : n * s + ys.length ≤ cur.size := by
     rw [hcs, ← e1]
     exact Nat.mul_le_mul_right s hr
    have hspare : ∀ j, j < ys.length → (w.cell? ⟨g, 0 + n * s + j, none⟩).isSome = true ∧ w.frozen? ⟨g, 0 + n * s + j, none⟩ = false := fun j hj => by
     refine ⟨?_, frozen_of_row w g _ cur e hg'⟩
     rw [cell_of_row w g _ cur e _ hg', Array.getElem?_eq_getElem (show 0 + n * s + j < cur.size by omega)]
     rfl
    refine zc2 hg (step_append_room hg so x t hop e i s h1 h2 h4 g 0 n cap (hs.trans hv) ad m c ys hx hyl hc h1c hr hspare ?_)
    rw [zej, Nat.zero_add]
    have hin : InPl N e s n m ys v w (putsL g (n * s) ys w) := ⟨g, cap, cur, hv, hb, hg', hcs, ⟨hr, by omega⟩, hn1, rfl⟩
    refine hK _ _ ⟨by rw [List.length_append, hlen, e1], .inr ⟨g, cap, _, rfl, hb, TBox.putsL (T := e) ys (n * s) hg', hr, hcm, by rw [zb7]; exact hcs, ?_⟩⟩ (.inr hin)
    rw [e1, zdk ys (n * s) cur hle, htake]
   ·refine zc2 hg (step_append_grows hg so x t hop e i z0 s bytes h1 h2 h3 h4 h5 h6 h7 (some ⟨g, 0, none⟩) n cap xs (hs.trans hv) (fun h => by cases h) hlen (fun b hb' j y hj => ?_) ad m c ys hx hyl hc h1c (by omega) b1 b2 fun v' w' ho hgr => ?_)
    ·injection hb' with hb'
     subst hb'
     have hjn : j < n * s := by have := (List.getElem?_eq_some_iff.1 hj).1; omega
     rw [ze2, Nat.zero_add, cell_of_row w g _ cur e _ hg', ← Array.getElem?_toList]
     rw [← htake, List.getElem?_take, if_pos hjn] at hj
     exact hj
    ·exact hK v' w' (zag ho hN) (.inl (zr.grown hgr (Nat.le_refl _) (fun k hk => by cases hk)))
theorem zqt (hg : o.guard = none) (so x : Operand) (t : TypeId) (hop : o.op = Op.call { callee := Callee.builtin Builtin.append, args := #[so, x], argTypes := #[t, t] }) 
  (e : TypeId) (i : TypeInfo) (z0 : Value) (s bytes : Nat) (h1 : P.underlying t = some (.slice e)) (h2 : P.info? e = some i) (h3 : i.zero = some z0) (h4 : i.size = s) (h5 : i.bytes = bytes) (h6 : z0.cells.size = s) (h7 : 0 < s)
  (N : Nat) (v : Value) (n : Nat) (xs : List Value) (hs : a.eval so = v) (hown : CopyB N e s n xs v w) (u : Value) (ys : List Value) (hx : a.eval x = u) (hone : OneB N e ys u w) (hyl : ys.length = s) (h1c : ∀ y ∈ ys, y.oneCell' = true)
  (b1 : n + 1 ≤ maxLen) (b2 : (n + 1) * bytes ≤ 140737488355328) (hN : N ≤ w.heap.size)
  (hK : ∀ v' w', w'.ownsRow N e s v' (n + 1) (xs ++ ys) → (Below w.heap.size w w' ∨ InPl N e s n 1 ys v w w') → K (a.put o.dst v') w') : o.wp P a w K Q := by
 obtain ⟨ad, rfl, -, hT⟩ := hone
 refine zsz hg so x t hop e i z0 s bytes h1 h2 h3 h4 h5 h6 h7 N v n xs hs hown (some ⟨ad, 0, none⟩) 1 1 ys hx (by omega) (fun h => by cases h) (fun b hb j y hj => ?_) h1c b1 b2 hN hK
 injection hb with hb
 subst hb
 rw [zdj, Nat.zero_add, hT.cell]
 simpa using hj
end
end Go.Proofs.YtkehankfnkjnlaaGreatDoor
