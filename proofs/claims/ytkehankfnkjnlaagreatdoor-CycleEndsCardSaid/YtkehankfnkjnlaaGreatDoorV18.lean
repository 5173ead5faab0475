import Derived.Test.YtkehankfnkjnlaaGreatDoorV17
import Derived.Laws.IdiomArrays
namespace Go.Proofs.YtkehankfnkjnlaaGreatDoor
set_option linter.unusedSimpArgs false
set_option linter.unusedVariables false
set_option maxHeartbeats 16000000
set_option maxRecDepth 20000
open Go.ChangeAt Go.ChangeShapes Go.Joins Go.RowKit Go.WideShapes
variable {h : Hp} {w w' W W' : World} {p q : Option Addr} {n g : Nat} {a : Int} {v : Value}
theorem zai {P : Program} {ops : Array Oper} {rest : List Oper} {o : Oper} {a : Act} {Q : Exit → Act → World → Prop} (hgd : o.guard = none) (s x : Operand) (t : TypeId) 
  (ho : o.op = .call { callee := .builtin .append, args := #[s, x], argTypes := #[t, t] })
  (base : Nat) (e : TypeId) (i : TypeInfo) (z0 : Value) (size bytes : Nat) (ht : P.underlying t = some (.slice e)) (hi : P.info? e = some i) (hz : i.zero = some z0) (hsize : i.size = size) (hby : i.bytes = bytes) (hzs : z0.cells.size = size) (hsz : 0 < size)
  (v : Value) (m : Nat) (xs : List Value) (hs : a.eval s = v) (hown : w.ownsRow base e size v m xs)
  (p : Option Addr) (n cap : Nat) (ys : List Value) (hx : a.eval x = .slice p n cap) (hl : ys.length = n * size) (hcells : ∀ ad, p = some ad → ∀ j u, ys[j]? = some u → w.cell? (ad.add j) = some u) (h1 : ∀ u ∈ ys, u.oneCell' = true) (hq : p = none → n = 0 ∧ cap = 0)
  (h63 : m + n ≤ maxLen) (hbytes : (m + n) * bytes ≤ 140737488355328) (hbase : base ≤ w.heap.size)
  (h : ∀ v' w', w'.ownsRow base e size v' (m + n) (xs ++ ys) → w.grownBy w' v.ownBlock → wpList P ops Q rest (a.put o.dst v') w') : wpList P ops Q (o :: rest) a w := by
 cases p with
 | none =>
  obtain ⟨rfl, rfl⟩ := hq rfl
  obtain rfl : ys = [] := List.eq_nil_of_length_eq_zero (by omega)
  exact wpList_append_own_none hgd s x t ho base e i size ht hi v m xs hs hown hx (h v w (by simpa using hown) (World.grownBy.refl _ _))
 | some ad =>
  exact wpList_append_own _ hgd s x t ho base e i z0 size bytes ht hi hz hsize hby hzs hsz v m xs hs hown ad n cap ys hx hl (hcells ad rfl) h1 h63 hbytes hbase (fun v' w' h1 h2 _ => h v' w' h1 h2)
theorem zfp {S S' : Nat → Oper → Prop} : ∀ (l : List Oper) (k : Nat), (∀ i o, l[i]? = some o → S (k + i) o → S' (k + i) o) → stepsF S k l → stepsF S' k l
 | [], _, _, _ => trivial
 | x :: r, k, h, hs => ⟨h 0 x rfl hs.1, zfp r (k + 1) (fun i o e hS => by
   have := h (i + 1) o (by simpa using e)
   rw [show k + (i + 1) = k + 1 + i by omega] at this
   exact this hS) hs.2⟩
theorem kv {x : Value} : ∀ (v : Value) (w w' : World), v = x → Below w.heap.size w w' → v = x := fun _ _ _ h _ => h
def guardOk0 (ds : List (Option Nat)) (pv : List (Value → World → Prop)) (skip : Nat → Bool) (i : Nat) (o : Oper) : Prop :=
 match o.guard with
 | none => skip i = false
 | some (g, bb) => skip g = false ∧ (∃ d, ds[g]? = some (some d)) ∧ ∀ v w, pv.getD g (fun _ _ => True) v w → v = .bool (if skip i = true then !bb else bb)
def lateStep0 (P : Program) (Q : Exit → Act → World → Prop) (a : Act) (W : World) (ds : List (Option Nat)) (pv : List (Value → World → Prop)) (skip : Nat → Bool) (i : Nat) (o : Oper) : Prop :=
 skip i = false → ∀ (a' : Act) (w' : World), Below W.heap.size W w' → (∀ t, some t ∉ ds → a'.tmps[t]?.getD undef = a.tmps[t]?.getD undef) →
  (∀ j d, (o.after.any fun e => Region.binds .any e && e.on == j) = true → ds[j]? = some (some d) → skip j = false → pv.getD j (fun _ _ => True) (a'.tmps[d]?.getD undef) w') →
  ∀ K : Act → World → Prop, (∀ v w'', Below w'.heap.size w' w'' → pv.getD i (fun _ _ => True) (valOf o v) w'' → K (a'.put o.dst v) w'') → o.wp P a' w' K Q
theorem zbg {P : Program} {l : List Oper} {Q : Exit → Act → World → Prop} {a : Act} {id : Nat} (ds : List (Option Nat)) (ts : List Nat) (pv : List (Value → World → Prop)) (skip : Nat → Bool) (k : Nat) (hm : P.follows .mixedOrders = true) (hD : depsGB l.toArray = true) (hds : l.map (·.dst) = ds) (hts : (ds.filterMap fun x => x) = ts) (hnd : nodupB ds = true) (hlt : ltB k ds = true) (hk : k ≤ a.tmps.size) 
  (hPB : allP (fun p => ∀ v w w', p v w → Below w.heap.size w w' → p v w') pv)
  (hgd : stepsF (guardOk0 ds pv skip) 0 l) (hstep : stepsF (lateStep0 P Q a W ds pv skip) 0 l)
  (hend : ∀ (X : Nat → Value) (w' : World), Below W.heap.size W w' → (∀ i d, ds[i]? = some (some d) → skip i = false → pv.getD i (fun _ _ => True) (X d) w') → Q .normal (puts ts (ts.map X) a) w') :
  (Code.region id l.toArray true).wp P Q a W := by
 have hlen : ds.length = l.length := by rw [← hds, List.length_map]
 have hne : ∀ (j d : Nat), ds[j]? = some (some d) → j ≠ l.length := fun j d h => by
  have := (List.getElem?_eq_some_iff.1 h).1
  omega
 refine zdx ds ts pv skip l.length l.length k (fun _ _ => True) (fun _ _ => True) hm hD hds hts hnd hlt hk (.inl rfl) (fun _ => Nat.le_refl _) (fun _ _ _ _ _ => trivial) (fun _ _ _ _ _ => trivial) hPB (zfp l 0 (fun i o e h => ?_) hgd) (zfp l 0 (fun i o e h => ?_) hstep) fun X g w' _ hb hv => hend X w' hb fun i d h1 h2 => hv i d h1 h2 (hne i d h1) (hne i d h1)
 ·unfold guardOk0 at h
  unfold guardOk
  cases hg : o.guard with
  | none => rw [hg] at h; exact h
  | some gb =>
   obtain ⟨g, bb⟩ := gb
   rw [hg] at h
   obtain ⟨h1, ⟨d, h2⟩, h3⟩ := h
   exact ⟨h1, ⟨d, h2⟩, hne g d h2, hne g d h2, h3⟩
 ·intro hs a' w' hb hsl hd hn K hK
  have hi : ¬ 0 + i = l.length := by
   have := (List.getElem?_eq_some_iff.1 e).1
   omega
  rw [if_neg hi, if_neg hi] at hK
  exact h hs a' w' hb hsl (fun j d h1 h2 h3 => hd j d h1 h3 (hne j d h2) (hne j d h2) h2) K hK
def RowsOf {α : Type} (C : World → α → List Value → Prop) (s : Nat) (W : World) (p : Option Addr) (n : Nat) (z : Nat → α) : Prop :=
 ∀ i, i < n → ∃ b off L, p = some ⟨b, off, none⟩ ∧ b < W.heap.size ∧ L.length = s ∧ (∀ k u, L[k]? = some u → W.cell? ⟨b, off + i * s + k, none⟩ = some u) ∧ C W (z i) L
def CBelow {α : Type} (C : World → α → List Value → Prop) : Prop := ∀ W W' x L, C W x L → Below W.heap.size W W' → C W' x L
section
variable {α : Type} {C : World → α → List Value → Prop} {s : Nat} {W W' : World} {p : Option Addr} {n c : Nat} {z y : Nat → α}
theorem RowsOf.below (hC : CBelow C) (h : RowsOf C s W p n z) (hb : Below W.heap.size W W') : RowsOf C s W' p n z := fun i hi => by
 obtain ⟨b, off, L, e, hl, hL, hc, hx⟩ := h i hi
 exact ⟨b, off, L, e, Nat.lt_of_lt_of_le hl hb.size, hL, fun k u hk => (hb.cell (p := ⟨b, _, none⟩) hl).trans (hc k u hk), hC _ _ _ _ hx hb⟩
structure RAt {α : Type} (C : World → α → List Value → Prop) (s : Nat) (W : World) (p : Option Addr) (c n : Nat) (z : Nat → α) : Prop where
 row : RowsOf C s W p n z
 nle : n ≤ maxLen
 pnil : p = none → n = 0 ∧ c = 0
 ncap : n ≤ c ∧ c ≤ maxLen
theorem RAt.below (hC : CBelow C) (h : RAt C s W p c n z) (hb : Below W.heap.size W W') : RAt C s W' p c n z := ⟨h.row.below hC hb, h.nle, h.pnil, h.ncap⟩
theorem zew (W : World) (z : Nat → α) : RAt C s W none 0 0 z := ⟨fun i hi => absurd hi (Nat.not_lt_zero i), by decide, fun _ => ⟨rfl, rfl⟩, Nat.le_refl _, by decide⟩
theorem RAt.lt (h : RAt C s W p c n z) (h0 : 0 < n) : ∀ b off sp, p = some ⟨b, off, sp⟩ → b < W.heap.size := fun b off sp e => by
 obtain ⟨b1, o1, L, e1, hl1, -⟩ := h.row 0 h0
 rw [e] at e1
 injection e1 with e1
 injection e1 with e1
 omega
end
section
variable {H : Type} {enc : TypeId × Value → H} {P : Program} {W : World} {base : Nat}
theorem zgq {α : Type} [Inhabited α] {C : World → α → List Value → Prop} {s : Nat} {t e : TypeId} {fuel : Nat} {y : DataW H × List MemPlace} (ht : P.underlying t = some (.slice e)) (hc : P.cellsOf e = s) (hs : 0 < s) 
  (hel : ∀ fuel cs y, DataW.trod enc P W 0 (fun _ => true) true fuel e cs = some y → cs.length = s → ∃ x, C W x cs)
  (hf : DataW.trod enc P W 0 (fun _ => true) true fuel t [v] = some y) : ∃ (p : Option Addr) (n cap : Nat) (z : Nat → α), v = .slice p n cap ∧ RAt C s W p cap n z := by
 rcases Go.Deep.open_slice ht hf with ⟨hcs, -⟩ | ⟨a, len, cap, m, nf, D, Pl, hcs, -, hl, hm, hmm, -, hx⟩
 ·simp at hcs
  subst hcs
  exact ⟨none, 0, 0, fun _ => default, rfl, zew _ _⟩
 ·simp at hcs
  subst hcs
  simp only [if_true] at hmm
  rw [hc] at hx
  have each : ∀ i, i < len → ∃ q : α × List Value, q.2.length = s ∧ (∀ k u, q.2[k]? = some u → W.cell? (a.add (i * s + k)) = some u) ∧ C W q.1 q.2 := by
   intro i hi
   obtain ⟨cs', h1, h2⟩ := hx i (by omega)
   obtain ⟨-, hlen, hcell⟩ := World.cells?_some h1
   obtain ⟨x, hxx⟩ := hel _ _ _ h2 hlen
   refine ⟨⟨x, cs'⟩, hlen, fun k u hk => ?_, hxx⟩
   have hk' : k < cs'.length := (List.getElem?_eq_some_iff.1 hk).1
   have := hcell k (by rw [← hlen]; exact hk')
   rw [Go.Deep.add_add] at this
   rw [this]
   exact hk
  obtain ⟨q, hq⟩ := Go.Deep.choose_lt (α := α × List Value) (h := each)
  refine ⟨some a, len, cap, fun i => (q i).1, rfl, fun i hi => ?_, by omega, fun h => (by cases h), hl, hm⟩
  obtain ⟨hL, hcl, hC⟩ := hq i hi
  obtain ⟨b, off, sp⟩ := a
  obtain ⟨u, hu⟩ : ∃ u, (q 0).2[0]? = some u := ⟨(q 0).2[0]'(by rw [(hq 0 (by omega)).1]; exact hs), List.getElem?_eq_getElem _⟩
  have hz := (hq 0 (by omega)).2.1 0 u hu
  rw [Nat.zero_mul, Nat.add_zero, zca] at hz
  obtain rfl := ziy hz
  have hcl' : ∀ k u, (q i).2[k]? = some u → W.cell? ⟨b, off + i * s + k, none⟩ = some u := fun k u hk => by
   have := hcl k u hk
   rw [zdj] at this
   rw [Nat.add_assoc]
   exact this
  obtain ⟨u', hu'⟩ : ∃ u, (q i).2[0]? = some u := ⟨(q i).2[0]'(by rw [hL]; exact hs), List.getElem?_eq_getElem _⟩
  exact ⟨b, off, (q i).2, rfl, World.block_lt_of_cell? W _ (hcl' 0 u' hu'), hL, hcl', hC⟩
theorem zb8 {t : TypeId} {fs : Array Field} {fuel : Nat} {cs : List Value} {y : DataW H × List MemPlace} (hs : P.underlying t = some (.struct fs)) (h : DataW.trod enc P W 0 (fun _ => true) true fuel t cs = some y) :
  cs.length = P.cellsOf t ∧ ∀ (i : Nat) (f : Field), fs[i]? = some f → ∃ fuel' y', DataW.trod enc P W 0 (fun _ => true) true fuel' f.type ((cs.drop f.offset).take (P.cellsOf f.type)) = some y' := by
 obtain ⟨xs, k, -, -, hl, hxl, hfl⟩ := DataW.trod_struct hs h
 refine ⟨hl, fun i f hf => ⟨k, ?_⟩⟩
 have hi : i < xs.length := by rw [hxl]; exact (Array.getElem?_eq_some_iff.1 hf).1
 exact ⟨xs[i], by rw [hfl i f hf]; exact List.getElem?_eq_getElem hi⟩
end
structure Gy where
 r : Int
 n : Nat
 z : Nat → Int
instance : Inhabited Gy := ⟨⟨0, 0, fun _ => 0⟩⟩
def GrC (W : World) (g : Gy) (L : List Value) : Prop := ∃ p c, L = [.int .i64 g.r, .slice p g.n c] ∧ GrAt W p c g.n g.z ∧ In64 g.r
theorem za2 : CBelow GrC := fun _ _ _ _ h hb => by
 obtain ⟨p, c, e, h, hr⟩ := h
 exact ⟨p, c, e, h.below hb, hr⟩
section
variable {H : Type} {enc : TypeId × Value → H} {P : Program} {W : World} {base : Nat}
theorem zkg {t e : TypeId} {f0 f1 : Field} {fuel : Nat} {cs : List Value} {y : DataW H × List MemPlace} (hs : P.underlying t = some (.struct #[f0, f1])) (o0 : f0.offset = 0) (o1 : f1.offset = 1) (hC : P.cellsOf t = 2) (c0 : P.cellsOf f0.type = 1) (c1 : P.cellsOf f1.type = 1) 
  (hu0 : P.underlying f0.type = some (.int .i64)) (hu1 : P.underlying f1.type = some (.slice e)) (he : P.underlying e = some (.int .i64)) (hc : P.cellsOf e = 1) (h : DataW.trod enc P W 0 (fun _ => true) true fuel t cs = some y) : ∃ g : Gy, GrC W g cs := by
 obtain ⟨hl, hp⟩ := zb8 hs h
 rw [hC] at hl
 match cs, hl with
 | [a, b], _ =>
  obtain ⟨k0, y0, h0⟩ := hp 0 f0 rfl
  obtain ⟨k1, y1, h1⟩ := hp 1 f1 rfl
  rw [o0, c0] at h0
  rw [o1, c1] at h1
  simp at h0 h1
  obtain ⟨x, e0, -, wx⟩ := DataW.trod_int hu0 h0
  simp at e0
  subst e0
  obtain ⟨p, n, c, z, rfl, hn, hz, hq, hc1, hc2⟩ := zds hu1 he hc h1
  exact ⟨⟨x, n, z⟩, p, c, rfl, ⟨hz, hn, hq, hc1, hc2⟩, zbp wx⟩
theorem zqf {t t' e : TypeId} {f0 f1 : Field} {fuel : Nat} {y : DataW H × List MemPlace} (ht : P.underlying t' = some (.slice t)) (hs : P.underlying t = some (.struct #[f0, f1])) (o0 : f0.offset = 0) (o1 : f1.offset = 1) (hC : P.cellsOf t = 2) (c0 : P.cellsOf f0.type = 1) (c1 : P.cellsOf f1.type = 1) 
  (hu0 : P.underlying f0.type = some (.int .i64)) (hu1 : P.underlying f1.type = some (.slice e)) (he : P.underlying e = some (.int .i64)) (hc : P.cellsOf e = 1) (h : DataW.trod enc P W 0 (fun _ => true) true fuel t' [v] = some y) : ∃ (p : Option Addr) (n cap : Nat) (z : Nat → Gy), v = .slice p n cap ∧ RAt GrC 2 W p cap n z :=
 zgq ht hC (by decide) (fun _ _ _ h _ => zkg hs o0 o1 hC c0 c1 hu0 hu1 he hc h) h
end
structure Mu where
 n : Nat
 st : Nat → Vl
 s : Int
 ok : Int
 oa : Int
 ob : Int
 oc : Int
 o : Int
 v : Vl
 c0 : Int
 c1 : Int
 c2 : Int
 c3 : Int
instance : Inhabited Mu := ⟨⟨0, fun _ => ⟨0, 0⟩, 0, 0, 0, 0, 0, 0, ⟨0, 0⟩, 0, 0, 0, 0⟩⟩
structure Mu.wf (m : Mu) : Prop where
 s : In64 m.s
 ok : In64 m.ok
 oa : In64 m.oa
 ob : In64 m.ob
 oc : In64 m.oc
 o : In64 m.o
 v : m.v.wf
 c : In64 m.c0 ∧ In64 m.c1 ∧ In64 m.c2 ∧ In64 m.c3
def Mu.cells (m : Mu) (p : Option Addr) (c : Nat) : List Value := [.slice p m.n c, .int .i64 m.s, .int .i64 m.ok, .int .i64 m.oa, .int .i64 m.ob, .int .i64 m.oc, .int .i64 m.o, .int .i64 m.v.k, .int .i64 m.v.n, .int .i64 m.c0, .int .i64 m.c1, .int .i64 m.c2, .int .i64 m.c3]
def MuC (W : World) (m : Mu) (L : List Value) : Prop := ∃ p c, L = m.cells p c ∧ VAt W p c m.n m.st ∧ m.wf
theorem zat : CBelow MuC := fun _ _ _ _ h hb => by
 obtain ⟨p, c, e, h, hr⟩ := h
 exact ⟨p, c, e, h.below hb, hr⟩
section
variable {H : Type} {enc : TypeId × Value → H} {P : Program} {W : World} {base : Nat}
theorem zk7 {t tv ia : TypeId} {f0 f1 f2 f3 f4 f5 g0 g1 g2 g3 v0 v1 : Field} {fuel : Nat} {cs : List Value} {y : DataW H × List MemPlace} (hs : P.underlying t = some (.struct #[f0, f1, f2, f3, f4, f5])) (hC : P.cellsOf t = 13) 
  (hoff : f0.offset = 0 ∧ f1.offset = 1 ∧ f2.offset = 2 ∧ f3.offset = 6 ∧ f4.offset = 7 ∧ f5.offset = 9)
  (hcc : P.cellsOf f0.type = 1 ∧ P.cellsOf f1.type = 1 ∧ P.cellsOf f2.type = 4 ∧ P.cellsOf f3.type = 1 ∧ P.cellsOf f4.type = 2 ∧ P.cellsOf f5.type = 4)
  (hr : P.underlying f0.type = some (.slice tv)) (hv : P.underlying tv = some (.struct #[v0, v1])) (hcv : P.cellsOf tv = 2) (hone : Go.Deep.oneCellFields P #[v0, v1] = true) (hv0 : P.underlying v0.type = some (.int .i64)) (hv1 : P.underlying v1.type = some (.int .i64))
  (h1 : P.underlying f1.type = some (.int .i64)) (h3 : P.underlying f3.type = some (.int .i64)) (h4 : f4.type = tv)
  (hop : P.underlying f2.type = some (.struct #[g0, g1, g2, g3])) (go : g0.offset = 0 ∧ g1.offset = 1 ∧ g2.offset = 2 ∧ g3.offset = 3) (gc : P.cellsOf g0.type = 1 ∧ P.cellsOf g1.type = 1 ∧ P.cellsOf g2.type = 1 ∧ P.cellsOf g3.type = 1)
  (gu : P.underlying g0.type = some (.int .i64) ∧ P.underlying g1.type = some (.int .i64) ∧ P.underlying g2.type = some (.int .i64) ∧ P.underlying g3.type = some (.int .i64))
  (vo : v0.offset = 0 ∧ v1.offset = 1) (vc : P.cellsOf v0.type = 1 ∧ P.cellsOf v1.type = 1)
  (ha : P.underlying f5.type = some (.array 4 ia)) (hci : P.cellsOf ia = 1) (hui : P.underlying ia = some (.int .i64))
  (h : DataW.trod enc P W 0 (fun _ => true) true fuel t cs = some y) : ∃ m : Mu, MuC W m cs := by
 obtain ⟨hl, hp⟩ := zb8 hs h
 rw [hC] at hl
 obtain ⟨o0, o1, o2, o3, o4, o5⟩ := hoff
 obtain ⟨c0, c1, c2, c3, c4, c5⟩ := hcc
 match cs, hl with
 | [a0, a1, a2, a3, a4, a5, a6, a7, a8, a9, a10, a11, a12], _ =>
  obtain ⟨k0, y0, q0⟩ := hp 0 f0 rfl
  obtain ⟨k1, y1, q1⟩ := hp 1 f1 rfl
  obtain ⟨k2, y2, q2⟩ := hp 2 f2 rfl
  obtain ⟨k3, y3, q3⟩ := hp 3 f3 rfl
  obtain ⟨k4, y4, q4⟩ := hp 4 f4 rfl
  obtain ⟨k5, y5, q5⟩ := hp 5 f5 rfl
  rw [o0, c0] at q0
  rw [o1, c1] at q1
  rw [o2, c2] at q2
  rw [o3, c3] at q3
  rw [o4, c4] at q4
  rw [o5, c5] at q5
  simp at q0 q1 q2 q3 q4 q5
  obtain ⟨pr, nr, cr, ro, rfl, hro⟩ := zdp hr hv hcv hone hv0 hv1 q0
  obtain ⟨s, e1, -, w1⟩ := DataW.trod_int h1 q1
  obtain ⟨o, e3, -, w3⟩ := DataW.trod_int h3 q3
  obtain ⟨-, hp2⟩ := zb8 hop q2
  obtain ⟨kk0, yy0, r0⟩ := hp2 0 g0 rfl
  obtain ⟨kk1, yy1, r1⟩ := hp2 1 g1 rfl
  obtain ⟨kk2, yy2, r2⟩ := hp2 2 g2 rfl
  obtain ⟨kk3, yy3, r3⟩ := hp2 3 g3 rfl
  rw [go.1, gc.1] at r0
  rw [go.2.1, gc.2.1] at r1
  rw [go.2.2.1, gc.2.2.1] at r2
  rw [go.2.2.2, gc.2.2.2] at r3
  simp at r0 r1 r2 r3
  obtain ⟨x0, ex0, -, wx0⟩ := DataW.trod_int gu.1 r0
  obtain ⟨x1, ex1, -, wx1⟩ := DataW.trod_int gu.2.1 r1
  obtain ⟨x2, ex2, -, wx2⟩ := DataW.trod_int gu.2.2.1 r2
  obtain ⟨x3, ex3, -, wx3⟩ := DataW.trod_int gu.2.2.2 r3
  rw [h4] at q4
  obtain ⟨-, hp4⟩ := zb8 hv q4
  obtain ⟨kv0, yv0, s0⟩ := hp4 0 v0 rfl
  obtain ⟨kv1, yv1, s1⟩ := hp4 1 v1 rfl
  rw [vo.1, vc.1] at s0
  rw [vo.2, vc.2] at s1
  simp at s0 s1
  obtain ⟨z0, ez0, -, wz0⟩ := DataW.trod_int hv0 s0
  obtain ⟨z1, ez1, -, wz1⟩ := DataW.trod_int hv1 s1
  obtain ⟨d0, d1, d2, d3, kd, -, u0, u1, u2, u3⟩ := trod_array4 ha hci q5
  obtain ⟨b0, eb0, -, wb0⟩ := DataW.trod_int hui u0
  obtain ⟨b1, eb1, -, wb1⟩ := DataW.trod_int hui u1
  obtain ⟨b2, eb2, -, wb2⟩ := DataW.trod_int hui u2
  obtain ⟨b3, eb3, -, wb3⟩ := DataW.trod_int hui u3
  simp at e1 e3 ex0 ex1 ex2 ex3 ez0 ez1 eb0 eb1 eb2 eb3
  subst e1 e3 ex0 ex1 ex2 ex3 ez0 ez1 eb0 eb1 eb2 eb3
  exact ⟨⟨nr, ro, s, x0, x1, x2, x3, o, ⟨z0, z1⟩, b0, b1, b2, b3⟩, pr, cr, rfl, hro, ⟨zbp w1, zbp wx0, zbp wx1, zbp wx2, zbp wx3, zbp w3, ⟨wz0, wz1⟩, ⟨zbp wb0, zbp wb1, zbp wb2, zbp wb3⟩⟩⟩
end
def regL (m : Mu) : List Vl := (if m.s = 2 ∨ m.s = 4 then [⟨2, m.o⟩] else []) ++ if m.s = 3 ∨ m.s = 4 then [m.v] else []
def stkL (m : Mu) : List Vl := (List.range m.n).map m.st
def heldL (z : Nat → Mu) : Nat → List Vl
 | 0 => []
 | k + 1 => heldL z k ++ stkL (z k) ++ regL (z k)
def pendL (h : Hp) (z : Nat → Mu) : Nat → List Vl
 | 0 => []
 | k + 1 => if (z k).s = 4 then pendL h z k ++ [⟨getK (fdX h (z k).o (z k).ob), getN (fdX h (z k).o (z k).ob)⟩] else pendL h z k
def rootL (h : Hp) (z : Nat → Mu) (n : Nat) : List Vl := heldL z n ++ pendL h z n
theorem znh (m : Mu) : (regL m).length ≤ 2 := by
 unfold regL
 split <;> split <;> simp
theorem zce {z : Nat → Mu} {b : Nat} : ∀ {n : Nat}, (∀ i, i < n → (z i).n ≤ b) → (heldL z n).length ≤ (b + 2) * n
 | 0, _ => by simp [heldL]
 | n + 1, h => by
  have ih := zce (n := n) fun i hi => h i (by omega)
  have h1 := h n (by omega)
  have h2 := znh (z n)
  have h3 : (stkL (z n)).length = (z n).n := by simp [stkL]
  unfold heldL
  rw [List.length_append, List.length_append, h3, Nat.mul_add]
  omega
theorem zdv (h : Hp) (z : Nat → Mu) : ∀ n, (pendL h z n).length ≤ n
 | 0 => by simp [pendL]
 | n + 1 => by
  have ih := zdv h z n
  unfold pendL
  split
  ·rw [List.length_append]; simp; omega
  ·omega
def Gy.right (g : Gy) : Bool := rightG g.r g.n g.z
structure Mk where
 g : Gy
 nb : Nat
 b : Nat → Gy
 nr : Nat
 ro : Nat → Vl
 ob : Int
 fi : Int
 cu : Int
 ov : Bool
def setB (b : Nat → Gy) (i : Nat) (x : Gy) : Nat → Gy := fun j => if j = i then x else b j
def smB (b : Nat → Gy) : Nat → Nat
 | 0 => 0
 | k + 1 => smB b k + (b k).n
theorem zrq (b : Nat → Gy) (i : Nat) (x : Gy) : ∀ k, smB (setB b i x) k + (if i < k then (b i).n else 0) = smB b k + (if i < k then x.n else 0)
 | 0 => by simp [smB]
 | k + 1 => by
  have ih := zrq b i x k
  unfold smB
  by_cases e : k = i
  ·subst e
   rw [if_neg (by omega), if_neg (by omega)] at ih
   rw [if_pos (by omega), if_pos (by omega), show setB b k x k = x by simp [setB]]
   omega
  ·rw [show setB b i x k = b k by simp [setB, e]]
   by_cases h : i < k
   ·rw [if_pos h, if_pos h] at ih
    rw [if_pos (by omega), if_pos (by omega)]
    omega
   ·rw [if_neg h, if_neg h] at ih
    rw [if_neg (by omega), if_neg (by omega)]
    omega
def fsB (m : Mk) : Option Nat := (List.range m.nb).find? fun i => decide (0 < (m.b i).n)
theorem zx5 {m : Mk} {i : Nat} (h : fsB m = some i) : i < m.nb ∧ 0 < (m.b i).n := by
 unfold fsB at h
 have h1 := List.mem_of_find?_eq_some h
 have h2 := List.find?_some h
 exact ⟨by simpa using h1, by simpa using h2⟩
def lbA (h : Hp) (c : Int) : Option Int := (obL h h.n).find? fun a => decide (c ≤ a) && blB h a
theorem zl6 {c a : Int} (hF : formB h = true) (e : lbA h c = some a) : obB h a = true ∧ blB h a = true ∧ c ≤ a ∧ ∀ x, blB h x = true → c ≤ x → a ≤ x := by
 unfold lbA at e
 have h1 := List.mem_of_find?_eq_some e
 have h2 := List.find?_some e
 simp only [Bool.and_eq_true, decide_eq_true_eq] at h2
 refine ⟨(zgy hF).1 h1, h2.2, h2.1, fun x hx hc => ?_⟩
 have hxo : obB h x = true := by simp only [blB, Bool.and_eq_true] at hx; exact hx.1
 obtain ⟨l1, l2, hs, hno⟩ := (List.find?_eq_some_iff_append.1 e).2
 have hxm := (zgy hF).2 hxo
 have hp := zfa h h.n
 rw [hs] at hxm hp
 rcases List.mem_append.1 hxm with hm | hm
 ·have := hno x hm
  simp [hx, hc] at this
 ·rcases List.mem_cons.1 hm with rfl | hm
  ·exact Int.le_refl _
  ·have := (List.pairwise_append.1 hp).2.1
   have := (List.pairwise_cons.1 this).1 x hm
   omega
theorem zx8 {c : Int} (hF : formB h = true) (e : lbA h c = none) {x : Int} (hx : blB h x = true) : ¬ c ≤ x := fun hc => by
 have hxo : obB h x = true := by simp only [blB, Bool.and_eq_true] at hx; exact hx.1
 unfold lbA at e
 rw [List.find?_eq_none] at e
 have := e x ((zgy hF).2 hxo)
 simp [hx, hc] at this
def haM (h : Hp) (m : Mk) (a : Int) : Mk := if obB h a = true ∧ 0 < obN h a then { m with ob := a, fi := 0 } else m
def fvV (h : Hp) (a i : Int) : Vl := ⟨getK (fdX h a i), getN (fdX h a i)⟩
def shM (h : Hp) (g : Gy) (v : Vl) : Sd := sdS g.r ⟨h, g.n, g.z, false⟩ v
def Sd.gy (s : Sd) (r : Int) : Gy := ⟨r, s.n, s.z⟩
def stM (h : Hp) (m : Mk) : Hp × Mk × Bool :=
 if ¬ m.ob = -1 then
  ((shM h m.g (fvV h m.ob m.fi)).h,
   (if m.fi + 1 = obN h m.ob then { m with g := (shM h m.g (fvV h m.ob m.fi)).gy m.g.r, ov := m.ov || (shM h m.g (fvV h m.ob m.fi)).o, ob := -1, fi := 0 }
    else { m with g := (shM h m.g (fvV h m.ob m.fi)).gy m.g.r, ov := m.ov || (shM h m.g (fvV h m.ob m.fi)).o, fi := m.fi + 1 }), false)
 else if 0 < m.g.n then (h, haM h { m with g := ⟨m.g.r, m.g.n - 1, m.g.z⟩ } (m.g.z (m.g.n - 1)), false)
 else match fsB m with
  | some i => (h, haM h { m with b := setB m.b i ⟨(m.b i).r, (m.b i).n - 1, (m.b i).z⟩ } ((m.b i).z ((m.b i).n - 1)), false)
  | none =>
   if 0 < m.nr then ((shM h m.g (m.ro 0)).h, { m with g := (shM h m.g (m.ro 0)).gy m.g.r, ov := m.ov || (shM h m.g (m.ro 0)).o, nr := m.nr - 1, ro := fun i => m.ro (i + 1) }, false)
   else if ¬ m.cu = -1 then (match lbA h m.cu with
    | some a => (h, haM h { m with cu := a + 1 } a, false)
    | none => (h, { m with cu := -1 }, false))
   else if m.ov = true then (h, { m with ov := false, cu := 0 }, false)
   else (h, m, true)
def rightM (h : Hp) (m : Mk) : Prop := m.g.right = true ∧ (∀ i, i < m.nb → (m.b i).right = true) ∧ (-1 ≤ m.cu ∧ m.cu ≤ h.n) ∧ ((m.ob = -1 ∧ m.fi = 0) ∨ (¬ m.ob = -1 ∧ fdE h m.ob m.fi = 0))
theorem zoo {a i : Int} (e : fdE h a i = 0) : obB h a = true ∧ 0 ≤ i ∧ i < obN h a := by
 rcases ze4 h a i with ⟨h1, h2, h3, -⟩ | ⟨-, -, h3, -⟩ | ⟨-, h3, -⟩
 ·exact ⟨h1, h2, h3⟩
 ·omega
 ·omega
theorem zxc {a i : Int} (h1 : obB h a = true) (h2 : 0 ≤ i) (h3 : i < obN h a) : fdE h a i = 0 := by
 unfold fdE; rw [if_pos h1, if_pos ⟨h2, h3⟩]
theorem znn (hF : formB h = true) (g : Gy) (v : Vl) : (shM h g v).h = if shB h v = true then pnH h (fun x => x == v.n) else h := by
 unfold shM sdS
 by_cases e : shB h v = true
 ·rw [if_pos e, if_pos e, ← pa_pn hF]
 ·rw [if_neg e, if_neg e]
theorem zwd (hF : formB h = true) (g : Gy) (v : Vl) : ∃ P : Int → Bool, (shM h g v).h = pnH h P ∧ ∀ x, P x = true → x = v.n ∧ v.k = 2 := by
 rw [znn hF]
 by_cases e : shB h v = true
 ·rw [if_pos e]
  refine ⟨_, rfl, fun x hx => ⟨by simpa using hx, ?_⟩⟩
  simp only [shB, Bool.and_eq_true, decide_eq_true_eq] at e
  exact e.1
 ·rw [if_neg e]
  exact ⟨fun _ => false, (zl3 hF fun _ _ _ => rfl).symm, fun x hx => by cases hx⟩
theorem zj1 (hF : formB h = true) {g : Gy} (v : Vl) (hg : g.right = true) : ((shM h g v).gy g.r).right = true := by
 obtain ⟨⟨r0, r1, r2⟩, hz⟩ := zbe.1 hg
 unfold shM sdS
 by_cases e : shB h v = true
 ·rw [if_pos e]
  have e' := e
  simp only [shB, Bool.and_eq_true] at e'
  have a0 := (zda hF e'.2.1).1
  cases hB : gpB g.r g.n v.n with
  | true =>
   have e1 : gpN g.r g.n v.n = g.n + 1 := by unfold gpN; rw [if_pos hB]
   have e2 : gpZ g.r g.n g.z v.n = pzZ g.z g.n v.n := by unfold gpZ; rw [if_pos hB]
   have hlt : (g.n : Int) < g.r := by
    simp only [gpB, Bool.and_eq_true, decide_eq_true_eq] at hB
    exact hB.2
   refine zbe.2 ⟨⟨r0, r1, ?_⟩, fun i hi => ?_⟩
   ·show ((gpN g.r g.n v.n : Nat) : Int) ≤ g.r
    omega
   ·show 0 ≤ gpZ g.r g.n g.z v.n i
    replace hi : i < gpN g.r g.n v.n := hi
    rw [e2]
    unfold pzZ
    split
    ·exact a0
    ·exact hz i (by omega)
  | false =>
   have e1 : gpN g.r g.n v.n = g.n := by unfold gpN; rw [if_neg (by simp [hB])]
   have e2 : gpZ g.r g.n g.z v.n = g.z := by unfold gpZ; rw [if_neg (by simp [hB])]
   refine zbe.2 ⟨⟨r0, r1, ?_⟩, fun i hi => ?_⟩
   ·show ((gpN g.r g.n v.n : Nat) : Int) ≤ g.r
    omega
   ·show 0 ≤ gpZ g.r g.n g.z v.n i
    replace hi : i < gpN g.r g.n v.n := hi
    rw [e2]
    exact hz i (by omega)
 ·rw [if_neg e]; exact hg
def whC (h : Hp) : Nat := (obL h h.n).countP fun a => !blB h a
def afC (h : Hp) (c : Int) : Nat := (obL h h.n).countP fun a => decide (c ≤ a)
def nOb (h : Hp) : Nat := (obL h h.n).length
theorem zjr (hF : formB h = true) (g : Gy) (v : Vl) :
  (shM h g v).n + (if (shM h g v).o = true then 17 * nOb h + 2 else 0) + whC (shM h g v).h * (17 * nOb h + 19) ≤ g.n + whC h * (17 * nOb h + 19) ∧
  17 * (shM h g v).n + (if (shM h g v).o = true then 17 * nOb h + 2 else 0) + whC (shM h g v).h * (17 * nOb h + 19) ≤ 17 * g.n + whC h * (17 * nOb h + 19) := by
 have hh := znn hF g v
 by_cases e : shB h v = true
 ·rw [if_pos e] at hh
  have e' := e
  simp only [shB, Bool.and_eq_true, decide_eq_true_eq, Bool.not_eq_true'] at e'
  obtain ⟨ek, eo, eb⟩ := e'
  have hw : whC h = whC (pnH h fun x => x == v.n) + 1 := by
   unfold whC
   rw [(pn_n h _).1, zip hF]
   refine zp5 (zkv _ _) ((zgy hF).2 eo) ?_ fun x => ?_
   ·rw [znw hF, eo]; simp
   ·rw [znw hF]
    by_cases ex : x = v.n
    ·subst ex; simp [eb]
    ·have : (x == v.n) = false := by simpa using ex
     rw [this]
     simp
  have hn : (shM h g v).n ≤ g.n + 1 ∧ (shM h g v).n = gpN g.r g.n v.n := by
   unfold shM sdS
   rw [if_pos e]
   refine ⟨?_, rfl⟩
   show gpN g.r g.n v.n ≤ g.n + 1
   unfold gpN
   split <;> omega
  have ho : (shM h g v).o = !gpB g.r g.n v.n := by
   unfold shM sdS
   rw [if_pos e]
   simp
  rw [hh, hw, Nat.add_mul, Nat.one_mul]
  cases hB : gpB g.r g.n v.n
  ·have : gpN g.r g.n v.n = g.n := by unfold gpN; rw [if_neg (by simp [hB])]
   rw [ho, hB, if_pos (by simp)]
   omega
  ·rw [ho, hB, if_neg (by simp)]
   omega
 ·have e1 : shM h g v = ⟨h, g.n, g.z, false⟩ := by unfold shM sdS; rw [if_neg e]
  rw [e1]
  simp
theorem zi2 (hF : formB h = true) (g : Gy) (v : Vl) : formB (shM h g v).h = true ∧ (shM h g v).h.n = h.n ∧ (∀ a, obB (shM h g v).h a = obB h a ∧ obN (shM h g v).h a = obN h a) ∧ (∀ c, afC (shM h g v).h c = afC h c) ∧ nOb (shM h g v).h = nOb h := by
 obtain ⟨P, e, -⟩ := zwd hF g v
 rw [e]
 refine ⟨hF, rfl, fun a => ⟨(zq3 hF P a).1, (zq3 hF P a).2.2.1⟩, fun c => ?_, ?_⟩
 ·unfold afC; rw [(pn_n h P).1, zip hF]
 ·unfold nOb; rw [(pn_n h P).1, zip hF]
def muM (h : Hp) (m : Mk) : Int :=
 (if m.ob = -1 then 0 else obN h m.ob - m.fi) + 17 * (m.g.n + smB m.b m.nb : Nat) + m.nr + (if m.cu = -1 then 0 else 17 * (afC h m.cu : Int) + 1) + (if m.ov = true then 17 * (nOb h : Int) + 2 else 0) + (whC h * (17 * nOb h + 19) : Nat)
theorem zgc (hF : formB h = true) (a : Int) : 0 ≤ obN h a ∧ obN h a ≤ 15 := by
 cases ho : obB h a with
 | true => rw [(zbj hF ho).2.2.2.2.2.2.2.2.1]; exact zct
 | false => rw [(zfn ho).2.2]; omega
theorem zit (h : Hp) (m : Mk) (a : Int) : haM h m a = m ∨ (obB h a = true ∧ 0 < obN h a ∧ haM h m a = { m with ob := a, fi := 0 }) := by
 unfold haM
 by_cases e : obB h a = true ∧ 0 < obN h a
 ·rw [if_pos e]; exact .inr ⟨e.1, e.2, rfl⟩
 ·rw [if_neg e]; exact .inl rfl
theorem znd (ho : obB h a = true) : ¬ a = -1 := by
 rintro rfl
 rw [zsu (by omega)] at ho
 cases ho
theorem zmi (hF : formB h = true) {m : Mk} (hm : m.ob = -1) (a : Int) : muM h (haM h m a) ≤ muM h m + 15 := by
 rcases zit h m a with e | ⟨h1, h2, e⟩
 ·rw [e]; omega
 ·rw [e]
  have := zgc hF a
  unfold muM
  dsimp only
  rw [if_neg (znd h1), if_pos hm]
  omega
theorem zfq {m : Mk} (hm : m.ob = -1) (hR : rightM h m) (a : Int) : rightM h (haM h m a) := by
 rcases zit h m a with e | ⟨h1, h2, e⟩
 ·rw [e]; exact hR
 ·rw [e]
  obtain ⟨r1, r2, r3, r4⟩ := hR
  exact ⟨r1, r2, r3, .inr ⟨znd h1, zxc h1 (Int.le_refl _) h2⟩⟩
theorem zkk {g : Gy} (hg : g.right = true) (k : Nat) (hk : k ≤ g.n) : (⟨g.r, k, g.z⟩ : Gy).right = true := by
 obtain ⟨⟨r0, r1, r2⟩, hz⟩ := zbe.1 hg
 exact zbe.2 ⟨⟨r0, r1, by show (k : Int) ≤ g.r; omega⟩, fun i hi => hz i (by have : i < k := hi; omega)⟩
theorem zpt {b : Nat → Gy} {nb i : Nat} {x : Gy} (hb : ∀ j, j < nb → (b j).right = true) (hx : x.right = true) : ∀ j, j < nb → (setB b i x j).right = true := fun j hj => by
 unfold setB
 split
 ·exact hx
 ·exact hb j hj
theorem ziv {h g : Hp} {m : Mk} (hn : g.n = h.n) (ho : ∀ a, obB g a = obB h a ∧ obN g a = obN h a) (hR : rightM h m) : rightM g m := by
 obtain ⟨r1, r2, r3, r4⟩ := hR
 refine ⟨r1, r2, by rw [hn]; exact r3, ?_⟩
 rcases r4 with r4 | ⟨r5, r6⟩
 ·exact .inl r4
 ·obtain ⟨f1, f2, f3⟩ := zoo r6
  exact .inr ⟨r5, zxc (by rw [(ho _).1]; exact f1) f2 (by rw [(ho _).2]; exact f3)⟩
theorem zu1 {c a : Int} (hF : formB h = true) (ho : obB h a = true) (hc : c ≤ a) : afC h (a + 1) + 1 ≤ afC h c := by
 unfold afC
 have hm := (zgy hF).2 ho
 have hnd := zkv h h.n
 generalize obL h h.n = L at *
 induction L with
 | nil => cases hm
 | cons x L ih =>
  obtain ⟨hx, hnd⟩ := List.nodup_cons.1 hnd
  rw [List.countP_cons, List.countP_cons]
  have hle : L.countP (fun x => decide (a + 1 ≤ x)) ≤ L.countP (fun x => decide (c ≤ x)) := List.countP_mono_left fun y _ hy => by
   simp only [decide_eq_true_eq] at hy ⊢
   omega
  rcases List.mem_cons.1 hm with rfl | hm
  ·rw [if_neg (by simp; omega), if_pos (by simpa using hc)]
   omega
  ·have := ih hm hnd
   by_cases e : a + 1 ≤ x
   ·rw [if_pos (by simpa using e), if_pos (by simp; omega)]
    omega
   ·rw [if_neg (by simpa using e)]
    omega
theorem zwk (h : Hp) (c : Int) : afC h c ≤ nOb h := List.countP_le_length
theorem zmc {m : Mk} (hF : formB h = true) (hR : rightM h m) (hd : (stM h m).2.2 = false) :
  muM (stM h m).1 (stM h m).2.1 + 1 ≤ muM h m ∧ rightM (stM h m).1 (stM h m).2.1 := by
 have hR0 := hR
 obtain ⟨r1, r2, ⟨r3, r3'⟩, r4⟩ := hR
 unfold stM at hd ⊢
 by_cases h1 : ¬ m.ob = -1
 ·rw [if_pos h1]
  have r4' : fdE h m.ob m.fi = 0 := by
   rcases r4 with ⟨e, -⟩ | ⟨-, e⟩
   ·exact absurd e h1
   ·exact e
  obtain ⟨f1, f2, f3⟩ := zoo r4'
  have hw := (zjr hF m.g (fvV h m.ob m.fi)).2
  obtain ⟨s1, s2, s3, s4, s5⟩ := zi2 hF m.g (fvV h m.ob m.fi)
  have sr := zj1 hF (fvV h m.ob m.fi) r1
  generalize shM h m.g (fvV h m.ob m.fi) = S at *
  have hSn : (S.gy m.g.r).n = S.n := rfl
  by_cases e : m.fi + 1 = obN h m.ob
  ·rw [if_pos e]
   refine ⟨?_, ziv s2 s3 ⟨sr, r2, ⟨r3, r3'⟩, .inl ⟨rfl, rfl⟩⟩⟩
   unfold muM
   dsimp only
   rw [if_pos rfl, if_neg h1, s4, s5, hSn]
   have : (if (m.ov || S.o) = true then 17 * (nOb h : Int) + 2 else 0) ≤ (if m.ov = true then 17 * (nOb h : Int) + 2 else 0) + ((if S.o = true then 17 * nOb h + 2 else 0 : Nat) : Int) := by
    cases m.ov <;> cases S.o <;> simp <;> omega
   omega
  ·rw [if_neg e]
   refine ⟨?_, ziv s2 s3 ⟨sr, r2, ⟨r3, r3'⟩, .inr ⟨h1, zxc f1 (by show 0 ≤ m.fi + 1; omega) (by show m.fi + 1 < obN h m.ob; omega)⟩⟩⟩
   unfold muM
   dsimp only
   rw [if_neg h1, if_neg h1, s4, s5, hSn, (s3 m.ob).2]
   have : (if (m.ov || S.o) = true then 17 * (nOb h : Int) + 2 else 0) ≤ (if m.ov = true then 17 * (nOb h : Int) + 2 else 0) + ((if S.o = true then 17 * nOb h + 2 else 0 : Nat) : Int) := by
    cases m.ov <;> cases S.o <;> simp <;> omega
   omega
 ·rw [if_neg h1] at hd ⊢
  have hob : m.ob = -1 := by simpa using h1
  have hfi : m.fi = 0 := by
   rcases r4 with ⟨-, e⟩ | ⟨e, -⟩
   ·exact e
   ·exact absurd hob e
  by_cases h2 : 0 < m.g.n
  ·rw [if_pos h2] at hd ⊢
   have hRm : rightM h { m with g := ⟨m.g.r, m.g.n - 1, m.g.z⟩ } := ⟨zkk r1 _ (by omega), r2, ⟨r3, r3'⟩, .inl ⟨hob, hfi⟩⟩
   refine ⟨?_, zfq (by exact hob) hRm _⟩
   have := zmi (m := { m with g := ⟨m.g.r, m.g.n - 1, m.g.z⟩ }) hF hob (m.g.z (m.g.n - 1))
   have e : muM h { m with g := ⟨m.g.r, m.g.n - 1, m.g.z⟩ } + 17 = muM h m := by
    unfold muM
    dsimp only
    omega
   dsimp only
   omega
  ·rw [if_neg h2] at hd ⊢
   cases hf : fsB m with
   | some i =>
    simp only [hf] at hd ⊢
    obtain ⟨i1, i2⟩ := zx5 hf
    have hRm : rightM h { m with b := setB m.b i ⟨(m.b i).r, (m.b i).n - 1, (m.b i).z⟩ } := ⟨r1, zpt r2 (zkk (r2 i i1) _ (by omega)), ⟨r3, r3'⟩, .inl ⟨hob, hfi⟩⟩
    refine ⟨?_, zfq (by exact hob) hRm _⟩
    have := zmi (m := { m with b := setB m.b i ⟨(m.b i).r, (m.b i).n - 1, (m.b i).z⟩ }) hF hob ((m.b i).z ((m.b i).n - 1))
    have hs := zrq m.b i ⟨(m.b i).r, (m.b i).n - 1, (m.b i).z⟩ m.nb
    rw [if_pos i1, if_pos i1] at hs
    have e : muM h { m with b := setB m.b i ⟨(m.b i).r, (m.b i).n - 1, (m.b i).z⟩ } + 17 = muM h m := by
     unfold muM
     dsimp only at hs ⊢
     omega
    omega
   | none =>
    simp only [hf] at hd ⊢
    by_cases h3 : 0 < m.nr
    ·rw [if_pos h3] at hd ⊢
     have hw := (zjr hF m.g (m.ro 0)).2
     obtain ⟨s1, s2, s3, s4, s5⟩ := zi2 hF m.g (m.ro 0)
     have sr := zj1 hF (m.ro 0) r1
     generalize shM h m.g (m.ro 0) = S at *
     have hSn : (S.gy m.g.r).n = S.n := rfl
     refine ⟨?_, ziv s2 s3 ⟨sr, r2, ⟨r3, r3'⟩, .inl ⟨hob, hfi⟩⟩⟩
     unfold muM
     dsimp only
     rw [if_pos hob, if_pos hob, s4, s5, hSn]
     have : (if (m.ov || S.o) = true then 17 * (nOb h : Int) + 2 else 0) ≤ (if m.ov = true then 17 * (nOb h : Int) + 2 else 0) + ((if S.o = true then 17 * nOb h + 2 else 0 : Nat) : Int) := by
      cases m.ov <;> cases S.o <;> simp <;> omega
     omega
    ·rw [if_neg h3] at hd ⊢
     by_cases h4 : ¬ m.cu = -1
     ·rw [if_pos h4] at hd ⊢
      cases hl : lbA h m.cu with
      | some a =>
       simp only [hl] at hd ⊢
       obtain ⟨a1, a2, a3, -⟩ := zl6 hF hl
       obtain ⟨a4, a5⟩ := zda hF a1
       have hRm : rightM h { m with cu := a + 1 } := ⟨r1, r2, ⟨by show -1 ≤ a + 1; omega, by show a + 1 ≤ (h.n : Int); omega⟩, .inl ⟨hob, hfi⟩⟩
       refine ⟨?_, zfq (by exact hob) hRm _⟩
       have := zmi (m := { m with cu := a + 1 }) hF hob a
       have hc := zu1 (c := m.cu) hF a1 a3
       have e : muM h { m with cu := a + 1 } + 17 ≤ muM h m := by
        unfold muM
        dsimp only
        rw [if_neg (show ¬ a + 1 = -1 by omega), if_neg h4]
        omega
       omega
      | none =>
       simp only [hl] at hd ⊢
       refine ⟨?_, r1, r2, ⟨by show (-1 : Int) ≤ -1; omega, by show (-1 : Int) ≤ (h.n : Int); omega⟩, .inl ⟨hob, hfi⟩⟩
       unfold muM
       dsimp only
       rw [if_pos rfl, if_neg h4]
       omega
     ·rw [if_neg h4] at hd ⊢
      have hcu : m.cu = -1 := by simpa using h4
      by_cases h5 : m.ov = true
      ·rw [if_pos h5] at hd ⊢
       refine ⟨?_, r1, r2, ⟨by show (-1 : Int) ≤ 0; omega, by show (0 : Int) ≤ (h.n : Int); omega⟩, .inl ⟨hob, hfi⟩⟩
       have := zwk h 0
       unfold muM
       dsimp only
       rw [if_neg (show ¬ (0 : Int) = -1 by decide), if_pos hcu, h5]
       simp
       omega
      ·rw [if_neg h5] at hd
       cases hd
end Go.Proofs.YtkehankfnkjnlaaGreatDoor
