import Derived.Test.YtkehankfnkjnlaaGreatDoorV16
import Derived.Test.YtkehankfnkjnlaaGreatDoorVxZt
namespace Go.Proofs.YtkehankfnkjnlaaGreatDoor
set_option linter.unusedSimpArgs false
set_option linter.unusedVariables false
set_option maxHeartbeats 16000000
set_option maxRecDepth 20000
open Go.ChangeAt Go.ChangeShapes Go.Joins Go.RowKit Go.WideShapes
variable {h : Hp} {w w' W W' : World} {p q : Option Addr} {n g : Nat} {a : Int} {v : Value}
def PlainC (xs : Array Value) : Prop := xs.size < 32 ∧ ∀ (i : Nat) (x : Int), ¬ xs[i]? = some (Value.int .u32 x)
def PlainL (ys : List Value) : Prop := ∀ y ∈ ys, ∀ x, ¬ y = Value.int .u32 x
theorem PlainC.set {xs : Array Value} (h : PlainC xs) (k : Nat) {y : Value} (hy : ∀ x, ¬ y = Value.int .u32 x) : PlainC (xs.setIfInBounds k y) := by
 refine ⟨by simpa using h.1, fun i x e => ?_⟩
 rw [Array.getElem?_setIfInBounds] at e
 split at e
 ·split at e
  ·injection e with e; exact hy x e
  ·cases e
 ·exact h.2 i x e
theorem PlainC.sets : ∀ (ys : List Value) (k : Nat) {xs : Array Value}, PlainC xs → PlainL ys → PlainC (setFrom xs k ys)
 | [], _, _, h, _ => h
 | y :: ys, k, _, h, hy => PlainC.sets ys (k + 1) (h.set k (hy y (List.mem_cons_self ..))) fun y' hy' => hy y' (List.mem_cons_of_mem _ hy')
def VarT (T : TypeId) (m : Nat) (g : Nat) (w : World) : Prop := ∃ xs : Array Value, xs.size = m ∧ PlainC xs ∧ TBox T g xs w
section
variable {T : TypeId} {m g : Nat} {w w' : World}
theorem VarT.below (h : VarT T m g w) (hb : Below w.heap.size w w') : VarT T m g w' := by
 obtain ⟨xs, e, hp, h⟩ := h
 exact ⟨xs, e, hp, h.below hb⟩
theorem VarT.puts {g' : Nat} (h : VarT T m g' w) {ys : List Value} (hy : PlainL ys) : VarT T m g' (putsL g 0 ys w) := by
 obtain ⟨xs, e, hp, h⟩ := h
 by_cases hg : g' = g
 ·subst hg
  exact ⟨_, (zb7 ys 0 xs).trans e, hp.sets ys 0 hy, h.putsL ys 0⟩
 ·exact ⟨xs, e, hp, h.of_block (zah hg ys 0 w)⟩
theorem VarT.shape (h : VarT T m g w) : ShapeT T m g w := by
 obtain ⟨xs, e, -, h⟩ := h
 exact ⟨xs, e, h⟩
theorem VarT.three (h : VarT T 3 g w) : ∃ x0 x1 x2, g < w.heap.size ∧ w.cell? ⟨g, 0, none⟩ = some x0 ∧ w.cell? ⟨g, 1, none⟩ = some x1 ∧ w.cell? ⟨g, 2, none⟩ = some x2 ∧ w.frozen? ⟨g, 0, none⟩ = false ∧ w.frozen? ⟨g, 1, none⟩ = false ∧ w.frozen? ⟨g, 2, none⟩ = false := by
 obtain ⟨xs, e, -, h⟩ := h
 match xs, e with
 | ⟨[x, y, z]⟩, _ => exact ⟨x, y, z, h.lt, by rw [h.cell]; rfl, by rw [h.cell]; rfl, by rw [h.cell]; rfl, h.frozen 0, h.frozen 1, h.frozen 2⟩
theorem VarT.full3 (h : VarT T 3 g w) (a b c : Value) : TBox T g #[a, b, c] (putsL g 0 [a, b, c] w) := by
 obtain ⟨xs, e, -, h⟩ := h
 match xs, e with
 | ⟨[x, y, z]⟩, _ => exact h.putsL [a, b, c] 0
theorem VarT.new (W : World) (T : TypeId) (xs : Array Value) (hp : PlainC xs) : VarT T xs.size W.heap.size (W.alloc (.cells xs T)) := ⟨xs, rfl, hp, TBox.new _ _ _⟩
theorem zec {xs : Array Value} {T' : TypeId} {m' g' : Nat} (h : TBox T g xs w) (hv : VarT T' m' g' w) (hT : ¬ T = T') (ys : List Value) : TBox T g xs (putsL g' 0 ys w) := by
 obtain ⟨zs, -, -, hz⟩ := hv
 refine h.of_block (zah ?_ ys 0 w)
 rintro rfl
 have := h.symm.trans hz
 injection this with this
 injection this with _ this
 exact hT this
def RowE (N : Nat) (E : TypeId) (n : Nat) (p : Option Addr) (w : World) : Prop := 0 < n → ∀ b off sp, p = some ⟨b, off, sp⟩ → b < w.heap.size ∧ (b < N ∨ ∃ cs, w.heap[b]? = some (.cells cs E (0, 0)))
theorem RowE.below {N : Nat} {E : TypeId} (h : RowE N E n p w) (hb : Below w.heap.size w w') : RowE N E n p w' := fun h0 b off sp e => by
 obtain ⟨hl, h1⟩ := h h0 b off sp e
 refine ⟨Nat.lt_of_lt_of_le hl hb.size, ?_⟩
 rcases h1 with h1 | ⟨cs, h1⟩
 ·exact .inl h1
 ·exact .inr ⟨cs, (hb.block b hl).trans h1⟩
theorem RowE.ne {N : Nat} {E : TypeId} (h : RowE N E n p w) (hv : VarT T m g w) (hT : ¬ E = T) (hg : N ≤ g) (h0 : 0 < n) {b off : Nat} {sp : Option Nat} (e : p = some ⟨b, off, sp⟩) : ¬ b = g := by
 obtain ⟨zs, -, -, hz⟩ := hv
 rcases (h h0 b off sp e).2 with h1 | ⟨cs, h1⟩
 ·omega
 ·rintro rfl
  have := h1.symm.trans hz
  injection this with this
  injection this with _ this
  exact hT this
theorem RowE.puts {N : Nat} {E : TypeId} (h : RowE N E n p w) (hv : VarT T m g w) (hT : ¬ E = T) (hg : N ≤ g) (ys : List Value) : RowE N E n p (putsL g 0 ys w) := fun h0 b off sp e => by
 obtain ⟨hl, h1⟩ := h h0 b off sp e
 refine ⟨by rw [zbf]; exact hl, ?_⟩
 rcases h1 with h1 | ⟨cs, h1⟩
 ·exact .inl h1
 ·exact .inr ⟨cs, (zah (h.ne hv hT hg h0 e) ys 0 w).trans h1⟩
theorem zjd (N : Nat) (E : TypeId) (n : Nat) (w : World) : RowE N E n none w := fun _ b off sp e => by cases e
theorem zhq {N B : Nat} {E : TypeId} {s n c m k : Nat} {xs : List Value} (h : w.ownsRow B E s (.slice p n c) m xs) : RowE N E k p w := fun _ b off sp e => by
 obtain ⟨cs, hc⟩ := zdy h b off sp e
 exact ⟨(Array.getElem?_eq_some_iff.1 hc).1, .inr ⟨cs, hc⟩⟩
theorem VarT.clear (hv : VarT T m g w) {n c : Nat} {k d : Nat} {b : Bool} (hh : HpIn w p n c q k d b h) (hn : 32 ≤ n) (hk : 0 < k) : Clear g p q := by
 obtain ⟨zs, -, ⟨hs, hu⟩, hz⟩ := hv
 obtain ⟨rfl, rfl, rfl, hat⟩ := hh
 have hc := fun k => hz.cell k
 constructor
 ·intro b off sp e he
  obtain ⟨⟨b1, off1, e1, -, v⟩, -⟩ := hat.ints 31 (by omega)
  rw [e] at e1
  injection e1 with e1
  injection e1 with e1 e2 e3
  subst e1 e2 e3
  subst he
  rw [hc] at v
  have := (Array.getElem?_eq_some_iff.1 v).1
  omega
 ·intro b off sp e he
  obtain ⟨⟨b1, off1, e1, -, -, -, v⟩, -⟩ := hat.spans 0 hk
  rw [e] at e1
  injection e1 with e1
  injection e1 with e1 e2 e3
  subst e1 e2 e3
  subst he
  rw [hc] at v
  exact hu _ _ v
theorem zan {n c : Nat} {k d : Nat} {b : Bool} (hc : Clear g p q) : ∀ (ys : List Value) (i : Nat) {w : World}, HpIn w p n c q k d b h → HpIn (putsL g i ys w) p n c q k d b h
 | [], _, _, hh => hh
 | y :: ys, i, _, hh => zan hc ys (i + 1) (hh.setCell hc i y)
theorem VAt.puts {N : Nat} {n c : Nat} {z : Nat → Vl} {E : TypeId} (h : VAt w p c n z) (he : RowE N E n p w) (hv : VarT T m g w) (hT : ¬ E = T) (hg : N ≤ g) (ys : List Value) : VAt (putsL g 0 ys w) p c n z :=
 h.of_block (by rw [zbf]; exact Nat.le_refl _) fun h0 b off sp e => zah (he.ne hv hT hg h0 e) ys 0 w
theorem zbt {N : Nat} {n c : Nat} {z : Nat → Int} {E : TypeId} (h : GrAt w p c n z) (he : RowE N E n p w) (hv : VarT T m g w) (hT : ¬ E = T) (hg : N ≤ g) (ys : List Value) : GrAt (putsL g 0 ys w) p c n z :=
 h.of_block (by rw [zbf]; exact Nat.le_refl _) fun h0 b off sp e => zah (he.ne hv hT hg h0 e) ys 0 w
end
def GreyE (N : Nat) (K : Int) (k : Nat) (z : Nat → Int) (v : Value) (w : World) : Prop := ∃ p c, v = .agg #[.int .i64 K, .slice p k c] ∧ GrAt w p c k z ∧ RowE N 3 k p w
def HgT (N n m : Nat) (b : Bool) (H : Hp) (K : Int) (k : Nat) (z : Nat → Int) (t : Value) (v : Value) (w : World) : Prop :=
 ∃ p c q d pr cr, v = .tuple #[.agg #[.slice p n c, .slice q m d, .bool b], .agg #[.int .i64 K, .slice pr k cr], t] ∧ HpIn w p n c q m d b H ∧ GrAt w pr cr k z ∧ RowE N 3 k pr w
def FullHT (T : TypeId) (n m : Nat) (b : Bool) (H : Hp) (g : Nat) (w : World) : Prop := ∃ p c q d, TBox T g #[.slice p n c, .slice q m d, .bool b] w ∧ HpIn w p n c q m d b H
def FullGE (T : TypeId) (N : Nat) (K : Int) (k : Nat) (z : Nat → Int) (g : Nat) (w : World) : Prop := ∃ p c, TBox T g #[.int .i64 K, .slice p k c] w ∧ GrAt w p c k z ∧ RowE N 3 k p w
section
variable {T T' : TypeId} {N n m g g' m' : Nat} {b : Bool} {H : Hp} {K : Int} {k : Nat} {z : Nat → Int} {t v : Value} {w w' : World}
theorem GreyE.below (h : GreyE N K k z v w) (hb : Below w.heap.size w w') : GreyE N K k z v w' := by
 obtain ⟨p, c, e, h, ht⟩ := h
 exact ⟨p, c, e, h.below hb, ht.below hb⟩
theorem HgT.below (h : HgT N n m b H K k z t v w) (hb : Below w.heap.size w w') : HgT N n m b H K k z t v w' := by
 obtain ⟨p, c, q, d, pr, cr, e, h1, h2, h3⟩ := h
 exact ⟨p, c, q, d, pr, cr, e, h1.below hb, h2.below hb, h3.below hb⟩
theorem FullHT.below (h : FullHT T n m b H g w) (hb : Below w.heap.size w w') : FullHT T n m b H g w' := by
 obtain ⟨p, c, q, d, e, h⟩ := h
 exact ⟨p, c, q, d, e.below hb, h.below hb⟩
theorem FullGE.below (h : FullGE T N K k z g w) (hb : Below w.heap.size w w') : FullGE T N K k z g w' := by
 obtain ⟨p, c, e, h, ht⟩ := h
 exact ⟨p, c, e.below hb, h.below hb, ht.below hb⟩
theorem HpV.putsV (h : HpV n m b H v w) (hv : VarT T m' g w) (hn : 32 ≤ n) (hm : 0 < m) (ys : List Value) : HpV n m b H v (putsL g 0 ys w) := by
 obtain ⟨p, c, q, d, e, h⟩ := h
 exact ⟨p, c, q, d, e, zan (hv.clear h hn hm) ys 0 h⟩
theorem GreyE.putsV (h : GreyE N K k z v w) (hv : VarT T m' g w) (hT : ¬ 3 = T) (hg : N ≤ g) (ys : List Value) : GreyE N K k z v (putsL g 0 ys w) := by
 obtain ⟨p, c, e, h, ht⟩ := h
 exact ⟨p, c, e, zbt h ht hv hT hg ys, ht.puts hv hT hg ys⟩
theorem HgT.putsV (h : HgT N n m b H K k z t v w) (hv : VarT T m' g w) (hT : ¬ 3 = T) (hg : N ≤ g) (hn : 32 ≤ n) (hm : 0 < m) (ys : List Value) : HgT N n m b H K k z t v (putsL g 0 ys w) := by
 obtain ⟨p, c, q, d, pr, cr, e, h1, h2, h3⟩ := h
 exact ⟨p, c, q, d, pr, cr, e, zan (hv.clear h1 hn hm) ys 0 h1, zbt h2 h3 hv hT hg ys, h3.puts hv hT hg ys⟩
theorem FullHT.putsV (h : FullHT T n m b H g' w) (hv : VarT T' m' g w) (hT : ¬ T = T') (hn : 32 ≤ n) (hm : 0 < m) (ys : List Value) : FullHT T n m b H g' (putsL g 0 ys w) := by
 obtain ⟨p, c, q, d, e, h⟩ := h
 exact ⟨p, c, q, d, zec e hv hT ys, zan (hv.clear h hn hm) ys 0 h⟩
theorem FullGE.putsV (h : FullGE T N K k z g' w) (hv : VarT T' m' g w) (hT : ¬ T = T') (hT' : ¬ 3 = T') (hg : N ≤ g) (ys : List Value) : FullGE T N K k z g' (putsL g 0 ys w) := by
 obtain ⟨p, c, e, h, ht⟩ := h
 exact ⟨p, c, zec e hv hT ys, zbt h ht hv hT' hg ys, ht.puts hv hT' hg ys⟩
def PtrV (N : Nat) (T : TypeId) (m : Nat) (v : Value) (w : World) : Prop := ∃ g, v = .pointer (some ⟨g, 0, none⟩) ∧ N ≤ g ∧ VarT T m g w
theorem PtrV.below (h : PtrV N T m v w) (hb : Below w.heap.size w w') : PtrV N T m v w' := by
 obtain ⟨g, e, hg, h⟩ := h
 exact ⟨g, e, hg, h.below hb⟩
theorem PtrV.putsV (h : PtrV N T m v w) {ys : List Value} (hy : PlainL ys) : PtrV N T m v (putsL g 0 ys w) := by
 obtain ⟨g, e, hg, h⟩ := h
 exact ⟨g, e, hg, h.puts hy⟩
theorem zm4 (W : World) (T : TypeId) (xs : Array Value) (hp : PlainC xs) (hN : N ≤ W.heap.size) : PtrV N T xs.size (.pointer (some ⟨W.heap.size, 0, none⟩)) (W.alloc (.cells xs T)) := ⟨_, rfl, hN, VarT.new _ _ _ hp⟩
end
theorem zbn : PlainC #[.slice none 0 0, .slice none 0 0, .bool false] := ⟨by decide, fun i x e => by
 match i, e with
 | 0, e => simp at e
 | 1, e => simp at e
 | 2, e => simp at e
 | i + 3, e => simp at e⟩
theorem zee : PlainC #[.int .i64 0, .slice none 0 0] := ⟨by decide, fun i x e => by
 match i, e with
 | 0, e => simp at e
 | 1, e => simp at e
 | i + 2, e => simp at e⟩
theorem zlt (p : Option Addr) (n c : Nat) (q : Option Addr) (m d : Nat) (b : Bool) : PlainC #[.slice p n c, .slice q m d, .bool b] := ⟨by show 3 < 32; decide, fun i x e => by
 match i, e with
 | 0, e => simp at e
 | 1, e => simp at e
 | 2, e => simp at e
 | i + 3, e => simp at e⟩
theorem zlr (K : Int) (p : Option Addr) (n c : Nat) : PlainC #[.int .i64 K, .slice p n c] := ⟨by show 2 < 32; decide, fun i x e => by
 match i, e with
 | 0, e => simp at e
 | 1, e => simp at e
 | i + 2, e => simp at e⟩
theorem TBox.varH {T : TypeId} {n c : Nat} {m d : Nat} {b : Bool} (h : TBox T g #[.slice p n c, .slice q m d, .bool b] w) : VarT T 3 g w := ⟨_, rfl, zlt _ _ _ _ _ _ _, h⟩
theorem zes (p : Option Addr) (n c : Nat) (q : Option Addr) (m d : Nat) (b : Bool) : PlainL [.slice p n c, .slice q m d, .bool b] := fun y hy x e => by
 subst e; simp at hy
theorem zgl (K : Int) (p : Option Addr) (n c : Nat) : PlainL [.int .i64 K, .slice p n c] := fun y hy x e => by
 subst e; simp at hy
theorem zbw {w w0 : World} {x1 x2 : Array Value} {t1 t2 : TypeId} (e : w0 = (w.alloc (.cells x1 t1)).alloc (.cells x2 t2)) :
  TBox t1 w.heap.size x1 w0 ∧ TBox t2 (w.heap.size + 1) x2 w0 ∧ Below w.heap.size w w0 := by
 have ba : ∀ (W : World) (o : Obj), Below W.heap.size W (W.alloc o) := fun W o => zr.alloc (Nat.le_refl _) _
 have s1 : (w.alloc (.cells x1 t1)).heap.size = w.heap.size + 1 := by simp
 have b1 := ba w (.cells x1 t1)
 have n1 := TBox.new t1 w x1
 generalize w.alloc (.cells x1 t1) = w1 at *
 have b2 := ba w1 (.cells x2 t2)
 have n2 := TBox.new t2 w1 x2
 rw [← e] at b2 n2
 rw [s1] at n2
 exact ⟨n1.below b2, n2, bjoin b2 b1⟩
theorem zh1 (p : Option Addr) (c : Nat) (q : Option Addr) (d : Nat) (h : Hp) (w : World) (hh : HpAt w p c q d h) (hF : formB h = true) :
  Calls Tryz.prog 9 #[.agg #[.slice p h.n c, .slice q h.m d, .bool h.b]] w fun e w' => e = .returned (.bool (apB h)) ∧ Below w.heap.size w w' := by
 obtain ⟨w0, hw0⟩ : ∃ w0, w0 = w.alloc (.cells #[.slice p h.n c, .slice q h.m d, .bool h.b] 27) := ⟨_, rfl⟩
 have gB : Box3 w.heap.size (.slice p h.n c) (.slice q h.m d) (.bool h.b) w0 := by rw [hw0]; exact Box3.new _ _ _ _ _
 have hst : Below w.heap.size w w0 := by rw [hw0]; go_grown
 have hat := hh.below hst
 obtain ⟨l0, x0, x1, x2, -, -, -⟩ := id gB
 have hm16 : h.m ≤ 16 := by have := zad.1 hF; omega
 have hnl : h.n ≤ 512 := by have := zad.1 hF; omega
 have hlen := zb1 h h.n
 have hL := zhr p c q d h w0 hat hF
 have hwfL := znj h hnl
 have hLm : ∀ a ∈ obL h h.n, 0 ≤ a / 32 ∧ a / 32 < h.m ∧ 0 ≤ a ∧ obB h a = true := fun a ha => by
  have h1 := (zc6 h a h.n).1 ha
  have h2 := zad.1 hF
  exact ⟨by omega, by omega, h1.1, h1.2.2⟩
 have hG := fun a W (hW : HpAt W p c q d h) => zgr p c q d h a W hW hF
 have hap : Hid (apB h = (obL h h.n).all fun a => obK h a == (spH h (a / 32)).cl) := (rfl : apB h = (obL h h.n).all fun a => obK h a == (spH h (a / 32)).cl)
 clear hF hh
 generalize apB h = AB at *
 generalize obL h h.n = L at *
 go_enter Tryz.func9, Tryz.ntmps9
 go_upto_region 1 with fail
 rw [← hw0]
 clear hw0
 go_upto_region 2 with (first
  | (go_at_call 24; refine zm hL ?_; rintro e w1 ⟨v, rfl, hown, hb1⟩)
 )
 obtain ⟨pl, cl, rfl, hR⟩ := zcy hown hwfL
 have gB1 := gB.below hb1
 have hat1 := hat.below hb1
 have hI1 := hR.ints
 have hb0 := bjoin hb1 hst
 clear hown hR hL hb1 x0 x1 x2 l0 gB hat
 go_wp2
 go_loopg [4] L.length (fun g iv wr => ∃ j : Nat, j ≤ L.length ∧ g = L.length - j ∧ iv = .int .i64 j ∧ (∀ t, t < j → obK h (L[t]?.getD 0) = (spH h (L[t]?.getD 0 / 32)).cl) ∧ Below w1.heap.size w1 wr)
 case atStart => exact ⟨0, by omega, by omega, rfl, fun t ht => by omega, zr⟩
 case round =>
  obtain ⟨j, jh, rfl, rfl, hall, hbw⟩ := hrel
  have gr := gB1.below hbw
  have hatr := hat1.below hbw
  have hall' : Hid (∀ t, t < j → obK h (L[t]?.getD 0) = (spH h (L[t]?.getD 0 / 32)).cl) := hall
  clear hall
  by_cases hj : j < L.length
  ·obtain ⟨⟨bl, ol, rfl, hlt, v0⟩, -⟩ := (hI1.below hbw) j hj
   dsimp only at v0
   obtain ⟨X0, X1, XP, hoX⟩ := hLm (L[j]?.getD 0) (by rw [List.getElem?_eq_getElem hj]; exact List.getElem_mem hj)
   have hno : Hid (¬ obK h (L[j]?.getD 0) = (spH h (L[j]?.getD 0 / 32)).cl → AB = false) := fun e => by
    rw [hap.out, List.all_eq_false]
    exact ⟨L[j]?.getD 0, by rw [List.getElem?_eq_getElem hj]; exact List.getElem_mem hj, by simpa using e⟩
   have hyes : Hid (obK h (L[j]?.getD 0) = (spH h (L[j]?.getD 0 / 32)).cl → ∀ t, t < j + 1 → obK h (L[t]?.getD 0) = (spH h (L[t]?.getD 0 / 32)).cl) := fun e t ht => by
    by_cases et : t = j
    ·subst et; exact e
    ·exact hall'.out t (by omega)
   have hGj := hG (L[j]?.getD 0)
   clear hG hall'
   generalize hX : L[j]?.getD 0 = X at *
   clear hX
   rw [hoX] at hGj
   generalize obC h X = C at *
   generalize obN h X = F at *
   go_upto_region 5 with fail
   refine zdx (ds := [some 16, some 17, some 18, some 19, some 20, some 21, some 15, some 22, some 23, some 5, none, some 6]) (ts := [16, 17, 18, 19, 20, 21, 15, 22, 23, 5, 6]) (pv := [(fun v _ => v = .agg #[.slice p h.n c, .slice q h.m d, .bool h.b]), (fun v _ => v = .slice (some ⟨bl, ol, none⟩) L.length cl), (fun v _ => v = .int .i64 (j : Int)), (fun v _ => v = .pointer (some ⟨bl, ol + j, none⟩)), (fun v _ => v = .int .i64 X), (fun v _ => v = .tuple #[.agg #[.bool true, .bool C, .int .i64 (obK h X), .int .i64 F], .bool true]), (fun v _ => v = .tuple #[.agg #[.bool true, .bool C, .int .i64 (obK h X), .int .i64 F], .bool true]), (fun v _ => v = .agg #[.bool true, .bool C, .int .i64 (obK h X), .int .i64 F]), (fun v _ => v = .bool true), (fun _ _ => True), (fun _ _ => True), (fun v _ => v = .bool true)]) (skip := fun i => ([] : List Nat).contains i) (ia := 9) (is := 10) (k := 24) (Shape := Shape4) (Full := (fun g w => Box4 g (.bool true) (.bool C) (.int .i64 (obK h X)) (.int .i64 F) w)) (by kernel_rfl) (by kernel_rfl) rfl rfl (by decide) (by decide) (by simp) ?_ (by decide) zfz (fun _ _ _ h hb => h.below hb) ?_ ?_ ?_ ?_
   ·exact .inr ⟨⟨_, rfl⟩, rfl, _, rfl, zt, by decide, rfl⟩
   ·exact ⟨fun _ _ _ h _ => h, fun _ _ _ h _ => h, fun _ _ _ h _ => h, fun _ _ _ h _ => h, fun _ _ _ h _ => h, fun _ _ _ h _ => h, fun _ _ _ h _ => h, fun _ _ _ h _ => h, fun _ _ _ h _ => h, fun _ _ _ h _ => h, fun _ _ _ h _ => h, fun _ _ _ h _ => h, trivial⟩
   ·exact ⟨rfl, rfl, rfl, rfl, rfl, rfl, rfl, rfl, rfl, rfl, rfl, rfl, trivial⟩
   ·refine ⟨?_, ?_, ?_, ?_, ?_, ?_, ?_, ?_, ?_, ?_, ?_, ?_, trivial⟩
    ·intro _ a' w' hb' hs hd hn Kc hK
     have f1 : a'.tmps[1]?.getD undef = .pointer (some ⟨w.heap.size, 0, none⟩) := (hs 1 (by decide)).trans rfl
     clear hs hd hn
     rw [if_neg (by decide), if_neg (by decide)] at hK
     have v0' : w'.cell? ⟨bl, ol + j, none⟩ = some (.int .i64 X) := zcl hb' hlt v0
     obtain ⟨lB, k0, k1, k2, -, -, -⟩ := gr.below hb'
     unfold Oper.wp
     go_simp
     try go_bits
     exact hK _ _ zr rfl
    ·intro _ a' w' hb' hs hd hn Kc hK
     have f3 : a'.tmps[3]?.getD undef = .slice (some ⟨bl, ol, none⟩) L.length cl := (hs 3 (by decide)).trans rfl
     clear hs hd hn
     rw [if_neg (by decide), if_neg (by decide)] at hK
     unfold Oper.wp
     go_simp
     try go_bits
     exact hK _ _ zr rfl
    ·intro _ a' w' hb' hs hd hn Kc hK
     have f4 : a'.tmps[4]?.getD undef = .int .i64 (j : Int) := (hs 4 (by decide)).trans rfl
     clear hs hd hn
     rw [if_neg (by decide), if_neg (by decide)] at hK
     unfold Oper.wp
     go_simp
     try go_bits
     exact hK _ _ zr rfl
    ·intro _ a' w' hb' hs hd hn Kc hK
     have f17 : a'.tmps[17]?.getD undef = .slice (some ⟨bl, ol, none⟩) L.length cl := hd 1 17 zt rfl (by decide) (by decide) rfl
     have f18 : a'.tmps[18]?.getD undef = .int .i64 (j : Int) := hd 2 18 zt rfl (by decide) (by decide) rfl
     clear hs hd hn
     rw [if_neg (by decide), if_neg (by decide)] at hK
     have v0' : w'.cell? ⟨bl, ol + j, none⟩ = some (.int .i64 X) := zcl hb' hlt v0
     obtain ⟨lB, k0, k1, k2, -, -, -⟩ := gr.below hb'
     unfold Oper.wp
     go_simp
     try go_bits
     exact hK _ _ zr rfl
    ·intro _ a' w' hb' hs hd hn Kc hK
     have f19 : a'.tmps[19]?.getD undef = .pointer (some ⟨bl, ol + j, none⟩) := hd 3 19 zt rfl (by decide) (by decide) rfl
     clear hs hd hn
     rw [if_neg (by decide), if_neg (by decide)] at hK
     have v0' : w'.cell? ⟨bl, ol + j, none⟩ = some (.int .i64 X) := zcl hb' hlt v0
     obtain ⟨lB, k0, k1, k2, -, -, -⟩ := gr.below hb'
     unfold Oper.wp
     go_simp
     try go_bits
     exact hK _ _ zr rfl
    ·intro _ a' w' hb' hs hd hn Kc hK
     have f16 : a'.tmps[16]?.getD undef = .agg #[.slice p h.n c, .slice q h.m d, .bool h.b] := hd 0 16 zt rfl (by decide) (by decide) rfl
     have f20 : a'.tmps[20]?.getD undef = .int .i64 X := hd 4 20 zt rfl (by decide) (by decide) rfl
     clear hs hd hn
     rw [if_neg (by decide), if_neg (by decide)] at hK
     have v0' : w'.cell? ⟨bl, ol + j, none⟩ = some (.int .i64 X) := zcl hb' hlt v0
     obtain ⟨lB, k0, k1, k2, -, -, -⟩ := gr.below hb'
     unfold Oper.wp
     go_simp
     try go_bits
     refine zm (hGj _ (hatr.below hb')) ?_
     rintro e w'' ⟨rfl, hb2⟩
     exact hK _ _ hb2 rfl
    ·intro _ a' w' hb' hs hd hn Kc hK
     have f21 : a'.tmps[21]?.getD undef = .tuple #[.agg #[.bool true, .bool C, .int .i64 (obK h X), .int .i64 F], .bool true] := hd 5 21 zt rfl (by decide) (by decide) rfl
     clear hs hd hn
     rw [if_neg (by decide), if_neg (by decide)] at hK
     unfold Oper.wp
     go_simp
     try go_bits
     exact hK _ _ zr rfl
    ·intro _ a' w' hb' hs hd hn Kc hK
     have f15 : a'.tmps[15]?.getD undef = .tuple #[.agg #[.bool true, .bool C, .int .i64 (obK h X), .int .i64 F], .bool true] := hd 6 15 zt rfl (by decide) (by decide) rfl
     clear hs hd hn
     rw [if_neg (by decide), if_neg (by decide)] at hK
     unfold Oper.wp
     go_simp
     try go_bits
     exact hK _ _ zr rfl
    ·intro _ a' w' hb' hs hd hn Kc hK
     have f15 : a'.tmps[15]?.getD undef = .tuple #[.agg #[.bool true, .bool C, .int .i64 (obK h X), .int .i64 F], .bool true] := hd 6 15 zt rfl (by decide) (by decide) rfl
     clear hs hd hn
     rw [if_neg (by decide), if_neg (by decide)] at hK
     unfold Oper.wp
     go_simp
     try go_bits
     exact hK _ _ zr rfl
    ·intro _ a' w' hb' hs hd hn Kc hK
     clear hs hd hn
     rw [if_pos rfl] at hK
     unfold Oper.wp
     go_simp
     exact hK _ _ (zr.alloc (Nat.le_refl _) _) (Nat.le_refl _) ⟨_, _, _, _, Box4.new _ _ _ _ _ _⟩
    ·intro _ a' w' hb' hs hd hn Kc hK
     obtain ⟨g, f5, hg, hsh⟩ := hn 5 zt rfl rfl
     have f22 : a'.tmps[22]?.getD undef = .agg #[.bool true, .bool C, .int .i64 (obK h X), .int .i64 F] := hd 7 22 zt rfl (by decide) (by decide) rfl
     obtain ⟨x0, x1, x2, x3, h3⟩ := id hsh
     rw [if_neg (by decide), if_pos rfl] at hK
     have hfin := hK g (.tuple #[]) (puts4 g (.bool true) (.bool C) (.int .i64 (obK h X)) (.int .i64 F) w') (fun d hd => by obtain rfl : 5 = d := Option.some.inj (Option.some.inj hd); exact f5) (zhe hg _ _ _ _ w') hg (h3.put (.bool true) (.bool C) (.int .i64 (obK h X)) (.int .i64 F)) (zgj h3 (.bool true) (.bool C) (.int .i64 (obK h X)) (.int .i64 F)) ⟨fun _ h => h, fun _ h => h, fun _ h => h, fun _ h => h, fun _ h => h, fun _ h => h, fun _ h => h, fun _ h => h, fun _ h => h, fun _ h => h, fun _ h => h, fun _ h => h, trivial⟩
     clear hs hd hn hK
     obtain ⟨h0, c0, c1, c2, c3, g0, g1, g2, g3⟩ := h3
     unfold puts4 at hfin
     unfold Oper.wp
     go_simp
     exact hfin
    ·intro _ a' w' hb' hs hd hn Kc hK
     have f23 : a'.tmps[23]?.getD undef = .bool true := hd 8 23 zt rfl (by decide) (by decide) rfl
     clear hs hd hn
     rw [if_neg (by decide), if_neg (by decide)] at hK
     unfold Oper.wp
     go_simp
     try go_bits
     exact hK _ _ zr rfl
   intro Xf g w' hX hb hv
   obtain ⟨hg, gX, hgp⟩ := hX (by decide)
   have q5 : Xf 5 = .pointer (some ⟨g, 0, none⟩) := hgp 5 rfl
   clear hX hv hgp
   simp only [List.map_cons, List.map_nil, q5, puts, Act.put, Nat.reduceAdd, List.setIfInBounds_toArray, List.set_cons_succ, List.set_cons_zero]
   obtain ⟨T, hT, hT1⟩ : ∃ T : Nat, X / 32 = (T : Int) ∧ T < h.m := ⟨(X / 32).toNat, by omega, by omega⟩
   have hTd : X.tdiv 32 = (T : Int) := by rw [Int.tdiv_eq_ediv_of_nonneg XP]; exact hT
   have ew : IntKind.i64.wrap (T : Int) = T := by rw [IntKind.wrap_i64]; omega
   have hsp : spH h (X / 32) = h.s T := by rw [hT]; exact zez h T
   rw [hsp] at hno hyes
   have hat6 := hatr.below hb
   obtain ⟨⟨bs, os, rfl, hls, s0, s1, s2⟩, -⟩ := hat6.spans T hT1
   obtain ⟨lB, k0, k1, k2, -, -, -⟩ := gr.below hb
   obtain ⟨lX, y0, y1, y2, y3, -, -, -, -⟩ := gX
   have v06 : w'.cell? ⟨bl, ol + j, none⟩ = some (.int .i64 X) := zcl hb hlt v0
   have hlt6 : bl < w'.heap.size := Nat.lt_of_lt_of_le hlt hb.size
   have hbw6 := hbw.trans (hb.mono hbw.size)
   have hmc : (T : Int) < h.m := by omega
   clear hT hsp hb hatr gr v0 hlt hGj q5 hbw
   generalize obK h X = KK at *
   generalize (h.s T).cl = CC at *
   clear hat6 X0 X1
   by_cases e : KK = CC
   ·replace hyes := hyes.out e
    subst e
    go_upto_region 6 with fail
    go_quiet (fail)
    go_wp2
    go_roundg (L.length - (j + 1))
    case measure => omega
    case rel => exact ⟨j + 1, by omega, rfl, by go_num, hyes, hbw6.trans ⟨rfl, rfl, rfl, Nat.le_refl _, fun _ _ => rfl⟩⟩
   ·replace hno := hno.out e
    have e' : (KK != CC) = true := by simpa using e
    clear e hyes
    go_upto_region 6 with fail
    go_quiet (fail)
    go_wp2
    go_returns
    exact ⟨zab hno.symm, bjoin (hbw6.trans ⟨rfl, rfl, rfl, Nat.le_refl _, fun _ _ => rfl⟩) hb0⟩
  ·obtain rfl : j = L.length := by omega
   have hyes : AB = true := by
    rw [hap.out, List.all_eq_true]
    intro a ha
    obtain ⟨t, ht, rfl⟩ := List.getElem_of_mem ha
    have := hall'.out t ht
    rw [List.getElem?_eq_getElem ht] at this
    simpa using this
   go_wp2
   go_returns
   exact ⟨zab hyes.symm, bjoin hbw hb0⟩
end Go.Proofs.YtkehankfnkjnlaaGreatDoor
