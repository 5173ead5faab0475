import Derived.Test.YtkehankfnkjnlaaGreatDoorV31
namespace Go.Proofs.YtkehankfnkjnlaaGreatDoor
set_option linter.unusedSimpArgs false
set_option linter.unusedVariables false
set_option maxHeartbeats 16000000
set_option maxRecDepth 20000
open Go.ChangeAt Go.ChangeShapes Go.Joins Go.RowKit Go.WideShapes
variable {h : Hp} {w w' W W' : World} {p q : Option Addr} {n g : Nat} {a : Int} {v : Value}
theorem zeq {P : Program} {ops : Array Oper} {Q : Exit → Act → World → Prop} {rest : List Oper} {o : Oper} {a : Act} (hw : Region.wanted o (yielded ops a.tmps) = true) (h : wpList P ops Q ({ o with guard := none } :: rest) a w) : wpList P ops Q (o :: rest) a w := by
 unfold wpList at h ⊢
 rw [if_pos hw]
 rw [if_pos (by simp [Region.wanted])] at h
 exact h
theorem zh8 {K : List Int} : ∀ {M : List Int}, K.Nodup → (∀ x ∈ K, x ∈ M) → K.length ≤ M.length := by
 induction K with
 | nil => intro M _ _; simp
 | cons x K ih =>
  intro M hn hm
  obtain ⟨h1, h2⟩ := List.nodup_cons.1 hn
  have hx := hm x (by simp)
  have := ih (M := M.erase x) h2 fun y hy => (List.mem_erase_of_ne (fun e => h1 (by rw [← e]; exact hy))).2 (hm y (by simp [hy]))
  rw [List.length_erase_of_mem hx] at this
  have hp : 0 < M.length := List.length_pos_of_mem hx
  simp only [List.length_cons]
  omega
theorem zsm (a : Int) : (rfH h a).length ≤ 15 := by
 have := zma h a (obN h a).toNat
 have hN : obN h a ≤ 15 := by
  unfold obN
  split
  ·have := zct (X := woH h a); omega
  ·omega
 show (rfL h a (obN h a).toNat).length ≤ 15
 omega
structure Wk (h : Hp) (S L K : List Int) (i : Nat) : Prop where
 nd : K.Nodup
 rch : ∀ x ∈ K, Rch h S x
 ini : ∀ x ∈ S, x ∈ L
 ref : ∀ y ∈ K, ∀ x ∈ rfH h y, x ∈ L
 src : ∀ x ∈ L, x ∈ S ∨ ∃ y ∈ K, x ∈ rfH h y
 dn : ∀ j, j < i → ∀ x, L[j]? = some x → obB h x = true → x ∈ K
 len : L.length ≤ S.length + 16 * K.length
 wf : ∀ x ∈ L, (Lit.int .i64 x).wf = true
theorem Wk.start {S : List Int} (hw : ∀ x ∈ S, (Lit.int .i64 x).wf = true) : Wk h S S [] 0 :=
 ⟨List.nodup_nil, fun x hx => (by cases hx), fun x hx => hx, fun y hy => (by cases hy), fun x hx => .inl hx, fun j hj => (by omega), by simp, hw⟩
theorem Wk.room {S L K : List Int} {i : Nat} (w : Wk h S L K i) (hF : formB h = true) : K.length ≤ 512 := by
 have := zh8 w.nd (M := obL h h.n) fun x hx => by
  have hr := w.rch x hx
  have := zv6 hF hr.obj
  exact (zc6 h x h.n).2 ⟨this.1, this.2, hr.obj⟩
 have h2 := zb1 h h.n
 have h3 := zad.1 hF
 omega
theorem Wk.skip {S L K : List Int} {i : Nat} {x : Int} (w : Wk h S L K i) (hx : L[i]? = some x) (hs : x ∈ K ∨ obB h x = false) : Wk h S L K (i + 1) := by
 refine { w with dn := fun j hj y hy ho => ?_ }
 rcases Nat.lt_or_ge j i with h1 | h1
 ·exact w.dn j h1 y hy ho
 ·obtain rfl : j = i := by omega
  rw [hx] at hy
  injection hy with hy
  subst hy
  rcases hs with h2 | h2
  ·exact h2
  ·rw [ho] at h2; cases h2
theorem Wk.take {S L K : List Int} {i : Nat} {x : Int} (w : Wk h S L K i) (hx : L[i]? = some x) (hn : x ∉ K) (ho : obB h x = true) (hr : ∀ y ∈ rfH h x, (Lit.int .i64 y).wf = true) : Wk h S (L ++ rfH h x) (x :: K) (i + 1) := by
 have hi : i < L.length := (List.getElem?_eq_some_iff.1 hx).1
 have hm : x ∈ L := List.mem_of_getElem? hx
 have hR : Rch h S x := by
  rcases w.src x hm with h1 | ⟨y, h1, h2⟩
  ·exact .root h1 ho
  ·exact (w.rch y h1).step h2 ho
 refine ⟨List.nodup_cons.2 ⟨hn, w.nd⟩, ?_, fun y hy => List.mem_append_left _ (w.ini y hy), ?_, ?_, ?_, ?_, ?_⟩
 ·intro y hy
  rcases List.mem_cons.1 hy with rfl | hy
  ·exact hR
  ·exact w.rch y hy
 ·intro y hy z hz
  rcases List.mem_cons.1 hy with rfl | hy
  ·exact List.mem_append_right _ hz
  ·exact List.mem_append_left _ (w.ref y hy z hz)
 ·intro y hy
  rcases List.mem_append.1 hy with hy | hy
  ·exact (w.src y hy).imp id fun ⟨z, h1, h2⟩ => ⟨z, List.mem_cons_of_mem _ h1, h2⟩
  ·exact .inr ⟨x, by simp, hy⟩
 ·intro j hj y hy hoy
  rw [List.getElem?_append_left (by omega)] at hy
  rcases Nat.lt_or_ge j i with h1 | h1
  ·exact List.mem_cons_of_mem _ (w.dn j h1 y hy hoy)
  ·obtain rfl : j = i := by omega
   rw [hx] at hy
   injection hy with hy
   subst hy
   simp
 ·have := w.len
  have := zsm (h := h) x
  simp only [List.length_append, List.length_cons]
  omega
 ·intro y hy
  rcases List.mem_append.1 hy with hy | hy
  ·exact w.wf y hy
  ·exact hr y hy
theorem Wk.done {S L K : List Int} {i : Nat} (w : Wk h S L K i) (hi : L.length ≤ i) (x : Int) : x ∈ K ↔ Rch h S x := by
 have hdn : ∀ y ∈ L, obB h y = true → y ∈ K := fun y hy ho => by
  obtain ⟨j, hj, e⟩ := List.getElem_of_mem hy
  exact w.dn j (by omega) y (by rw [List.getElem?_eq_getElem hj, e]) ho
 exact ⟨w.rch x, fun hr => hr (fun y => y ∈ K) (fun y hy ho => hdn y (w.ini y hy) ho) (fun y z hy hz ho => hdn z (w.ref y hy z hz) ho)⟩
theorem zq8 {p q : List Int} (hm : ∀ x, x ∈ p ↔ x ∈ q) (hp : p.Pairwise (· < ·)) (hq : q.Pairwise (· < ·)) : p = q := by
 have np : p.Nodup := hp.imp fun hlt => by omega
 have nq : q.Nodup := hq.imp fun hlt => by omega
 exact List.Perm.eq_of_pairwise (le := fun a b : Int => a < b) (fun a b _ _ h1 h2 => by omega) hp hq ((List.perm_ext_iff_of_nodup np nq).2 hm)
theorem zwo (h : Hp) (S : List Int) : (rcL h S).Pairwise (· < ·) := (zfa h h.n).sublist List.filter_sublist
theorem Wk.sorted {S L K ss : List Int} {i : Nat} (w : Wk h S L K i) (hi : L.length ≤ i) (hF : formB h = true) (hp : ss.Perm K) (hr : ss.Pairwise (· < ·)) : ss = rcL h S :=
 zq8 (fun x => by rw [hp.mem_iff, w.done hi, mem_rc hF]) hr (zwo h S)
theorem zv5 {p q : List Int} (h : p.Perm q) : p.sum = q.sum := by
 induction h with
 | nil => rfl
 | cons x _ ih => simp only [List.sum_cons]; omega
 | swap x y l => simp only [List.sum_cons]; omega
 | trans _ _ h1 h2 => omega
structure Ct (h : Hp) (l K : List Int) (j : Nat) (n : Int) : Prop where
 nd : K.Nodup
 mem : ∀ x, x ∈ K ↔ x ∈ l.take j ∧ obB h x = true
 sum : n = (K.map fun a => szW (obK h a)).sum
theorem Ct.start (h : Hp) (l : List Int) : Ct h l [] 0 0 := ⟨List.nodup_nil, fun x => by simp, rfl⟩
theorem Ct.room {l K : List Int} {j : Nat} {n : Int} (w : Ct h l K j n) (hF : formB h = true) : K.length ≤ 512 ∧ 0 ≤ n ∧ n ≤ 8192 := by
 have h1 := zh8 w.nd (M := obL h h.n) fun x hx => by
  have ho := ((w.mem x).1 hx).2
  have := zv6 hF ho
  exact (zc6 h x h.n).2 ⟨this.1, this.2, ho⟩
 have h2 := zb1 h h.n
 have h3 := zad.1 hF
 have h4 := zhf (fun a => szW (obK h a)) (fun x => zfm _) K
 rw [← w.sum] at h4
 omega
theorem Ct.skip {l K : List Int} {j : Nat} {n x : Int} (w : Ct h l K j n) (hx : l[j]? = some x) (hs : x ∈ K ∨ obB h x = false) : Ct h l K (j + 1) n := by
 refine ⟨w.nd, fun y => ?_, w.sum⟩
 rw [w.mem y, List.take_add_one, hx]
 simp only [Option.toList_some, List.mem_append, List.mem_singleton]
 constructor
 ·rintro ⟨h1, h2⟩; exact ⟨.inl h1, h2⟩
 ·rintro ⟨h1 | rfl, h2⟩
  ·exact ⟨h1, h2⟩
  ·rcases hs with h3 | h3
   ·exact (w.mem y).1 h3
   ·rw [h2] at h3; cases h3
theorem Ct.take {l K : List Int} {j : Nat} {n x : Int} (w : Ct h l K j n) (hx : l[j]? = some x) (hn : x ∉ K) (ho : obB h x = true) : Ct h l (x :: K) (j + 1) (n + szW (obK h x)) := by
 refine ⟨List.nodup_cons.2 ⟨hn, w.nd⟩, fun y => ?_, by rw [List.map_cons, List.sum_cons, ← w.sum]; omega⟩
 rw [List.mem_cons, w.mem y, List.take_add_one, hx]
 simp only [Option.toList_some, List.mem_append, List.mem_singleton]
 constructor
 ·rintro (rfl | ⟨h1, h2⟩)
  ·exact ⟨.inr rfl, ho⟩
  ·exact ⟨.inl h1, h2⟩
 ·rintro ⟨h1 | h1, h2⟩
  ·exact .inr ⟨h1, h2⟩
  ·exact .inl h1
theorem Ct.done {l K : List Int} {j : Nat} {n : Int} (w : Ct h l K j n) (hj : l.length ≤ j) (hF : formB h = true) : n = wdL h l := by
 rw [w.sum]
 unfold wdL
 refine zv5 (List.Perm.map _ ((List.perm_ext_iff_of_nodup w.nd (((zfa h h.n).imp fun hlt => by omega).sublist List.filter_sublist)).2 fun x => ?_))
 rw [w.mem x, List.take_of_length_le hj, List.mem_filter, zc6]
 constructor
 ·rintro ⟨h1, h2⟩
  have := zv6 hF h2
  exact ⟨⟨this.1, this.2, h2⟩, by simpa using h1⟩
 ·rintro ⟨⟨-, -, h2⟩, h1⟩
  exact ⟨by simpa using h1, h2⟩
section
variable {p : Option Addr} {n c : Nat} {q : Option Addr} {m d : Nat} {b : Bool} {h : Hp} {w : World}
theorem ztw (hS : Sz w) (hh : HpIn w p n c q m d b h) (hF : formB h = true) :
  Calls Tryz.prog 71 #[.agg #[.slice p n c, .slice q m d, .bool b], .int .i64 a] w fun e w' => ∃ pl cl, e = .returned (.slice pl (rfH h a).length cl) ∧ NumRow w.heap.size (rfH h a) w' pl cl ∧ (pl = none → (rfH h a).length = 0 ∧ cl = 0) ∧ Below w.heap.size w w' := by
 obtain ⟨rfl, rfl, rfl, hh⟩ := hh
 refine zm (zr9 _ _ _ _ _ a _ hS hh hF) ?_
 rintro e w' ⟨v, rfl, h1, h2⟩
 obtain ⟨pl, cl, rfl, hr⟩ := zcy h1 (zwl hh.wf hF a)
 refine ⟨pl, cl, rfl, hr, ?_, h2⟩
 rintro rfl
 rcases h1.2 with ⟨e, h0⟩ | ⟨g, cap, cur, e, -⟩
 ·injection e with e1 e2 e3
  exact ⟨h0, e3⟩
 ·injection e with e1
  cases e1
theorem zqq (hS : Sz w) (hh : HpIn w p n c q m d b h) (hF : formB h = true) :
  Calls Tryz.prog 70 #[.agg #[.slice p n c, .slice q m d, .bool b], .int .i64 a] w fun e w' => e = .returned (.bool (obB h a)) ∧ Below w.heap.size w w' := by
 obtain ⟨w0, hw0⟩ : ∃ w0, w0 = w.alloc (.cells #[.slice p n c, .slice q m d, .bool b] 27) := ⟨_, rfl⟩
 have gB : Box3 w.heap.size (.slice p n c) (.slice q m d) (.bool b) w0 := by rw [hw0]; exact Box3.new _ _ _ _ _
 have hst : Below w.heap.size w w0 := by rw [hw0]; go_grown
 obtain ⟨l0, x0, x1, x2, -, -, -⟩ := id gB
 have hG := zg8 (a := a) (hS.below hst) (hh.below hst) hF
 generalize obB h a = B at *
 generalize obC h a = C at *
 generalize obK h a = K at *
 generalize obN h a = N at *
 clear hh hS hF gB
 go_enter Tryz.func70, Tryz.ntmps70
 go_upto_region 1 with fail
 rw [← hw0]
 clear hw0
 go_wp2_with (first
  | (go_at_call 66; refine zm (hG) ?_; rintro e w' ⟨rfl, hb⟩; obtain ⟨hc, hf, hb, hz⟩ := bstep hb (w := w0) (by go_grown); try simp only [za, zb, zd] at hc hf hz)
 )
 go_returns
 exact ⟨rfl, bjoin (hb.alloc hb.size _) hst⟩
theorem zue {p1 : Option Addr} {k c1 : Nat} {z : Nat → Vl} (hS : Sz w) (hh : HpIn w p n c q m d b h) (hF : formB h = true) (hv : VAt w p1 c1 k z) (hk : k ≤ 1000) :
  Calls Tryz.prog 42 #[.agg #[.slice p n c, .slice q m d, .bool b], .slice p1 k c1] w fun e w' => ∃ pl cl, e = .returned (.slice pl (rcL h (vrL z k)).length cl) ∧ NumRow w.heap.size (rcL h (vrL z k)) w' pl cl ∧ Below w.heap.size w w' := by
 obtain ⟨i0, hi, hz0, hz1, hz2⟩ := info_parts zg4
 have hSl := zmk z k
 have hSw := zwh hv.row.wf
 have hn5 : h.n ≤ 512 := by have := zad.1 hF; omega
 obtain ⟨w0, hw0⟩ : ∃ w0, w0 = w.alloc (.cells #[.slice p n c, .slice q m d, .bool b] 27) := ⟨_, rfl⟩
 have gB : Box3 w.heap.size (.slice p n c) (.slice q m d) (.bool b) w0 := by rw [hw0]; exact Box3.new _ _ _ _ _
 have hst : Below w.heap.size w w0 := by rw [hw0]; go_grown
 replace hS := hS.below hst
 replace hh := hh.below hst
 replace hv := hv.below hst
 have hF' : Hid (formB h = true) := hF
 have hroom := fun {S L K : List Int} {i : Nat} (x : Wk h S L K i) => x.room hF
 have hsort := fun {S L K ss : List Int} {i : Nat} (x : Wk h S L K i) (hi : L.length ≤ i) => x.sorted (ss := ss) hi hF
 clear hF
 have hmm := @run_makeMap Tryz.prog
 have hV := fun W (hW : Below w0.heap.size w0 W) => zrf p1 k c1 z W (hv.below hW) (by omega)
 generalize vrL z k = S at *
 go_enter Tryz.func42, Tryz.ntmps42
 go_upto_region 1 with fail
 rw [← hw0]
 clear hw0
 go_upto_region 2 with fail
 obtain ⟨w1, hw1⟩ : ∃ W, W = w0.alloc (.map #[] 0) := ⟨_, rfl⟩
 have hset : SetAt w1 w0.heap.size [] := by rw [hw1]; exact SetAt.made _
 have hb1 : Below w0.heap.size w0 w1 := by rw [hw1]; exact zr.alloc (Nat.le_refl _) _
 have hs1 : w1.heap.size = w0.heap.size + 1 := by rw [hw1]; simp
 rw [← hw1]
 clear hw1
 go_upto_region 3 with (first
  | (go_at_call 69; refine zm (hV _ hb1) ?_; rintro e w2 ⟨p2, c2, rfl, hown, hb2⟩)
 )
 replace hset := hset.below hb2
 have hb02 : Below w0.heap.size w0 w2 := hb1.trans (hb2.mono (by omega))
 rw [hs1] at hown
 clear hb1 hb2 hs1 w1 hv hV
 go_wp2
 go_loopg [6, 7] 20000 (fun g ov iv wr => ∃ (i : Nat) (L K : List Int), i ≤ L.length ∧ g = 20000 - i ∧ iv = .int .i64 i ∧ wr.ownsRow (w0.heap.size + 1) 3 1 ov L.length (L.map (Value.int .i64)) ∧ SetAt wr w0.heap.size K ∧ Wk h S L K i ∧ Below w0.heap.size w0 wr)
 case atStart => exact ⟨0, S, [], Nat.zero_le _, rfl, rfl, hown, hset, Wk.start hSw, hb02⟩
 case round =>
  clear hown hset hb02
  obtain ⟨i, L, K, hil, rfl, rfl, hown, hset, hwk, hbw⟩ := hrel
  have hsz := hbw.size
  have hKr := hroom hwk
  have hLl := hwk.len
  have hLw := hwk.wf
  have hlt := hset.lt
  have hT := fun W (hW : Below w0.heap.size w0 W) a => zqq (a := a) (hS.below hW) (hh.below hW) hF'.out
  have hR := fun W (hW : Below w0.heap.size w0 W) a => ztw (a := a) (hS.below hW) (hh.below hW) hF'.out
  by_cases hi' : i < L.length
  ·obtain ⟨x, hx⟩ : ∃ x, L[i]? = some x := ⟨_, List.getElem?_eq_getElem hi'⟩
   have hxo := fun (ho : obB h x = true) => zsm (h := h) x
   obtain ⟨pp, cc, rfl, hr⟩ := zcy hown hLw
   obtain ⟨⟨bb, off, rfl, hltb, v0⟩, hxw⟩ := hr.ints i hi'
   simp only [hx, Option.getD_some] at v0 hxw
   have gBw := gB.below hbw
   obtain ⟨l0, x0, x1, x2, -, -, -⟩ := id gBw
   have hrw : ∀ y ∈ rfH h x, (Lit.int .i64 y).wf = true := by obtain ⟨-, -, -, hat⟩ := hh; exact zwl hat.wf hF'.out x
   by_cases hm : x ∈ K
   ·have hd : decide (x ∈ K) = true := by simpa using hm
    have hnext := hwk.skip hx (.inl hm)
    clear hT hR hx hm hrw hwk hroom hsort hxo
    go_wp2_with (first
  | (at_lookup; refine zbs rfl (.tmp 22) (.tmp 23) rfl hset hxw hd rfl rfl ?_)
    )
    go_roundg (20000 - (i + 1))
    case measure => omega
    case rel => exact ⟨i + 1, L, K, by omega, rfl, by go_num, hown, hset, hnext, hbw⟩
   ·have hd : decide (x ∈ K) = false := by simpa using hm
    have hTx := fun W hW => hT W hW x
    clear hT
    by_cases ho : obB h x = true
    ·have hnext := hwk.take hx hm ho hrw
     have hRl := hxo ho
     rw [ho] at hTx
     generalize hrf : rfH h x = M at *
     clear hx hwk hroom hsort hxo ho
     go_upto_region 8 with (first
  | (at_lookup; refine zbs rfl (.tmp 22) (.tmp 23) rfl hset hxw hd rfl rfl ?_)
  | (go_at_call 70; refine zm (hTx _ (by go_grown)) ?_; rintro e w' ⟨rfl, hb⟩; obtain ⟨hc, hf, hb, hz⟩ := bstep hb (w := wr) (by go_grown); try simp only [za, zb, zd] at hc hf hz)
     )
     have hbw8 := bjoin hb hbw
     have hown8 := zaa hown hb
     have hset8 := hset.below hb
     clear hb hc hf hz x0 x1 x2 l0 hTx hbw hown hset v0 hltb hr gBw
     generalize w' = w8 at *
     go_upto_region 9 with (first
  | (at_mapUpdate; refine zeh rfl (.tmp 31) (.tmp 32) _ rfl hset8 hxw hm (by simp only [maxLen]; omega) rfl rfl rfl ?_; intro w9 hset9 hg9)
     )
     have hbw9 := hbw8.grown hg9 hbw8.size (fun k hk => by cases hk; exact Nat.le_refl _)
     have hown9 := hown8.kept hg9 (.inr (fun e => by have := (hown8.lt _ e).1; omega))
     have hRx := hR w9 hbw9 x
     rw [hrf] at hRx
     obtain ⟨l0, x0, x1, x2, -, -, -⟩ := id (gB.below hbw9)
     have hsz9 := hbw9.size
     have hlt9 := hset9.lt
     clear hR hset8 hg9 hown8 hbw8
     go_wp2_with (first
  | (go_at_call 71; refine zm (hRx) ?_; rintro e w' ⟨pr, cr, rfl, hrr, hrn, hb⟩; obtain ⟨hc, hf, hb, hz⟩ := bstep hb (w := w9) (by go_grown); try simp only [za, zb, zd] at hc hf hz)
  | (at_builtin; refine za7 rfl (.tmp 33) (.tmp 36) 29 rfl (w0.heap.size + 1) 3 i0 (.int .i64 0) 8 Tryz.underlying29 hi hz0 hz1 hz2 rfl _ _ _ rfl (zaa hown9 hb) .i64 _ _ _ _ rfl hrr.ints hrn (by simp only [maxLen]; omega) (by omega) (by have := hb.size; omega) ?_; intro ov w10 hown10 hg10)
     )
     have hbwr := bjoin hb hbw9
     have hown9' := zaa hown9 hb
     have hbw10 := hbwr.grown hg10 hbwr.size (fun k hk => by have := (hown9'.lt k hk).1; omega)
     have hset10 := (hset9.below hb).kept hg10 (fun e => by have := (hown9'.lt _ e.symm).1; omega)
     have hown11 : w10.ownsRow (w0.heap.size + 1) 3 1 ov (L ++ M).length ((L ++ M).map (Value.int .i64)) := by
      rw [List.map_append, zm2 .i64 M, List.length_append]; exact hown10
     go_roundg (20000 - (i + 1))
     case measure => omega
     case rel => exact ⟨i + 1, L ++ M, x :: K, by simp only [List.length_append]; omega, rfl, by go_num, hown11, hset10, hnext, hbw10⟩
    ·have ho' : obB h x = false := by simpa using ho
     have hnext := hwk.skip hx (.inr ho')
     rw [ho'] at hTx
     clear hR hx hrw hwk hroom hsort hxo ho ho' hm
     go_wp2_with (first
  | (at_lookup; refine zbs rfl (.tmp 22) (.tmp 23) rfl hset hxw hd rfl rfl ?_)
  | (go_at_call 70; refine zm (hTx _ (by go_grown)) ?_; rintro e w' ⟨rfl, hb⟩; obtain ⟨hc, hf, hb, hz⟩ := bstep hb (w := wr) (by go_grown); try simp only [za, zb, zd] at hc hf hz)
     )
     have hbw8 := bjoin hb hbw
     have hown8 := zaa hown hb
     have hset8 := hset.below hb
     go_roundg (20000 - (i + 1))
     case measure => omega
     case rel => exact ⟨i + 1, L, K, by omega, rfl, by go_num, hown8, hset8, hnext, hbw8⟩
  ·obtain rfl : i = L.length := by omega
   obtain ⟨pp, cc, rfl, -⟩ := zaf hown
   have hfin := fun {ss : List Int} => hsort (ss := ss) hwk (Nat.le_refl _)
   have hcell : (wr.alloc (.cells #[.map (some w0.heap.size)] 102)).cell? ⟨wr.heap.size, 0, none⟩ = some (.map (some w0.heap.size)) := by
    rw [cell_of_row _ _ _ _ _ _ (heap_alloc_new wr _)]; rfl
   have hset2 : SetAt (wr.alloc (.cells #[.map (some w0.heap.size)] 102)) w0.heap.size K := hset.below (zr.alloc (Nat.le_refl _) _)
   have hbw2 : Below w0.heap.size w0 (wr.alloc (.cells #[.map (some w0.heap.size)] 102)) := hbw.alloc hsz _
   clear hT hR hwk hroom hsort hown hset gB
   have hS4 := zpl hset2 hcell (by simp) (by omega)
   have hsz2 := hbw2.size
   go_wp2_with (first
  | (go_at_call 73; refine zm (zvy _ _) ?_; rintro e w3 ⟨rfl, rfl⟩)
  | (go_at_call 72; refine zm hS4 ?_; rintro e w4 ⟨v, ss, rfl, hpm, hrs, hown4, hb4⟩; obtain rfl := hfin hpm hrs; obtain ⟨pl, cl, rfl, hr⟩ := zcy hown4 (rc_wf hn5 _))
   )
   go_returns
   have hs0 := hst.size
   exact ⟨pl, cl, rfl, ⟨hr.ints, fun b off sp e => by have := hr.new b off sp e; omega⟩, bjoin (hbw2.trans (hb4.mono hsz2)) hst⟩
theorem zqp {L : List Int} {pl : Option Addr} {cl : Nat} (hS : Sz w) (hh : HpIn w p n c q m d b h) (hF : formB h = true) (hl : Ints .i64 w pl L.length fun i => L[i]?.getD 0) (hk : L.length ≤ 1000) :
  Calls Tryz.prog 40 #[.agg #[.slice p n c, .slice q m d, .bool b], .slice pl L.length cl] w fun e w' => e = .returned (.int .i64 (wdL h L)) ∧ Below w.heap.size w w' := by
 obtain ⟨w0, hw0⟩ : ∃ w0, w0 = w.alloc (.cells #[.slice p n c, .slice q m d, .bool b] 27) := ⟨_, rfl⟩
 have gB : Box3 w.heap.size (.slice p n c) (.slice q m d) (.bool b) w0 := by rw [hw0]; exact Box3.new _ _ _ _ _
 have hst : Below w.heap.size w w0 := by rw [hw0]; go_grown
 replace hS := hS.below hst
 replace hh := hh.below hst
 replace hl := hl.below hst
 have hF' : Hid (formB h = true) := hF
 have hroom := fun {K : List Int} {j : Nat} {x : Int} (w : Ct h L K j x) => w.room hF
 have hdone := fun {K : List Int} {j : Nat} {x : Int} (w : Ct h L K j x) (hj : L.length ≤ j) => w.done hj hF
 clear hF
 have hmm := @run_makeMap Tryz.prog
 go_enter Tryz.func40, Tryz.ntmps40
 go_upto_region 1 with fail
 rw [← hw0]
 clear hw0
 go_upto_region 2 with fail
 obtain ⟨w1, hw1⟩ : ∃ W, W = w0.alloc (.map #[] 0) := ⟨_, rfl⟩
 have hset : SetAt w1 w0.heap.size [] := by rw [hw1]; exact SetAt.made _
 have hb1 : Below w0.heap.size w0 w1 := by rw [hw1]; exact zr.alloc (Nat.le_refl _) _
 rw [← hw1]
 clear hw1
 go_wp2
 go_loopg [6, 14] L.length (fun g nv iv wr => ∃ (j : Nat) (x : Int) (K : List Int), j ≤ L.length ∧ g = L.length - j ∧ iv = .int .i64 j ∧ nv = .int .i64 x ∧ SetAt wr w0.heap.size K ∧ Ct h L K j x ∧ Below w0.heap.size w0 wr)
 case atStart => exact ⟨0, 0, [], Nat.zero_le _, rfl, rfl, rfl, hset, Ct.start _ _, hb1⟩
 case round =>
  clear hset hb1
  obtain ⟨j, n0, K, hj, rfl, rfl, rfl, hset, hct, hbw⟩ := hrel
  have hsz := hbw.size
  obtain ⟨hKr, n00, n01⟩ := hroom hct
  have hlt := hset.lt
  have hG := fun W (hW : Below w0.heap.size w0 W) a => zg8 (a := a) (hS.below hW) (hh.below hW) hF'.out
  have hW4 := fun W (hW : Below w0.heap.size w0 W) x => zbi x W (hS.below hW)
  by_cases hj' : j < L.length
  ·obtain ⟨x, hx⟩ : ∃ x, L[j]? = some x := ⟨_, List.getElem?_eq_getElem hj'⟩
   obtain ⟨⟨bb, off, rfl, hltb, v0⟩, hxw⟩ := (hl.below hbw) j hj'
   simp only [hx, Option.getD_some] at v0 hxw
   obtain ⟨l0, x0, x1, x2, -, -, -⟩ := id (gB.below hbw)
   have hGx := fun W hW => hG W hW x
   have hszw := zfm (obK h x)
   clear hG
   by_cases ho : obB h x = true
   ·by_cases hm : x ∈ K
    ·have hd : decide (x ∈ K) = true := by simpa using hm
     have hnext := hct.skip hx (.inl hm)
     rw [ho] at hGx
     generalize obC h x = C at *
     generalize obK h x = KK at *
     generalize obN h x = N at *
     clear hx hm hct hroom hdone ho hW4
     go_wp2_with (first
  | (go_at_call 66; refine zm (hGx _ (by go_grown)) ?_; rintro e w' ⟨rfl, hb⟩; obtain ⟨hc, hf, hb, hz⟩ := bstep hb (w := wr) (by go_grown); try simp only [za, zb, zd] at hc hf hz)
  | (at_lookup; refine zeq (by simp [Region.wanted, yielded]) ?_; refine zbs rfl (.tmp 26) (.tmp 27) rfl ((hset.below hb).below (zr.alloc (Nat.le_refl _) _)) hxw hd rfl rfl ?_)
     )
     have hb8 : Below wr.heap.size wr (w'.alloc (.cells #[.bool true, .bool C, .int .i64 KK, .int .i64 N] 60)) := hb.alloc hb.size _
     have hbw8 := bjoin hb8 hbw
     have hset8 := hset.below hb8
     go_roundg (L.length - (j + 1))
     case measure => omega
     case rel => exact ⟨j + 1, n0, K, by omega, rfl, by go_num, rfl, hset8, hnext, hbw8⟩
    ·have hd : decide (x ∈ K) = false := by simpa using hm
     have hnext := hct.take hx hm ho
     have hW4x := fun W hW => hW4 W hW (obK h x)
     rw [ho] at hGx
     generalize szW (obK h x) = sz at *
     generalize obC h x = C at *
     generalize obK h x = KK at *
     generalize obN h x = N at *
     clear hx hct hroom hdone ho hW4
     go_upto_region 8 with (first
  | (go_at_call 66; refine zm (hGx _ (by go_grown)) ?_; rintro e w' ⟨rfl, hb⟩; obtain ⟨hc, hf, hb, hz⟩ := bstep hb (w := wr) (by go_grown); try simp only [za, zb, zd] at hc hf hz)
  | (at_lookup; refine zeq (by simp [Region.wanted, yielded]) ?_; refine zbs rfl (.tmp 26) (.tmp 27) rfl ((hset.below hb).below (zr.alloc (Nat.le_refl _) _)) hxw hd rfl rfl ?_)
     )
     obtain ⟨w8, hw8⟩ : ∃ W, W = w'.alloc (.cells #[.bool true, .bool C, .int .i64 KK, .int .i64 N] 60) := ⟨_, rfl⟩
     have hb8 : Below wr.heap.size wr w8 := by rw [hw8]; exact hb.alloc hb.size _
     have hbw8 := bjoin hb8 hbw
     have hset8 := hset.below hb8
     have t8 : TBox 60 w'.heap.size #[.bool true, .bool C, .int .i64 KK, .int .i64 N] w8 := by rw [hw8]; exact TBox.new _ _ _
     have hw'8 : w0.heap.size < w'.heap.size := Nat.lt_of_lt_of_le hlt hb.size
     rw [← hw8]
     clear hw8 hb8 hb hc hf hz x0 x1 x2 l0 hGx hset hbw v0 hltb
     generalize w'.heap.size = BX at *
     go_upto_region 9 with (first
  | (at_mapUpdate; refine zeh rfl (.tmp 31) (.tmp 32) _ rfl hset8 hxw hm (by simp only [maxLen]; omega) rfl rfl rfl ?_; intro w9 hset9 hg9)
     )
     have hbw9 := hbw8.grown hg9 hbw8.size (fun k hk => by cases hk; exact Nat.le_refl _)
     have hc9 : w9.cell? ⟨BX, 2, none⟩ = some (.int .i64 KK) := by
      rw [World.cell?_of_block (w := w8) (a := ⟨BX, 2, none⟩) (hg9.block BX t8.lt (by intro e; injection e with e; omega))]
      exact t8.cell 2
     have hlt9 : BX < w9.heap.size := Nat.lt_of_lt_of_le t8.lt hg9.size
     have hWx := hW4x _ hbw9
     have hsz9 := hbw9.size
     clear hg9 hset8 t8 hbw8 hW4x
     go_wp2_with (first
  | (go_at_call 65; refine zm (hWx) ?_; rintro e w' ⟨rfl, hb⟩; obtain ⟨hc, hf, hb, hz⟩ := bstep hb (w := w9) (by go_grown); try simp only [za, zb, zd] at hc hf hz)
     )
     have hbw10 := bjoin hb hbw9
     have hset10 := hset9.below hb
     go_roundg (L.length - (j + 1))
     case measure => omega
     case rel => exact ⟨j + 1, n0 + sz, x :: K, by omega, rfl, by go_num, by go_num, hset10, hnext, hbw10⟩
   ·have ho' : obB h x = false := by simpa using ho
    have hnext := hct.skip hx (.inr ho')
    rw [ho'] at hGx
    generalize obC h x = C at *
    generalize obK h x = KK at *
    generalize obN h x = N at *
    clear hx hct hroom hdone ho ho' hW4
    go_wp2_with (first
  | (go_at_call 66; refine zm (hGx _ (by go_grown)) ?_; rintro e w' ⟨rfl, hb⟩; obtain ⟨hc, hf, hb, hz⟩ := bstep hb (w := wr) (by go_grown); try simp only [za, zb, zd] at hc hf hz)
    )
    have hb8 : Below wr.heap.size wr (w'.alloc (.cells #[.bool false, .bool C, .int .i64 KK, .int .i64 N] 60)) := hb.alloc hb.size _
    have hbw8 := bjoin hb8 hbw
    have hset8 := hset.below hb8
    go_roundg (L.length - (j + 1))
    case measure => omega
    case rel => exact ⟨j + 1, n0, K, by omega, rfl, by go_num, rfl, hset8, hnext, hbw8⟩
  ·obtain rfl : j = L.length := by omega
   have e := hdone hct (Nat.le_refl _)
   subst e
   go_wp2
   go_returns
   exact ⟨rfl, bjoin hbw hst⟩
def bkT (h : Hp) (L : List Int) (j : Nat) : List Int := (L.take j).filter fun a => blB h a
theorem zvr {h : Hp} {L : List Int} {j : Nat} {x : Int} (hx : L[j]? = some x) : bkT h L (j + 1) = if blB h x = true then bkT h L j ++ [x] else bkT h L j := by
 unfold bkT
 rw [List.take_add_one, hx, List.filter_append]
 cases e : blB h x <;> simp [e]
theorem zx7 (h : Hp) (L : List Int) (j : Nat) : (bkT h L j).length ≤ L.length := Nat.le_trans (List.length_filter_le _ _) (by rw [List.length_take]; omega)
theorem zty (hS : Sz w) (hh : HpIn w p n c q m d b h) (hF : formB h = true) :
  Calls Tryz.prog 41 #[.agg #[.slice p n c, .slice q m d, .bool b]] w fun e w' => ∃ pl cl, e = .returned (.slice pl (bkL h).length cl) ∧ NumRow w.heap.size (bkL h) w' pl cl ∧ Below w.heap.size w w' := by
 obtain ⟨i0, hi, hz0, hz1, hz2⟩ := info_parts zg4
 have hn5 : h.n ≤ 512 := by have := zad.1 hF; omega
 have hLl := zb1 h h.n
 have hLw := znj h hn5
 have hend : bkT h (obL h h.n) (obL h h.n).length = bkL h := by unfold bkT bkL; rw [List.take_length]
 generalize bkL h = R at *
 obtain ⟨w0, hw0⟩ : ∃ w0, w0 = w.alloc (.cells #[.slice p n c, .slice q m d, .bool b] 27) := ⟨_, rfl⟩
 have gB : Box3 w.heap.size (.slice p n c) (.slice q m d) (.bool b) w0 := by rw [hw0]; exact Box3.new _ _ _ _ _
 have hst : Below w.heap.size w w0 := by rw [hw0]; go_grown
 replace hS := hS.below hst
 replace hh := hh.below hst
 have hLi := zvt hS hh hF
 have hK := fun W (hW : Below w0.heap.size w0 W) x => zdo (a := x) (hS.below hW) (hh.below hW) hF
 generalize obL h h.n = L at *
 obtain ⟨l0, x0, x1, x2, -, -, -⟩ := id gB
 clear hS hh hF
 have hend' : Hid (bkT h L L.length = R) := hend
 clear hend
 go_enter Tryz.func41, Tryz.ntmps41
 go_upto_region 1 with fail
 rw [← hw0]
 clear hw0
 go_wp2_with (first
  | (go_at_call 67; refine zm (hLi) ?_; rintro e w' ⟨pl, cl, rfl, hr, hb⟩; obtain ⟨hc, hf, hb, hz⟩ := bstep hb (w := w0) (by go_grown); try simp only [za, zb, zd] at hc hf hz)
 )
 replace gB := gB.below hb
 have hs0 := hst.size
 have hs1 := hb.size
 have hst2 := bjoin hb hst
 clear hc hf hz x0 x1 x2 l0 hLi
 generalize w' = w2 at *
 go_loopg [3, 9] L.length (fun g ov iv wr => ∃ j : Nat, j ≤ L.length ∧ g = L.length - j ∧ iv = .int .i64 j ∧ wr.ownsRow w2.heap.size 3 1 ov (bkT h L j).length ((bkT h L j).map (Value.int .i64)) ∧ Below w2.heap.size w2 wr)
 case atStart => exact ⟨0, Nat.zero_le _, rfl, rfl, World.ownsRow_nil _ _ _ _, zr⟩
 case round =>
  obtain ⟨j, hj, rfl, rfl, hown, hbw⟩ := hrel
  have hsz := hbw.size
  by_cases hj' : j < L.length
  ·obtain ⟨x, hx⟩ : ∃ x, L[j]? = some x := ⟨_, List.getElem?_eq_getElem hj'⟩
   obtain ⟨⟨bb, off, rfl, hltb, v0⟩, hxw⟩ := (hr.below hbw).ints j hj'
   simp only [hx, Option.getD_some] at v0 hxw
   obtain ⟨l0, x0, x1, x2, -, -, -⟩ := id (gB.below hbw)
   have hKx := hK wr (bjoin hbw hb) x
   have hbl := zx7 h L j
   have eS := zvr (h := h) hx
   generalize hM : bkT h L (j + 1) = M at *
   generalize bkT h L j = T at *
   by_cases hbk : blB h x = true
   ·rw [if_pos hbk] at eS
    rw [hbk] at hKx
    clear hx hbk hK
    go_upto_region 6 with (first
  | (go_at_call 68; refine zm (hKx) ?_; rintro e w' ⟨rfl, hb⟩; obtain ⟨hc, hf, hb, hz⟩ := bstep hb (w := wr) (by go_grown); try simp only [za, zb, zd] at hc hf hz)
    )
    have hown8 := zaa hown hb
    have hbw8 := bjoin hb hbw
    have hsz8 := hbw8.size
    clear hb hc hf hz x0 x1 x2 l0 hown v0 hltb
    generalize w' = w8 at *
    go_wp2_with (first
  | (at_builtin; refine wpList_append_own _ rfl (.tmp 16) (.tmp 18) 29 rfl w2.heap.size 3 i0 (.int .i64 0) 1 8 Tryz.underlying29 hi hz0 hz1 hz2 rfl (by decide) _ _ _ rfl (hown8.alloc _) ⟨w8.heap.size, 0, none⟩ 1 1 [.int .i64 x] rfl rfl (zil _ _ _) (by simp [Value.oneCell']) (by simp only [maxLen]; omega) (by omega) (by simp; omega) ?_; intro ov w9 hown' hgrow _)
    )
    have hown2 : w9.ownsRow w2.heap.size 3 1 ov (T ++ [x]).length ((T ++ [x]).map (Value.int .i64)) := by simpa using hown'
    have hb9 := (hbw8.alloc hsz8 (.cells #[.int .i64 x] 3)).grown hgrow (by simp; omega) (fun k hk => (hown8.lt k hk).1)
    rw [← eS] at hown2
    go_roundg (L.length - (j + 1))
    case measure => omega
    case rel => exact ⟨j + 1, by omega, rfl, by go_num, by rw [hM]; assumption, hb9⟩
   ·rw [if_neg hbk] at eS
    have hbk' : blB h x = false := by simpa using hbk
    rw [hbk'] at hKx
    clear hx hbk hbk' hK
    go_wp2_with (first
  | (go_at_call 68; refine zm (hKx) ?_; rintro e w' ⟨rfl, hb⟩; obtain ⟨hc, hf, hb, hz⟩ := bstep hb (w := wr) (by go_grown); try simp only [za, zb, zd] at hc hf hz)
    )
    have hown8 := zaa hown hb
    have hbw8 := bjoin hb hbw
    rw [← eS] at hown8
    go_roundg (L.length - (j + 1))
    case measure => omega
    case rel => exact ⟨j + 1, by omega, rfl, by go_num, by rw [hM]; assumption, hbw8⟩
  ·obtain rfl : j = L.length := by omega
   have hTw : ∀ x ∈ bkT h L L.length, (Lit.int .i64 x).wf = true := fun x hx => hLw x (List.mem_of_mem_take (List.mem_filter.1 hx).1)
   rw [hend'.out] at hown hTw
   obtain ⟨pp, cc, rfl, hr2⟩ := zcy hown hTw
   clear hown hr hK
   go_wp2
   go_returns
   exact ⟨pp, cc, rfl, ⟨hr2.ints, fun b off sp e => by have := hr2.new b off sp e; omega⟩, bjoin (hbw) hst2⟩
end
end Go.Proofs.YtkehankfnkjnlaaGreatDoor
