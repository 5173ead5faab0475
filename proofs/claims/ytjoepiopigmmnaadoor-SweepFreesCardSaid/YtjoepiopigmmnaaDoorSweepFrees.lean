/- SweepFrees: of every sound heap, and caches (of at most ten mutators), swept to its end: an object is still there just if it was black, or lay in a page that wasn't dirty; what is still there is as it was; what was freed are the words that are used less; nothing is dirty, and the heap is sound, if what black objects refer to is black. No condition; the table that the code reads is tied to the program's text. -/
import Derived.Test.YtjoepiopigmmnaaDoorRows
import Derived.Test.YtjoepiopigmmnaaDoorCards
import Derived.Test.YtjoepiopigmmnaaDoorTie
import Derived.Test.YtjoepiopigmmnaaDoorAwake12
import Derived.SevenTiedAt
namespace Go.Proofs.YtjoepiopigmmnaaDoor
set_option linter.unusedSimpArgs false
set_option linter.unusedVariables false
open Go.ChangeShapes Go.WideShapes Go.ChangeAt Go.RowKit Go.Joins

theorem rfL_same {g h : Hp} {a : Int} : ∀ {k : Nat}, (∀ j : Nat, j < k → woH g (a + 1 + j) = woH h (a + 1 + j)) → rfL g a k = rfL h a k
  | 0, _ => rfl
  | k + 1, H => by
    have e := H k (by omega)
    simp only [rfL]
    rw [e, rfL_same (k := k) fun j hj => H j (by omega)]
/-- What is still there is as it was. -/
theorem frees_stays {h g : Hp} {n : Nat} {y : Nat → Int} (hF : formB h = true) (h2 : ru2 h = true) (S : Swept n y h g) {a : Int} (ho : obB h a = true) (hg : obB g a = true) :
    obC g a = obC h a ∧ obK g a = obK h a ∧ obN g a = obN h a ∧ rfH g a = rfH h a := by
  have hw := S.word a hg
  obtain ⟨-, -, o3, -⟩ := sound_obj hF h2 ho
  have hN : obN g a = obN h a := by unfold obN; rw [ho, hg, hw]
  refine ⟨by unfold obC; rw [ho, hg, hw], by unfold obK; rw [ho, hg, hw], hN, ?_⟩
  unfold rfH
  rw [hN]
  refine rfL_same fun j hj => ?_
  have := S.words a hg (1 + j) (by omega) (by omega)
  rwa [show a + (1 + (j : Int)) = a + 1 + j by omega] at this
set_option maxHeartbeats 32000000 in
set_option maxRecDepth 20000 in
theorem frees_walk {p : Option Addr} {c : Nat} {q : Option Addr} {d : Nat} {h : Hp} {pc : Option Addr} {k cc : Nat} {y : Nat → Int} (w : World) (hat : HpAt w p c q d h) (hin : Ints .i64 w pc (k * 4) y) (hk : k ≤ maxLen) (hS : Sz w) (hT : Tab w) :
    Calls Tryd.prog 3 #[.agg #[.slice p h.n c, .slice q h.m d, .bool h.b], .slice pc k cc] w fun e w' => e = .returned (.bool true) ∧ Below w.heap.size w w' := by
  obtain ⟨w0, hw0⟩ : ∃ w0, w0 = w.alloc (.cells #[.slice p h.n c, .slice q h.m d, .bool h.b] 25) := ⟨_, rfl⟩
  have g3 : Box3 w.heap.size (.slice p h.n c) (.slice q h.m d) (.bool h.b) w0 := by rw [hw0]; exact Box3.new _ _ _ _ _
  have hB0 : Below w.heap.size w w0 := by rw [hw0]; exact (Below.refl _ _).alloc (Nat.le_refl _) _
  replace hat := hat.below hB0
  replace hin := hin.below hB0
  replace hS := hS.below hB0
  replace hT := hT.below hB0
  obtain ⟨l3, x0, x1, x2, -, -, -⟩ := id g3
  have hCk := fun W (hW : Below w0.heap.size w0 W) => rcheck12_in (hat.below hW).in
  have hFe := fun W => few12_any pc k cc W hk
  by_cases hck : ckH h = 0
  case neg =>
    have hck' : (ckH h == 0) = false := beq_eq_false_iff_ne.2 hck
    generalize ckH h = C at *
    go_enter Tryd.func3, Tryd.ntmps3
    go_upto_region 1 with fail
    rw [← hw0]
    clear hw0
    go_wp2_with (first
    | (go_at_call 7; refine Calls.mono (awake12_any _ (hS.below (by go_grown)) (hT.below (by go_grown))) ?_; rintro e w' ⟨rfl, hb⟩; obtain ⟨hc, hf, hb, hz⟩ := bstep hb (w := w0) (by go_grown); try simp only [World.size_alloc, World.size_setCell, World.size_drew] at hc hf hz)
    | (go_at_call 8; refine Calls.mono (hCk _ (by go_grown)) ?_; rintro e w' ⟨rfl, hb⟩; obtain ⟨hc, hf, hb, hz⟩ := bstep hb (w := w0) (by go_grown); try simp only [World.size_alloc, World.size_setCell, World.size_drew] at hc hf hz)
    )
    go_returns
    exact ⟨rfl, bjoin hb hB0⟩
  case pos =>
    rw [hck] at hCk
    by_cases hk10 : k ≤ 10
    case neg =>
      rw [decide_eq_false hk10] at hFe
      clear hck
      go_enter Tryd.func3, Tryd.ntmps3
      go_upto_region 1 with fail
      rw [← hw0]
      clear hw0
      go_wp2_with (first
    | (go_at_call 7; refine Calls.mono (awake12_any _ (hS.below (by go_grown)) (hT.below (by go_grown))) ?_; rintro e w' ⟨rfl, hb⟩; obtain ⟨hc, hf, hb, hz⟩ := bstep hb (w := w0) (by go_grown); try simp only [World.size_alloc, World.size_setCell, World.size_drew] at hc hf hz)
    | (go_at_call 8; refine Calls.mono (hCk _ (by go_grown)) ?_; rintro e w' ⟨rfl, hb⟩; obtain ⟨hc, hf, hb, hz⟩ := bstep hb (w := w0) (by go_grown); try simp only [World.size_alloc, World.size_setCell, World.size_drew] at hc hf hz)
    | (go_at_call 9; refine Calls.mono (hFe _) ?_; rintro e w' ⟨rfl, hb⟩; obtain ⟨hc, hf, hb, hz⟩ := bstep hb (w := w0) (by go_grown); try simp only [World.size_alloc, World.size_setCell, World.size_drew] at hc hf hz)
      )
      go_returns
      exact ⟨rfl, bjoin hb hB0⟩
    case pos =>
      rw [decide_eq_true hk10] at hFe
      obtain ⟨hF, h2, h3, -⟩ := ck_zero.1 hck
      have hF' : Hid (formB h = true) := hF
      have hck0 : Hid (ckH h = 0) := hck
      obtain ⟨⟨bs, os, rfl, -⟩, -⟩ := hat.spans 0 (by have := form_iff.1 hF; omega)
      have hwf := hat.wf
      have S := swept hF hwf h2 h3 k y
      have hAl := fun W (hW : Below w0.heap.size w0 W) => sall_in (cc := cc) (hS.below hW) (hT.below hW) (hat.below hW).in hF'.out (hin.below hW) (show k ≤ 1000 by omega)
      obtain ⟨-, -, -, -, -, -, hsum, hw0'⟩ := al_form hF hwf k y 17
      generalize (alA h k y 17).1 = A at *
      generalize (alA h k y 17).2 = WA at *
      have hAF : Hid (formB A = true) := S.form
      obtain ⟨u0, u1⟩ := us_bound12 hF hwf
      obtain ⟨v0, v1⟩ := us_bound12 S.form S.wf
      obtain ⟨M, z, eM, ez, hM, hzm, hzs, -⟩ := list_all hF
      have hstay : Hid (∀ t : Nat, t < M → obB A (z t) = (blB h (z t) || !decide ((spH h (z t / 32)).st = 2)) ∧ obB h (z t) = true ∧ 0 ≤ z t ∧ z t < h.n ∧ z t / 32 < h.m) := fun t ht => by
        obtain ⟨z0, z1, ho⟩ := (obL_mem h _ h.n).1 (hzm t ht)
        have := S.ob (z t)
        rw [ho, Bool.true_and] at this
        have hn := (form_iff.1 hF).2.2.1
        exact ⟨this, ho, z0, z1, by omega⟩
      have hsame : Hid (∀ a, obB h a = true → obB A a = true → obC A a = obC h a ∧ obK A a = obK h a ∧ obN A a = obN h a ∧ rfH A a = rfH h a) := fun a e1 e2 => frees_stays hF h2 S e1 e2
      have hend : Hid ((∀ t : Nat, t < M → obB A (z t) = true → ∀ r ∈ rfH h (z t), blB h r = true) → ckH A = 0) := fun H => swept_sound hck S fun a ha r hr => by
        have hoh : obB h a = true := by have := S.ob a; rw [ha] at this; cases e : obB h a with | true => rfl | false => rw [e] at this; cases this
        obtain ⟨f1, -⟩ := block_in hF (ob_fi hoh)
        obtain ⟨-, -, -, f2, f3⟩ := block_in hF (ob_fi hoh)
        obtain ⟨t, ht, e⟩ := hzs a ((obL_mem h a h.n).2 ⟨f1, by omega, hoh⟩)
        subst e
        exact H t ht ha r hr
      have hLi := fun W (hW : Below w0.heap.size w0 W) => rlist12_row (hat.below hW).in hF'.out eM ez
      have eU : usH h - usH A = WA := by omega
      have hnone : drH A = 0 := S.none
      have hbound : 0 < h.m ∧ h.m ≤ 16 ∧ h.n ≤ 512 := by have := form_iff.1 hF; omega
      obtain ⟨m0, m1, n1⟩ := hbound
      clear hF h2 h3 hwf hck S eM ez hk10 hzm hzs hsum
      go_enter Tryd.func3, Tryd.ntmps3
      go_upto_region 1 with fail
      rw [← hw0]
      clear hw0
      go_upto_region 4 with (first
    | (go_at_call 7; refine Calls.mono (awake12_any _ (hS.below (by go_grown)) (hT.below (by go_grown))) ?_; rintro e w' ⟨rfl, hb⟩; obtain ⟨hc, hf, hb, hz⟩ := bstep hb (w := w0) (by go_grown); try simp only [World.size_alloc, World.size_setCell, World.size_drew] at hc hf hz)
    | (go_at_call 8; refine Calls.mono (hCk _ (by go_grown)) ?_; rintro e w' ⟨rfl, hb⟩; obtain ⟨hc, hf, hb, hz⟩ := bstep hb (w := w0) (by go_grown); try simp only [World.size_alloc, World.size_setCell, World.size_drew] at hc hf hz)
    | (go_at_call 9; refine Calls.mono (hFe _) ?_; rintro e w' ⟨rfl, hb⟩; obtain ⟨hc, hf, hb, hz⟩ := bstep hb (w := w0) (by go_grown); try simp only [World.size_alloc, World.size_setCell, World.size_drew] at hc hf hz)
    | (go_at_call 10; refine Calls.mono (hAl _ (by go_grown)) ?_; rintro e w' ⟨p1, c1, q1, d1, rfl, hh1, hb⟩; obtain ⟨hc, hf, hb, hz⟩ := bstep hb (w := w0) (by go_grown); try simp only [World.size_alloc, World.size_setCell, World.size_drew] at hc hf hz)
      )
      obtain ⟨w4, hw4⟩ : ∃ W, W = w'.alloc (.cells #[.slice p1 h.n c1, .slice q1 h.m d1, .bool h.b] 25) := ⟨_, rfl⟩
      have hB4 : Below w'.heap.size w' w4 := by rw [hw4]; exact (Below.refl _ _).alloc (Nat.le_refl _) _
      have gA : Box3 w'.heap.size (.slice p1 h.n c1) (.slice q1 h.m d1) (.bool h.b) w4 := by rw [hw4]; exact Box3.new _ _ _ _ _
      have hb4 := bjoin hB4 hb
      replace hh1 := hh1.below hB4
      replace g3 := g3.below hb4
      replace hat := hat.below hb4
      have hLi4 := fun W (hW : Below w4.heap.size w4 W) => hLi W (bjoin hW hb4)
      have hbW := bjoin hb4 hB0
      rw [← hw4]
      clear hw4 hB4 hb4 hb hc hf hz x0 x1 x2 l3 hAl hCk hFe hLi hS hT hin
      generalize w'.heap.size = BA at *
      have cF := fun W (hW : Below w4.heap.size w4 W) => rform_in (hh1.below hW)
      have cD := fun W (hW : Below w4.heap.size w4 W) => rdirty_in (hh1.below hW)
      have hUs : ∀ W p c q d G uu, HpIn W p h.n c q h.m d h.b G → formB G = true → usH G = uu → Calls Tryd.prog 13 #[.agg #[.slice p h.n c, .slice q h.m d, .bool h.b]] W fun e w' => e = .returned (.int .i64 uu) ∧ Below W.heap.size W w' := fun W p c q d G uu hh hf he => by rw [← he]; exact rused_in hh hf
      simp only [hAF.out] at cF
      rw [hnone] at cD
      obtain ⟨U, eU1⟩ : ∃ U, usH h = U := ⟨_, rfl⟩
      obtain ⟨V, eU2⟩ : ∃ V, usH A = V := ⟨_, rfl⟩
      rw [eU1] at eU u0 u1
      rw [eU2] at eU v0 v1
      clear hnone
      refine wp_late (ds := [some 36, some 37, some 38, some 39, some 40, some 41, some 42, some 43, some 44, some 45, some 46, some 47, some 48, some 49, some 50, some 51, some 52]) (ts := [36, 37, 38, 39, 40, 41, 42, 43, 44, 45, 46, 47, 48, 49, 50, 51, 52]) (pv := [(fun v _ => v = .agg #[.slice p1 h.n c1, .slice q1 h.m d1, .bool h.b]), (fun v _ => v = .bool true), (fun v _ => v = .bool false), (fun v _ => v = .bool false), (fun v _ => v = .agg #[.slice p1 h.n c1, .slice q1 h.m d1, .bool h.b]), (fun v _ => v = .int .i64 0), (fun v _ => v = .bool false), (fun v _ => v = .bool false), (fun v _ => v = .bool false), (fun v _ => v = .agg #[.slice p h.n c, .slice (some ⟨bs, os, none⟩) h.m d, .bool h.b]), (fun v _ => v = .int .i64 U), (fun v _ => v = .agg #[.slice p1 h.n c1, .slice q1 h.m d1, .bool h.b]), (fun v _ => v = .int .i64 V), (fun v _ => v = .int .i64 WA), (fun v _ => v = .int .i64 WA), (fun v _ => v = .bool false), (fun v _ => v = .bool false)]) (skip := fun i => ([] : List Nat).contains i) (ia := 1000) (is := 1000) (k := 53) (Shape := (fun _ _ => True)) (Full := (fun _ _ => True)) (by kernel_rfl) (by kernel_rfl) rfl rfl (by decide) (by decide) (by simp) ?_ (by decide) (fun _ _ _ _ _ => trivial) (fun _ _ _ _ _ => trivial) ?_ ?_ ?_ ?_
      · exact .inl rfl
      · exact ⟨fun _ _ _ h _ => h, fun _ _ _ h _ => h, fun _ _ _ h _ => h, fun _ _ _ h _ => h, fun _ _ _ h _ => h, fun _ _ _ h _ => h, fun _ _ _ h _ => h, fun _ _ _ h _ => h, fun _ _ _ h _ => h, fun _ _ _ h _ => h, fun _ _ _ h _ => h, fun _ _ _ h _ => h, fun _ _ _ h _ => h, fun _ _ _ h _ => h, fun _ _ _ h _ => h, fun _ _ _ h _ => h, fun _ _ _ h _ => h, trivial⟩
      · exact ⟨rfl, rfl, rfl, rfl, ⟨rfl, ⟨_, rfl⟩, by decide, by decide, fun _ _ h => h⟩, ⟨rfl, ⟨_, rfl⟩, by decide, by decide, fun _ _ h => h⟩, ⟨rfl, ⟨_, rfl⟩, by decide, by decide, fun _ _ h => h⟩, rfl, rfl, ⟨rfl, ⟨_, rfl⟩, by decide, by decide, fun _ _ h => h⟩, ⟨rfl, ⟨_, rfl⟩, by decide, by decide, fun _ _ h => h⟩, ⟨rfl, ⟨_, rfl⟩, by decide, by decide, fun _ _ h => h⟩, ⟨rfl, ⟨_, rfl⟩, by decide, by decide, fun _ _ h => h⟩, ⟨rfl, ⟨_, rfl⟩, by decide, by decide, fun _ _ h => h⟩, ⟨rfl, ⟨_, rfl⟩, by decide, by decide, fun _ _ h => h⟩, ⟨rfl, ⟨_, rfl⟩, by decide, by decide, fun _ _ h => h⟩, rfl, trivial⟩
      · refine ⟨?_, ?_, ?_, ?_, ?_, ?_, ?_, ?_, ?_, ?_, ?_, ?_, ?_, ?_, ?_, ?_, ?_, trivial⟩
        · intro _ a' w' hb' hs hd hn Kc hK
          have f5 : a'.tmps[5]?.getD undef = .pointer (some ⟨BA, 0, none⟩) := (hs 5 (by decide)).trans rfl
          clear hs hd hn
          rw [if_neg (by decide), if_neg (by decide)] at hK
          obtain ⟨lA, x0, x1, x2, -, -, -⟩ := gA.below hb'
          obtain ⟨lB, y0, y1, y2, -, -, -⟩ := g3.below hb'
          have k1 := (hat.below hb').in
          have k2 := hh1.below hb'
          have k3 := hAF.out
          have k4 := hF'.out
          unfold Oper.wp
          go_simp
          try go_bits
          exact hK _ _ (Below.refl _ _) (by first | rfl | (show Value.int _ _ = Value.int _ _; go_num; done) | (simp [valOf, *]; done) | (simp [valOf]; omega))
        · intro _ a' w' hb' hs hd hn Kc hK
          have f36 : a'.tmps[36]?.getD undef = .agg #[.slice p1 h.n c1, .slice q1 h.m d1, .bool h.b] := hd 0 36 (by first | rfl | decide | simp [Region.binds]) rfl (by decide) (by decide) rfl
          clear hs hd hn
          rw [if_neg (by decide), if_neg (by decide)] at hK
          obtain ⟨lA, x0, x1, x2, -, -, -⟩ := gA.below hb'
          obtain ⟨lB, y0, y1, y2, -, -, -⟩ := g3.below hb'
          have k1 := (hat.below hb').in
          have k2 := hh1.below hb'
          have k3 := hAF.out
          have k4 := hF'.out
          unfold Oper.wp
          go_simp
          try go_bits
          refine Calls.mono (cF _ hb') ?_
          rintro e w'' ⟨rfl, hb2⟩
          exact hK _ _ hb2 rfl
        · intro _ a' w' hb' hs hd hn Kc hK
          have f37 : a'.tmps[37]?.getD undef = .bool true := hd 1 37 (by first | rfl | decide | simp [Region.binds]) rfl (by decide) (by decide) rfl
          clear hs hd hn
          rw [if_neg (by decide), if_neg (by decide)] at hK
          obtain ⟨lA, x0, x1, x2, -, -, -⟩ := gA.below hb'
          obtain ⟨lB, y0, y1, y2, -, -, -⟩ := g3.below hb'
          have k1 := (hat.below hb').in
          have k2 := hh1.below hb'
          have k3 := hAF.out
          have k4 := hF'.out
          unfold Oper.wp
          go_simp
          try go_bits
          exact hK _ _ (Below.refl _ _) (by first | rfl | (show Value.int _ _ = Value.int _ _; go_num; done) | (simp [valOf, *]; done) | (simp [valOf]; omega))
        · intro _ a' w' hb' hs hd hn Kc hK
          have f38 : a'.tmps[38]?.getD undef = .bool false := hd 2 38 (by first | rfl | decide | simp [Region.binds]) rfl (by decide) (by decide) rfl
          clear hs hd hn
          rw [if_neg (by decide), if_neg (by decide)] at hK
          obtain ⟨lA, x0, x1, x2, -, -, -⟩ := gA.below hb'
          obtain ⟨lB, y0, y1, y2, -, -, -⟩ := g3.below hb'
          have k1 := (hat.below hb').in
          have k2 := hh1.below hb'
          have k3 := hAF.out
          have k4 := hF'.out
          unfold Oper.wp
          go_simp
          try go_bits
          exact hK _ _ (Below.refl _ _) (by first | rfl | (show Value.int _ _ = Value.int _ _; go_num; done) | (simp [valOf, *]; done) | (simp [valOf]; omega))
        · intro _ a' w' hb' hs hd hn Kc hK
          have f5 : a'.tmps[5]?.getD undef = .pointer (some ⟨BA, 0, none⟩) := (hs 5 (by decide)).trans rfl
          clear hs hd hn
          rw [if_neg (by decide), if_neg (by decide)] at hK
          obtain ⟨lA, x0, x1, x2, -, -, -⟩ := gA.below hb'
          obtain ⟨lB, y0, y1, y2, -, -, -⟩ := g3.below hb'
          have k1 := (hat.below hb').in
          have k2 := hh1.below hb'
          have k3 := hAF.out
          have k4 := hF'.out
          unfold Oper.wp
          go_simp
          try go_bits
          exact hK _ _ (Below.refl _ _) (by first | rfl | (show Value.int _ _ = Value.int _ _; go_num; done) | (simp [valOf, *]; done) | (simp [valOf]; omega))
        · intro _ a' w' hb' hs hd hn Kc hK
          have f40 : a'.tmps[40]?.getD undef = .agg #[.slice p1 h.n c1, .slice q1 h.m d1, .bool h.b] := hd 4 40 (by first | rfl | decide | simp [Region.binds]) rfl (by decide) (by decide) rfl
          clear hs hd hn
          rw [if_neg (by decide), if_neg (by decide)] at hK
          obtain ⟨lA, x0, x1, x2, -, -, -⟩ := gA.below hb'
          obtain ⟨lB, y0, y1, y2, -, -, -⟩ := g3.below hb'
          have k1 := (hat.below hb').in
          have k2 := hh1.below hb'
          have k3 := hAF.out
          have k4 := hF'.out
          unfold Oper.wp
          go_simp
          try go_bits
          refine Calls.mono (cD _ hb') ?_
          rintro e w'' ⟨rfl, hb2⟩
          exact hK _ _ hb2 rfl
        · intro _ a' w' hb' hs hd hn Kc hK
          have f41 : a'.tmps[41]?.getD undef = .int .i64 0 := hd 5 41 (by first | rfl | decide | simp [Region.binds]) rfl (by decide) (by decide) rfl
          clear hs hd hn
          rw [if_neg (by decide), if_neg (by decide)] at hK
          obtain ⟨lA, x0, x1, x2, -, -, -⟩ := gA.below hb'
          obtain ⟨lB, y0, y1, y2, -, -, -⟩ := g3.below hb'
          have k1 := (hat.below hb').in
          have k2 := hh1.below hb'
          have k3 := hAF.out
          have k4 := hF'.out
          unfold Oper.wp
          go_simp
          try go_bits
          exact hK _ _ (Below.refl _ _) (by first | rfl | (show Value.int _ _ = Value.int _ _; go_num; done) | (simp [valOf, *]; done) | (simp [valOf]; omega))
        · intro _ a' w' hb' hs hd hn Kc hK
          have f39 : a'.tmps[39]?.getD undef = .bool false := hd 3 39 (by first | rfl | decide | simp [Region.binds]) rfl (by decide) (by decide) rfl
          have f42 : a'.tmps[42]?.getD undef = .bool false := hd 6 42 (by first | rfl | decide | simp [Region.binds]) rfl (by decide) (by decide) rfl
          clear hs hd hn
          rw [if_neg (by decide), if_neg (by decide)] at hK
          obtain ⟨lA, x0, x1, x2, -, -, -⟩ := gA.below hb'
          obtain ⟨lB, y0, y1, y2, -, -, -⟩ := g3.below hb'
          have k1 := (hat.below hb').in
          have k2 := hh1.below hb'
          have k3 := hAF.out
          have k4 := hF'.out
          unfold Oper.wp
          go_simp
          try go_bits
          exact hK _ _ (Below.refl _ _) (by first | rfl | (show Value.int _ _ = Value.int _ _; go_num; done) | (simp [valOf, *]; done) | (simp [valOf]; omega))
        · intro _ a' w' hb' hs hd hn Kc hK
          have f43 : a'.tmps[43]?.getD undef = .bool false := hd 7 43 (by first | rfl | decide | simp [Region.binds]) rfl (by decide) (by decide) rfl
          clear hs hd hn
          rw [if_neg (by decide), if_neg (by decide)] at hK
          obtain ⟨lA, x0, x1, x2, -, -, -⟩ := gA.below hb'
          obtain ⟨lB, y0, y1, y2, -, -, -⟩ := g3.below hb'
          have k1 := (hat.below hb').in
          have k2 := hh1.below hb'
          have k3 := hAF.out
          have k4 := hF'.out
          unfold Oper.wp
          go_simp
          try go_bits
          exact hK _ _ (Below.refl _ _) (by first | rfl | (show Value.int _ _ = Value.int _ _; go_num; done) | (simp [valOf, *]; done) | (simp [valOf]; omega))
        · intro _ a' w' hb' hs hd hn Kc hK
          have f2 : a'.tmps[2]?.getD undef = .pointer (some ⟨w.heap.size, 0, none⟩) := (hs 2 (by decide)).trans rfl
          clear hs hd hn
          rw [if_neg (by decide), if_neg (by decide)] at hK
          obtain ⟨lA, x0, x1, x2, -, -, -⟩ := gA.below hb'
          obtain ⟨lB, y0, y1, y2, -, -, -⟩ := g3.below hb'
          have k1 := (hat.below hb').in
          have k2 := hh1.below hb'
          have k3 := hAF.out
          have k4 := hF'.out
          unfold Oper.wp
          go_simp
          try go_bits
          exact hK _ _ (Below.refl _ _) (by first | rfl | (show Value.int _ _ = Value.int _ _; go_num; done) | (simp [valOf, *]; done) | (simp [valOf]; omega))
        · intro _ a' w' hb' hs hd hn Kc hK
          have f45 : a'.tmps[45]?.getD undef = .agg #[.slice p h.n c, .slice (some ⟨bs, os, none⟩) h.m d, .bool h.b] := hd 9 45 (by first | rfl | decide | simp [Region.binds]) rfl (by decide) (by decide) rfl
          clear hs hd hn
          rw [if_neg (by decide), if_neg (by decide)] at hK
          obtain ⟨lA, x0, x1, x2, -, -, -⟩ := gA.below hb'
          obtain ⟨lB, y0, y1, y2, -, -, -⟩ := g3.below hb'
          have k1 := (hat.below hb').in
          have k2 := hh1.below hb'
          have k3 := hAF.out
          have k4 := hF'.out
          unfold Oper.wp
          go_simp
          try go_bits
          refine Calls.mono (hUs _ _ _ _ _ _ _ (by assumption) (by assumption) (by assumption)) ?_
          rintro e w'' ⟨rfl, hb2⟩
          exact hK _ _ hb2 rfl
        · intro _ a' w' hb' hs hd hn Kc hK
          have f5 : a'.tmps[5]?.getD undef = .pointer (some ⟨BA, 0, none⟩) := (hs 5 (by decide)).trans rfl
          clear hs hd hn
          rw [if_neg (by decide), if_neg (by decide)] at hK
          obtain ⟨lA, x0, x1, x2, -, -, -⟩ := gA.below hb'
          obtain ⟨lB, y0, y1, y2, -, -, -⟩ := g3.below hb'
          have k1 := (hat.below hb').in
          have k2 := hh1.below hb'
          have k3 := hAF.out
          have k4 := hF'.out
          unfold Oper.wp
          go_simp
          try go_bits
          exact hK _ _ (Below.refl _ _) (by first | rfl | (show Value.int _ _ = Value.int _ _; go_num; done) | (simp [valOf, *]; done) | (simp [valOf]; omega))
        · intro _ a' w' hb' hs hd hn Kc hK
          have f47 : a'.tmps[47]?.getD undef = .agg #[.slice p1 h.n c1, .slice q1 h.m d1, .bool h.b] := hd 11 47 (by first | rfl | decide | simp [Region.binds]) rfl (by decide) (by decide) rfl
          clear hs hd hn
          rw [if_neg (by decide), if_neg (by decide)] at hK
          obtain ⟨lA, x0, x1, x2, -, -, -⟩ := gA.below hb'
          obtain ⟨lB, y0, y1, y2, -, -, -⟩ := g3.below hb'
          have k1 := (hat.below hb').in
          have k2 := hh1.below hb'
          have k3 := hAF.out
          have k4 := hF'.out
          unfold Oper.wp
          go_simp
          try go_bits
          refine Calls.mono (hUs _ _ _ _ _ _ _ (by assumption) (by assumption) (by assumption)) ?_
          rintro e w'' ⟨rfl, hb2⟩
          exact hK _ _ hb2 rfl
        · intro _ a' w' hb' hs hd hn Kc hK
          have f46 : a'.tmps[46]?.getD undef = .int .i64 U := hd 10 46 (by first | rfl | decide | simp [Region.binds]) rfl (by decide) (by decide) rfl
          have f48 : a'.tmps[48]?.getD undef = .int .i64 V := hd 12 48 (by first | rfl | decide | simp [Region.binds]) rfl (by decide) (by decide) rfl
          clear hs hd hn
          rw [if_neg (by decide), if_neg (by decide)] at hK
          obtain ⟨lA, x0, x1, x2, -, -, -⟩ := gA.below hb'
          obtain ⟨lB, y0, y1, y2, -, -, -⟩ := g3.below hb'
          have k1 := (hat.below hb').in
          have k2 := hh1.below hb'
          have k3 := hAF.out
          have k4 := hF'.out
          unfold Oper.wp
          go_simp
          try go_bits
          exact hK _ _ (Below.refl _ _) (by first | rfl | (show Value.int _ _ = Value.int _ _; go_num; done) | (simp [valOf, *]; done) | (simp [valOf]; omega))
        · intro _ a' w' hb' hs hd hn Kc hK
          have f6 : a'.tmps[6]?.getD undef = .int .i64 WA := (hs 6 (by decide)).trans rfl
          clear hs hd hn
          rw [if_neg (by decide), if_neg (by decide)] at hK
          obtain ⟨lA, x0, x1, x2, -, -, -⟩ := gA.below hb'
          obtain ⟨lB, y0, y1, y2, -, -, -⟩ := g3.below hb'
          have k1 := (hat.below hb').in
          have k2 := hh1.below hb'
          have k3 := hAF.out
          have k4 := hF'.out
          unfold Oper.wp
          go_simp
          try go_bits
          exact hK _ _ (Below.refl _ _) (by first | rfl | (show Value.int _ _ = Value.int _ _; go_num; done) | (simp [valOf, *]; done) | (simp [valOf]; omega))
        · intro _ a' w' hb' hs hd hn Kc hK
          have f49 : a'.tmps[49]?.getD undef = .int .i64 WA := hd 13 49 (by first | rfl | decide | simp [Region.binds]) rfl (by decide) (by decide) rfl
          have f50 : a'.tmps[50]?.getD undef = .int .i64 WA := hd 14 50 (by first | rfl | decide | simp [Region.binds]) rfl (by decide) (by decide) rfl
          clear hs hd hn
          rw [if_neg (by decide), if_neg (by decide)] at hK
          obtain ⟨lA, x0, x1, x2, -, -, -⟩ := gA.below hb'
          obtain ⟨lB, y0, y1, y2, -, -, -⟩ := g3.below hb'
          have k1 := (hat.below hb').in
          have k2 := hh1.below hb'
          have k3 := hAF.out
          have k4 := hF'.out
          unfold Oper.wp
          go_simp
          try go_bits
          exact hK _ _ (Below.refl _ _) (by first | rfl | (show Value.int _ _ = Value.int _ _; go_num; done) | (simp [valOf, *]; done) | (simp [valOf]; omega))
        · intro _ a' w' hb' hs hd hn Kc hK
          have f44 : a'.tmps[44]?.getD undef = .bool false := hd 8 44 (by first | rfl | decide | simp [Region.binds]) rfl (by decide) (by decide) rfl
          have f51 : a'.tmps[51]?.getD undef = .bool false := hd 15 51 (by first | rfl | decide | simp [Region.binds]) rfl (by decide) (by decide) rfl
          clear hs hd hn
          rw [if_neg (by decide), if_neg (by decide)] at hK
          obtain ⟨lA, x0, x1, x2, -, -, -⟩ := gA.below hb'
          obtain ⟨lB, y0, y1, y2, -, -, -⟩ := g3.below hb'
          have k1 := (hat.below hb').in
          have k2 := hh1.below hb'
          have k3 := hAF.out
          have k4 := hF'.out
          unfold Oper.wp
          go_simp
          try go_bits
          exact hK _ _ (Below.refl _ _) (by first | rfl | (show Value.int _ _ = Value.int _ _; go_num; done) | (simp [valOf, *]; done) | (simp [valOf]; omega))
      intro Xf g w' hX hb hv
      have q52 : Xf 52 = .bool false := hv 16 52 rfl rfl (by decide) (by decide)
      clear hX hv
      simp only [List.map_cons, List.map_nil, q52, puts, Act.put, Nat.reduceAdd, List.setIfInBounds_toArray, List.set_cons_succ, List.set_cons_zero]
      replace hh1 := hh1.below hb
      replace gA := gA.below hb
      replace g3 := g3.below hb
      replace hat := hat.below hb
      have hLi5 := hLi4 _ hb
      replace hbW := bjoin hb hbW
      clear hb cF cD hUs hLi4 eU u0 u1 v0 v1 eU1 eU2
      generalize w' = w5 at *
      obtain ⟨l3, x0, x1, x2, -, -, -⟩ := id g3
      go_upto_region 7 with (first
    | (go_at_call 14; refine Calls.mono (hLi5) ?_; rintro e w' ⟨pl, cl, rfl, hI, hb⟩; obtain ⟨hc, hf, hb, hz⟩ := bstep hb (w := w5) (by go_grown); try simp only [World.size_alloc, World.size_setCell, World.size_drew] at hc hf hz)
      )
      replace hh1 := hh1.below hb
      replace gA := gA.below hb
      replace g3 := g3.below hb
      replace hat := hat.below hb
      replace hbW := bjoin hb hbW
      clear hb hc hf hz x0 x1 x2 l3 hLi5
      generalize w' = w6 at *
      go_wp2
      go_loopg [8, 9] M (fun gg cv iv wr => ∃ (t : Nat) (CL : Bool), t ≤ M ∧ gg = M - t ∧ iv = .int .i64 t ∧ cv = .bool CL ∧ (CL = true → ∀ j, j < t → obB A (z j) = true → ∀ r ∈ rfH h (z j), blB h r = true) ∧ Below w6.heap.size w6 wr)
      case atStart => exact ⟨0, true, by omega, by omega, rfl, rfl, fun _ j hj => absurd hj (Nat.not_lt_zero _), Below.refl _ _⟩
      case round =>
        obtain ⟨t, CL, th, rfl, rfl, rfl, hcl, hbw⟩ := hrel
        by_cases ht : t < M
        · obtain ⟨⟨bl, ol, rfl, ll, v0⟩, -⟩ := (hI.below hbw) t ht
          obtain ⟨hob, hoh, zz0, zz1, zz2⟩ := hstay.out t ht
          obtain ⟨X, eX⟩ : ∃ X, z t = X := ⟨_, rfl⟩
          have hcn : Hid (∀ CL2 : Bool, (CL2 = true → CL = true ∧ (obB A X = true → ∀ r ∈ rfH h X, blB h r = true)) → (CL2 = true → ∀ j, j < t + 1 → obB A (z j) = true → ∀ r ∈ rfH h (z j), blB h r = true)) := fun CL2 H e j hj => by
            obtain ⟨H1, H2⟩ := H e
            by_cases ej : j = t
            · subst ej; rw [eX]; exact H2
            · exact hcl H1 j (by omega)
          rw [eX] at v0 hob hoh zz0 zz1 zz2
          obtain ⟨P, eP⟩ : ∃ P : Nat, (P : Int) = X / 32 := ⟨(X / 32).toNat, by omega⟩
          have hPm : P < h.m := by omega
          have hsm := hsame.out X hoh
          rw [← eP, spH_nat] at hob
          obtain ⟨R, yy, eM, ey, hRl, -, hys⟩ := refs_all hF'.out X
          replace eM : Hid (_ = _) := eM
          replace ey : Hid (_ = _) := ey
          obtain ⟨C, eC⟩ : ∃ C, obC h X = C := ⟨_, rfl⟩
          obtain ⟨K, eK⟩ : ∃ K, obK h X = K := ⟨_, rfl⟩
          obtain ⟨N, eN⟩ : ∃ N, obN h X = N := ⟨_, rfl⟩
          obtain ⟨C2, eC2⟩ : ∃ C, obC A X = C := ⟨_, rfl⟩
          obtain ⟨K2, eK2⟩ : ∃ K, obK A X = K := ⟨_, rfl⟩
          obtain ⟨N2, eN2⟩ : ∃ N, obN A X = N := ⟨_, rfl⟩
          obtain ⟨s, es⟩ : ∃ s, obB A X = s := ⟨_, rfl⟩
          obtain ⟨B, eB⟩ : ∃ B, blB h X = B := ⟨_, rfl⟩
          obtain ⟨T, eT⟩ : ∃ T, (h.s P).st = T := ⟨_, rfl⟩
          rw [eC, eK, eN, eC2, eK2, eN2, es] at hsm
          rw [es, eB, eT] at hob
          have eT' : Hid ((h.s P).st = T) := eT
          have cG : ∀ W, Below w6.heap.size w6 W → Calls Tryd.prog 15 #[.agg #[.slice p h.n c, .slice (some ⟨bs, os, none⟩) h.m d, .bool h.b], .int .i64 X] W fun e w' => e = .returned (.tuple #[.agg #[.bool true, .bool C, .int .i64 K, .int .i64 N], .bool true]) ∧ Below W.heap.size W w' := fun W hW => by
            have := rget12_in (a := X) (hat.below hW).in hF'.out
            rw [hoh, eC, eK, eN] at this
            exact this
          have cG2 : ∀ W, Below w6.heap.size w6 W → Calls Tryd.prog 15 #[.agg #[.slice p1 h.n c1, .slice q1 h.m d1, .bool h.b], .int .i64 X] W fun e w' => e = .returned (.tuple #[.agg #[.bool s, .bool C2, .int .i64 K2, .int .i64 N2], .bool s]) ∧ Below W.heap.size W w' := fun W hW => by
            have := rget12_in (a := X) (hh1.below hW) hAF.out
            rw [es, eC2, eK2, eN2] at this
            exact this
          have cB : ∀ W, Below w6.heap.size w6 W → Calls Tryd.prog 16 #[.agg #[.slice p h.n c, .slice (some ⟨bs, os, none⟩) h.m d, .bool h.b], .int .i64 X] W fun e w' => e = .returned (.bool B) ∧ Below W.heap.size W w' := fun W hW => by
            have := rblack12_in (a := X) (hat.below hW).in hF'.out
            rw [eB] at this
            exact this
          have cBy := fun (j : Nat) W (hW : Below w6.heap.size w6 W) => rblack12_in (a := yy j) (hat.below hW).in hF'.out
          have cR : ∀ W p c q d G, HpIn W p h.n c q h.m d h.b G → formB G = true → rfH G X = rfH h X → Calls Tryd.prog 18 #[.agg #[.slice p h.n c, .slice q h.m d, .bool h.b], .int .i64 X] W fun e w' => ∃ pm cm, e = .returned (.slice pm R cm) ∧ Ints .i64 w' pm R yy ∧ Below W.heap.size W w' := fun W p c q d G hh hf he => rrefs12_row hh hf (by rw [he]; exact eM.out) (by rw [he]; exact ey.out)
          have hI2 : ∀ W p p' c c', Ints .i64 W p R yy → Ints .i64 W p' R yy → Calls Tryd.prog 17 #[.slice p R c, .slice p' R c'] W fun e w' => e = .returned (.bool true) ∧ Below W.heap.size W w' := fun W p p' c c' h1 h2 => by
            have := rints8_any p p' R c R c' yy yy W h1 h2 (by simp only [maxLen]; omega) (by simp only [maxLen]; omega)
            rw [show sameZ R yy R yy = true by simp [sameZ]] at this
            exact this
          have es' : Hid (obB A X = s) := es
          have gA0 := gA.below hbw
          have g30 := g3.below hbw
          have ll0 := ll
          replace hcl : Hid (_ : Prop) := hcl
          clear eX hoh zz1 zz2 eC eK eN eC2 eK2 eN2 es eB eT hcl
          have dq : IntKind.i64.wrap (X.tdiv 32) = (P : Int) := by rw [Int.tdiv_eq_ediv_of_nonneg zz0, IntKind.wrap_i64]; omega
          clear zz0
          replace eP : Hid (_ = _) := eP
          replace hob : Hid (_ = _) := hob
          have hbR : Below w6.heap.size w6 wr := hbw
          have hb0 : Below wr.heap.size wr wr := Below.refl _ _
          go_upto_region 11 with fail
          refine wp_late (ds := [some 62, some 63, some 64, some 65, some 66, some 67, some 61, some 68, some 69, some 10, none, some 11]) (ts := [62, 63, 64, 65, 66, 67, 61, 68, 69, 10, 11]) (pv := [(fun v _ => v = .agg #[.slice p h.n c, .slice (some ⟨bs, os, none⟩) h.m d, .bool h.b]), (fun v _ => v = .slice (some ⟨bl, ol, none⟩) M cl), (fun v _ => v = .int .i64 t), (fun v _ => v = .pointer (some ⟨bl, ol + t, none⟩)), (fun v _ => v = .int .i64 X), (fun v _ => v = .tuple #[.agg #[.bool true, .bool C, .int .i64 K, .int .i64 N], .bool true]), (fun v _ => v = .tuple #[.agg #[.bool true, .bool C, .int .i64 K, .int .i64 N], .bool true]), (fun v _ => v = .agg #[.bool true, .bool C, .int .i64 K, .int .i64 N]), (fun v _ => v = .bool true), (fun _ _ => True), (fun _ _ => True), (fun v _ => v = .bool true)]) (skip := fun i => ([] : List Nat).contains i) (ia := 9) (is := 10) (k := 70) (Shape := Shape4) (Full := (fun g w => Box4 g (.bool true) (.bool C) (.int .i64 K) (.int .i64 N) w)) (by kernel_rfl) (by kernel_rfl) rfl rfl (by decide) (by decide) (by simp) ?_ (by decide) shape4_below (fun _ _ _ h hb => h.below hb) ?_ ?_ ?_ ?_
          · exact .inr ⟨⟨_, rfl⟩, rfl, _, rfl, (by first | rfl | decide | simp [Region.binds]), by decide, rfl⟩
          · exact ⟨fun _ _ _ h _ => h, fun _ _ _ h _ => h, fun _ _ _ h _ => h, fun _ _ _ h _ => h, fun _ _ _ h _ => h, fun _ _ _ h _ => h, fun _ _ _ h _ => h, fun _ _ _ h _ => h, fun _ _ _ h _ => h, fun _ _ _ h _ => h, fun _ _ _ h _ => h, fun _ _ _ h _ => h, trivial⟩
          · exact ⟨rfl, rfl, rfl, rfl, rfl, rfl, rfl, rfl, rfl, rfl, rfl, rfl, trivial⟩
          · refine ⟨?_, ?_, ?_, ?_, ?_, ?_, ?_, ?_, ?_, ?_, ?_, ?_, trivial⟩
            · intro _ a' w' hb' hs hd hn Kc hK
              have f2 : a'.tmps[2]?.getD undef = .pointer (some ⟨w.heap.size, 0, none⟩) := (hs 2 (by decide)).trans rfl
              clear hs hd hn
              rw [if_neg (by decide), if_neg (by decide)] at hK
              have v17 : w'.cell? ⟨bl, ol + t, none⟩ = some (.int .i64 X) := (hb'.cell (p := ⟨bl, ol + t, none⟩) ll0).trans v0
              obtain ⟨lB, k0, k1, k2, -, -, -⟩ := g30.below hb'
              unfold Oper.wp
              go_simp
              try go_bits
              exact hK _ _ (Below.refl _ _) (by first | rfl | (show Value.int _ _ = Value.int _ _; go_num; done) | (simp [valOf, *]; done) | (simp [valOf]; omega))
            · intro _ a' w' hb' hs hd hn Kc hK
              have f7 : a'.tmps[7]?.getD undef = .slice (some ⟨bl, ol, none⟩) M cl := (hs 7 (by decide)).trans rfl
              clear hs hd hn
              rw [if_neg (by decide), if_neg (by decide)] at hK
              have v17 : w'.cell? ⟨bl, ol + t, none⟩ = some (.int .i64 X) := (hb'.cell (p := ⟨bl, ol + t, none⟩) ll0).trans v0
              obtain ⟨lB, k0, k1, k2, -, -, -⟩ := g30.below hb'
              unfold Oper.wp
              go_simp
              try go_bits
              exact hK _ _ (Below.refl _ _) (by first | rfl | (show Value.int _ _ = Value.int _ _; go_num; done) | (simp [valOf, *]; done) | (simp [valOf]; omega))
            · intro _ a' w' hb' hs hd hn Kc hK
              have f9 : a'.tmps[9]?.getD undef = .int .i64 t := (hs 9 (by decide)).trans rfl
              clear hs hd hn
              rw [if_neg (by decide), if_neg (by decide)] at hK
              have v17 : w'.cell? ⟨bl, ol + t, none⟩ = some (.int .i64 X) := (hb'.cell (p := ⟨bl, ol + t, none⟩) ll0).trans v0
              obtain ⟨lB, k0, k1, k2, -, -, -⟩ := g30.below hb'
              unfold Oper.wp
              go_simp
              try go_bits
              exact hK _ _ (Below.refl _ _) (by first | rfl | (show Value.int _ _ = Value.int _ _; go_num; done) | (simp [valOf, *]; done) | (simp [valOf]; omega))
            · intro _ a' w' hb' hs hd hn Kc hK
              have f63 : a'.tmps[63]?.getD undef = .slice (some ⟨bl, ol, none⟩) M cl := hd 1 63 (by first | rfl | decide | simp [Region.binds]) rfl (by decide) (by decide) rfl
              have f64 : a'.tmps[64]?.getD undef = .int .i64 t := hd 2 64 (by first | rfl | decide | simp [Region.binds]) rfl (by decide) (by decide) rfl
              clear hs hd hn
              rw [if_neg (by decide), if_neg (by decide)] at hK
              have v17 : w'.cell? ⟨bl, ol + t, none⟩ = some (.int .i64 X) := (hb'.cell (p := ⟨bl, ol + t, none⟩) ll0).trans v0
              obtain ⟨lB, k0, k1, k2, -, -, -⟩ := g30.below hb'
              unfold Oper.wp
              go_simp
              try go_bits
              exact hK _ _ (Below.refl _ _) (by first | rfl | (show Value.int _ _ = Value.int _ _; go_num; done) | (simp [valOf, *]; done) | (simp [valOf]; omega))
            · intro _ a' w' hb' hs hd hn Kc hK
              have f65 : a'.tmps[65]?.getD undef = .pointer (some ⟨bl, ol + t, none⟩) := hd 3 65 (by first | rfl | decide | simp [Region.binds]) rfl (by decide) (by decide) rfl
              clear hs hd hn
              rw [if_neg (by decide), if_neg (by decide)] at hK
              have v17 : w'.cell? ⟨bl, ol + t, none⟩ = some (.int .i64 X) := (hb'.cell (p := ⟨bl, ol + t, none⟩) ll0).trans v0
              obtain ⟨lB, k0, k1, k2, -, -, -⟩ := g30.below hb'
              unfold Oper.wp
              go_simp
              try go_bits
              exact hK _ _ (Below.refl _ _) (by first | rfl | (show Value.int _ _ = Value.int _ _; go_num; done) | (simp [valOf, *]; done) | (simp [valOf]; omega))
            · intro _ a' w' hb' hs hd hn Kc hK
              have f62 : a'.tmps[62]?.getD undef = .agg #[.slice p h.n c, .slice (some ⟨bs, os, none⟩) h.m d, .bool h.b] := hd 0 62 (by first | rfl | decide | simp [Region.binds]) rfl (by decide) (by decide) rfl
              have f66 : a'.tmps[66]?.getD undef = .int .i64 X := hd 4 66 (by first | rfl | decide | simp [Region.binds]) rfl (by decide) (by decide) rfl
              clear hs hd hn
              rw [if_neg (by decide), if_neg (by decide)] at hK
              have v17 : w'.cell? ⟨bl, ol + t, none⟩ = some (.int .i64 X) := (hb'.cell (p := ⟨bl, ol + t, none⟩) ll0).trans v0
              obtain ⟨lB, k0, k1, k2, -, -, -⟩ := g30.below hb'
              unfold Oper.wp
              go_simp
              try go_bits
              refine Calls.mono (cG _ (bjoin hb' (bjoin hb0 hbR))) ?_
              rintro e w'' ⟨rfl, hb2⟩
              exact hK _ _ hb2 rfl
            · intro _ a' w' hb' hs hd hn Kc hK
              have f67 : a'.tmps[67]?.getD undef = .tuple #[.agg #[.bool true, .bool C, .int .i64 K, .int .i64 N], .bool true] := hd 5 67 (by first | rfl | decide | simp [Region.binds]) rfl (by decide) (by decide) rfl
              clear hs hd hn
              rw [if_neg (by decide), if_neg (by decide)] at hK
              have v17 : w'.cell? ⟨bl, ol + t, none⟩ = some (.int .i64 X) := (hb'.cell (p := ⟨bl, ol + t, none⟩) ll0).trans v0
              obtain ⟨lB, k0, k1, k2, -, -, -⟩ := g30.below hb'
              unfold Oper.wp
              go_simp
              try go_bits
              exact hK _ _ (Below.refl _ _) (by first | rfl | (show Value.int _ _ = Value.int _ _; go_num; done) | (simp [valOf, *]; done) | (simp [valOf]; omega))
            · intro _ a' w' hb' hs hd hn Kc hK
              have f61 : a'.tmps[61]?.getD undef = .tuple #[.agg #[.bool true, .bool C, .int .i64 K, .int .i64 N], .bool true] := hd 6 61 (by first | rfl | decide | simp [Region.binds]) rfl (by decide) (by decide) rfl
              clear hs hd hn
              rw [if_neg (by decide), if_neg (by decide)] at hK
              have v17 : w'.cell? ⟨bl, ol + t, none⟩ = some (.int .i64 X) := (hb'.cell (p := ⟨bl, ol + t, none⟩) ll0).trans v0
              obtain ⟨lB, k0, k1, k2, -, -, -⟩ := g30.below hb'
              unfold Oper.wp
              go_simp
              try go_bits
              exact hK _ _ (Below.refl _ _) (by first | rfl | (show Value.int _ _ = Value.int _ _; go_num; done) | (simp [valOf, *]; done) | (simp [valOf]; omega))
            · intro _ a' w' hb' hs hd hn Kc hK
              have f61 : a'.tmps[61]?.getD undef = .tuple #[.agg #[.bool true, .bool C, .int .i64 K, .int .i64 N], .bool true] := hd 6 61 (by first | rfl | decide | simp [Region.binds]) rfl (by decide) (by decide) rfl
              clear hs hd hn
              rw [if_neg (by decide), if_neg (by decide)] at hK
              have v17 : w'.cell? ⟨bl, ol + t, none⟩ = some (.int .i64 X) := (hb'.cell (p := ⟨bl, ol + t, none⟩) ll0).trans v0
              obtain ⟨lB, k0, k1, k2, -, -, -⟩ := g30.below hb'
              unfold Oper.wp
              go_simp
              try go_bits
              exact hK _ _ (Below.refl _ _) (by first | rfl | (show Value.int _ _ = Value.int _ _; go_num; done) | (simp [valOf, *]; done) | (simp [valOf]; omega))
            · intro _ a' w' hb' hs hd hn Kc hK
              clear hs hd hn
              rw [if_pos rfl] at hK
              unfold Oper.wp
              go_simp
              exact hK _ _ ((Below.refl _ _).alloc (Nat.le_refl _) _) (Nat.le_refl _) ⟨_, _, _, _, Box4.new _ _ _ _ _ _⟩
            · intro _ a' w' hb' hs hd hn Kc hK
              obtain ⟨g, f10, hg, hsh⟩ := hn 10 (by first | rfl | decide | simp [Region.binds]) rfl rfl
              have f68 : a'.tmps[68]?.getD undef = .agg #[.bool true, .bool C, .int .i64 K, .int .i64 N] := hd 7 68 (by first | rfl | decide | simp [Region.binds]) rfl (by decide) (by decide) rfl
              obtain ⟨x0, x1, x2, x3, h3⟩ := id hsh
              rw [if_neg (by decide), if_pos rfl] at hK
              have hfin := hK g (.tuple #[]) (puts4 g (.bool true) (.bool C) (.int .i64 K) (.int .i64 N) w') (fun d hd => by obtain rfl : 10 = d := Option.some.inj (Option.some.inj hd); exact f10) (puts4_below hg _ _ _ _ w') hg (h3.put (.bool true) (.bool C) (.int .i64 K) (.int .i64 N)) (shape4_puts h3 (.bool true) (.bool C) (.int .i64 K) (.int .i64 N)) ⟨fun _ h => h, fun _ h => h, fun _ h => h, fun _ h => h, fun _ h => h, fun _ h => h, fun _ h => h, fun _ h => h, fun _ h => h, fun _ h => h, fun _ h => h, fun _ h => h, trivial⟩
              clear hs hd hn hK
              obtain ⟨h0, c0, c1, c2, c3, g0, g1, g2, g3⟩ := h3
              unfold puts4 at hfin
              unfold Oper.wp
              go_simp
              exact hfin
            · intro _ a' w' hb' hs hd hn Kc hK
              have f69 : a'.tmps[69]?.getD undef = .bool true := hd 8 69 (by first | rfl | decide | simp [Region.binds]) rfl (by decide) (by decide) rfl
              clear hs hd hn
              rw [if_neg (by decide), if_neg (by decide)] at hK
              have v17 : w'.cell? ⟨bl, ol + t, none⟩ = some (.int .i64 X) := (hb'.cell (p := ⟨bl, ol + t, none⟩) ll0).trans v0
              obtain ⟨lB, k0, k1, k2, -, -, -⟩ := g30.below hb'
              unfold Oper.wp
              go_simp
              try go_bits
              exact hK _ _ (Below.refl _ _) (by first | rfl | (show Value.int _ _ = Value.int _ _; go_num; done) | (simp [valOf, *]; done) | (simp [valOf]; omega))
          intro Xf g w' hX hb hv
          obtain ⟨hg, gX, hgp⟩ := hX (by decide)
          have q10 : Xf 10 = .pointer (some ⟨g, 0, none⟩) := hgp 10 rfl
          clear hX hv hgp
          simp only [List.map_cons, List.map_nil, q10, puts, Act.put, Nat.reduceAdd, List.setIfInBounds_toArray, List.set_cons_succ, List.set_cons_zero]
          have hb1 := bjoin hb hb0
          have gA1 := gA0.below hb
          have g31 := g30.below hb
          have ll1 : bl < w'.heap.size := Nat.lt_of_lt_of_le ll0 hb.size
          have v1 : w'.cell? ⟨bl, ol + t, none⟩ = some (.int .i64 X) := (hb.cell (p := ⟨bl, ol + t, none⟩) ll0).trans v0
          have gX1 := gX
          clear gX hg hb gA0 g30 ll0 v0 cG hb0
          generalize w' = w7 at *
          generalize g = gx at *
          go_upto_region 12 with fail
          refine wp_late (ds := [some 71, some 72, some 73, some 74, some 75, some 76, some 70, some 77, some 78, some 12, none, some 13]) (ts := [71, 72, 73, 74, 75, 76, 70, 77, 78, 12, 13]) (pv := [(fun v _ => v = .agg #[.slice p1 h.n c1, .slice q1 h.m d1, .bool h.b]), (fun v _ => v = .slice (some ⟨bl, ol, none⟩) M cl), (fun v _ => v = .int .i64 t), (fun v _ => v = .pointer (some ⟨bl, ol + t, none⟩)), (fun v _ => v = .int .i64 X), (fun v _ => v = .tuple #[.agg #[.bool s, .bool C2, .int .i64 K2, .int .i64 N2], .bool s]), (fun v _ => v = .tuple #[.agg #[.bool s, .bool C2, .int .i64 K2, .int .i64 N2], .bool s]), (fun v _ => v = .agg #[.bool s, .bool C2, .int .i64 K2, .int .i64 N2]), (fun v _ => v = .bool s), (fun _ _ => True), (fun _ _ => True), (fun v _ => v = .bool s)]) (skip := fun i => ([] : List Nat).contains i) (ia := 9) (is := 10) (k := 79) (Shape := Shape4) (Full := (fun g w => Box4 g (.bool s) (.bool C2) (.int .i64 K2) (.int .i64 N2) w)) (by kernel_rfl) (by kernel_rfl) rfl rfl (by decide) (by decide) (by simp) ?_ (by decide) shape4_below (fun _ _ _ h hb => h.below hb) ?_ ?_ ?_ ?_
          · exact .inr ⟨⟨_, rfl⟩, rfl, _, rfl, (by first | rfl | decide | simp [Region.binds]), by decide, rfl⟩
          · exact ⟨fun _ _ _ h _ => h, fun _ _ _ h _ => h, fun _ _ _ h _ => h, fun _ _ _ h _ => h, fun _ _ _ h _ => h, fun _ _ _ h _ => h, fun _ _ _ h _ => h, fun _ _ _ h _ => h, fun _ _ _ h _ => h, fun _ _ _ h _ => h, fun _ _ _ h _ => h, fun _ _ _ h _ => h, trivial⟩
          · exact ⟨rfl, rfl, rfl, rfl, rfl, rfl, rfl, rfl, rfl, rfl, rfl, rfl, trivial⟩
          · refine ⟨?_, ?_, ?_, ?_, ?_, ?_, ?_, ?_, ?_, ?_, ?_, ?_, trivial⟩
            · intro _ a' w' hb' hs hd hn Kc hK
              have f5 : a'.tmps[5]?.getD undef = .pointer (some ⟨BA, 0, none⟩) := (hs 5 (by decide)).trans rfl
              clear hs hd hn
              rw [if_neg (by decide), if_neg (by decide)] at hK
              have v17 : w'.cell? ⟨bl, ol + t, none⟩ = some (.int .i64 X) := (hb'.cell (p := ⟨bl, ol + t, none⟩) ll1).trans v1
              obtain ⟨lB, k0, k1, k2, -, -, -⟩ := gA1.below hb'
              unfold Oper.wp
              go_simp
              try go_bits
              exact hK _ _ (Below.refl _ _) (by first | rfl | (show Value.int _ _ = Value.int _ _; go_num; done) | (simp [valOf, *]; done) | (simp [valOf]; omega))
            · intro _ a' w' hb' hs hd hn Kc hK
              have f7 : a'.tmps[7]?.getD undef = .slice (some ⟨bl, ol, none⟩) M cl := (hs 7 (by decide)).trans rfl
              clear hs hd hn
              rw [if_neg (by decide), if_neg (by decide)] at hK
              have v17 : w'.cell? ⟨bl, ol + t, none⟩ = some (.int .i64 X) := (hb'.cell (p := ⟨bl, ol + t, none⟩) ll1).trans v1
              obtain ⟨lB, k0, k1, k2, -, -, -⟩ := gA1.below hb'
              unfold Oper.wp
              go_simp
              try go_bits
              exact hK _ _ (Below.refl _ _) (by first | rfl | (show Value.int _ _ = Value.int _ _; go_num; done) | (simp [valOf, *]; done) | (simp [valOf]; omega))
            · intro _ a' w' hb' hs hd hn Kc hK
              have f9 : a'.tmps[9]?.getD undef = .int .i64 t := (hs 9 (by decide)).trans rfl
              clear hs hd hn
              rw [if_neg (by decide), if_neg (by decide)] at hK
              have v17 : w'.cell? ⟨bl, ol + t, none⟩ = some (.int .i64 X) := (hb'.cell (p := ⟨bl, ol + t, none⟩) ll1).trans v1
              obtain ⟨lB, k0, k1, k2, -, -, -⟩ := gA1.below hb'
              unfold Oper.wp
              go_simp
              try go_bits
              exact hK _ _ (Below.refl _ _) (by first | rfl | (show Value.int _ _ = Value.int _ _; go_num; done) | (simp [valOf, *]; done) | (simp [valOf]; omega))
            · intro _ a' w' hb' hs hd hn Kc hK
              have f72 : a'.tmps[72]?.getD undef = .slice (some ⟨bl, ol, none⟩) M cl := hd 1 72 (by first | rfl | decide | simp [Region.binds]) rfl (by decide) (by decide) rfl
              have f73 : a'.tmps[73]?.getD undef = .int .i64 t := hd 2 73 (by first | rfl | decide | simp [Region.binds]) rfl (by decide) (by decide) rfl
              clear hs hd hn
              rw [if_neg (by decide), if_neg (by decide)] at hK
              have v17 : w'.cell? ⟨bl, ol + t, none⟩ = some (.int .i64 X) := (hb'.cell (p := ⟨bl, ol + t, none⟩) ll1).trans v1
              obtain ⟨lB, k0, k1, k2, -, -, -⟩ := gA1.below hb'
              unfold Oper.wp
              go_simp
              try go_bits
              exact hK _ _ (Below.refl _ _) (by first | rfl | (show Value.int _ _ = Value.int _ _; go_num; done) | (simp [valOf, *]; done) | (simp [valOf]; omega))
            · intro _ a' w' hb' hs hd hn Kc hK
              have f74 : a'.tmps[74]?.getD undef = .pointer (some ⟨bl, ol + t, none⟩) := hd 3 74 (by first | rfl | decide | simp [Region.binds]) rfl (by decide) (by decide) rfl
              clear hs hd hn
              rw [if_neg (by decide), if_neg (by decide)] at hK
              have v17 : w'.cell? ⟨bl, ol + t, none⟩ = some (.int .i64 X) := (hb'.cell (p := ⟨bl, ol + t, none⟩) ll1).trans v1
              obtain ⟨lB, k0, k1, k2, -, -, -⟩ := gA1.below hb'
              unfold Oper.wp
              go_simp
              try go_bits
              exact hK _ _ (Below.refl _ _) (by first | rfl | (show Value.int _ _ = Value.int _ _; go_num; done) | (simp [valOf, *]; done) | (simp [valOf]; omega))
            · intro _ a' w' hb' hs hd hn Kc hK
              have f71 : a'.tmps[71]?.getD undef = .agg #[.slice p1 h.n c1, .slice q1 h.m d1, .bool h.b] := hd 0 71 (by first | rfl | decide | simp [Region.binds]) rfl (by decide) (by decide) rfl
              have f75 : a'.tmps[75]?.getD undef = .int .i64 X := hd 4 75 (by first | rfl | decide | simp [Region.binds]) rfl (by decide) (by decide) rfl
              clear hs hd hn
              rw [if_neg (by decide), if_neg (by decide)] at hK
              have v17 : w'.cell? ⟨bl, ol + t, none⟩ = some (.int .i64 X) := (hb'.cell (p := ⟨bl, ol + t, none⟩) ll1).trans v1
              obtain ⟨lB, k0, k1, k2, -, -, -⟩ := gA1.below hb'
              unfold Oper.wp
              go_simp
              try go_bits
              refine Calls.mono (cG2 _ (bjoin hb' (bjoin hb1 hbR))) ?_
              rintro e w'' ⟨rfl, hb2⟩
              exact hK _ _ hb2 rfl
            · intro _ a' w' hb' hs hd hn Kc hK
              have f76 : a'.tmps[76]?.getD undef = .tuple #[.agg #[.bool s, .bool C2, .int .i64 K2, .int .i64 N2], .bool s] := hd 5 76 (by first | rfl | decide | simp [Region.binds]) rfl (by decide) (by decide) rfl
              clear hs hd hn
              rw [if_neg (by decide), if_neg (by decide)] at hK
              have v17 : w'.cell? ⟨bl, ol + t, none⟩ = some (.int .i64 X) := (hb'.cell (p := ⟨bl, ol + t, none⟩) ll1).trans v1
              obtain ⟨lB, k0, k1, k2, -, -, -⟩ := gA1.below hb'
              unfold Oper.wp
              go_simp
              try go_bits
              exact hK _ _ (Below.refl _ _) (by first | rfl | (show Value.int _ _ = Value.int _ _; go_num; done) | (simp [valOf, *]; done) | (simp [valOf]; omega))
            · intro _ a' w' hb' hs hd hn Kc hK
              have f70 : a'.tmps[70]?.getD undef = .tuple #[.agg #[.bool s, .bool C2, .int .i64 K2, .int .i64 N2], .bool s] := hd 6 70 (by first | rfl | decide | simp [Region.binds]) rfl (by decide) (by decide) rfl
              clear hs hd hn
              rw [if_neg (by decide), if_neg (by decide)] at hK
              have v17 : w'.cell? ⟨bl, ol + t, none⟩ = some (.int .i64 X) := (hb'.cell (p := ⟨bl, ol + t, none⟩) ll1).trans v1
              obtain ⟨lB, k0, k1, k2, -, -, -⟩ := gA1.below hb'
              unfold Oper.wp
              go_simp
              try go_bits
              exact hK _ _ (Below.refl _ _) (by first | rfl | (show Value.int _ _ = Value.int _ _; go_num; done) | (simp [valOf, *]; done) | (simp [valOf]; omega))
            · intro _ a' w' hb' hs hd hn Kc hK
              have f70 : a'.tmps[70]?.getD undef = .tuple #[.agg #[.bool s, .bool C2, .int .i64 K2, .int .i64 N2], .bool s] := hd 6 70 (by first | rfl | decide | simp [Region.binds]) rfl (by decide) (by decide) rfl
              clear hs hd hn
              rw [if_neg (by decide), if_neg (by decide)] at hK
              have v17 : w'.cell? ⟨bl, ol + t, none⟩ = some (.int .i64 X) := (hb'.cell (p := ⟨bl, ol + t, none⟩) ll1).trans v1
              obtain ⟨lB, k0, k1, k2, -, -, -⟩ := gA1.below hb'
              unfold Oper.wp
              go_simp
              try go_bits
              exact hK _ _ (Below.refl _ _) (by first | rfl | (show Value.int _ _ = Value.int _ _; go_num; done) | (simp [valOf, *]; done) | (simp [valOf]; omega))
            · intro _ a' w' hb' hs hd hn Kc hK
              clear hs hd hn
              rw [if_pos rfl] at hK
              unfold Oper.wp
              go_simp
              exact hK _ _ ((Below.refl _ _).alloc (Nat.le_refl _) _) (Nat.le_refl _) ⟨_, _, _, _, Box4.new _ _ _ _ _ _⟩
            · intro _ a' w' hb' hs hd hn Kc hK
              obtain ⟨g, f12, hg, hsh⟩ := hn 12 (by first | rfl | decide | simp [Region.binds]) rfl rfl
              have f77 : a'.tmps[77]?.getD undef = .agg #[.bool s, .bool C2, .int .i64 K2, .int .i64 N2] := hd 7 77 (by first | rfl | decide | simp [Region.binds]) rfl (by decide) (by decide) rfl
              obtain ⟨x0, x1, x2, x3, h3⟩ := id hsh
              rw [if_neg (by decide), if_pos rfl] at hK
              have hfin := hK g (.tuple #[]) (puts4 g (.bool s) (.bool C2) (.int .i64 K2) (.int .i64 N2) w') (fun d hd => by obtain rfl : 12 = d := Option.some.inj (Option.some.inj hd); exact f12) (puts4_below hg _ _ _ _ w') hg (h3.put (.bool s) (.bool C2) (.int .i64 K2) (.int .i64 N2)) (shape4_puts h3 (.bool s) (.bool C2) (.int .i64 K2) (.int .i64 N2)) ⟨fun _ h => h, fun _ h => h, fun _ h => h, fun _ h => h, fun _ h => h, fun _ h => h, fun _ h => h, fun _ h => h, fun _ h => h, fun _ h => h, fun _ h => h, fun _ h => h, trivial⟩
              clear hs hd hn hK
              obtain ⟨h0, c0, c1, c2, c3, g0, g1, g2, g3⟩ := h3
              unfold puts4 at hfin
              unfold Oper.wp
              go_simp
              exact hfin
            · intro _ a' w' hb' hs hd hn Kc hK
              have f78 : a'.tmps[78]?.getD undef = .bool s := hd 8 78 (by first | rfl | decide | simp [Region.binds]) rfl (by decide) (by decide) rfl
              clear hs hd hn
              rw [if_neg (by decide), if_neg (by decide)] at hK
              have v17 : w'.cell? ⟨bl, ol + t, none⟩ = some (.int .i64 X) := (hb'.cell (p := ⟨bl, ol + t, none⟩) ll1).trans v1
              obtain ⟨lB, k0, k1, k2, -, -, -⟩ := gA1.below hb'
              unfold Oper.wp
              go_simp
              try go_bits
              exact hK _ _ (Below.refl _ _) (by first | rfl | (show Value.int _ _ = Value.int _ _; go_num; done) | (simp [valOf, *]; done) | (simp [valOf]; omega))
          intro Xf g w' hX hb hv
          obtain ⟨hg, gX, hgp⟩ := hX (by decide)
          have q12 : Xf 12 = .pointer (some ⟨g, 0, none⟩) := hgp 12 rfl
          have q13 : Xf 13 = .bool s := hv 11 13 rfl rfl (by decide) (by decide)
          clear hX hv hgp
          simp only [List.map_cons, List.map_nil, q12, q13, puts, Act.put, Nat.reduceAdd, List.setIfInBounds_toArray, List.set_cons_succ, List.set_cons_zero]
          have hb2 := bjoin hb hb1
          have gA2 := gA1.below hb
          have g32 := g31.below hb
          have ll2 : bl < w'.heap.size := Nat.lt_of_lt_of_le ll1 hb.size
          have v2 : w'.cell? ⟨bl, ol + t, none⟩ = some (.int .i64 X) := (hb.cell (p := ⟨bl, ol + t, none⟩) ll1).trans v1
          have gX2 := gX1.below hb
          have gY2 := gX
          clear gX hg hb gA1 g31 ll1 v1 cG2 hb1 gX1
          generalize w' = w8 at *
          generalize g = gy at *
          go_upto_region 13 with fail
          have sp2 := ((hat.below hbR).below hb2).spans P hPm
          cases B
          case' true =>
            have hst : Hid (s = true) := hob.out
            refine wp_late (ds := [some 79, some 80, some 81, some 82, some 83, some 84, some 85, some 86, some 87, some 88, some 89, some 90, some 91, some 92, some 93, some 94, some 95, some 96, some 97, some 14]) (ts := [79, 80, 81, 82, 83, 84, 85, 86, 87, 88, 89, 90, 91, 92, 93, 94, 95, 96, 97, 14]) (pv := [(fun v _ => v = .agg #[.slice p h.n c, .slice (some ⟨bs, os, none⟩) h.m d, .bool h.b]), (fun v _ => v = .slice (some ⟨bl, ol, none⟩) M cl), (fun v _ => v = .int .i64 t), (fun v _ => v = .pointer (some ⟨bl, ol + t, none⟩)), (fun v _ => v = .int .i64 X), (fun v _ => v = .bool true), (fun v _ => v = .bool true), (fun _ _ => True), (fun _ _ => True), (fun _ _ => True), (fun _ _ => True), (fun _ _ => True), (fun _ _ => True), (fun _ _ => True), (fun _ _ => True), (fun _ _ => True), (fun _ _ => True), (fun _ _ => True), (fun v _ => v = .bool s), (fun v _ => v = .bool s)]) (skip := fun i => ([7, 8, 9, 10, 11, 12, 13, 14, 15, 16, 17] : List Nat).contains i) (ia := 1000) (is := 1000) (k := 98) (Shape := (fun _ _ => True)) (Full := (fun _ _ => True)) (by kernel_rfl) (by kernel_rfl) rfl rfl (by decide) (by decide) (by simp) ?_ (by decide) (fun _ _ _ _ _ => trivial) (fun _ _ _ _ _ => trivial) ?_ ?_ ?_ ?_
            · exact .inl rfl
            · exact ⟨fun _ _ _ h _ => h, fun _ _ _ h _ => h, fun _ _ _ h _ => h, fun _ _ _ h _ => h, fun _ _ _ h _ => h, fun _ _ _ h _ => h, fun _ _ _ h _ => h, fun _ _ _ h _ => h, fun _ _ _ h _ => h, fun _ _ _ h _ => h, fun _ _ _ h _ => h, fun _ _ _ h _ => h, fun _ _ _ h _ => h, fun _ _ _ h _ => h, fun _ _ _ h _ => h, fun _ _ _ h _ => h, fun _ _ _ h _ => h, fun _ _ _ h _ => h, fun _ _ _ h _ => h, fun _ _ _ h _ => h, trivial⟩
            · exact ⟨rfl, rfl, rfl, rfl, rfl, rfl, rfl, ⟨rfl, ⟨_, rfl⟩, by decide, by decide, fun _ _ h => h⟩, ⟨rfl, ⟨_, rfl⟩, by decide, by decide, fun _ _ h => h⟩, ⟨rfl, ⟨_, rfl⟩, by decide, by decide, fun _ _ h => h⟩, ⟨rfl, ⟨_, rfl⟩, by decide, by decide, fun _ _ h => h⟩, ⟨rfl, ⟨_, rfl⟩, by decide, by decide, fun _ _ h => h⟩, ⟨rfl, ⟨_, rfl⟩, by decide, by decide, fun _ _ h => h⟩, ⟨rfl, ⟨_, rfl⟩, by decide, by decide, fun _ _ h => h⟩, ⟨rfl, ⟨_, rfl⟩, by decide, by decide, fun _ _ h => h⟩, ⟨rfl, ⟨_, rfl⟩, by decide, by decide, fun _ _ h => h⟩, ⟨rfl, ⟨_, rfl⟩, by decide, by decide, fun _ _ h => h⟩, ⟨rfl, ⟨_, rfl⟩, by decide, by decide, fun _ _ h => h⟩, rfl, rfl, trivial⟩
            · refine ⟨?_, ?_, ?_, ?_, ?_, ?_, ?_, ?_, ?_, ?_, ?_, ?_, ?_, ?_, ?_, ?_, ?_, ?_, ?_, ?_, trivial⟩
              · intro _ a' w' hb' hs hd hn Kc hK
                have f2 : a'.tmps[2]?.getD undef = .pointer (some ⟨w.heap.size, 0, none⟩) := (hs 2 (by decide)).trans rfl
                clear hs hd hn
                rw [if_neg (by decide), if_neg (by decide)] at hK
                have v17 : w'.cell? ⟨bl, ol + t, none⟩ = some (.int .i64 X) := (hb'.cell (p := ⟨bl, ol + t, none⟩) ll2).trans v2
                obtain ⟨lB, k0, k1, k2, -, -, -⟩ := g32.below hb'
                have hs' := hst.out
                unfold Oper.wp
                go_simp
                try go_bits
                exact hK _ _ (Below.refl _ _) (by first | rfl | (show Value.int _ _ = Value.int _ _; go_num; done) | (simp [valOf, *]; done) | (simp [valOf]; omega))
              · intro _ a' w' hb' hs hd hn Kc hK
                have f7 : a'.tmps[7]?.getD undef = .slice (some ⟨bl, ol, none⟩) M cl := (hs 7 (by decide)).trans rfl
                clear hs hd hn
                rw [if_neg (by decide), if_neg (by decide)] at hK
                have v17 : w'.cell? ⟨bl, ol + t, none⟩ = some (.int .i64 X) := (hb'.cell (p := ⟨bl, ol + t, none⟩) ll2).trans v2
                obtain ⟨lB, k0, k1, k2, -, -, -⟩ := g32.below hb'
                have hs' := hst.out
                unfold Oper.wp
                go_simp
                try go_bits
                exact hK _ _ (Below.refl _ _) (by first | rfl | (show Value.int _ _ = Value.int _ _; go_num; done) | (simp [valOf, *]; done) | (simp [valOf]; omega))
              · intro _ a' w' hb' hs hd hn Kc hK
                have f9 : a'.tmps[9]?.getD undef = .int .i64 t := (hs 9 (by decide)).trans rfl
                clear hs hd hn
                rw [if_neg (by decide), if_neg (by decide)] at hK
                have v17 : w'.cell? ⟨bl, ol + t, none⟩ = some (.int .i64 X) := (hb'.cell (p := ⟨bl, ol + t, none⟩) ll2).trans v2
                obtain ⟨lB, k0, k1, k2, -, -, -⟩ := g32.below hb'
                have hs' := hst.out
                unfold Oper.wp
                go_simp
                try go_bits
                exact hK _ _ (Below.refl _ _) (by first | rfl | (show Value.int _ _ = Value.int _ _; go_num; done) | (simp [valOf, *]; done) | (simp [valOf]; omega))
              · intro _ a' w' hb' hs hd hn Kc hK
                have f80 : a'.tmps[80]?.getD undef = .slice (some ⟨bl, ol, none⟩) M cl := hd 1 80 (by first | rfl | decide | simp [Region.binds]) rfl (by decide) (by decide) rfl
                have f81 : a'.tmps[81]?.getD undef = .int .i64 t := hd 2 81 (by first | rfl | decide | simp [Region.binds]) rfl (by decide) (by decide) rfl
                clear hs hd hn
                rw [if_neg (by decide), if_neg (by decide)] at hK
                have v17 : w'.cell? ⟨bl, ol + t, none⟩ = some (.int .i64 X) := (hb'.cell (p := ⟨bl, ol + t, none⟩) ll2).trans v2
                obtain ⟨lB, k0, k1, k2, -, -, -⟩ := g32.below hb'
                have hs' := hst.out
                unfold Oper.wp
                go_simp
                try go_bits
                exact hK _ _ (Below.refl _ _) (by first | rfl | (show Value.int _ _ = Value.int _ _; go_num; done) | (simp [valOf, *]; done) | (simp [valOf]; omega))
              · intro _ a' w' hb' hs hd hn Kc hK
                have f82 : a'.tmps[82]?.getD undef = .pointer (some ⟨bl, ol + t, none⟩) := hd 3 82 (by first | rfl | decide | simp [Region.binds]) rfl (by decide) (by decide) rfl
                clear hs hd hn
                rw [if_neg (by decide), if_neg (by decide)] at hK
                have v17 : w'.cell? ⟨bl, ol + t, none⟩ = some (.int .i64 X) := (hb'.cell (p := ⟨bl, ol + t, none⟩) ll2).trans v2
                obtain ⟨lB, k0, k1, k2, -, -, -⟩ := g32.below hb'
                have hs' := hst.out
                unfold Oper.wp
                go_simp
                try go_bits
                exact hK _ _ (Below.refl _ _) (by first | rfl | (show Value.int _ _ = Value.int _ _; go_num; done) | (simp [valOf, *]; done) | (simp [valOf]; omega))
              · intro _ a' w' hb' hs hd hn Kc hK
                have f79 : a'.tmps[79]?.getD undef = .agg #[.slice p h.n c, .slice (some ⟨bs, os, none⟩) h.m d, .bool h.b] := hd 0 79 (by first | rfl | decide | simp [Region.binds]) rfl (by decide) (by decide) rfl
                have f83 : a'.tmps[83]?.getD undef = .int .i64 X := hd 4 83 (by first | rfl | decide | simp [Region.binds]) rfl (by decide) (by decide) rfl
                clear hs hd hn
                rw [if_neg (by decide), if_neg (by decide)] at hK
                have v17 : w'.cell? ⟨bl, ol + t, none⟩ = some (.int .i64 X) := (hb'.cell (p := ⟨bl, ol + t, none⟩) ll2).trans v2
                obtain ⟨lB, k0, k1, k2, -, -, -⟩ := g32.below hb'
                have hs' := hst.out
                unfold Oper.wp
                go_simp
                try go_bits
                refine Calls.mono (cB _ (bjoin hb' (bjoin hb2 hbR))) ?_
                rintro e w'' ⟨rfl, hb2⟩
                exact hK _ _ hb2 rfl
              · intro _ a' w' hb' hs hd hn Kc hK
                have f84 : a'.tmps[84]?.getD undef = .bool true := hd 5 84 (by first | rfl | decide | simp [Region.binds]) rfl (by decide) (by decide) rfl
                clear hs hd hn
                rw [if_neg (by decide), if_neg (by decide)] at hK
                have v17 : w'.cell? ⟨bl, ol + t, none⟩ = some (.int .i64 X) := (hb'.cell (p := ⟨bl, ol + t, none⟩) ll2).trans v2
                obtain ⟨lB, k0, k1, k2, -, -, -⟩ := g32.below hb'
                have hs' := hst.out
                unfold Oper.wp
                go_simp
                try go_bits
                exact hK _ _ (Below.refl _ _) (by first | rfl | (show Value.int _ _ = Value.int _ _; go_num; done) | (simp [valOf, *]; done) | (simp [valOf]; omega))
              · exact fun h => absurd h (by decide)
              · exact fun h => absurd h (by decide)
              · exact fun h => absurd h (by decide)
              · exact fun h => absurd h (by decide)
              · exact fun h => absurd h (by decide)
              · exact fun h => absurd h (by decide)
              · exact fun h => absurd h (by decide)
              · exact fun h => absurd h (by decide)
              · exact fun h => absurd h (by decide)
              · exact fun h => absurd h (by decide)
              · exact fun h => absurd h (by decide)
              · intro _ a' w' hb' hs hd hn Kc hK
                have f85 : a'.tmps[85]?.getD undef = .bool true := hd 6 85 (by first | rfl | decide | simp [Region.binds]) rfl (by decide) (by decide) rfl
                clear hs hd hn
                rw [if_neg (by decide), if_neg (by decide)] at hK
                have v17 : w'.cell? ⟨bl, ol + t, none⟩ = some (.int .i64 X) := (hb'.cell (p := ⟨bl, ol + t, none⟩) ll2).trans v2
                obtain ⟨lB, k0, k1, k2, -, -, -⟩ := g32.below hb'
                have hs' := hst.out
                unfold Oper.wp
                go_simp
                try go_bits
                exact hK _ _ (Below.refl _ _) (by first | rfl | (show Value.int _ _ = Value.int _ _; go_num; done) | (simp [valOf, *]; done) | (simp [valOf]; omega))
              · intro _ a' w' hb' hs hd hn Kc hK
                have f97 : a'.tmps[97]?.getD undef = .bool s := hd 18 97 (by first | rfl | decide | simp [Region.binds]) rfl (by decide) (by decide) rfl
                clear hs hd hn
                rw [if_neg (by decide), if_neg (by decide)] at hK
                have v17 : w'.cell? ⟨bl, ol + t, none⟩ = some (.int .i64 X) := (hb'.cell (p := ⟨bl, ol + t, none⟩) ll2).trans v2
                obtain ⟨lB, k0, k1, k2, -, -, -⟩ := g32.below hb'
                have hs' := hst.out
                unfold Oper.wp
                go_simp
                try go_bits
                exact hK _ _ (Below.refl _ _) (by first | rfl | (show Value.int _ _ = Value.int _ _; go_num; done) | (simp [valOf, *]; done) | (simp [valOf]; omega))
            intro Xf g w' hX hb hv
            have q14 : Xf 14 = .bool s := hv 19 14 rfl rfl (by decide) (by decide)
            clear hX hv
            simp only [List.map_cons, List.map_nil, q14, puts, Act.put, Nat.reduceAdd, List.setIfInBounds_toArray, List.set_cons_succ, List.set_cons_zero]
          case' false =>
            have dT : (T != 2) = s := by rw [hob.out]; by_cases e : T = 2 <;> simp [e]
            obtain ⟨⟨bs', os', eq3, hls, s01, -, -⟩, -⟩ := sp2
            injection eq3 with eq3
            injection eq3 with eq4 eq5
            subst eq4 eq5
            have s02 : w8.cell? ⟨bs, os + P * 3, none⟩ = some (.int .i64 T) := by rw [s01, eT'.out]
            refine wp_late (ds := [some 79, some 80, some 81, some 82, some 83, some 84, some 85, some 86, some 87, some 88, some 89, some 90, some 91, some 92, some 93, some 94, some 95, some 96, some 97, some 14]) (ts := [79, 80, 81, 82, 83, 84, 85, 86, 87, 88, 89, 90, 91, 92, 93, 94, 95, 96, 97, 14]) (pv := [(fun v _ => v = .agg #[.slice p h.n c, .slice (some ⟨bs, os, none⟩) h.m d, .bool h.b]), (fun v _ => v = .slice (some ⟨bl, ol, none⟩) M cl), (fun v _ => v = .int .i64 t), (fun v _ => v = .pointer (some ⟨bl, ol + t, none⟩)), (fun v _ => v = .int .i64 X), (fun v _ => v = .bool false), (fun v _ => v = .bool false), (fun v _ => v = .pointer (some ⟨w.heap.size, 1, none⟩)), (fun v _ => v = .slice (some ⟨bs, os, none⟩) h.m d), (fun v _ => v = .slice (some ⟨bl, ol, none⟩) M cl), (fun v _ => v = .int .i64 t), (fun v _ => v = .pointer (some ⟨bl, ol + t, none⟩)), (fun v _ => v = .int .i64 X), (fun v _ => v = .int .i64 (P : Int)), (fun v _ => v = .pointer (some ⟨bs, os + P * 3, none⟩)), (fun v _ => v = .pointer (some ⟨bs, os + P * 3, none⟩)), (fun v _ => v = .int .i64 T), (fun v _ => v = .bool s), (fun v _ => v = .bool s), (fun v _ => v = .bool s)]) (skip := fun i => ([] : List Nat).contains i) (ia := 1000) (is := 1000) (k := 98) (Shape := (fun _ _ => True)) (Full := (fun _ _ => True)) (by kernel_rfl) (by kernel_rfl) rfl rfl (by decide) (by decide) (by simp) ?_ (by decide) (fun _ _ _ _ _ => trivial) (fun _ _ _ _ _ => trivial) ?_ ?_ ?_ ?_
            · exact .inl rfl
            · exact ⟨fun _ _ _ h _ => h, fun _ _ _ h _ => h, fun _ _ _ h _ => h, fun _ _ _ h _ => h, fun _ _ _ h _ => h, fun _ _ _ h _ => h, fun _ _ _ h _ => h, fun _ _ _ h _ => h, fun _ _ _ h _ => h, fun _ _ _ h _ => h, fun _ _ _ h _ => h, fun _ _ _ h _ => h, fun _ _ _ h _ => h, fun _ _ _ h _ => h, fun _ _ _ h _ => h, fun _ _ _ h _ => h, fun _ _ _ h _ => h, fun _ _ _ h _ => h, fun _ _ _ h _ => h, fun _ _ _ h _ => h, trivial⟩
            · exact ⟨rfl, rfl, rfl, rfl, rfl, rfl, rfl, ⟨rfl, ⟨_, rfl⟩, by decide, by decide, fun _ _ h => h⟩, ⟨rfl, ⟨_, rfl⟩, by decide, by decide, fun _ _ h => h⟩, ⟨rfl, ⟨_, rfl⟩, by decide, by decide, fun _ _ h => h⟩, ⟨rfl, ⟨_, rfl⟩, by decide, by decide, fun _ _ h => h⟩, ⟨rfl, ⟨_, rfl⟩, by decide, by decide, fun _ _ h => h⟩, ⟨rfl, ⟨_, rfl⟩, by decide, by decide, fun _ _ h => h⟩, ⟨rfl, ⟨_, rfl⟩, by decide, by decide, fun _ _ h => h⟩, ⟨rfl, ⟨_, rfl⟩, by decide, by decide, fun _ _ h => h⟩, ⟨rfl, ⟨_, rfl⟩, by decide, by decide, fun _ _ h => h⟩, ⟨rfl, ⟨_, rfl⟩, by decide, by decide, fun _ _ h => h⟩, ⟨rfl, ⟨_, rfl⟩, by decide, by decide, fun _ _ h => h⟩, rfl, rfl, trivial⟩
            · refine ⟨?_, ?_, ?_, ?_, ?_, ?_, ?_, ?_, ?_, ?_, ?_, ?_, ?_, ?_, ?_, ?_, ?_, ?_, ?_, ?_, trivial⟩
              · intro _ a' w' hb' hs hd hn Kc hK
                have f2 : a'.tmps[2]?.getD undef = .pointer (some ⟨w.heap.size, 0, none⟩) := (hs 2 (by decide)).trans rfl
                clear hs hd hn
                rw [if_neg (by decide), if_neg (by decide)] at hK
                have v17 : w'.cell? ⟨bl, ol + t, none⟩ = some (.int .i64 X) := (hb'.cell (p := ⟨bl, ol + t, none⟩) ll2).trans v2
                have s03 : w'.cell? ⟨bs, os + P * 3, none⟩ = some (.int .i64 T) := (hb'.cell (p := ⟨bs, os + P * 3, none⟩) hls).trans s02
                obtain ⟨lB, k0, k1, k2, -, -, -⟩ := g32.below hb'
                unfold Oper.wp
                go_simp
                try go_bits
                exact hK _ _ (Below.refl _ _) (by first | rfl | (show Value.int _ _ = Value.int _ _; go_num; done) | (simp [valOf, *]; done) | (simp [valOf]; omega))
              · intro _ a' w' hb' hs hd hn Kc hK
                have f7 : a'.tmps[7]?.getD undef = .slice (some ⟨bl, ol, none⟩) M cl := (hs 7 (by decide)).trans rfl
                clear hs hd hn
                rw [if_neg (by decide), if_neg (by decide)] at hK
                have v17 : w'.cell? ⟨bl, ol + t, none⟩ = some (.int .i64 X) := (hb'.cell (p := ⟨bl, ol + t, none⟩) ll2).trans v2
                have s03 : w'.cell? ⟨bs, os + P * 3, none⟩ = some (.int .i64 T) := (hb'.cell (p := ⟨bs, os + P * 3, none⟩) hls).trans s02
                obtain ⟨lB, k0, k1, k2, -, -, -⟩ := g32.below hb'
                unfold Oper.wp
                go_simp
                try go_bits
                exact hK _ _ (Below.refl _ _) (by first | rfl | (show Value.int _ _ = Value.int _ _; go_num; done) | (simp [valOf, *]; done) | (simp [valOf]; omega))
              · intro _ a' w' hb' hs hd hn Kc hK
                have f9 : a'.tmps[9]?.getD undef = .int .i64 t := (hs 9 (by decide)).trans rfl
                clear hs hd hn
                rw [if_neg (by decide), if_neg (by decide)] at hK
                have v17 : w'.cell? ⟨bl, ol + t, none⟩ = some (.int .i64 X) := (hb'.cell (p := ⟨bl, ol + t, none⟩) ll2).trans v2
                have s03 : w'.cell? ⟨bs, os + P * 3, none⟩ = some (.int .i64 T) := (hb'.cell (p := ⟨bs, os + P * 3, none⟩) hls).trans s02
                obtain ⟨lB, k0, k1, k2, -, -, -⟩ := g32.below hb'
                unfold Oper.wp
                go_simp
                try go_bits
                exact hK _ _ (Below.refl _ _) (by first | rfl | (show Value.int _ _ = Value.int _ _; go_num; done) | (simp [valOf, *]; done) | (simp [valOf]; omega))
              · intro _ a' w' hb' hs hd hn Kc hK
                have f80 : a'.tmps[80]?.getD undef = .slice (some ⟨bl, ol, none⟩) M cl := hd 1 80 (by first | rfl | decide | simp [Region.binds]) rfl (by decide) (by decide) rfl
                have f81 : a'.tmps[81]?.getD undef = .int .i64 t := hd 2 81 (by first | rfl | decide | simp [Region.binds]) rfl (by decide) (by decide) rfl
                clear hs hd hn
                rw [if_neg (by decide), if_neg (by decide)] at hK
                have v17 : w'.cell? ⟨bl, ol + t, none⟩ = some (.int .i64 X) := (hb'.cell (p := ⟨bl, ol + t, none⟩) ll2).trans v2
                have s03 : w'.cell? ⟨bs, os + P * 3, none⟩ = some (.int .i64 T) := (hb'.cell (p := ⟨bs, os + P * 3, none⟩) hls).trans s02
                obtain ⟨lB, k0, k1, k2, -, -, -⟩ := g32.below hb'
                unfold Oper.wp
                go_simp
                try go_bits
                exact hK _ _ (Below.refl _ _) (by first | rfl | (show Value.int _ _ = Value.int _ _; go_num; done) | (simp [valOf, *]; done) | (simp [valOf]; omega))
              · intro _ a' w' hb' hs hd hn Kc hK
                have f82 : a'.tmps[82]?.getD undef = .pointer (some ⟨bl, ol + t, none⟩) := hd 3 82 (by first | rfl | decide | simp [Region.binds]) rfl (by decide) (by decide) rfl
                clear hs hd hn
                rw [if_neg (by decide), if_neg (by decide)] at hK
                have v17 : w'.cell? ⟨bl, ol + t, none⟩ = some (.int .i64 X) := (hb'.cell (p := ⟨bl, ol + t, none⟩) ll2).trans v2
                have s03 : w'.cell? ⟨bs, os + P * 3, none⟩ = some (.int .i64 T) := (hb'.cell (p := ⟨bs, os + P * 3, none⟩) hls).trans s02
                obtain ⟨lB, k0, k1, k2, -, -, -⟩ := g32.below hb'
                unfold Oper.wp
                go_simp
                try go_bits
                exact hK _ _ (Below.refl _ _) (by first | rfl | (show Value.int _ _ = Value.int _ _; go_num; done) | (simp [valOf, *]; done) | (simp [valOf]; omega))
              · intro _ a' w' hb' hs hd hn Kc hK
                have f79 : a'.tmps[79]?.getD undef = .agg #[.slice p h.n c, .slice (some ⟨bs, os, none⟩) h.m d, .bool h.b] := hd 0 79 (by first | rfl | decide | simp [Region.binds]) rfl (by decide) (by decide) rfl
                have f83 : a'.tmps[83]?.getD undef = .int .i64 X := hd 4 83 (by first | rfl | decide | simp [Region.binds]) rfl (by decide) (by decide) rfl
                clear hs hd hn
                rw [if_neg (by decide), if_neg (by decide)] at hK
                have v17 : w'.cell? ⟨bl, ol + t, none⟩ = some (.int .i64 X) := (hb'.cell (p := ⟨bl, ol + t, none⟩) ll2).trans v2
                have s03 : w'.cell? ⟨bs, os + P * 3, none⟩ = some (.int .i64 T) := (hb'.cell (p := ⟨bs, os + P * 3, none⟩) hls).trans s02
                obtain ⟨lB, k0, k1, k2, -, -, -⟩ := g32.below hb'
                unfold Oper.wp
                go_simp
                try go_bits
                refine Calls.mono (cB _ (bjoin hb' (bjoin hb2 hbR))) ?_
                rintro e w'' ⟨rfl, hb2⟩
                exact hK _ _ hb2 rfl
              · intro _ a' w' hb' hs hd hn Kc hK
                have f84 : a'.tmps[84]?.getD undef = .bool false := hd 5 84 (by first | rfl | decide | simp [Region.binds]) rfl (by decide) (by decide) rfl
                clear hs hd hn
                rw [if_neg (by decide), if_neg (by decide)] at hK
                have v17 : w'.cell? ⟨bl, ol + t, none⟩ = some (.int .i64 X) := (hb'.cell (p := ⟨bl, ol + t, none⟩) ll2).trans v2
                have s03 : w'.cell? ⟨bs, os + P * 3, none⟩ = some (.int .i64 T) := (hb'.cell (p := ⟨bs, os + P * 3, none⟩) hls).trans s02
                obtain ⟨lB, k0, k1, k2, -, -, -⟩ := g32.below hb'
                unfold Oper.wp
                go_simp
                try go_bits
                exact hK _ _ (Below.refl _ _) (by first | rfl | (show Value.int _ _ = Value.int _ _; go_num; done) | (simp [valOf, *]; done) | (simp [valOf]; omega))
              · intro _ a' w' hb' hs hd hn Kc hK
                have f2 : a'.tmps[2]?.getD undef = .pointer (some ⟨w.heap.size, 0, none⟩) := (hs 2 (by decide)).trans rfl
                clear hs hd hn
                rw [if_neg (by decide), if_neg (by decide)] at hK
                have v17 : w'.cell? ⟨bl, ol + t, none⟩ = some (.int .i64 X) := (hb'.cell (p := ⟨bl, ol + t, none⟩) ll2).trans v2
                have s03 : w'.cell? ⟨bs, os + P * 3, none⟩ = some (.int .i64 T) := (hb'.cell (p := ⟨bs, os + P * 3, none⟩) hls).trans s02
                obtain ⟨lB, k0, k1, k2, -, -, -⟩ := g32.below hb'
                unfold Oper.wp
                go_simp
                try go_bits
                exact hK _ _ (Below.refl _ _) (by first | rfl | (show Value.int _ _ = Value.int _ _; go_num; done) | (simp [valOf, *]; done) | (simp [valOf]; omega))
              · intro _ a' w' hb' hs hd hn Kc hK
                have f86 : a'.tmps[86]?.getD undef = .pointer (some ⟨w.heap.size, 1, none⟩) := hd 7 86 (by first | rfl | decide | simp [Region.binds]) rfl (by decide) (by decide) rfl
                clear hs hd hn
                rw [if_neg (by decide), if_neg (by decide)] at hK
                have v17 : w'.cell? ⟨bl, ol + t, none⟩ = some (.int .i64 X) := (hb'.cell (p := ⟨bl, ol + t, none⟩) ll2).trans v2
                have s03 : w'.cell? ⟨bs, os + P * 3, none⟩ = some (.int .i64 T) := (hb'.cell (p := ⟨bs, os + P * 3, none⟩) hls).trans s02
                obtain ⟨lB, k0, k1, k2, -, -, -⟩ := g32.below hb'
                unfold Oper.wp
                go_simp
                try go_bits
                exact hK _ _ (Below.refl _ _) (by first | rfl | (show Value.int _ _ = Value.int _ _; go_num; done) | (simp [valOf, *]; done) | (simp [valOf]; omega))
              · intro _ a' w' hb' hs hd hn Kc hK
                have f7 : a'.tmps[7]?.getD undef = .slice (some ⟨bl, ol, none⟩) M cl := (hs 7 (by decide)).trans rfl
                clear hs hd hn
                rw [if_neg (by decide), if_neg (by decide)] at hK
                have v17 : w'.cell? ⟨bl, ol + t, none⟩ = some (.int .i64 X) := (hb'.cell (p := ⟨bl, ol + t, none⟩) ll2).trans v2
                have s03 : w'.cell? ⟨bs, os + P * 3, none⟩ = some (.int .i64 T) := (hb'.cell (p := ⟨bs, os + P * 3, none⟩) hls).trans s02
                obtain ⟨lB, k0, k1, k2, -, -, -⟩ := g32.below hb'
                unfold Oper.wp
                go_simp
                try go_bits
                exact hK _ _ (Below.refl _ _) (by first | rfl | (show Value.int _ _ = Value.int _ _; go_num; done) | (simp [valOf, *]; done) | (simp [valOf]; omega))
              · intro _ a' w' hb' hs hd hn Kc hK
                have f9 : a'.tmps[9]?.getD undef = .int .i64 t := (hs 9 (by decide)).trans rfl
                clear hs hd hn
                rw [if_neg (by decide), if_neg (by decide)] at hK
                have v17 : w'.cell? ⟨bl, ol + t, none⟩ = some (.int .i64 X) := (hb'.cell (p := ⟨bl, ol + t, none⟩) ll2).trans v2
                have s03 : w'.cell? ⟨bs, os + P * 3, none⟩ = some (.int .i64 T) := (hb'.cell (p := ⟨bs, os + P * 3, none⟩) hls).trans s02
                obtain ⟨lB, k0, k1, k2, -, -, -⟩ := g32.below hb'
                unfold Oper.wp
                go_simp
                try go_bits
                exact hK _ _ (Below.refl _ _) (by first | rfl | (show Value.int _ _ = Value.int _ _; go_num; done) | (simp [valOf, *]; done) | (simp [valOf]; omega))
              · intro _ a' w' hb' hs hd hn Kc hK
                have f88 : a'.tmps[88]?.getD undef = .slice (some ⟨bl, ol, none⟩) M cl := hd 9 88 (by first | rfl | decide | simp [Region.binds]) rfl (by decide) (by decide) rfl
                have f89 : a'.tmps[89]?.getD undef = .int .i64 t := hd 10 89 (by first | rfl | decide | simp [Region.binds]) rfl (by decide) (by decide) rfl
                clear hs hd hn
                rw [if_neg (by decide), if_neg (by decide)] at hK
                have v17 : w'.cell? ⟨bl, ol + t, none⟩ = some (.int .i64 X) := (hb'.cell (p := ⟨bl, ol + t, none⟩) ll2).trans v2
                have s03 : w'.cell? ⟨bs, os + P * 3, none⟩ = some (.int .i64 T) := (hb'.cell (p := ⟨bs, os + P * 3, none⟩) hls).trans s02
                obtain ⟨lB, k0, k1, k2, -, -, -⟩ := g32.below hb'
                unfold Oper.wp
                go_simp
                try go_bits
                exact hK _ _ (Below.refl _ _) (by first | rfl | (show Value.int _ _ = Value.int _ _; go_num; done) | (simp [valOf, *]; done) | (simp [valOf]; omega))
              · intro _ a' w' hb' hs hd hn Kc hK
                have f90 : a'.tmps[90]?.getD undef = .pointer (some ⟨bl, ol + t, none⟩) := hd 11 90 (by first | rfl | decide | simp [Region.binds]) rfl (by decide) (by decide) rfl
                clear hs hd hn
                rw [if_neg (by decide), if_neg (by decide)] at hK
                have v17 : w'.cell? ⟨bl, ol + t, none⟩ = some (.int .i64 X) := (hb'.cell (p := ⟨bl, ol + t, none⟩) ll2).trans v2
                have s03 : w'.cell? ⟨bs, os + P * 3, none⟩ = some (.int .i64 T) := (hb'.cell (p := ⟨bs, os + P * 3, none⟩) hls).trans s02
                obtain ⟨lB, k0, k1, k2, -, -, -⟩ := g32.below hb'
                unfold Oper.wp
                go_simp
                try go_bits
                exact hK _ _ (Below.refl _ _) (by first | rfl | (show Value.int _ _ = Value.int _ _; go_num; done) | (simp [valOf, *]; done) | (simp [valOf]; omega))
              · intro _ a' w' hb' hs hd hn Kc hK
                have f91 : a'.tmps[91]?.getD undef = .int .i64 X := hd 12 91 (by first | rfl | decide | simp [Region.binds]) rfl (by decide) (by decide) rfl
                clear hs hd hn
                rw [if_neg (by decide), if_neg (by decide)] at hK
                have v17 : w'.cell? ⟨bl, ol + t, none⟩ = some (.int .i64 X) := (hb'.cell (p := ⟨bl, ol + t, none⟩) ll2).trans v2
                have s03 : w'.cell? ⟨bs, os + P * 3, none⟩ = some (.int .i64 T) := (hb'.cell (p := ⟨bs, os + P * 3, none⟩) hls).trans s02
                obtain ⟨lB, k0, k1, k2, -, -, -⟩ := g32.below hb'
                unfold Oper.wp
                go_simp
                try go_bits
                exact hK _ _ (Below.refl _ _) (by first | rfl | (show Value.int _ _ = Value.int _ _; go_num; done) | (simp [valOf, *]; done) | (simp [valOf]; omega))
              · intro _ a' w' hb' hs hd hn Kc hK
                have f87 : a'.tmps[87]?.getD undef = .slice (some ⟨bs, os, none⟩) h.m d := hd 8 87 (by first | rfl | decide | simp [Region.binds]) rfl (by decide) (by decide) rfl
                have f92 : a'.tmps[92]?.getD undef = .int .i64 (P : Int) := hd 13 92 (by first | rfl | decide | simp [Region.binds]) rfl (by decide) (by decide) rfl
                clear hs hd hn
                rw [if_neg (by decide), if_neg (by decide)] at hK
                have v17 : w'.cell? ⟨bl, ol + t, none⟩ = some (.int .i64 X) := (hb'.cell (p := ⟨bl, ol + t, none⟩) ll2).trans v2
                have s03 : w'.cell? ⟨bs, os + P * 3, none⟩ = some (.int .i64 T) := (hb'.cell (p := ⟨bs, os + P * 3, none⟩) hls).trans s02
                obtain ⟨lB, k0, k1, k2, -, -, -⟩ := g32.below hb'
                unfold Oper.wp
                go_simp
                try go_bits
                exact hK _ _ (Below.refl _ _) (by first | rfl | (show Value.int _ _ = Value.int _ _; go_num; done) | (simp [valOf, *]; done) | (simp [valOf]; omega))
              · intro _ a' w' hb' hs hd hn Kc hK
                have f93 : a'.tmps[93]?.getD undef = .pointer (some ⟨bs, os + P * 3, none⟩) := hd 14 93 (by first | rfl | decide | simp [Region.binds]) rfl (by decide) (by decide) rfl
                clear hs hd hn
                rw [if_neg (by decide), if_neg (by decide)] at hK
                have v17 : w'.cell? ⟨bl, ol + t, none⟩ = some (.int .i64 X) := (hb'.cell (p := ⟨bl, ol + t, none⟩) ll2).trans v2
                have s03 : w'.cell? ⟨bs, os + P * 3, none⟩ = some (.int .i64 T) := (hb'.cell (p := ⟨bs, os + P * 3, none⟩) hls).trans s02
                obtain ⟨lB, k0, k1, k2, -, -, -⟩ := g32.below hb'
                unfold Oper.wp
                go_simp
                try go_bits
                exact hK _ _ (Below.refl _ _) (by first | rfl | (show Value.int _ _ = Value.int _ _; go_num; done) | (simp [valOf, *]; done) | (simp [valOf]; omega))
              · intro _ a' w' hb' hs hd hn Kc hK
                have f94 : a'.tmps[94]?.getD undef = .pointer (some ⟨bs, os + P * 3, none⟩) := hd 15 94 (by first | rfl | decide | simp [Region.binds]) rfl (by decide) (by decide) rfl
                clear hs hd hn
                rw [if_neg (by decide), if_neg (by decide)] at hK
                have v17 : w'.cell? ⟨bl, ol + t, none⟩ = some (.int .i64 X) := (hb'.cell (p := ⟨bl, ol + t, none⟩) ll2).trans v2
                have s03 : w'.cell? ⟨bs, os + P * 3, none⟩ = some (.int .i64 T) := (hb'.cell (p := ⟨bs, os + P * 3, none⟩) hls).trans s02
                obtain ⟨lB, k0, k1, k2, -, -, -⟩ := g32.below hb'
                unfold Oper.wp
                go_simp
                try go_bits
                exact hK _ _ (Below.refl _ _) (by first | rfl | (show Value.int _ _ = Value.int _ _; go_num; done) | (simp [valOf, *]; done) | (simp [valOf]; omega))
              · intro _ a' w' hb' hs hd hn Kc hK
                have f95 : a'.tmps[95]?.getD undef = .int .i64 T := hd 16 95 (by first | rfl | decide | simp [Region.binds]) rfl (by decide) (by decide) rfl
                clear hs hd hn
                rw [if_neg (by decide), if_neg (by decide)] at hK
                have v17 : w'.cell? ⟨bl, ol + t, none⟩ = some (.int .i64 X) := (hb'.cell (p := ⟨bl, ol + t, none⟩) ll2).trans v2
                have s03 : w'.cell? ⟨bs, os + P * 3, none⟩ = some (.int .i64 T) := (hb'.cell (p := ⟨bs, os + P * 3, none⟩) hls).trans s02
                obtain ⟨lB, k0, k1, k2, -, -, -⟩ := g32.below hb'
                unfold Oper.wp
                go_simp
                try go_bits
                exact hK _ _ (Below.refl _ _) (by first | rfl | (show Value.int _ _ = Value.int _ _; go_num; done) | (simp [valOf, *]; done) | (simp [valOf]; omega))
              · intro _ a' w' hb' hs hd hn Kc hK
                have f85 : a'.tmps[85]?.getD undef = .bool false := hd 6 85 (by first | rfl | decide | simp [Region.binds]) rfl (by decide) (by decide) rfl
                have f96 : a'.tmps[96]?.getD undef = .bool s := hd 17 96 (by first | rfl | decide | simp [Region.binds]) rfl (by decide) (by decide) rfl
                clear hs hd hn
                rw [if_neg (by decide), if_neg (by decide)] at hK
                have v17 : w'.cell? ⟨bl, ol + t, none⟩ = some (.int .i64 X) := (hb'.cell (p := ⟨bl, ol + t, none⟩) ll2).trans v2
                have s03 : w'.cell? ⟨bs, os + P * 3, none⟩ = some (.int .i64 T) := (hb'.cell (p := ⟨bs, os + P * 3, none⟩) hls).trans s02
                obtain ⟨lB, k0, k1, k2, -, -, -⟩ := g32.below hb'
                unfold Oper.wp
                go_simp
                try go_bits
                exact hK _ _ (Below.refl _ _) (by first | rfl | (show Value.int _ _ = Value.int _ _; go_num; done) | (simp [valOf, *]; done) | (simp [valOf]; omega))
              · intro _ a' w' hb' hs hd hn Kc hK
                have f97 : a'.tmps[97]?.getD undef = .bool s := hd 18 97 (by first | rfl | decide | simp [Region.binds]) rfl (by decide) (by decide) rfl
                clear hs hd hn
                rw [if_neg (by decide), if_neg (by decide)] at hK
                have v17 : w'.cell? ⟨bl, ol + t, none⟩ = some (.int .i64 X) := (hb'.cell (p := ⟨bl, ol + t, none⟩) ll2).trans v2
                have s03 : w'.cell? ⟨bs, os + P * 3, none⟩ = some (.int .i64 T) := (hb'.cell (p := ⟨bs, os + P * 3, none⟩) hls).trans s02
                obtain ⟨lB, k0, k1, k2, -, -, -⟩ := g32.below hb'
                unfold Oper.wp
                go_simp
                try go_bits
                exact hK _ _ (Below.refl _ _) (by first | rfl | (show Value.int _ _ = Value.int _ _; go_num; done) | (simp [valOf, *]; done) | (simp [valOf]; omega))
            intro Xf g w' hX hb hv
            have q14 : Xf 14 = .bool s := hv 19 14 rfl rfl (by decide) (by decide)
            clear hX hv
            simp only [List.map_cons, List.map_nil, q14, puts, Act.put, Nat.reduceAdd, List.setIfInBounds_toArray, List.set_cons_succ, List.set_cons_zero]
          all_goals
            have hb3 := bjoin hb hb2
            have gA3 := gA2.below hb
            have g33 := g32.below hb
            have ll3 : bl < w'.heap.size := Nat.lt_of_lt_of_le ll2 hb.size
            have v3 : w'.cell? ⟨bl, ol + t, none⟩ = some (.int .i64 X) := (hb.cell (p := ⟨bl, ol + t, none⟩) ll2).trans v2
            have gX3 := gX2.below hb
            have gY3 := gY2.below hb
            clear hb gA2 g32 ll2 v2 hb2 gX2 gY2 cB
            generalize w' = w9 at *
            go_upto_region 14 with fail
            replace hb3 := bjoin hb3 hbR
            clear hbR hob dq
            try clear s01 s02 hls dT
            cases s with
            | false =>
              clear hsm cR hI2
              refine wp_late (ds := [some 98, some 99, some 100, some 101, some 102, some 103, some 104, some 105, some 106, some 107, some 108, some 109, some 110, some 111, some 112, some 113, some 114, some 115, some 116, some 117, some 118, some 119, some 120, some 121, some 122, some 123, some 124, some 125, some 126, some 127]) (ts := [98, 99, 100, 101, 102, 103, 104, 105, 106, 107, 108, 109, 110, 111, 112, 113, 114, 115, 116, 117, 118, 119, 120, 121, 122, 123, 124, 125, 126, 127]) (pv := [(fun v _ => v = .bool false), (fun v _ => v = .bool false), (fun v _ => v = .bool false), (fun v _ => v = .bool false), (fun v _ => v = .bool false), (fun v _ => v = .bool false), (fun _ _ => True), (fun _ _ => True), (fun _ _ => True), (fun v _ => v = .bool false), (fun v _ => v = .bool false), (fun v _ => v = .bool false), (fun v _ => v = .bool false), (fun v _ => v = .bool false), (fun _ _ => True), (fun _ _ => True), (fun _ _ => True), (fun _ _ => True), (fun _ _ => True), (fun _ _ => True), (fun _ _ => True), (fun _ _ => True), (fun _ _ => True), (fun _ _ => True), (fun _ _ => True), (fun _ _ => True), (fun _ _ => True), (fun _ _ => True), (fun v _ => v = .bool false), (fun v _ => v = .bool false)]) (skip := fun i => ([6, 7, 8, 14, 15, 16, 17, 18, 19, 20, 21, 22, 23, 24, 25, 26, 27] : List Nat).contains i) (ia := 1000) (is := 1000) (k := 128) (Shape := (fun _ _ => True)) (Full := (fun _ _ => True)) (by kernel_rfl) (by kernel_rfl) rfl rfl (by decide) (by decide) (by simp) ?_ (by decide) (fun _ _ _ _ _ => trivial) (fun _ _ _ _ _ => trivial) ?_ ?_ ?_ ?_
              · exact .inl rfl
              · exact ⟨fun _ _ _ h _ => h, fun _ _ _ h _ => h, fun _ _ _ h _ => h, fun _ _ _ h _ => h, fun _ _ _ h _ => h, fun _ _ _ h _ => h, fun _ _ _ h _ => h, fun _ _ _ h _ => h, fun _ _ _ h _ => h, fun _ _ _ h _ => h, fun _ _ _ h _ => h, fun _ _ _ h _ => h, fun _ _ _ h _ => h, fun _ _ _ h _ => h, fun _ _ _ h _ => h, fun _ _ _ h _ => h, fun _ _ _ h _ => h, fun _ _ _ h _ => h, fun _ _ _ h _ => h, fun _ _ _ h _ => h, fun _ _ _ h _ => h, fun _ _ _ h _ => h, fun _ _ _ h _ => h, fun _ _ _ h _ => h, fun _ _ _ h _ => h, fun _ _ _ h _ => h, fun _ _ _ h _ => h, fun _ _ _ h _ => h, fun _ _ _ h _ => h, fun _ _ _ h _ => h, trivial⟩
              · exact ⟨rfl, rfl, rfl, rfl, ⟨rfl, ⟨_, rfl⟩, by decide, by decide, fun _ _ h => h⟩, ⟨rfl, ⟨_, rfl⟩, by decide, by decide, fun _ _ h => h⟩, ⟨rfl, ⟨_, rfl⟩, by decide, by decide, fun _ _ h => h⟩, ⟨rfl, ⟨_, rfl⟩, by decide, by decide, fun _ _ h => h⟩, ⟨rfl, ⟨_, rfl⟩, by decide, by decide, fun _ _ h => h⟩, ⟨rfl, ⟨_, rfl⟩, by decide, by decide, fun _ _ h => h⟩, rfl, rfl, ⟨rfl, ⟨_, rfl⟩, by decide, by decide, fun _ _ h => h⟩, ⟨rfl, ⟨_, rfl⟩, by decide, by decide, fun _ _ h => h⟩, ⟨rfl, ⟨_, rfl⟩, by decide, by decide, fun _ _ h => h⟩, ⟨rfl, ⟨_, rfl⟩, by decide, by decide, fun _ _ h => h⟩, ⟨rfl, ⟨_, rfl⟩, by decide, by decide, fun _ _ h => h⟩, ⟨rfl, ⟨_, rfl⟩, by decide, by decide, fun _ _ h => h⟩, ⟨rfl, ⟨_, rfl⟩, by decide, by decide, fun _ _ h => h⟩, ⟨rfl, ⟨_, rfl⟩, by decide, by decide, fun _ _ h => h⟩, ⟨rfl, ⟨_, rfl⟩, by decide, by decide, fun _ _ h => h⟩, ⟨rfl, ⟨_, rfl⟩, by decide, by decide, fun _ _ h => h⟩, ⟨rfl, ⟨_, rfl⟩, by decide, by decide, fun _ _ h => h⟩, ⟨rfl, ⟨_, rfl⟩, by decide, by decide, fun _ _ h => h⟩, ⟨rfl, ⟨_, rfl⟩, by decide, by decide, fun _ _ h => h⟩, ⟨rfl, ⟨_, rfl⟩, by decide, by decide, fun _ _ h => h⟩, ⟨rfl, ⟨_, rfl⟩, by decide, by decide, fun _ _ h => h⟩, ⟨rfl, ⟨_, rfl⟩, by decide, by decide, fun _ _ h => h⟩, ⟨rfl, ⟨_, rfl⟩, by decide, by decide, fun _ _ h => h⟩, rfl, trivial⟩
              · refine ⟨?_, ?_, ?_, ?_, ?_, ?_, ?_, ?_, ?_, ?_, ?_, ?_, ?_, ?_, ?_, ?_, ?_, ?_, ?_, ?_, ?_, ?_, ?_, ?_, ?_, ?_, ?_, ?_, ?_, ?_, trivial⟩
                · intro _ a' w' hb' hs hd hn Kc hK
                  have f13 : a'.tmps[13]?.getD undef = .bool false := (hs 13 (by decide)).trans rfl
                  clear hs hd hn
                  rw [if_neg (by decide), if_neg (by decide)] at hK
                  unfold Oper.wp
                  go_simp
                  try go_bits
                  exact hK _ _ (Below.refl _ _) (by first | rfl | (show Value.int _ _ = Value.int _ _; go_num; done) | (simp [valOf, *]; done) | (simp [valOf]; omega))
                · intro _ a' w' hb' hs hd hn Kc hK
                  have f14 : a'.tmps[14]?.getD undef = .bool false := (hs 14 (by decide)).trans rfl
                  clear hs hd hn
                  rw [if_neg (by decide), if_neg (by decide)] at hK
                  unfold Oper.wp
                  go_simp
                  try go_bits
                  exact hK _ _ (Below.refl _ _) (by first | rfl | (show Value.int _ _ = Value.int _ _; go_num; done) | (simp [valOf, *]; done) | (simp [valOf]; omega))
                · intro _ a' w' hb' hs hd hn Kc hK
                  have f98 : a'.tmps[98]?.getD undef = .bool false := hd 0 98 (by first | rfl | decide | simp [Region.binds]) rfl (by decide) (by decide) rfl
                  have f99 : a'.tmps[99]?.getD undef = .bool false := hd 1 99 (by first | rfl | decide | simp [Region.binds]) rfl (by decide) (by decide) rfl
                  clear hs hd hn
                  rw [if_neg (by decide), if_neg (by decide)] at hK
                  unfold Oper.wp
                  go_simp
                  try go_bits
                  exact hK _ _ (Below.refl _ _) (by first | rfl | (show Value.int _ _ = Value.int _ _; go_num; done) | (simp [valOf, *]; done) | (simp [valOf]; omega))
                · intro _ a' w' hb' hs hd hn Kc hK
                  have f100 : a'.tmps[100]?.getD undef = .bool false := hd 2 100 (by first | rfl | decide | simp [Region.binds]) rfl (by decide) (by decide) rfl
                  clear hs hd hn
                  rw [if_neg (by decide), if_neg (by decide)] at hK
                  unfold Oper.wp
                  go_simp
                  try go_bits
                  exact hK _ _ (Below.refl _ _) (by first | rfl | (show Value.int _ _ = Value.int _ _; go_num; done) | (simp [valOf, *]; done) | (simp [valOf]; omega))
                · intro _ a' w' hb' hs hd hn Kc hK
                  have f13 : a'.tmps[13]?.getD undef = .bool false := (hs 13 (by decide)).trans rfl
                  clear hs hd hn
                  rw [if_neg (by decide), if_neg (by decide)] at hK
                  unfold Oper.wp
                  go_simp
                  try go_bits
                  exact hK _ _ (Below.refl _ _) (by first | rfl | (show Value.int _ _ = Value.int _ _; go_num; done) | (simp [valOf, *]; done) | (simp [valOf]; omega))
                · intro _ a' w' hb' hs hd hn Kc hK
                  have f102 : a'.tmps[102]?.getD undef = .bool false := hd 4 102 (by first | rfl | decide | simp [Region.binds]) rfl (by decide) (by decide) rfl
                  clear hs hd hn
                  rw [if_neg (by decide), if_neg (by decide)] at hK
                  unfold Oper.wp
                  go_simp
                  try go_bits
                  exact hK _ _ (Below.refl _ _) (by first | rfl | (show Value.int _ _ = Value.int _ _; go_num; done) | (simp [valOf, *]; done) | (simp [valOf]; omega))
                · exact fun h => absurd h (by decide)
                · exact fun h => absurd h (by decide)
                · exact fun h => absurd h (by decide)
                · intro _ a' w' hb' hs hd hn Kc hK
                  have f103 : a'.tmps[103]?.getD undef = .bool false := hd 5 103 (by first | rfl | decide | simp [Region.binds]) rfl (by decide) (by decide) rfl
                  clear hs hd hn
                  rw [if_neg (by decide), if_neg (by decide)] at hK
                  unfold Oper.wp
                  go_simp
                  try go_bits
                  exact hK _ _ (Below.refl _ _) (by first | rfl | (show Value.int _ _ = Value.int _ _; go_num; done) | (simp [valOf, *]; done) | (simp [valOf]; omega))
                · intro _ a' w' hb' hs hd hn Kc hK
                  have f101 : a'.tmps[101]?.getD undef = .bool false := hd 3 101 (by first | rfl | decide | simp [Region.binds]) rfl (by decide) (by decide) rfl
                  have f107 : a'.tmps[107]?.getD undef = .bool false := hd 9 107 (by first | rfl | decide | simp [Region.binds]) rfl (by decide) (by decide) rfl
                  clear hs hd hn
                  rw [if_neg (by decide), if_neg (by decide)] at hK
                  unfold Oper.wp
                  go_simp
                  try go_bits
                  exact hK _ _ (Below.refl _ _) (by first | rfl | (show Value.int _ _ = Value.int _ _; go_num; done) | (simp [valOf, *]; done) | (simp [valOf]; omega))
                · intro _ a' w' hb' hs hd hn Kc hK
                  have f108 : a'.tmps[108]?.getD undef = .bool false := hd 10 108 (by first | rfl | decide | simp [Region.binds]) rfl (by decide) (by decide) rfl
                  clear hs hd hn
                  rw [if_neg (by decide), if_neg (by decide)] at hK
                  unfold Oper.wp
                  go_simp
                  try go_bits
                  exact hK _ _ (Below.refl _ _) (by first | rfl | (show Value.int _ _ = Value.int _ _; go_num; done) | (simp [valOf, *]; done) | (simp [valOf]; omega))
                · intro _ a' w' hb' hs hd hn Kc hK
                  have f13 : a'.tmps[13]?.getD undef = .bool false := (hs 13 (by decide)).trans rfl
                  clear hs hd hn
                  rw [if_neg (by decide), if_neg (by decide)] at hK
                  unfold Oper.wp
                  go_simp
                  try go_bits
                  exact hK _ _ (Below.refl _ _) (by first | rfl | (show Value.int _ _ = Value.int _ _; go_num; done) | (simp [valOf, *]; done) | (simp [valOf]; omega))
                · intro _ a' w' hb' hs hd hn Kc hK
                  have f110 : a'.tmps[110]?.getD undef = .bool false := hd 12 110 (by first | rfl | decide | simp [Region.binds]) rfl (by decide) (by decide) rfl
                  clear hs hd hn
                  rw [if_neg (by decide), if_neg (by decide)] at hK
                  unfold Oper.wp
                  go_simp
                  try go_bits
                  exact hK _ _ (Below.refl _ _) (by first | rfl | (show Value.int _ _ = Value.int _ _; go_num; done) | (simp [valOf, *]; done) | (simp [valOf]; omega))
                · exact fun h => absurd h (by decide)
                · exact fun h => absurd h (by decide)
                · exact fun h => absurd h (by decide)
                · exact fun h => absurd h (by decide)
                · exact fun h => absurd h (by decide)
                · exact fun h => absurd h (by decide)
                · exact fun h => absurd h (by decide)
                · exact fun h => absurd h (by decide)
                · exact fun h => absurd h (by decide)
                · exact fun h => absurd h (by decide)
                · exact fun h => absurd h (by decide)
                · exact fun h => absurd h (by decide)
                · exact fun h => absurd h (by decide)
                · exact fun h => absurd h (by decide)
                · intro _ a' w' hb' hs hd hn Kc hK
                  have f111 : a'.tmps[111]?.getD undef = .bool false := hd 13 111 (by first | rfl | decide | simp [Region.binds]) rfl (by decide) (by decide) rfl
                  clear hs hd hn
                  rw [if_neg (by decide), if_neg (by decide)] at hK
                  unfold Oper.wp
                  go_simp
                  try go_bits
                  exact hK _ _ (Below.refl _ _) (by first | rfl | (show Value.int _ _ = Value.int _ _; go_num; done) | (simp [valOf, *]; done) | (simp [valOf]; omega))
                · intro _ a' w' hb' hs hd hn Kc hK
                  have f109 : a'.tmps[109]?.getD undef = .bool false := hd 11 109 (by first | rfl | decide | simp [Region.binds]) rfl (by decide) (by decide) rfl
                  have f126 : a'.tmps[126]?.getD undef = .bool false := hd 28 126 (by first | rfl | decide | simp [Region.binds]) rfl (by decide) (by decide) rfl
                  clear hs hd hn
                  rw [if_neg (by decide), if_neg (by decide)] at hK
                  unfold Oper.wp
                  go_simp
                  try go_bits
                  exact hK _ _ (Below.refl _ _) (by first | rfl | (show Value.int _ _ = Value.int _ _; go_num; done) | (simp [valOf, *]; done) | (simp [valOf]; omega))
              intro Xf g w' hX hb hv
              have q127 : Xf 127 = .bool false := hv 29 127 rfl rfl (by decide) (by decide)
              clear hX hv
              simp only [List.map_cons, List.map_nil, q127, puts, Act.put, Nat.reduceAdd, List.setIfInBounds_toArray, List.set_cons_succ, List.set_cons_zero]
              have hb4 := bjoin hb hb3
              have gA4 := gA3.below hb
              have g34 := g33.below hb
              have ll4 : bl < w'.heap.size := Nat.lt_of_lt_of_le ll3 hb.size
              have v4 : w'.cell? ⟨bl, ol + t, none⟩ = some (.int .i64 X) := (hb.cell (p := ⟨bl, ol + t, none⟩) ll3).trans v3
              clear hb gA3 g33 ll3 v3 hb3 gX3 gY3
              generalize w' = w10 at *
              go_upto_region 16 with fail
              have hRe : ∀ W, Below w10.heap.size w10 W → Calls Tryd.prog 18 #[.agg #[.slice p h.n c, .slice (some ⟨bs, os, none⟩) h.m d, .bool h.b], .int .i64 X] W fun e w' => ∃ pm cm, e = .returned (.slice pm R cm) ∧ Ints .i64 w' pm R yy ∧ Below W.heap.size W w' := fun W hW => rrefs12_row (hat.below (bjoin hW hb4)).in hF'.out eM.out ey.out
              refine wp_late (ds := [some 128, some 129, some 130, some 131, some 132, some 133, some 15]) (ts := [128, 129, 130, 131, 132, 133, 15]) (pv := [(fun v _ => v = .agg #[.slice p h.n c, .slice (some ⟨bs, os, none⟩) h.m d, .bool h.b]), (fun v _ => v = .slice (some ⟨bl, ol, none⟩) M cl), (fun v _ => v = .int .i64 t), (fun v _ => v = .pointer (some ⟨bl, ol + t, none⟩)), (fun v _ => v = .int .i64 X), RowV (R) (yy), RowV (R) (yy)]) (skip := fun i => ([] : List Nat).contains i) (ia := 1000) (is := 1000) (k := 134) (Shape := (fun _ _ => True)) (Full := (fun _ _ => True)) (by kernel_rfl) (by kernel_rfl) rfl rfl (by decide) (by decide) (by simp) ?_ (by decide) (fun _ _ _ _ _ => trivial) (fun _ _ _ _ _ => trivial) ?_ ?_ ?_ ?_
              · exact .inl rfl
              · exact ⟨fun _ _ _ h _ => h, fun _ _ _ h _ => h, fun _ _ _ h _ => h, fun _ _ _ h _ => h, fun _ _ _ h _ => h, fun _ _ _ h hb => h.below hb, fun _ _ _ h hb => h.below hb, trivial⟩
              · exact ⟨rfl, rfl, rfl, rfl, rfl, rfl, rfl, trivial⟩
              · refine ⟨?_, ?_, ?_, ?_, ?_, ?_, ?_, trivial⟩
                · intro _ a' w' hb' hs hd hn Kc hK
                  have f2 : a'.tmps[2]?.getD undef = .pointer (some ⟨w.heap.size, 0, none⟩) := (hs 2 (by decide)).trans rfl
                  clear hs hd hn
                  rw [if_neg (by decide), if_neg (by decide)] at hK
                  have v17 : w'.cell? ⟨bl, ol + t, none⟩ = some (.int .i64 X) := (hb'.cell (p := ⟨bl, ol + t, none⟩) ll4).trans v4
                  obtain ⟨lB, k0, k1, k2, -, -, -⟩ := g34.below hb'
                  unfold Oper.wp
                  go_simp
                  try go_bits
                  exact hK _ _ (Below.refl _ _) (by first | rfl | (show Value.int _ _ = Value.int _ _; go_num; done) | (simp [valOf, *]; done) | (simp [valOf]; omega))
                · intro _ a' w' hb' hs hd hn Kc hK
                  have f7 : a'.tmps[7]?.getD undef = .slice (some ⟨bl, ol, none⟩) M cl := (hs 7 (by decide)).trans rfl
                  clear hs hd hn
                  rw [if_neg (by decide), if_neg (by decide)] at hK
                  have v17 : w'.cell? ⟨bl, ol + t, none⟩ = some (.int .i64 X) := (hb'.cell (p := ⟨bl, ol + t, none⟩) ll4).trans v4
                  obtain ⟨lB, k0, k1, k2, -, -, -⟩ := g34.below hb'
                  unfold Oper.wp
                  go_simp
                  try go_bits
                  exact hK _ _ (Below.refl _ _) (by first | rfl | (show Value.int _ _ = Value.int _ _; go_num; done) | (simp [valOf, *]; done) | (simp [valOf]; omega))
                · intro _ a' w' hb' hs hd hn Kc hK
                  have f9 : a'.tmps[9]?.getD undef = .int .i64 t := (hs 9 (by decide)).trans rfl
                  clear hs hd hn
                  rw [if_neg (by decide), if_neg (by decide)] at hK
                  have v17 : w'.cell? ⟨bl, ol + t, none⟩ = some (.int .i64 X) := (hb'.cell (p := ⟨bl, ol + t, none⟩) ll4).trans v4
                  obtain ⟨lB, k0, k1, k2, -, -, -⟩ := g34.below hb'
                  unfold Oper.wp
                  go_simp
                  try go_bits
                  exact hK _ _ (Below.refl _ _) (by first | rfl | (show Value.int _ _ = Value.int _ _; go_num; done) | (simp [valOf, *]; done) | (simp [valOf]; omega))
                · intro _ a' w' hb' hs hd hn Kc hK
                  have f129 : a'.tmps[129]?.getD undef = .slice (some ⟨bl, ol, none⟩) M cl := hd 1 129 (by first | rfl | decide | simp [Region.binds]) rfl (by decide) (by decide) rfl
                  have f130 : a'.tmps[130]?.getD undef = .int .i64 t := hd 2 130 (by first | rfl | decide | simp [Region.binds]) rfl (by decide) (by decide) rfl
                  clear hs hd hn
                  rw [if_neg (by decide), if_neg (by decide)] at hK
                  have v17 : w'.cell? ⟨bl, ol + t, none⟩ = some (.int .i64 X) := (hb'.cell (p := ⟨bl, ol + t, none⟩) ll4).trans v4
                  obtain ⟨lB, k0, k1, k2, -, -, -⟩ := g34.below hb'
                  unfold Oper.wp
                  go_simp
                  try go_bits
                  exact hK _ _ (Below.refl _ _) (by first | rfl | (show Value.int _ _ = Value.int _ _; go_num; done) | (simp [valOf, *]; done) | (simp [valOf]; omega))
                · intro _ a' w' hb' hs hd hn Kc hK
                  have f131 : a'.tmps[131]?.getD undef = .pointer (some ⟨bl, ol + t, none⟩) := hd 3 131 (by first | rfl | decide | simp [Region.binds]) rfl (by decide) (by decide) rfl
                  clear hs hd hn
                  rw [if_neg (by decide), if_neg (by decide)] at hK
                  have v17 : w'.cell? ⟨bl, ol + t, none⟩ = some (.int .i64 X) := (hb'.cell (p := ⟨bl, ol + t, none⟩) ll4).trans v4
                  obtain ⟨lB, k0, k1, k2, -, -, -⟩ := g34.below hb'
                  unfold Oper.wp
                  go_simp
                  try go_bits
                  exact hK _ _ (Below.refl _ _) (by first | rfl | (show Value.int _ _ = Value.int _ _; go_num; done) | (simp [valOf, *]; done) | (simp [valOf]; omega))
                · intro _ a' w' hb' hs hd hn Kc hK
                  have f128 : a'.tmps[128]?.getD undef = .agg #[.slice p h.n c, .slice (some ⟨bs, os, none⟩) h.m d, .bool h.b] := hd 0 128 (by first | rfl | decide | simp [Region.binds]) rfl (by decide) (by decide) rfl
                  have f132 : a'.tmps[132]?.getD undef = .int .i64 X := hd 4 132 (by first | rfl | decide | simp [Region.binds]) rfl (by decide) (by decide) rfl
                  clear hs hd hn
                  rw [if_neg (by decide), if_neg (by decide)] at hK
                  have v17 : w'.cell? ⟨bl, ol + t, none⟩ = some (.int .i64 X) := (hb'.cell (p := ⟨bl, ol + t, none⟩) ll4).trans v4
                  obtain ⟨lB, k0, k1, k2, -, -, -⟩ := g34.below hb'
                  unfold Oper.wp
                  go_simp
                  try go_bits
                  refine Calls.mono (hRe _ hb') ?_
                  rintro e w'' ⟨pm, cm, rfl, hA, hb2⟩
                  exact hK _ _ hb2 ⟨_, _, rfl, hA⟩
                · intro _ a' w' hb' hs hd hn Kc hK
                  obtain ⟨pm, cm, f133, hA⟩ := hd 5 133 (by first | rfl | decide | simp [Region.binds]) rfl (by decide) (by decide) rfl
                  clear hs hd hn
                  rw [if_neg (by decide), if_neg (by decide)] at hK
                  have v17 : w'.cell? ⟨bl, ol + t, none⟩ = some (.int .i64 X) := (hb'.cell (p := ⟨bl, ol + t, none⟩) ll4).trans v4
                  obtain ⟨lB, k0, k1, k2, -, -, -⟩ := g34.below hb'
                  unfold Oper.wp
                  go_simp
                  try go_bits
                  exact hK _ _ (Below.refl _ _) ⟨_, _, rfl, hA⟩
              intro Xf g w' hX hb hv
              obtain ⟨pm, cm, q15, hJ⟩ := hv 6 15 rfl rfl (by decide) (by decide)
              clear hX hv
              simp only [List.map_cons, List.map_nil, q15, puts, Act.put, Nat.reduceAdd, List.setIfInBounds_toArray, List.set_cons_succ, List.set_cons_zero]
              replace hb4 := bjoin hb hb4
              clear hb gA4 g34 ll4 v4 hRe
              generalize w' = w11 at hJ hb4 ⊢
              go_wp2
              go_loopg [8, 16] R (fun gg cv kv wr2 => gg = R ∧ kv = .int .i64 0 ∧ cv = .bool CL ∧ Below w11.heap.size w11 wr2)
              case atStart => exact ⟨rfl, rfl, rfl, Below.refl _ _⟩
              case round =>
                obtain ⟨rfl, rfl, rfl, hbz⟩ := hrel
                go_wp2
                all_goals
                  go_roundg (M - (t + 1))
                  case measure => omega
                  case rel => exact ⟨t + 1, CL, by omega, rfl, by go_num, rfl, hcn.out CL fun e => ⟨e, fun e2 => by rw [es'.out] at e2; cases e2⟩, bjoin hbz hb4⟩
            | true =>
              obtain ⟨rfl, rfl, rfl, hrf⟩ := hsm rfl
              have hcR1 := fun W (hW : Below w9.heap.size w9 W) => cR W p c (some ⟨bs, os, none⟩) d h (hat.below (bjoin hW hb3)).in hF'.out rfl
              have hcR2 := fun W (hW : Below w9.heap.size w9 W) => cR W p1 c1 q1 d1 A (hh1.below (bjoin hW hb3)) hAF.out hrf
              have hRR : ∀ W p' c' q' d' , Below w9.heap.size w9 W → ((∃ G, HpIn W p' h.n c' q' h.m d' h.b G ∧ formB G = true ∧ rfH G X = rfH h X)) → Calls Tryd.prog 18 #[.agg #[.slice p' h.n c', .slice q' h.m d', .bool h.b], .int .i64 X] W fun e w' => ∃ pm cm, e = .returned (.slice pm R cm) ∧ Ints .i64 w' pm R yy ∧ Below W.heap.size W w' := fun W p' c' q' d' hW ⟨G, h1, h2, h3⟩ => cR W p' c' q' d' G h1 h2 h3
              refine wp_late (ds := [some 98, some 99, some 100, some 101, some 102, some 103, some 104, some 105, some 106, some 107, some 108, some 109, some 110, some 111, some 112, some 113, some 114, some 115, some 116, some 117, some 118, some 119, some 120, some 121, some 122, some 123, some 124, some 125, some 126, some 127]) (ts := [98, 99, 100, 101, 102, 103, 104, 105, 106, 107, 108, 109, 110, 111, 112, 113, 114, 115, 116, 117, 118, 119, 120, 121, 122, 123, 124, 125, 126, 127]) (pv := [(fun v _ => v = .bool true), (fun v _ => v = .bool true), (fun v _ => v = .bool false), (fun v _ => v = .bool false), (fun v _ => v = .bool true), (fun v _ => v = .bool true), (fun v _ => v = .agg #[.bool true, .bool C2, .int .i64 K2, .int .i64 N2]), (fun v _ => v = .agg #[.bool true, .bool C2, .int .i64 K2, .int .i64 N2]), (fun v _ => v = .bool false), (fun v _ => v = .bool false), (fun v _ => v = .bool false), (fun v _ => v = .bool false), (fun v _ => v = .bool true), (fun v _ => v = .bool true), (fun v _ => v = .agg #[.slice p h.n c, .slice (some ⟨bs, os, none⟩) h.m d, .bool h.b]), (fun v _ => v = .slice (some ⟨bl, ol, none⟩) M cl), (fun v _ => v = .int .i64 t), (fun v _ => v = .pointer (some ⟨bl, ol + t, none⟩)), (fun v _ => v = .int .i64 X), RowV (R) (yy), (fun v _ => v = .agg #[.slice p1 h.n c1, .slice q1 h.m d1, .bool h.b]), (fun v _ => v = .slice (some ⟨bl, ol, none⟩) M cl), (fun v _ => v = .int .i64 t), (fun v _ => v = .pointer (some ⟨bl, ol + t, none⟩)), (fun v _ => v = .int .i64 X), RowV (R) (yy), (fun v _ => v = .bool true), (fun v _ => v = .bool false), (fun v _ => v = .bool false), (fun v _ => v = .bool false)]) (skip := fun i => ([] : List Nat).contains i) (ia := 1000) (is := 1000) (k := 128) (Shape := (fun _ _ => True)) (Full := (fun _ _ => True)) (by kernel_rfl) (by kernel_rfl) rfl rfl (by decide) (by decide) (by simp) ?_ (by decide) (fun _ _ _ _ _ => trivial) (fun _ _ _ _ _ => trivial) ?_ ?_ ?_ ?_
              · exact .inl rfl
              · exact ⟨fun _ _ _ h _ => h, fun _ _ _ h _ => h, fun _ _ _ h _ => h, fun _ _ _ h _ => h, fun _ _ _ h _ => h, fun _ _ _ h _ => h, fun _ _ _ h _ => h, fun _ _ _ h _ => h, fun _ _ _ h _ => h, fun _ _ _ h _ => h, fun _ _ _ h _ => h, fun _ _ _ h _ => h, fun _ _ _ h _ => h, fun _ _ _ h _ => h, fun _ _ _ h _ => h, fun _ _ _ h _ => h, fun _ _ _ h _ => h, fun _ _ _ h _ => h, fun _ _ _ h _ => h, fun _ _ _ h hb => h.below hb, fun _ _ _ h _ => h, fun _ _ _ h _ => h, fun _ _ _ h _ => h, fun _ _ _ h _ => h, fun _ _ _ h _ => h, fun _ _ _ h hb => h.below hb, fun _ _ _ h _ => h, fun _ _ _ h _ => h, fun _ _ _ h _ => h, fun _ _ _ h _ => h, trivial⟩
              · exact ⟨rfl, rfl, rfl, rfl, ⟨rfl, ⟨_, rfl⟩, by decide, by decide, fun _ _ h => h⟩, ⟨rfl, ⟨_, rfl⟩, by decide, by decide, fun _ _ h => h⟩, ⟨rfl, ⟨_, rfl⟩, by decide, by decide, fun _ _ h => h⟩, ⟨rfl, ⟨_, rfl⟩, by decide, by decide, fun _ _ h => h⟩, ⟨rfl, ⟨_, rfl⟩, by decide, by decide, fun _ _ h => h⟩, ⟨rfl, ⟨_, rfl⟩, by decide, by decide, fun _ _ h => h⟩, rfl, rfl, ⟨rfl, ⟨_, rfl⟩, by decide, by decide, fun _ _ h => h⟩, ⟨rfl, ⟨_, rfl⟩, by decide, by decide, fun _ _ h => h⟩, ⟨rfl, ⟨_, rfl⟩, by decide, by decide, fun _ _ h => h⟩, ⟨rfl, ⟨_, rfl⟩, by decide, by decide, fun _ _ h => h⟩, ⟨rfl, ⟨_, rfl⟩, by decide, by decide, fun _ _ h => h⟩, ⟨rfl, ⟨_, rfl⟩, by decide, by decide, fun _ _ h => h⟩, ⟨rfl, ⟨_, rfl⟩, by decide, by decide, fun _ _ h => h⟩, ⟨rfl, ⟨_, rfl⟩, by decide, by decide, fun _ _ h => h⟩, ⟨rfl, ⟨_, rfl⟩, by decide, by decide, fun _ _ h => h⟩, ⟨rfl, ⟨_, rfl⟩, by decide, by decide, fun _ _ h => h⟩, ⟨rfl, ⟨_, rfl⟩, by decide, by decide, fun _ _ h => h⟩, ⟨rfl, ⟨_, rfl⟩, by decide, by decide, fun _ _ h => h⟩, ⟨rfl, ⟨_, rfl⟩, by decide, by decide, fun _ _ h => h⟩, ⟨rfl, ⟨_, rfl⟩, by decide, by decide, fun _ _ h => h⟩, ⟨rfl, ⟨_, rfl⟩, by decide, by decide, fun _ _ h => h⟩, ⟨rfl, ⟨_, rfl⟩, by decide, by decide, fun _ _ h => h⟩, ⟨rfl, ⟨_, rfl⟩, by decide, by decide, fun _ _ h => h⟩, rfl, trivial⟩
              · refine ⟨?_, ?_, ?_, ?_, ?_, ?_, ?_, ?_, ?_, ?_, ?_, ?_, ?_, ?_, ?_, ?_, ?_, ?_, ?_, ?_, ?_, ?_, ?_, ?_, ?_, ?_, ?_, ?_, ?_, ?_, trivial⟩
                · intro _ a' w' hb' hs hd hn Kc hK
                  have f13 : a'.tmps[13]?.getD undef = .bool true := (hs 13 (by decide)).trans rfl
                  clear hs hd hn
                  rw [if_neg (by decide), if_neg (by decide)] at hK
                  have v17 : w'.cell? ⟨bl, ol + t, none⟩ = some (.int .i64 X) := (hb'.cell (p := ⟨bl, ol + t, none⟩) ll3).trans v3
                  obtain ⟨lB, k0, k1, k2, -, -, -⟩ := g33.below hb'
                  obtain ⟨lA, a0, a1, a2, -, -, -⟩ := gA3.below hb'
                  obtain ⟨lX, m0', m1', m2', m3', -, -, -, -⟩ := gX3.below hb'
                  obtain ⟨lY, o0', o1', o2', o3', -, -, -, -⟩ := gY3.below hb'
                  have e1 : ∃ G, HpIn w' p h.n c (some ⟨bs, os, none⟩) h.m d h.b G ∧ formB G = true ∧ rfH G X = rfH h X := ⟨h, (hat.below (bjoin hb' hb3)).in, hF'.out, rfl⟩
                  have e2 : ∃ G, HpIn w' p1 h.n c1 q1 h.m d1 h.b G ∧ formB G = true ∧ rfH G X = rfH h X := ⟨A, hh1.below (bjoin hb' hb3), hAF.out, hrf⟩
                  unfold Oper.wp
                  go_simp
                  try go_bits
                  exact hK _ _ (Below.refl _ _) (by first | rfl | (show Value.int _ _ = Value.int _ _; go_num; done) | (simp [valOf, *]; done) | (simp [valOf]; omega))
                · intro _ a' w' hb' hs hd hn Kc hK
                  have f14 : a'.tmps[14]?.getD undef = .bool true := (hs 14 (by decide)).trans rfl
                  clear hs hd hn
                  rw [if_neg (by decide), if_neg (by decide)] at hK
                  have v17 : w'.cell? ⟨bl, ol + t, none⟩ = some (.int .i64 X) := (hb'.cell (p := ⟨bl, ol + t, none⟩) ll3).trans v3
                  obtain ⟨lB, k0, k1, k2, -, -, -⟩ := g33.below hb'
                  obtain ⟨lA, a0, a1, a2, -, -, -⟩ := gA3.below hb'
                  obtain ⟨lX, m0', m1', m2', m3', -, -, -, -⟩ := gX3.below hb'
                  obtain ⟨lY, o0', o1', o2', o3', -, -, -, -⟩ := gY3.below hb'
                  have e1 : ∃ G, HpIn w' p h.n c (some ⟨bs, os, none⟩) h.m d h.b G ∧ formB G = true ∧ rfH G X = rfH h X := ⟨h, (hat.below (bjoin hb' hb3)).in, hF'.out, rfl⟩
                  have e2 : ∃ G, HpIn w' p1 h.n c1 q1 h.m d1 h.b G ∧ formB G = true ∧ rfH G X = rfH h X := ⟨A, hh1.below (bjoin hb' hb3), hAF.out, hrf⟩
                  unfold Oper.wp
                  go_simp
                  try go_bits
                  exact hK _ _ (Below.refl _ _) (by first | rfl | (show Value.int _ _ = Value.int _ _; go_num; done) | (simp [valOf, *]; done) | (simp [valOf]; omega))
                · intro _ a' w' hb' hs hd hn Kc hK
                  have f98 : a'.tmps[98]?.getD undef = .bool true := hd 0 98 (by first | rfl | decide | simp [Region.binds]) rfl (by decide) (by decide) rfl
                  have f99 : a'.tmps[99]?.getD undef = .bool true := hd 1 99 (by first | rfl | decide | simp [Region.binds]) rfl (by decide) (by decide) rfl
                  clear hs hd hn
                  rw [if_neg (by decide), if_neg (by decide)] at hK
                  have v17 : w'.cell? ⟨bl, ol + t, none⟩ = some (.int .i64 X) := (hb'.cell (p := ⟨bl, ol + t, none⟩) ll3).trans v3
                  obtain ⟨lB, k0, k1, k2, -, -, -⟩ := g33.below hb'
                  obtain ⟨lA, a0, a1, a2, -, -, -⟩ := gA3.below hb'
                  obtain ⟨lX, m0', m1', m2', m3', -, -, -, -⟩ := gX3.below hb'
                  obtain ⟨lY, o0', o1', o2', o3', -, -, -, -⟩ := gY3.below hb'
                  have e1 : ∃ G, HpIn w' p h.n c (some ⟨bs, os, none⟩) h.m d h.b G ∧ formB G = true ∧ rfH G X = rfH h X := ⟨h, (hat.below (bjoin hb' hb3)).in, hF'.out, rfl⟩
                  have e2 : ∃ G, HpIn w' p1 h.n c1 q1 h.m d1 h.b G ∧ formB G = true ∧ rfH G X = rfH h X := ⟨A, hh1.below (bjoin hb' hb3), hAF.out, hrf⟩
                  unfold Oper.wp
                  go_simp
                  try go_bits
                  exact hK _ _ (Below.refl _ _) (by first | rfl | (show Value.int _ _ = Value.int _ _; go_num; done) | (simp [valOf, *]; done) | (simp [valOf]; omega))
                · intro _ a' w' hb' hs hd hn Kc hK
                  have f100 : a'.tmps[100]?.getD undef = .bool false := hd 2 100 (by first | rfl | decide | simp [Region.binds]) rfl (by decide) (by decide) rfl
                  clear hs hd hn
                  rw [if_neg (by decide), if_neg (by decide)] at hK
                  have v17 : w'.cell? ⟨bl, ol + t, none⟩ = some (.int .i64 X) := (hb'.cell (p := ⟨bl, ol + t, none⟩) ll3).trans v3
                  obtain ⟨lB, k0, k1, k2, -, -, -⟩ := g33.below hb'
                  obtain ⟨lA, a0, a1, a2, -, -, -⟩ := gA3.below hb'
                  obtain ⟨lX, m0', m1', m2', m3', -, -, -, -⟩ := gX3.below hb'
                  obtain ⟨lY, o0', o1', o2', o3', -, -, -, -⟩ := gY3.below hb'
                  have e1 : ∃ G, HpIn w' p h.n c (some ⟨bs, os, none⟩) h.m d h.b G ∧ formB G = true ∧ rfH G X = rfH h X := ⟨h, (hat.below (bjoin hb' hb3)).in, hF'.out, rfl⟩
                  have e2 : ∃ G, HpIn w' p1 h.n c1 q1 h.m d1 h.b G ∧ formB G = true ∧ rfH G X = rfH h X := ⟨A, hh1.below (bjoin hb' hb3), hAF.out, hrf⟩
                  unfold Oper.wp
                  go_simp
                  try go_bits
                  exact hK _ _ (Below.refl _ _) (by first | rfl | (show Value.int _ _ = Value.int _ _; go_num; done) | (simp [valOf, *]; done) | (simp [valOf]; omega))
                · intro _ a' w' hb' hs hd hn Kc hK
                  have f13 : a'.tmps[13]?.getD undef = .bool true := (hs 13 (by decide)).trans rfl
                  clear hs hd hn
                  rw [if_neg (by decide), if_neg (by decide)] at hK
                  have v17 : w'.cell? ⟨bl, ol + t, none⟩ = some (.int .i64 X) := (hb'.cell (p := ⟨bl, ol + t, none⟩) ll3).trans v3
                  obtain ⟨lB, k0, k1, k2, -, -, -⟩ := g33.below hb'
                  obtain ⟨lA, a0, a1, a2, -, -, -⟩ := gA3.below hb'
                  obtain ⟨lX, m0', m1', m2', m3', -, -, -, -⟩ := gX3.below hb'
                  obtain ⟨lY, o0', o1', o2', o3', -, -, -, -⟩ := gY3.below hb'
                  have e1 : ∃ G, HpIn w' p h.n c (some ⟨bs, os, none⟩) h.m d h.b G ∧ formB G = true ∧ rfH G X = rfH h X := ⟨h, (hat.below (bjoin hb' hb3)).in, hF'.out, rfl⟩
                  have e2 : ∃ G, HpIn w' p1 h.n c1 q1 h.m d1 h.b G ∧ formB G = true ∧ rfH G X = rfH h X := ⟨A, hh1.below (bjoin hb' hb3), hAF.out, hrf⟩
                  unfold Oper.wp
                  go_simp
                  try go_bits
                  exact hK _ _ (Below.refl _ _) (by first | rfl | (show Value.int _ _ = Value.int _ _; go_num; done) | (simp [valOf, *]; done) | (simp [valOf]; omega))
                · intro _ a' w' hb' hs hd hn Kc hK
                  have f102 : a'.tmps[102]?.getD undef = .bool true := hd 4 102 (by first | rfl | decide | simp [Region.binds]) rfl (by decide) (by decide) rfl
                  clear hs hd hn
                  rw [if_neg (by decide), if_neg (by decide)] at hK
                  have v17 : w'.cell? ⟨bl, ol + t, none⟩ = some (.int .i64 X) := (hb'.cell (p := ⟨bl, ol + t, none⟩) ll3).trans v3
                  obtain ⟨lB, k0, k1, k2, -, -, -⟩ := g33.below hb'
                  obtain ⟨lA, a0, a1, a2, -, -, -⟩ := gA3.below hb'
                  obtain ⟨lX, m0', m1', m2', m3', -, -, -, -⟩ := gX3.below hb'
                  obtain ⟨lY, o0', o1', o2', o3', -, -, -, -⟩ := gY3.below hb'
                  have e1 : ∃ G, HpIn w' p h.n c (some ⟨bs, os, none⟩) h.m d h.b G ∧ formB G = true ∧ rfH G X = rfH h X := ⟨h, (hat.below (bjoin hb' hb3)).in, hF'.out, rfl⟩
                  have e2 : ∃ G, HpIn w' p1 h.n c1 q1 h.m d1 h.b G ∧ formB G = true ∧ rfH G X = rfH h X := ⟨A, hh1.below (bjoin hb' hb3), hAF.out, hrf⟩
                  unfold Oper.wp
                  go_simp
                  try go_bits
                  exact hK _ _ (Below.refl _ _) (by first | rfl | (show Value.int _ _ = Value.int _ _; go_num; done) | (simp [valOf, *]; done) | (simp [valOf]; omega))
                · intro _ a' w' hb' hs hd hn Kc hK
                  have f10 : a'.tmps[10]?.getD undef = .pointer (some ⟨gx, 0, none⟩) := (hs 10 (by decide)).trans rfl
                  clear hs hd hn
                  rw [if_neg (by decide), if_neg (by decide)] at hK
                  have v17 : w'.cell? ⟨bl, ol + t, none⟩ = some (.int .i64 X) := (hb'.cell (p := ⟨bl, ol + t, none⟩) ll3).trans v3
                  obtain ⟨lB, k0, k1, k2, -, -, -⟩ := g33.below hb'
                  obtain ⟨lA, a0, a1, a2, -, -, -⟩ := gA3.below hb'
                  obtain ⟨lX, m0', m1', m2', m3', -, -, -, -⟩ := gX3.below hb'
                  obtain ⟨lY, o0', o1', o2', o3', -, -, -, -⟩ := gY3.below hb'
                  have e1 : ∃ G, HpIn w' p h.n c (some ⟨bs, os, none⟩) h.m d h.b G ∧ formB G = true ∧ rfH G X = rfH h X := ⟨h, (hat.below (bjoin hb' hb3)).in, hF'.out, rfl⟩
                  have e2 : ∃ G, HpIn w' p1 h.n c1 q1 h.m d1 h.b G ∧ formB G = true ∧ rfH G X = rfH h X := ⟨A, hh1.below (bjoin hb' hb3), hAF.out, hrf⟩
                  unfold Oper.wp
                  go_simp
                  try go_bits
                  exact hK _ _ (Below.refl _ _) (by first | rfl | (show Value.int _ _ = Value.int _ _; go_num; done) | (simp [valOf, *]; done) | (simp [valOf]; omega))
                · intro _ a' w' hb' hs hd hn Kc hK
                  have f12 : a'.tmps[12]?.getD undef = .pointer (some ⟨gy, 0, none⟩) := (hs 12 (by decide)).trans rfl
                  clear hs hd hn
                  rw [if_neg (by decide), if_neg (by decide)] at hK
                  have v17 : w'.cell? ⟨bl, ol + t, none⟩ = some (.int .i64 X) := (hb'.cell (p := ⟨bl, ol + t, none⟩) ll3).trans v3
                  obtain ⟨lB, k0, k1, k2, -, -, -⟩ := g33.below hb'
                  obtain ⟨lA, a0, a1, a2, -, -, -⟩ := gA3.below hb'
                  obtain ⟨lX, m0', m1', m2', m3', -, -, -, -⟩ := gX3.below hb'
                  obtain ⟨lY, o0', o1', o2', o3', -, -, -, -⟩ := gY3.below hb'
                  have e1 : ∃ G, HpIn w' p h.n c (some ⟨bs, os, none⟩) h.m d h.b G ∧ formB G = true ∧ rfH G X = rfH h X := ⟨h, (hat.below (bjoin hb' hb3)).in, hF'.out, rfl⟩
                  have e2 : ∃ G, HpIn w' p1 h.n c1 q1 h.m d1 h.b G ∧ formB G = true ∧ rfH G X = rfH h X := ⟨A, hh1.below (bjoin hb' hb3), hAF.out, hrf⟩
                  unfold Oper.wp
                  go_simp
                  try go_bits
                  exact hK _ _ (Below.refl _ _) (by first | rfl | (show Value.int _ _ = Value.int _ _; go_num; done) | (simp [valOf, *]; done) | (simp [valOf]; omega))
                · intro _ a' w' hb' hs hd hn Kc hK
                  have f104 : a'.tmps[104]?.getD undef = .agg #[.bool true, .bool C2, .int .i64 K2, .int .i64 N2] := hd 6 104 (by first | rfl | decide | simp [Region.binds]) rfl (by decide) (by decide) rfl
                  have f105 : a'.tmps[105]?.getD undef = .agg #[.bool true, .bool C2, .int .i64 K2, .int .i64 N2] := hd 7 105 (by first | rfl | decide | simp [Region.binds]) rfl (by decide) (by decide) rfl
                  clear hs hd hn
                  rw [if_neg (by decide), if_neg (by decide)] at hK
                  have v17 : w'.cell? ⟨bl, ol + t, none⟩ = some (.int .i64 X) := (hb'.cell (p := ⟨bl, ol + t, none⟩) ll3).trans v3
                  obtain ⟨lB, k0, k1, k2, -, -, -⟩ := g33.below hb'
                  obtain ⟨lA, a0, a1, a2, -, -, -⟩ := gA3.below hb'
                  obtain ⟨lX, m0', m1', m2', m3', -, -, -, -⟩ := gX3.below hb'
                  obtain ⟨lY, o0', o1', o2', o3', -, -, -, -⟩ := gY3.below hb'
                  have e1 : ∃ G, HpIn w' p h.n c (some ⟨bs, os, none⟩) h.m d h.b G ∧ formB G = true ∧ rfH G X = rfH h X := ⟨h, (hat.below (bjoin hb' hb3)).in, hF'.out, rfl⟩
                  have e2 : ∃ G, HpIn w' p1 h.n c1 q1 h.m d1 h.b G ∧ formB G = true ∧ rfH G X = rfH h X := ⟨A, hh1.below (bjoin hb' hb3), hAF.out, hrf⟩
                  unfold Oper.wp
                  go_simp
                  try go_bits
                  exact hK _ _ (Below.refl _ _) (by first | rfl | (show Value.int _ _ = Value.int _ _; go_num; done) | (simp [valOf, *]; done) | (simp [valOf]; omega))
                · intro _ a' w' hb' hs hd hn Kc hK
                  have f103 : a'.tmps[103]?.getD undef = .bool true := hd 5 103 (by first | rfl | decide | simp [Region.binds]) rfl (by decide) (by decide) rfl
                  have f106 : a'.tmps[106]?.getD undef = .bool false := hd 8 106 (by first | rfl | decide | simp [Region.binds]) rfl (by decide) (by decide) rfl
                  clear hs hd hn
                  rw [if_neg (by decide), if_neg (by decide)] at hK
                  have v17 : w'.cell? ⟨bl, ol + t, none⟩ = some (.int .i64 X) := (hb'.cell (p := ⟨bl, ol + t, none⟩) ll3).trans v3
                  obtain ⟨lB, k0, k1, k2, -, -, -⟩ := g33.below hb'
                  obtain ⟨lA, a0, a1, a2, -, -, -⟩ := gA3.below hb'
                  obtain ⟨lX, m0', m1', m2', m3', -, -, -, -⟩ := gX3.below hb'
                  obtain ⟨lY, o0', o1', o2', o3', -, -, -, -⟩ := gY3.below hb'
                  have e1 : ∃ G, HpIn w' p h.n c (some ⟨bs, os, none⟩) h.m d h.b G ∧ formB G = true ∧ rfH G X = rfH h X := ⟨h, (hat.below (bjoin hb' hb3)).in, hF'.out, rfl⟩
                  have e2 : ∃ G, HpIn w' p1 h.n c1 q1 h.m d1 h.b G ∧ formB G = true ∧ rfH G X = rfH h X := ⟨A, hh1.below (bjoin hb' hb3), hAF.out, hrf⟩
                  unfold Oper.wp
                  go_simp
                  try go_bits
                  exact hK _ _ (Below.refl _ _) (by first | rfl | (show Value.int _ _ = Value.int _ _; go_num; done) | (simp [valOf, *]; done) | (simp [valOf]; omega))
                · intro _ a' w' hb' hs hd hn Kc hK
                  have f101 : a'.tmps[101]?.getD undef = .bool false := hd 3 101 (by first | rfl | decide | simp [Region.binds]) rfl (by decide) (by decide) rfl
                  have f107 : a'.tmps[107]?.getD undef = .bool false := hd 9 107 (by first | rfl | decide | simp [Region.binds]) rfl (by decide) (by decide) rfl
                  clear hs hd hn
                  rw [if_neg (by decide), if_neg (by decide)] at hK
                  have v17 : w'.cell? ⟨bl, ol + t, none⟩ = some (.int .i64 X) := (hb'.cell (p := ⟨bl, ol + t, none⟩) ll3).trans v3
                  obtain ⟨lB, k0, k1, k2, -, -, -⟩ := g33.below hb'
                  obtain ⟨lA, a0, a1, a2, -, -, -⟩ := gA3.below hb'
                  obtain ⟨lX, m0', m1', m2', m3', -, -, -, -⟩ := gX3.below hb'
                  obtain ⟨lY, o0', o1', o2', o3', -, -, -, -⟩ := gY3.below hb'
                  have e1 : ∃ G, HpIn w' p h.n c (some ⟨bs, os, none⟩) h.m d h.b G ∧ formB G = true ∧ rfH G X = rfH h X := ⟨h, (hat.below (bjoin hb' hb3)).in, hF'.out, rfl⟩
                  have e2 : ∃ G, HpIn w' p1 h.n c1 q1 h.m d1 h.b G ∧ formB G = true ∧ rfH G X = rfH h X := ⟨A, hh1.below (bjoin hb' hb3), hAF.out, hrf⟩
                  unfold Oper.wp
                  go_simp
                  try go_bits
                  exact hK _ _ (Below.refl _ _) (by first | rfl | (show Value.int _ _ = Value.int _ _; go_num; done) | (simp [valOf, *]; done) | (simp [valOf]; omega))
                · intro _ a' w' hb' hs hd hn Kc hK
                  have f108 : a'.tmps[108]?.getD undef = .bool false := hd 10 108 (by first | rfl | decide | simp [Region.binds]) rfl (by decide) (by decide) rfl
                  clear hs hd hn
                  rw [if_neg (by decide), if_neg (by decide)] at hK
                  have v17 : w'.cell? ⟨bl, ol + t, none⟩ = some (.int .i64 X) := (hb'.cell (p := ⟨bl, ol + t, none⟩) ll3).trans v3
                  obtain ⟨lB, k0, k1, k2, -, -, -⟩ := g33.below hb'
                  obtain ⟨lA, a0, a1, a2, -, -, -⟩ := gA3.below hb'
                  obtain ⟨lX, m0', m1', m2', m3', -, -, -, -⟩ := gX3.below hb'
                  obtain ⟨lY, o0', o1', o2', o3', -, -, -, -⟩ := gY3.below hb'
                  have e1 : ∃ G, HpIn w' p h.n c (some ⟨bs, os, none⟩) h.m d h.b G ∧ formB G = true ∧ rfH G X = rfH h X := ⟨h, (hat.below (bjoin hb' hb3)).in, hF'.out, rfl⟩
                  have e2 : ∃ G, HpIn w' p1 h.n c1 q1 h.m d1 h.b G ∧ formB G = true ∧ rfH G X = rfH h X := ⟨A, hh1.below (bjoin hb' hb3), hAF.out, hrf⟩
                  unfold Oper.wp
                  go_simp
                  try go_bits
                  exact hK _ _ (Below.refl _ _) (by first | rfl | (show Value.int _ _ = Value.int _ _; go_num; done) | (simp [valOf, *]; done) | (simp [valOf]; omega))
                · intro _ a' w' hb' hs hd hn Kc hK
                  have f13 : a'.tmps[13]?.getD undef = .bool true := (hs 13 (by decide)).trans rfl
                  clear hs hd hn
                  rw [if_neg (by decide), if_neg (by decide)] at hK
                  have v17 : w'.cell? ⟨bl, ol + t, none⟩ = some (.int .i64 X) := (hb'.cell (p := ⟨bl, ol + t, none⟩) ll3).trans v3
                  obtain ⟨lB, k0, k1, k2, -, -, -⟩ := g33.below hb'
                  obtain ⟨lA, a0, a1, a2, -, -, -⟩ := gA3.below hb'
                  obtain ⟨lX, m0', m1', m2', m3', -, -, -, -⟩ := gX3.below hb'
                  obtain ⟨lY, o0', o1', o2', o3', -, -, -, -⟩ := gY3.below hb'
                  have e1 : ∃ G, HpIn w' p h.n c (some ⟨bs, os, none⟩) h.m d h.b G ∧ formB G = true ∧ rfH G X = rfH h X := ⟨h, (hat.below (bjoin hb' hb3)).in, hF'.out, rfl⟩
                  have e2 : ∃ G, HpIn w' p1 h.n c1 q1 h.m d1 h.b G ∧ formB G = true ∧ rfH G X = rfH h X := ⟨A, hh1.below (bjoin hb' hb3), hAF.out, hrf⟩
                  unfold Oper.wp
                  go_simp
                  try go_bits
                  exact hK _ _ (Below.refl _ _) (by first | rfl | (show Value.int _ _ = Value.int _ _; go_num; done) | (simp [valOf, *]; done) | (simp [valOf]; omega))
                · intro _ a' w' hb' hs hd hn Kc hK
                  have f110 : a'.tmps[110]?.getD undef = .bool true := hd 12 110 (by first | rfl | decide | simp [Region.binds]) rfl (by decide) (by decide) rfl
                  clear hs hd hn
                  rw [if_neg (by decide), if_neg (by decide)] at hK
                  have v17 : w'.cell? ⟨bl, ol + t, none⟩ = some (.int .i64 X) := (hb'.cell (p := ⟨bl, ol + t, none⟩) ll3).trans v3
                  obtain ⟨lB, k0, k1, k2, -, -, -⟩ := g33.below hb'
                  obtain ⟨lA, a0, a1, a2, -, -, -⟩ := gA3.below hb'
                  obtain ⟨lX, m0', m1', m2', m3', -, -, -, -⟩ := gX3.below hb'
                  obtain ⟨lY, o0', o1', o2', o3', -, -, -, -⟩ := gY3.below hb'
                  have e1 : ∃ G, HpIn w' p h.n c (some ⟨bs, os, none⟩) h.m d h.b G ∧ formB G = true ∧ rfH G X = rfH h X := ⟨h, (hat.below (bjoin hb' hb3)).in, hF'.out, rfl⟩
                  have e2 : ∃ G, HpIn w' p1 h.n c1 q1 h.m d1 h.b G ∧ formB G = true ∧ rfH G X = rfH h X := ⟨A, hh1.below (bjoin hb' hb3), hAF.out, hrf⟩
                  unfold Oper.wp
                  go_simp
                  try go_bits
                  exact hK _ _ (Below.refl _ _) (by first | rfl | (show Value.int _ _ = Value.int _ _; go_num; done) | (simp [valOf, *]; done) | (simp [valOf]; omega))
                · intro _ a' w' hb' hs hd hn Kc hK
                  have f2 : a'.tmps[2]?.getD undef = .pointer (some ⟨w.heap.size, 0, none⟩) := (hs 2 (by decide)).trans rfl
                  clear hs hd hn
                  rw [if_neg (by decide), if_neg (by decide)] at hK
                  have v17 : w'.cell? ⟨bl, ol + t, none⟩ = some (.int .i64 X) := (hb'.cell (p := ⟨bl, ol + t, none⟩) ll3).trans v3
                  obtain ⟨lB, k0, k1, k2, -, -, -⟩ := g33.below hb'
                  obtain ⟨lA, a0, a1, a2, -, -, -⟩ := gA3.below hb'
                  obtain ⟨lX, m0', m1', m2', m3', -, -, -, -⟩ := gX3.below hb'
                  obtain ⟨lY, o0', o1', o2', o3', -, -, -, -⟩ := gY3.below hb'
                  have e1 : ∃ G, HpIn w' p h.n c (some ⟨bs, os, none⟩) h.m d h.b G ∧ formB G = true ∧ rfH G X = rfH h X := ⟨h, (hat.below (bjoin hb' hb3)).in, hF'.out, rfl⟩
                  have e2 : ∃ G, HpIn w' p1 h.n c1 q1 h.m d1 h.b G ∧ formB G = true ∧ rfH G X = rfH h X := ⟨A, hh1.below (bjoin hb' hb3), hAF.out, hrf⟩
                  unfold Oper.wp
                  go_simp
                  try go_bits
                  exact hK _ _ (Below.refl _ _) (by first | rfl | (show Value.int _ _ = Value.int _ _; go_num; done) | (simp [valOf, *]; done) | (simp [valOf]; omega))
                · intro _ a' w' hb' hs hd hn Kc hK
                  have f7 : a'.tmps[7]?.getD undef = .slice (some ⟨bl, ol, none⟩) M cl := (hs 7 (by decide)).trans rfl
                  clear hs hd hn
                  rw [if_neg (by decide), if_neg (by decide)] at hK
                  have v17 : w'.cell? ⟨bl, ol + t, none⟩ = some (.int .i64 X) := (hb'.cell (p := ⟨bl, ol + t, none⟩) ll3).trans v3
                  obtain ⟨lB, k0, k1, k2, -, -, -⟩ := g33.below hb'
                  obtain ⟨lA, a0, a1, a2, -, -, -⟩ := gA3.below hb'
                  obtain ⟨lX, m0', m1', m2', m3', -, -, -, -⟩ := gX3.below hb'
                  obtain ⟨lY, o0', o1', o2', o3', -, -, -, -⟩ := gY3.below hb'
                  have e1 : ∃ G, HpIn w' p h.n c (some ⟨bs, os, none⟩) h.m d h.b G ∧ formB G = true ∧ rfH G X = rfH h X := ⟨h, (hat.below (bjoin hb' hb3)).in, hF'.out, rfl⟩
                  have e2 : ∃ G, HpIn w' p1 h.n c1 q1 h.m d1 h.b G ∧ formB G = true ∧ rfH G X = rfH h X := ⟨A, hh1.below (bjoin hb' hb3), hAF.out, hrf⟩
                  unfold Oper.wp
                  go_simp
                  try go_bits
                  exact hK _ _ (Below.refl _ _) (by first | rfl | (show Value.int _ _ = Value.int _ _; go_num; done) | (simp [valOf, *]; done) | (simp [valOf]; omega))
                · intro _ a' w' hb' hs hd hn Kc hK
                  have f9 : a'.tmps[9]?.getD undef = .int .i64 t := (hs 9 (by decide)).trans rfl
                  clear hs hd hn
                  rw [if_neg (by decide), if_neg (by decide)] at hK
                  have v17 : w'.cell? ⟨bl, ol + t, none⟩ = some (.int .i64 X) := (hb'.cell (p := ⟨bl, ol + t, none⟩) ll3).trans v3
                  obtain ⟨lB, k0, k1, k2, -, -, -⟩ := g33.below hb'
                  obtain ⟨lA, a0, a1, a2, -, -, -⟩ := gA3.below hb'
                  obtain ⟨lX, m0', m1', m2', m3', -, -, -, -⟩ := gX3.below hb'
                  obtain ⟨lY, o0', o1', o2', o3', -, -, -, -⟩ := gY3.below hb'
                  have e1 : ∃ G, HpIn w' p h.n c (some ⟨bs, os, none⟩) h.m d h.b G ∧ formB G = true ∧ rfH G X = rfH h X := ⟨h, (hat.below (bjoin hb' hb3)).in, hF'.out, rfl⟩
                  have e2 : ∃ G, HpIn w' p1 h.n c1 q1 h.m d1 h.b G ∧ formB G = true ∧ rfH G X = rfH h X := ⟨A, hh1.below (bjoin hb' hb3), hAF.out, hrf⟩
                  unfold Oper.wp
                  go_simp
                  try go_bits
                  exact hK _ _ (Below.refl _ _) (by first | rfl | (show Value.int _ _ = Value.int _ _; go_num; done) | (simp [valOf, *]; done) | (simp [valOf]; omega))
                · intro _ a' w' hb' hs hd hn Kc hK
                  have f113 : a'.tmps[113]?.getD undef = .slice (some ⟨bl, ol, none⟩) M cl := hd 15 113 (by first | rfl | decide | simp [Region.binds]) rfl (by decide) (by decide) rfl
                  have f114 : a'.tmps[114]?.getD undef = .int .i64 t := hd 16 114 (by first | rfl | decide | simp [Region.binds]) rfl (by decide) (by decide) rfl
                  clear hs hd hn
                  rw [if_neg (by decide), if_neg (by decide)] at hK
                  have v17 : w'.cell? ⟨bl, ol + t, none⟩ = some (.int .i64 X) := (hb'.cell (p := ⟨bl, ol + t, none⟩) ll3).trans v3
                  obtain ⟨lB, k0, k1, k2, -, -, -⟩ := g33.below hb'
                  obtain ⟨lA, a0, a1, a2, -, -, -⟩ := gA3.below hb'
                  obtain ⟨lX, m0', m1', m2', m3', -, -, -, -⟩ := gX3.below hb'
                  obtain ⟨lY, o0', o1', o2', o3', -, -, -, -⟩ := gY3.below hb'
                  have e1 : ∃ G, HpIn w' p h.n c (some ⟨bs, os, none⟩) h.m d h.b G ∧ formB G = true ∧ rfH G X = rfH h X := ⟨h, (hat.below (bjoin hb' hb3)).in, hF'.out, rfl⟩
                  have e2 : ∃ G, HpIn w' p1 h.n c1 q1 h.m d1 h.b G ∧ formB G = true ∧ rfH G X = rfH h X := ⟨A, hh1.below (bjoin hb' hb3), hAF.out, hrf⟩
                  unfold Oper.wp
                  go_simp
                  try go_bits
                  exact hK _ _ (Below.refl _ _) (by first | rfl | (show Value.int _ _ = Value.int _ _; go_num; done) | (simp [valOf, *]; done) | (simp [valOf]; omega))
                · intro _ a' w' hb' hs hd hn Kc hK
                  have f115 : a'.tmps[115]?.getD undef = .pointer (some ⟨bl, ol + t, none⟩) := hd 17 115 (by first | rfl | decide | simp [Region.binds]) rfl (by decide) (by decide) rfl
                  clear hs hd hn
                  rw [if_neg (by decide), if_neg (by decide)] at hK
                  have v17 : w'.cell? ⟨bl, ol + t, none⟩ = some (.int .i64 X) := (hb'.cell (p := ⟨bl, ol + t, none⟩) ll3).trans v3
                  obtain ⟨lB, k0, k1, k2, -, -, -⟩ := g33.below hb'
                  obtain ⟨lA, a0, a1, a2, -, -, -⟩ := gA3.below hb'
                  obtain ⟨lX, m0', m1', m2', m3', -, -, -, -⟩ := gX3.below hb'
                  obtain ⟨lY, o0', o1', o2', o3', -, -, -, -⟩ := gY3.below hb'
                  have e1 : ∃ G, HpIn w' p h.n c (some ⟨bs, os, none⟩) h.m d h.b G ∧ formB G = true ∧ rfH G X = rfH h X := ⟨h, (hat.below (bjoin hb' hb3)).in, hF'.out, rfl⟩
                  have e2 : ∃ G, HpIn w' p1 h.n c1 q1 h.m d1 h.b G ∧ formB G = true ∧ rfH G X = rfH h X := ⟨A, hh1.below (bjoin hb' hb3), hAF.out, hrf⟩
                  unfold Oper.wp
                  go_simp
                  try go_bits
                  exact hK _ _ (Below.refl _ _) (by first | rfl | (show Value.int _ _ = Value.int _ _; go_num; done) | (simp [valOf, *]; done) | (simp [valOf]; omega))
                · intro _ a' w' hb' hs hd hn Kc hK
                  have f112 : a'.tmps[112]?.getD undef = .agg #[.slice p h.n c, .slice (some ⟨bs, os, none⟩) h.m d, .bool h.b] := hd 14 112 (by first | rfl | decide | simp [Region.binds]) rfl (by decide) (by decide) rfl
                  have f116 : a'.tmps[116]?.getD undef = .int .i64 X := hd 18 116 (by first | rfl | decide | simp [Region.binds]) rfl (by decide) (by decide) rfl
                  clear hs hd hn
                  rw [if_neg (by decide), if_neg (by decide)] at hK
                  have v17 : w'.cell? ⟨bl, ol + t, none⟩ = some (.int .i64 X) := (hb'.cell (p := ⟨bl, ol + t, none⟩) ll3).trans v3
                  obtain ⟨lB, k0, k1, k2, -, -, -⟩ := g33.below hb'
                  obtain ⟨lA, a0, a1, a2, -, -, -⟩ := gA3.below hb'
                  obtain ⟨lX, m0', m1', m2', m3', -, -, -, -⟩ := gX3.below hb'
                  obtain ⟨lY, o0', o1', o2', o3', -, -, -, -⟩ := gY3.below hb'
                  have e1 : ∃ G, HpIn w' p h.n c (some ⟨bs, os, none⟩) h.m d h.b G ∧ formB G = true ∧ rfH G X = rfH h X := ⟨h, (hat.below (bjoin hb' hb3)).in, hF'.out, rfl⟩
                  have e2 : ∃ G, HpIn w' p1 h.n c1 q1 h.m d1 h.b G ∧ formB G = true ∧ rfH G X = rfH h X := ⟨A, hh1.below (bjoin hb' hb3), hAF.out, hrf⟩
                  unfold Oper.wp
                  go_simp
                  try go_bits
                  refine Calls.mono (hRR _ _ _ _ _ hb' (by assumption)) ?_
                  rintro e w'' ⟨pm, cm, rfl, hA, hb2⟩
                  exact hK _ _ hb2 ⟨_, _, rfl, hA⟩
                · intro _ a' w' hb' hs hd hn Kc hK
                  have f5 : a'.tmps[5]?.getD undef = .pointer (some ⟨BA, 0, none⟩) := (hs 5 (by decide)).trans rfl
                  clear hs hd hn
                  rw [if_neg (by decide), if_neg (by decide)] at hK
                  have v17 : w'.cell? ⟨bl, ol + t, none⟩ = some (.int .i64 X) := (hb'.cell (p := ⟨bl, ol + t, none⟩) ll3).trans v3
                  obtain ⟨lB, k0, k1, k2, -, -, -⟩ := g33.below hb'
                  obtain ⟨lA, a0, a1, a2, -, -, -⟩ := gA3.below hb'
                  obtain ⟨lX, m0', m1', m2', m3', -, -, -, -⟩ := gX3.below hb'
                  obtain ⟨lY, o0', o1', o2', o3', -, -, -, -⟩ := gY3.below hb'
                  have e1 : ∃ G, HpIn w' p h.n c (some ⟨bs, os, none⟩) h.m d h.b G ∧ formB G = true ∧ rfH G X = rfH h X := ⟨h, (hat.below (bjoin hb' hb3)).in, hF'.out, rfl⟩
                  have e2 : ∃ G, HpIn w' p1 h.n c1 q1 h.m d1 h.b G ∧ formB G = true ∧ rfH G X = rfH h X := ⟨A, hh1.below (bjoin hb' hb3), hAF.out, hrf⟩
                  unfold Oper.wp
                  go_simp
                  try go_bits
                  exact hK _ _ (Below.refl _ _) (by first | rfl | (show Value.int _ _ = Value.int _ _; go_num; done) | (simp [valOf, *]; done) | (simp [valOf]; omega))
                · intro _ a' w' hb' hs hd hn Kc hK
                  have f7 : a'.tmps[7]?.getD undef = .slice (some ⟨bl, ol, none⟩) M cl := (hs 7 (by decide)).trans rfl
                  clear hs hd hn
                  rw [if_neg (by decide), if_neg (by decide)] at hK
                  have v17 : w'.cell? ⟨bl, ol + t, none⟩ = some (.int .i64 X) := (hb'.cell (p := ⟨bl, ol + t, none⟩) ll3).trans v3
                  obtain ⟨lB, k0, k1, k2, -, -, -⟩ := g33.below hb'
                  obtain ⟨lA, a0, a1, a2, -, -, -⟩ := gA3.below hb'
                  obtain ⟨lX, m0', m1', m2', m3', -, -, -, -⟩ := gX3.below hb'
                  obtain ⟨lY, o0', o1', o2', o3', -, -, -, -⟩ := gY3.below hb'
                  have e1 : ∃ G, HpIn w' p h.n c (some ⟨bs, os, none⟩) h.m d h.b G ∧ formB G = true ∧ rfH G X = rfH h X := ⟨h, (hat.below (bjoin hb' hb3)).in, hF'.out, rfl⟩
                  have e2 : ∃ G, HpIn w' p1 h.n c1 q1 h.m d1 h.b G ∧ formB G = true ∧ rfH G X = rfH h X := ⟨A, hh1.below (bjoin hb' hb3), hAF.out, hrf⟩
                  unfold Oper.wp
                  go_simp
                  try go_bits
                  exact hK _ _ (Below.refl _ _) (by first | rfl | (show Value.int _ _ = Value.int _ _; go_num; done) | (simp [valOf, *]; done) | (simp [valOf]; omega))
                · intro _ a' w' hb' hs hd hn Kc hK
                  have f9 : a'.tmps[9]?.getD undef = .int .i64 t := (hs 9 (by decide)).trans rfl
                  clear hs hd hn
                  rw [if_neg (by decide), if_neg (by decide)] at hK
                  have v17 : w'.cell? ⟨bl, ol + t, none⟩ = some (.int .i64 X) := (hb'.cell (p := ⟨bl, ol + t, none⟩) ll3).trans v3
                  obtain ⟨lB, k0, k1, k2, -, -, -⟩ := g33.below hb'
                  obtain ⟨lA, a0, a1, a2, -, -, -⟩ := gA3.below hb'
                  obtain ⟨lX, m0', m1', m2', m3', -, -, -, -⟩ := gX3.below hb'
                  obtain ⟨lY, o0', o1', o2', o3', -, -, -, -⟩ := gY3.below hb'
                  have e1 : ∃ G, HpIn w' p h.n c (some ⟨bs, os, none⟩) h.m d h.b G ∧ formB G = true ∧ rfH G X = rfH h X := ⟨h, (hat.below (bjoin hb' hb3)).in, hF'.out, rfl⟩
                  have e2 : ∃ G, HpIn w' p1 h.n c1 q1 h.m d1 h.b G ∧ formB G = true ∧ rfH G X = rfH h X := ⟨A, hh1.below (bjoin hb' hb3), hAF.out, hrf⟩
                  unfold Oper.wp
                  go_simp
                  try go_bits
                  exact hK _ _ (Below.refl _ _) (by first | rfl | (show Value.int _ _ = Value.int _ _; go_num; done) | (simp [valOf, *]; done) | (simp [valOf]; omega))
                · intro _ a' w' hb' hs hd hn Kc hK
                  have f119 : a'.tmps[119]?.getD undef = .slice (some ⟨bl, ol, none⟩) M cl := hd 21 119 (by first | rfl | decide | simp [Region.binds]) rfl (by decide) (by decide) rfl
                  have f120 : a'.tmps[120]?.getD undef = .int .i64 t := hd 22 120 (by first | rfl | decide | simp [Region.binds]) rfl (by decide) (by decide) rfl
                  clear hs hd hn
                  rw [if_neg (by decide), if_neg (by decide)] at hK
                  have v17 : w'.cell? ⟨bl, ol + t, none⟩ = some (.int .i64 X) := (hb'.cell (p := ⟨bl, ol + t, none⟩) ll3).trans v3
                  obtain ⟨lB, k0, k1, k2, -, -, -⟩ := g33.below hb'
                  obtain ⟨lA, a0, a1, a2, -, -, -⟩ := gA3.below hb'
                  obtain ⟨lX, m0', m1', m2', m3', -, -, -, -⟩ := gX3.below hb'
                  obtain ⟨lY, o0', o1', o2', o3', -, -, -, -⟩ := gY3.below hb'
                  have e1 : ∃ G, HpIn w' p h.n c (some ⟨bs, os, none⟩) h.m d h.b G ∧ formB G = true ∧ rfH G X = rfH h X := ⟨h, (hat.below (bjoin hb' hb3)).in, hF'.out, rfl⟩
                  have e2 : ∃ G, HpIn w' p1 h.n c1 q1 h.m d1 h.b G ∧ formB G = true ∧ rfH G X = rfH h X := ⟨A, hh1.below (bjoin hb' hb3), hAF.out, hrf⟩
                  unfold Oper.wp
                  go_simp
                  try go_bits
                  exact hK _ _ (Below.refl _ _) (by first | rfl | (show Value.int _ _ = Value.int _ _; go_num; done) | (simp [valOf, *]; done) | (simp [valOf]; omega))
                · intro _ a' w' hb' hs hd hn Kc hK
                  have f121 : a'.tmps[121]?.getD undef = .pointer (some ⟨bl, ol + t, none⟩) := hd 23 121 (by first | rfl | decide | simp [Region.binds]) rfl (by decide) (by decide) rfl
                  clear hs hd hn
                  rw [if_neg (by decide), if_neg (by decide)] at hK
                  have v17 : w'.cell? ⟨bl, ol + t, none⟩ = some (.int .i64 X) := (hb'.cell (p := ⟨bl, ol + t, none⟩) ll3).trans v3
                  obtain ⟨lB, k0, k1, k2, -, -, -⟩ := g33.below hb'
                  obtain ⟨lA, a0, a1, a2, -, -, -⟩ := gA3.below hb'
                  obtain ⟨lX, m0', m1', m2', m3', -, -, -, -⟩ := gX3.below hb'
                  obtain ⟨lY, o0', o1', o2', o3', -, -, -, -⟩ := gY3.below hb'
                  have e1 : ∃ G, HpIn w' p h.n c (some ⟨bs, os, none⟩) h.m d h.b G ∧ formB G = true ∧ rfH G X = rfH h X := ⟨h, (hat.below (bjoin hb' hb3)).in, hF'.out, rfl⟩
                  have e2 : ∃ G, HpIn w' p1 h.n c1 q1 h.m d1 h.b G ∧ formB G = true ∧ rfH G X = rfH h X := ⟨A, hh1.below (bjoin hb' hb3), hAF.out, hrf⟩
                  unfold Oper.wp
                  go_simp
                  try go_bits
                  exact hK _ _ (Below.refl _ _) (by first | rfl | (show Value.int _ _ = Value.int _ _; go_num; done) | (simp [valOf, *]; done) | (simp [valOf]; omega))
                · intro _ a' w' hb' hs hd hn Kc hK
                  have f118 : a'.tmps[118]?.getD undef = .agg #[.slice p1 h.n c1, .slice q1 h.m d1, .bool h.b] := hd 20 118 (by first | rfl | decide | simp [Region.binds]) rfl (by decide) (by decide) rfl
                  have f122 : a'.tmps[122]?.getD undef = .int .i64 X := hd 24 122 (by first | rfl | decide | simp [Region.binds]) rfl (by decide) (by decide) rfl
                  clear hs hd hn
                  rw [if_neg (by decide), if_neg (by decide)] at hK
                  have v17 : w'.cell? ⟨bl, ol + t, none⟩ = some (.int .i64 X) := (hb'.cell (p := ⟨bl, ol + t, none⟩) ll3).trans v3
                  obtain ⟨lB, k0, k1, k2, -, -, -⟩ := g33.below hb'
                  obtain ⟨lA, a0, a1, a2, -, -, -⟩ := gA3.below hb'
                  obtain ⟨lX, m0', m1', m2', m3', -, -, -, -⟩ := gX3.below hb'
                  obtain ⟨lY, o0', o1', o2', o3', -, -, -, -⟩ := gY3.below hb'
                  have e1 : ∃ G, HpIn w' p h.n c (some ⟨bs, os, none⟩) h.m d h.b G ∧ formB G = true ∧ rfH G X = rfH h X := ⟨h, (hat.below (bjoin hb' hb3)).in, hF'.out, rfl⟩
                  have e2 : ∃ G, HpIn w' p1 h.n c1 q1 h.m d1 h.b G ∧ formB G = true ∧ rfH G X = rfH h X := ⟨A, hh1.below (bjoin hb' hb3), hAF.out, hrf⟩
                  unfold Oper.wp
                  go_simp
                  try go_bits
                  refine Calls.mono (hRR _ _ _ _ _ hb' (by assumption)) ?_
                  rintro e w'' ⟨pm, cm, rfl, hA, hb2⟩
                  exact hK _ _ hb2 ⟨_, _, rfl, hA⟩
                · intro _ a' w' hb' hs hd hn Kc hK
                  obtain ⟨pm, cm, f117, hA⟩ := hd 19 117 (by first | rfl | decide | simp [Region.binds]) rfl (by decide) (by decide) rfl
                  obtain ⟨pm, cm, f123, hA⟩ := hd 25 123 (by first | rfl | decide | simp [Region.binds]) rfl (by decide) (by decide) rfl
                  clear hs hd hn
                  rw [if_neg (by decide), if_neg (by decide)] at hK
                  have v17 : w'.cell? ⟨bl, ol + t, none⟩ = some (.int .i64 X) := (hb'.cell (p := ⟨bl, ol + t, none⟩) ll3).trans v3
                  obtain ⟨lB, k0, k1, k2, -, -, -⟩ := g33.below hb'
                  obtain ⟨lA, a0, a1, a2, -, -, -⟩ := gA3.below hb'
                  obtain ⟨lX, m0', m1', m2', m3', -, -, -, -⟩ := gX3.below hb'
                  obtain ⟨lY, o0', o1', o2', o3', -, -, -, -⟩ := gY3.below hb'
                  have e1 : ∃ G, HpIn w' p h.n c (some ⟨bs, os, none⟩) h.m d h.b G ∧ formB G = true ∧ rfH G X = rfH h X := ⟨h, (hat.below (bjoin hb' hb3)).in, hF'.out, rfl⟩
                  have e2 : ∃ G, HpIn w' p1 h.n c1 q1 h.m d1 h.b G ∧ formB G = true ∧ rfH G X = rfH h X := ⟨A, hh1.below (bjoin hb' hb3), hAF.out, hrf⟩
                  unfold Oper.wp
                  go_simp
                  try go_bits
                  refine Calls.mono (hI2 _ _ _ _ _ (by assumption) (by assumption)) ?_
                  rintro e w'' ⟨rfl, hb2⟩
                  exact hK _ _ hb2 rfl
                · intro _ a' w' hb' hs hd hn Kc hK
                  have f124 : a'.tmps[124]?.getD undef = .bool true := hd 26 124 (by first | rfl | decide | simp [Region.binds]) rfl (by decide) (by decide) rfl
                  clear hs hd hn
                  rw [if_neg (by decide), if_neg (by decide)] at hK
                  have v17 : w'.cell? ⟨bl, ol + t, none⟩ = some (.int .i64 X) := (hb'.cell (p := ⟨bl, ol + t, none⟩) ll3).trans v3
                  obtain ⟨lB, k0, k1, k2, -, -, -⟩ := g33.below hb'
                  obtain ⟨lA, a0, a1, a2, -, -, -⟩ := gA3.below hb'
                  obtain ⟨lX, m0', m1', m2', m3', -, -, -, -⟩ := gX3.below hb'
                  obtain ⟨lY, o0', o1', o2', o3', -, -, -, -⟩ := gY3.below hb'
                  have e1 : ∃ G, HpIn w' p h.n c (some ⟨bs, os, none⟩) h.m d h.b G ∧ formB G = true ∧ rfH G X = rfH h X := ⟨h, (hat.below (bjoin hb' hb3)).in, hF'.out, rfl⟩
                  have e2 : ∃ G, HpIn w' p1 h.n c1 q1 h.m d1 h.b G ∧ formB G = true ∧ rfH G X = rfH h X := ⟨A, hh1.below (bjoin hb' hb3), hAF.out, hrf⟩
                  unfold Oper.wp
                  go_simp
                  try go_bits
                  exact hK _ _ (Below.refl _ _) (by first | rfl | (show Value.int _ _ = Value.int _ _; go_num; done) | (simp [valOf, *]; done) | (simp [valOf]; omega))
                · intro _ a' w' hb' hs hd hn Kc hK
                  have f111 : a'.tmps[111]?.getD undef = .bool true := hd 13 111 (by first | rfl | decide | simp [Region.binds]) rfl (by decide) (by decide) rfl
                  have f125 : a'.tmps[125]?.getD undef = .bool false := hd 27 125 (by first | rfl | decide | simp [Region.binds]) rfl (by decide) (by decide) rfl
                  clear hs hd hn
                  rw [if_neg (by decide), if_neg (by decide)] at hK
                  have v17 : w'.cell? ⟨bl, ol + t, none⟩ = some (.int .i64 X) := (hb'.cell (p := ⟨bl, ol + t, none⟩) ll3).trans v3
                  obtain ⟨lB, k0, k1, k2, -, -, -⟩ := g33.below hb'
                  obtain ⟨lA, a0, a1, a2, -, -, -⟩ := gA3.below hb'
                  obtain ⟨lX, m0', m1', m2', m3', -, -, -, -⟩ := gX3.below hb'
                  obtain ⟨lY, o0', o1', o2', o3', -, -, -, -⟩ := gY3.below hb'
                  have e1 : ∃ G, HpIn w' p h.n c (some ⟨bs, os, none⟩) h.m d h.b G ∧ formB G = true ∧ rfH G X = rfH h X := ⟨h, (hat.below (bjoin hb' hb3)).in, hF'.out, rfl⟩
                  have e2 : ∃ G, HpIn w' p1 h.n c1 q1 h.m d1 h.b G ∧ formB G = true ∧ rfH G X = rfH h X := ⟨A, hh1.below (bjoin hb' hb3), hAF.out, hrf⟩
                  unfold Oper.wp
                  go_simp
                  try go_bits
                  exact hK _ _ (Below.refl _ _) (by first | rfl | (show Value.int _ _ = Value.int _ _; go_num; done) | (simp [valOf, *]; done) | (simp [valOf]; omega))
                · intro _ a' w' hb' hs hd hn Kc hK
                  have f109 : a'.tmps[109]?.getD undef = .bool false := hd 11 109 (by first | rfl | decide | simp [Region.binds]) rfl (by decide) (by decide) rfl
                  have f126 : a'.tmps[126]?.getD undef = .bool false := hd 28 126 (by first | rfl | decide | simp [Region.binds]) rfl (by decide) (by decide) rfl
                  clear hs hd hn
                  rw [if_neg (by decide), if_neg (by decide)] at hK
                  have v17 : w'.cell? ⟨bl, ol + t, none⟩ = some (.int .i64 X) := (hb'.cell (p := ⟨bl, ol + t, none⟩) ll3).trans v3
                  obtain ⟨lB, k0, k1, k2, -, -, -⟩ := g33.below hb'
                  obtain ⟨lA, a0, a1, a2, -, -, -⟩ := gA3.below hb'
                  obtain ⟨lX, m0', m1', m2', m3', -, -, -, -⟩ := gX3.below hb'
                  obtain ⟨lY, o0', o1', o2', o3', -, -, -, -⟩ := gY3.below hb'
                  have e1 : ∃ G, HpIn w' p h.n c (some ⟨bs, os, none⟩) h.m d h.b G ∧ formB G = true ∧ rfH G X = rfH h X := ⟨h, (hat.below (bjoin hb' hb3)).in, hF'.out, rfl⟩
                  have e2 : ∃ G, HpIn w' p1 h.n c1 q1 h.m d1 h.b G ∧ formB G = true ∧ rfH G X = rfH h X := ⟨A, hh1.below (bjoin hb' hb3), hAF.out, hrf⟩
                  unfold Oper.wp
                  go_simp
                  try go_bits
                  exact hK _ _ (Below.refl _ _) (by first | rfl | (show Value.int _ _ = Value.int _ _; go_num; done) | (simp [valOf, *]; done) | (simp [valOf]; omega))
              intro Xf g w' hX hb hv
              have q127 : Xf 127 = .bool false := hv 29 127 rfl rfl (by decide) (by decide)
              clear hX hv
              simp only [List.map_cons, List.map_nil, q127, puts, Act.put, Nat.reduceAdd, List.setIfInBounds_toArray, List.set_cons_succ, List.set_cons_zero]
              have hb4 := bjoin hb hb3
              have gA4 := gA3.below hb
              have g34 := g33.below hb
              have ll4 : bl < w'.heap.size := Nat.lt_of_lt_of_le ll3 hb.size
              have v4 : w'.cell? ⟨bl, ol + t, none⟩ = some (.int .i64 X) := (hb.cell (p := ⟨bl, ol + t, none⟩) ll3).trans v3
              clear hb gA3 g33 ll3 v3 hb3 gX3 gY3 hcR1 hcR2 hRR cR hI2 hrf
              generalize w' = w10 at *
              go_upto_region 16 with fail
              have hRe : ∀ W, Below w10.heap.size w10 W → Calls Tryd.prog 18 #[.agg #[.slice p h.n c, .slice (some ⟨bs, os, none⟩) h.m d, .bool h.b], .int .i64 X] W fun e w' => ∃ pm cm, e = .returned (.slice pm R cm) ∧ Ints .i64 w' pm R yy ∧ Below W.heap.size W w' := fun W hW => rrefs12_row (hat.below (bjoin hW hb4)).in hF'.out eM.out ey.out
              refine wp_late (ds := [some 128, some 129, some 130, some 131, some 132, some 133, some 15]) (ts := [128, 129, 130, 131, 132, 133, 15]) (pv := [(fun v _ => v = .agg #[.slice p h.n c, .slice (some ⟨bs, os, none⟩) h.m d, .bool h.b]), (fun v _ => v = .slice (some ⟨bl, ol, none⟩) M cl), (fun v _ => v = .int .i64 t), (fun v _ => v = .pointer (some ⟨bl, ol + t, none⟩)), (fun v _ => v = .int .i64 X), RowV (R) (yy), RowV (R) (yy)]) (skip := fun i => ([] : List Nat).contains i) (ia := 1000) (is := 1000) (k := 134) (Shape := (fun _ _ => True)) (Full := (fun _ _ => True)) (by kernel_rfl) (by kernel_rfl) rfl rfl (by decide) (by decide) (by simp) ?_ (by decide) (fun _ _ _ _ _ => trivial) (fun _ _ _ _ _ => trivial) ?_ ?_ ?_ ?_
              · exact .inl rfl
              · exact ⟨fun _ _ _ h _ => h, fun _ _ _ h _ => h, fun _ _ _ h _ => h, fun _ _ _ h _ => h, fun _ _ _ h _ => h, fun _ _ _ h hb => h.below hb, fun _ _ _ h hb => h.below hb, trivial⟩
              · exact ⟨rfl, rfl, rfl, rfl, rfl, rfl, rfl, trivial⟩
              · refine ⟨?_, ?_, ?_, ?_, ?_, ?_, ?_, trivial⟩
                · intro _ a' w' hb' hs hd hn Kc hK
                  have f2 : a'.tmps[2]?.getD undef = .pointer (some ⟨w.heap.size, 0, none⟩) := (hs 2 (by decide)).trans rfl
                  clear hs hd hn
                  rw [if_neg (by decide), if_neg (by decide)] at hK
                  have v17 : w'.cell? ⟨bl, ol + t, none⟩ = some (.int .i64 X) := (hb'.cell (p := ⟨bl, ol + t, none⟩) ll4).trans v4
                  obtain ⟨lB, k0, k1, k2, -, -, -⟩ := g34.below hb'
                  unfold Oper.wp
                  go_simp
                  try go_bits
                  exact hK _ _ (Below.refl _ _) (by first | rfl | (show Value.int _ _ = Value.int _ _; go_num; done) | (simp [valOf, *]; done) | (simp [valOf]; omega))
                · intro _ a' w' hb' hs hd hn Kc hK
                  have f7 : a'.tmps[7]?.getD undef = .slice (some ⟨bl, ol, none⟩) M cl := (hs 7 (by decide)).trans rfl
                  clear hs hd hn
                  rw [if_neg (by decide), if_neg (by decide)] at hK
                  have v17 : w'.cell? ⟨bl, ol + t, none⟩ = some (.int .i64 X) := (hb'.cell (p := ⟨bl, ol + t, none⟩) ll4).trans v4
                  obtain ⟨lB, k0, k1, k2, -, -, -⟩ := g34.below hb'
                  unfold Oper.wp
                  go_simp
                  try go_bits
                  exact hK _ _ (Below.refl _ _) (by first | rfl | (show Value.int _ _ = Value.int _ _; go_num; done) | (simp [valOf, *]; done) | (simp [valOf]; omega))
                · intro _ a' w' hb' hs hd hn Kc hK
                  have f9 : a'.tmps[9]?.getD undef = .int .i64 t := (hs 9 (by decide)).trans rfl
                  clear hs hd hn
                  rw [if_neg (by decide), if_neg (by decide)] at hK
                  have v17 : w'.cell? ⟨bl, ol + t, none⟩ = some (.int .i64 X) := (hb'.cell (p := ⟨bl, ol + t, none⟩) ll4).trans v4
                  obtain ⟨lB, k0, k1, k2, -, -, -⟩ := g34.below hb'
                  unfold Oper.wp
                  go_simp
                  try go_bits
                  exact hK _ _ (Below.refl _ _) (by first | rfl | (show Value.int _ _ = Value.int _ _; go_num; done) | (simp [valOf, *]; done) | (simp [valOf]; omega))
                · intro _ a' w' hb' hs hd hn Kc hK
                  have f129 : a'.tmps[129]?.getD undef = .slice (some ⟨bl, ol, none⟩) M cl := hd 1 129 (by first | rfl | decide | simp [Region.binds]) rfl (by decide) (by decide) rfl
                  have f130 : a'.tmps[130]?.getD undef = .int .i64 t := hd 2 130 (by first | rfl | decide | simp [Region.binds]) rfl (by decide) (by decide) rfl
                  clear hs hd hn
                  rw [if_neg (by decide), if_neg (by decide)] at hK
                  have v17 : w'.cell? ⟨bl, ol + t, none⟩ = some (.int .i64 X) := (hb'.cell (p := ⟨bl, ol + t, none⟩) ll4).trans v4
                  obtain ⟨lB, k0, k1, k2, -, -, -⟩ := g34.below hb'
                  unfold Oper.wp
                  go_simp
                  try go_bits
                  exact hK _ _ (Below.refl _ _) (by first | rfl | (show Value.int _ _ = Value.int _ _; go_num; done) | (simp [valOf, *]; done) | (simp [valOf]; omega))
                · intro _ a' w' hb' hs hd hn Kc hK
                  have f131 : a'.tmps[131]?.getD undef = .pointer (some ⟨bl, ol + t, none⟩) := hd 3 131 (by first | rfl | decide | simp [Region.binds]) rfl (by decide) (by decide) rfl
                  clear hs hd hn
                  rw [if_neg (by decide), if_neg (by decide)] at hK
                  have v17 : w'.cell? ⟨bl, ol + t, none⟩ = some (.int .i64 X) := (hb'.cell (p := ⟨bl, ol + t, none⟩) ll4).trans v4
                  obtain ⟨lB, k0, k1, k2, -, -, -⟩ := g34.below hb'
                  unfold Oper.wp
                  go_simp
                  try go_bits
                  exact hK _ _ (Below.refl _ _) (by first | rfl | (show Value.int _ _ = Value.int _ _; go_num; done) | (simp [valOf, *]; done) | (simp [valOf]; omega))
                · intro _ a' w' hb' hs hd hn Kc hK
                  have f128 : a'.tmps[128]?.getD undef = .agg #[.slice p h.n c, .slice (some ⟨bs, os, none⟩) h.m d, .bool h.b] := hd 0 128 (by first | rfl | decide | simp [Region.binds]) rfl (by decide) (by decide) rfl
                  have f132 : a'.tmps[132]?.getD undef = .int .i64 X := hd 4 132 (by first | rfl | decide | simp [Region.binds]) rfl (by decide) (by decide) rfl
                  clear hs hd hn
                  rw [if_neg (by decide), if_neg (by decide)] at hK
                  have v17 : w'.cell? ⟨bl, ol + t, none⟩ = some (.int .i64 X) := (hb'.cell (p := ⟨bl, ol + t, none⟩) ll4).trans v4
                  obtain ⟨lB, k0, k1, k2, -, -, -⟩ := g34.below hb'
                  unfold Oper.wp
                  go_simp
                  try go_bits
                  refine Calls.mono (hRe _ hb') ?_
                  rintro e w'' ⟨pm, cm, rfl, hA, hb2⟩
                  exact hK _ _ hb2 ⟨_, _, rfl, hA⟩
                · intro _ a' w' hb' hs hd hn Kc hK
                  obtain ⟨pm, cm, f133, hA⟩ := hd 5 133 (by first | rfl | decide | simp [Region.binds]) rfl (by decide) (by decide) rfl
                  clear hs hd hn
                  rw [if_neg (by decide), if_neg (by decide)] at hK
                  have v17 : w'.cell? ⟨bl, ol + t, none⟩ = some (.int .i64 X) := (hb'.cell (p := ⟨bl, ol + t, none⟩) ll4).trans v4
                  obtain ⟨lB, k0, k1, k2, -, -, -⟩ := g34.below hb'
                  unfold Oper.wp
                  go_simp
                  try go_bits
                  exact hK _ _ (Below.refl _ _) ⟨_, _, rfl, hA⟩
              intro Xf g w' hX hb hv
              obtain ⟨pm, cm, q15, hJ⟩ := hv 6 15 rfl rfl (by decide) (by decide)
              clear hX hv
              simp only [List.map_cons, List.map_nil, q15, puts, Act.put, Nat.reduceAdd, List.setIfInBounds_toArray, List.set_cons_succ, List.set_cons_zero]
              have g35 := g34.below hb
              replace hb4 := bjoin hb hb4
              clear hb gA4 g34 ll4 v4 hRe
              generalize w' = w11 at hJ hb4 g35 ⊢
              go_wp2
              go_loopg [8, 16] R (fun gg cv kv wr2 => ∃ (u : Nat) (CL2 : Bool), u ≤ R ∧ gg = R - u ∧ kv = .int .i64 u ∧ cv = .bool CL2 ∧ (CL2 = true → CL = true ∧ ∀ j, j < u → blB h (yy j) = true) ∧ Below w11.heap.size w11 wr2)
              case atStart => exact ⟨0, CL, by omega, by omega, rfl, rfl, fun e => ⟨e, fun j hj => absurd hj (Nat.not_lt_zero _)⟩, Below.refl _ _⟩
              case round =>
                obtain ⟨u, CL2, uh, rfl, rfl, rfl, hcl2, hbz⟩ := hrel
                by_cases hu : u < R
                · obtain ⟨⟨bp, op, rfl, lp, vp⟩, -⟩ := (hJ.below hbz) u hu
                  have cY := fun W (hW : Below wr.heap.size wr W) => cBy u W (bjoin hW (bjoin hbz hb4))
                  have g36 := g35.below hbz
                  have hnx : Hid (∀ bk : Bool, blB h (yy u) = bk → ((CL2 && bk) = true → CL = true ∧ ∀ j, j < u + 1 → blB h (yy j) = true)) := fun bk e e2 => by
                    rw [Bool.and_eq_true] at e2
                    obtain ⟨f1, f2⟩ := hcl2 e2.1
                    refine ⟨f1, fun j hj => ?_⟩
                    by_cases ej : j = u
                    · subst ej; rw [e]; exact e2.2
                    · exact f2 j (by omega)
                  obtain ⟨bk, ek⟩ : ∃ bk, blB h (yy u) = bk := ⟨_, rfl⟩
                  simp only [ek] at cY
                  replace hnx : Hid ((CL2 && bk) = true → CL = true ∧ ∀ j, j < u + 1 → blB h (yy j) = true) := hnx.out bk ek
                  clear ek hcl2
                  generalize yy u = Y at *
                  go_upto_region 20 with fail
                  obtain ⟨lB, k0, k1, k2, -, -, -⟩ := id g36
                  cases CL2
                  case' false =>
                    refine wp_region_plus (by kernel_rfl) (by kernel_rfl) fun hpc => ?_
                    repeat (first | go_big_quiet_step (fail) | quiet_step (fail))
                    refine wpQuiet_nil ?_
                    intro w' hbq
                    clear hpc
                    obtain ⟨hc, hf, hb, hz⟩ := bstep hbq (w := wr) (by go_grown)
                    try simp only [World.size_alloc, World.size_setCell, World.size_drew] at hc hf hz
                  case' true =>
                    refine wp_region_plus (by kernel_rfl) (by kernel_rfl) fun hpc => ?_
                    repeat (first | go_big_quiet_step ((first | (go_at_call 16; exact quiet_plus (cY _ (plus_below _ _))))) | quiet_step ((first | (go_at_call 16; exact quiet_plus (cY _ (plus_below _ _))))))
                    refine wpQuiet_nil ?_
                    intro w' hbq
                    clear hpc
                    obtain ⟨hc, hf, hb, hz⟩ := bstep hbq (w := wr) (by go_grown)
                    try simp only [World.size_alloc, World.size_setCell, World.size_drew] at hc hf hz
                  all_goals
                    replace hbz := bjoin hb hbz
                    clear hb hc hf hz cY vp lp g36 lB k0 k1 k2
                    go_wp2
                    go_roundg (R - (u + 1))
                    case measure => omega
                    case rel => exact ⟨u + 1, _, by omega, rfl, by go_num, rfl, by first | exact hnx.out | exact fun e => (by cases e), hbz⟩
                · obtain rfl : u = R := by omega
                  clear g35 hJ
                  go_wp2
                  go_roundg (M - (t + 1))
                  case measure => omega
                  case rel => exact ⟨t + 1, CL2, by omega, rfl, by go_num, rfl, hcn.out CL2 fun e => ⟨(hcl2 e).1, fun _ r hr => by obtain ⟨j, hj, e2⟩ := hys r hr; rw [← e2]; exact (hcl2 e).2 j hj⟩, bjoin hbz hb4⟩
        · obtain rfl : t = M := by omega
          have gA0 := gA.below hbw
          have cC := fun W (hW : Below wr.heap.size wr W) => rcheck12_in (hh1.below (bjoin hW hbw))
          cases CL with
          | true =>
            rw [hend.out (hcl rfl)] at cC
            obtain ⟨lA, x0, x1, x2, -, -, -⟩ := id gA0
            clear hcl
            go_wp2_with (first
    | (go_at_call 8; refine Calls.mono (cC _ (by go_grown)) ?_; rintro e w' ⟨rfl, hb⟩; obtain ⟨hc, hf, hb, hz⟩ := bstep hb (w := wr) (by go_grown); try simp only [World.size_alloc, World.size_setCell, World.size_drew] at hc hf hz)
            )
            go_returns
            exact ⟨rfl, bjoin hb (bjoin hbw hbW)⟩
          | false =>
            clear hcl cC
            go_wp2
            go_returns
            exact ⟨rfl, bjoin hbw hbW⟩
namespace SweepFrees
/-- What the row lists. -/
def lists : List (String × DataW Unit) := [("flotsam/class.sizes", Rows.laid_flotsam_class_sizes)]
set_option maxRecDepth 100000 in
theorem lifted (os : Os) (started : os.Started) (H : Type) (enc : TypeId × Value → H) :
    ReturnsInHanded {} Tryd.checked os 3 .any (fun w args => (Rows.sweepFreesSpec.pre enc Tryd.prog Tryd.f3 Rows.sweepFreesRow.domain false w args ∧ laidMetH Tryd.prog lists w) ∧ sizedMet enc Tryd.prog Tryd.f3 (OpenSpec.ofChange Rows.sweepFreesSpec) false w args) (Rows.sweepFreesSpec.post enc Tryd.prog Tryd.f3 false true false false) := by
  refine law_lifted_laid (C := Tryd.checked) seat_own started (by kernel_rfl) Tryd.func3 (by kernel_rfl) (of_decide_eq_true (by kernel_rfl)) rfl
    (fun ds hd => by have hd' : ds.length = 2 := hd; match ds, hd' with | [d0, d1], _ => rfl) rfl Tryd.underlying4
    (ChangeSpec.witness_shaped (enc := enc) (C := Tryd.checked) (os := os) (X := fun w _ => laidMetH Tryd.prog lists w) false (World.laidAll Tryd.prog os lists) #[.agg #[.slice none 0 0, .slice none 0 0, .bool false], .slice none 0 0] 8 (World.laidAll_os _ _ _)
      (World.shaped_of_ZipB (by kernel_rfl) (by kernel_rfl)) (by kernel_rfl) (by kernel_rfl) (by kernel_rfl)
      (by rw [MakeChecks.laidMetH_plain _ _ _ (by kernel_rfl)]; exact laidMet_laidAll _ (by kernel_rfl) (by kernel_rfl))) ?_
  intro W base args ds p hval hA hlt hL
  have hS : Sz W := sizes_of hL (by kernel_rfl) rfl
  rw [Tryd.params3] at hA hval
  obtain ⟨v0, v1, d0, d1, p0, p1, rfl, rfl, rfl, h0, h1⟩ := trodAll_two hA
  obtain ⟨x0, q0, c0, s0, e0, rfl, hh0⟩ := open_heap Tryd.underlying25 (by kernel_rfl) (by kernel_rfl) Tryd.underlying22 (by kernel_rfl) (by kernel_rfl) Tryd.underlying23 Tryd.underlying42 (by kernel_rfl) (by kernel_rfl) (by kernel_rfl) (by kernel_rfl) (by kernel_rfl) (by kernel_rfl) (hval 0 25 v0 rfl rfl) h0
  obtain ⟨q1, n1, cap1, z1, rfl, hn1, hz1, hq1⟩ := open_caches Tryd.underlying26 Tryd.underlying50 (by kernel_rfl) (by kernel_rfl) Tryd.underlying3 (hval 1 26 v1 rfl rfl) h1
  exact frees_walk W hh0 hz1 hn1 hS (tab_any W)

theorem row_holds : Rows.SweepFreesSaid :=
  OpenClaim.holds_of_wide 3 Tryd.f3 rfl rfl rfl rfl rfl rfl rfl ⟨rfl, rfl, rfl, rfl, rfl⟩ rfl rfl rfl rfl rfl (by kernel_rfl) Tryd.func3 (by kernel_rfl)
    (of_decide_eq_true (by kernel_rfl)) (by unfold Func.isWrapper; first | (rw [if_pos (by decide +kernel)]; kernel_rfl) | (rw [if_neg (by decide +kernel)]; exact ⟨rfl, rfl⟩))
    (fun os started H enc _ => lifted os started H enc)
/-- The tied card. -/
theorem holds : Rows.SweepFreesCardSaid :=
  Claim7.holds_tied_plain_at .later [] [.data] true (true, "b8fd3047d9a688a107e8e65d17c87f1d92279598948f27d970289a927db46c99") false row_holds (fun _ h => by cases h) (by kernel_rfl) (fun _ h => by cases h) sweepFrees_row_tie rfl ⟨rfl, rfl⟩ (by kernel_rfl) rfl
    (fun f fn hf hfn => by
      obtain rfl : f = 3 := Option.some.inj ((show Tryd.prog.funcNamed "flotsam/flotsamlaw12.SweepFrees" = some 3 by kernel_rfl).symm.trans hf) |>.symm
      obtain rfl : fn = Tryd.f3 := (Option.some.inj (Tryd.func3.symm.trans hfn)).symm
      exact ⟨by kernel_rfl, fun j t ht => by
        rw [Tryd.params3] at ht
        have hm : t ∈ [25, 26] := by simpa using Array.mem_of_getElem? ht
        have hall : ([25, 26].all fun u => !Tryd.prog.wantsStandIn u) = true := by kernel_rfl
        exact (show Tryd.prog.wantsStandIn t = false by simpa using List.all_eq_true.1 hall t hm)⟩)
    (by kernel_rfl)
#print axioms holds
end SweepFrees
end Go.Proofs.YtjoepiopigmmnaaDoor
