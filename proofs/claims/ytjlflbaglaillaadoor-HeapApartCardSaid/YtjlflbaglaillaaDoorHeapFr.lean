/- Contracts of the code's heap.block and heap.Free (chapter 7). -/
import Derived.Test.YtjlflbaglaillaaDoorHeapOC
namespace Go.Proofs.YtjlflbaglaillaaDoor
set_option linter.unusedSimpArgs false
set_option linter.unusedVariables false
open Go.ChangeShapes Go.WideShapes Go.ChangeAt Go.RowKit Go.Joins

theorem HpOwn.cap {W : World} {base : Nat} {p : Option Addr} {c : Nat} {q : Option Addr} {d : Nat} {h : Hp} (o : HpOwn W base p c q d h) (h0 : 0 < h.n) : h.n ≤ c ∧ c ≤ maxLen := by
  rcases o.words.2 with ⟨-, h1⟩ | ⟨g, cap', cur, hv, -, -, h1, h2, -⟩
  · omega
  · injection hv with _ _ e; subst e; exact ⟨h1, h2⟩
set_option maxHeartbeats 2000000 in
theorem block_any (gw c : Nat) (q : Option Addr) (d : Nat) (h : Hp) (P A : Int) (w : World) (hS : Sz w) (hh : HpAt w (some ⟨gw, 0, none⟩) c q d h) (hc : h.n ≤ c) (hm16 : h.m ≤ 16) (p0 : 0 ≤ P) (p1 : P < h.m) (z2 : 0 < szW (spH h P).cl) (a0 : 0 ≤ A) (a1 : A + szW (spH h P).cl ≤ h.n) :
    Calls Tryd.prog 48 #[.agg #[.slice (some ⟨gw, 0, none⟩) h.n c, .slice q h.m d, .bool h.b], .int .i64 P, .int .i64 A] w fun e w' => e = .returned (.slice (some ⟨gw, A.toNat, none⟩) (szW (spH h P).cl).toNat (c - A.toNat)) ∧ Below w.heap.size w w' := by
  have hn := hh.nle
  simp only [maxLen] at hn
  rw [show spH h P = h.s P.toNat from rfl] at *
  obtain ⟨w0, hw0⟩ : ∃ w0, w0 = w.alloc (.cells #[.slice (some ⟨gw, 0, none⟩) h.n c, .slice q h.m d, .bool h.b] 25) := ⟨_, rfl⟩
  have hbx : Box3 w.heap.size (.slice (some ⟨gw, 0, none⟩) h.n c) (.slice q h.m d) (.bool h.b) w0 := by rw [hw0]; exact Box3.new _ _ _ _ _
  have hbA : Below w.heap.size w w0 := by rw [hw0]; go_grown
  have hsp := hh.spans.below hbA
  replace hS := hS.below hbA
  obtain ⟨⟨b, off, rfl, hlt, s0, s1, s2⟩, hw⟩ := hsp P.toNat (by omega)
  generalize h.s P.toNat = S at *
  obtain ⟨st, cl, fr⟩ := S
  simp only [] at *
  obtain ⟨z0, z1⟩ := sz_bound cl
  have hbr : A + szW cl ≤ c := by omega
  have hne : ¬ c = A.toNat := by omega
  clear hh hw
  obtain ⟨hl, k0, k1, k2, -, -, -⟩ := hbx
  go_enter Tryd.func48, Tryd.ntmps48
  go_upto_region 1 with fail
  rw [← hw0]
  clear hw0
  refine wp_region_plus (by kernel_rfl) (by kernel_rfl) fun hpc => ?_
  repeat (first | go_big_quiet_step ((first | (go_at_call 37; exact quiet_plus (cwords_any _ _ (hS.below (plus_below _ _)))))) | quiet_step ((first | (go_at_call 37; exact quiet_plus (cwords_any _ _ (hS.below (plus_below _ _)))))))
  refine wpQuiet_nil ?_
  intro w' hbq
  clear hpc
  obtain ⟨hc, hf, hb, hz⟩ := bstep hbq (w := w0) (by go_grown)
  try simp only [World.size_alloc, World.size_setCell, World.size_drew] at hc hf hz
  go_wp2
  go_returns
  have hl : (A + szW cl).toNat - A.toNat = (szW cl).toNat := by omega
  exact ⟨by rw [← hl]; rfl, bjoin hb hbA⟩
theorem block_in_own {gw c : Nat} {q : Option Addr} {d : Nat} {h : Hp} {x : Sp} {P A : Int} {w : World} (hS : Sz w) (hh : HpAt w (some ⟨gw, 0, none⟩) c q d (withS h P x)) (hc : h.n ≤ c) (hm16 : h.m ≤ 16) (p0 : 0 ≤ P) (p1 : P < h.m) (z2 : 0 < szW x.cl) (a0 : 0 ≤ A) (a1 : A + szW x.cl ≤ h.n) :
    Calls Tryd.prog 48 #[.agg #[.slice (some ⟨gw, 0, none⟩) h.n c, .slice q h.m d, .bool h.b], .int .i64 P, .int .i64 A] w fun e w' => e = .returned (.slice (some ⟨gw, A.toNat, none⟩) (szW x.cl).toNat (c - A.toNat)) ∧ Below w.heap.size w w' := by
  have hb := block_any gw c q d (withS h P x) P A w hS hh hc hm16 p0 p1
  rw [spH_with h _ p0] at hb
  exact hb z2 a0 a1
/-- 'clear(s)', s a piece of n cells of a row. -/
theorem wpList_clear_words {P : Program} {w : World} {ops : Array Oper} {rest : List Oper} {o : Oper} {a : Act} {Q : Exit → Act → World → Prop} (hgd : o.guard = none) (s : Operand) (t e : TypeId)
    (ho : o.op = .call { callee := .builtin .clear, args := #[s], argTypes := #[t] }) (z : Value) (ht : P.underlying t = some (.slice e)) (hv : ∀ w, (zeroValue e).run P w = .ok z w) (hz : z.cells = #[z]) (h1 : z.oneCell' = true) (b off n c : Nat)
    (hs : a.eval s = .slice (some ⟨b, off, none⟩) n c) (hn : 0 < n) (hc : ∀ j, j < n → (w.cell? ⟨b, off + j, none⟩).isSome = true) (hf : ∀ j, j < n → w.frozen? ⟨b, off + j, none⟩ = false)
    (h : wpList P ops Q rest (a.put o.dst (.tuple #[])) (w.setCells b off (List.replicate n z))) : wpList P ops Q (o :: rest) a w := by
  refine wpList_plain hgd fun K hK => ?_
  have hrun := Lib.run_clear_slice (P := P) w t e o.type z ht hv hz h1 b off n c hn hc hf
  unfold Oper.wp
  simp [execOp, ho, resolve, invoke, builtin, hs, hrun, Result.andThen]
  exact hK _ _ h
theorem zero_u64 : ∀ w, (zeroValue 50).run Tryd.prog w = .ok (.int .u64 0) w := fun w => by
  simp [go_sem]
theorem free1_any (st cl fr i : Int) (b : Nat) (w : World) (hk : OkS st) (hm : Mask fr) (hS : Sz w) (hb : Box1 b (.int .i64 i) w) :
    Calls Tryd.prog 46 #[.agg #[.int .i64 st, .int .i64 cl, .int .u32 fr], .pointer (some ⟨b, 0, none⟩)] w fun e w' =>
      e = .returned (.tuple #[.agg #[.int .i64 st, .int .i64 cl, .int .u32 (giveF st cl fr i)], .bool (giveB st cl fr i)]) ∧ Below w.heap.size w w' := by
  obtain ⟨l, c0, -⟩ := hb
  go_enter Tryd.func46, Tryd.ntmps46
  go_wp2_with (first
    | (go_at_call 47; refine Calls.mono (sgive_any _ _ _ _ _ hk hm (hS.below (by go_grown))) ?_; rintro e w' ⟨rfl, hb⟩; (first | replace hS := hS.below hb | replace hS := (hS.below (by go_grown)).below hb | skip); obtain ⟨hc, hf, hb, hz⟩ := bstep hb (w := w) (by go_grown); try simp only [World.size_alloc, World.size_setCell, World.size_drew] at hc hf hz)
  )
  refine bodyPost_ret (by simp [results, Tryd.results46, go_sem, *]; try rfl) rfl ?_
  exact ⟨rfl, by go_grown⟩
theorem enters_free1 : ∀ args w, (callFunc 46 args).run Tryd.prog w = .ok (.enter 46 args) w := enters_of Tryd.func46 (by kernel_rfl) rfl
/-- What a change leaves, said without the closure's worlds. -/
theorem Changed.plain {w w' : World} {h : Hp} {g : Int} {x : Sp} {ok : Bool} {R : World → World → Prop} {p : Option Addr} {c : Nat} {q : Option Addr} {d : Nat} {p' : Option Addr} {c' : Nat} {q' : Option Addr} {d' : Nat} (hc : Changed w h g x ok (fun _ => False) R p c q d p' c' q' d' w') : Below w.heap.size w w' := by
  obtain ⟨W1, W2, hb1, hA, -, hb2⟩ := hc.way
  exact (hb1.trans (hA.pure.mono hb1.size)).trans hb2
set_option maxHeartbeats 1000000 in
theorem hfree_any (p : Option Addr) (c : Nat) (q : Option Addr) (d : Nat) (h : Hp) (a : Int) (w : World) (hS : Sz w) (hh : HpAt w p c q d h) (hF : formB h = true) :
    Calls Tryd.prog 23 #[.agg #[.slice p h.n c, .slice q h.m d, .bool h.b], .int .i64 a] w fun e w' => ∃ p' c' q' d', e = .returned (.tuple #[.agg #[.slice p' h.n c', .slice q' h.m d', .bool h.b], .bool (frB h a)]) ∧
      HpAt w' p' c' q' d' (frH h a) ∧ Src w.heap.size (frB h a) h.n h.m p c q d p' c' q' d' ∧ Below w.heap.size w w' := by
  have hwf := hh.wf
  obtain ⟨w0, hw0, hB0, hR, hst⟩ := boxed2 (w := w) (v0 := .slice p h.n c) (v1 := .slice q h.m d) (v2 := .bool h.b) (u0 := .slice none 0 0) (u1 := .slice none 0 0) (u2 := .bool false) (t := 25)
  have hat := hh.below hst
  have hS0 := hS.below hst
  have hFi := hfind_any p c q d h a w0 hS0 hat hF
  have gB0 := hB0
  have gR := hR
  obtain ⟨l0, x0, x1, x2, -, -, -⟩ := hB0
  obtain ⟨l1, y0, y1, y2, f0, f1, f2⟩ := hR
  have hF' : Hid (formB h = true) := hF
  have hsz0 : w.heap.size + 2 ≤ w0.heap.size := l1
  cases hf : fiB h a with
  | false =>
    have efr : frB h a = false := by unfold frB; rw [hf]; rfl
    have eH : frH h a = h := by unfold frH; rw [if_neg (by simp [efr])]
    rw [eH, efr]
    rw [hf] at hFi
    clear eH efr hF
    go_enter Tryd.func23, Tryd.ntmps23
    go_upto_region 1 with fail
    rw [← hw0]
    clear hw0
    go_wp2_with (first
    | (go_at_call 15; refine Calls.mono (hFi) ?_; rintro e w' ⟨rfl, hb⟩; obtain ⟨hc, hf, hb, hz⟩ := bstep hb (w := w0) (by go_grown); try simp only [World.size_alloc, World.size_setCell, World.size_drew] at hc hf hz)
    )
    refine bodyPost_ret (by simp [results, Tryd.results23, go_sem, *]; try rfl) rfl ?_
    exact ⟨p, c, q, d, rfl, hh.below (by go_grown; exact bjoin hb hst), ⟨fun h => (by cases h), fun _ => ⟨rfl, rfl, rfl, rfl⟩⟩, by go_grown; exact bjoin hb hst⟩
  | true =>
    obtain ⟨p0, p1, p2, hstt, -, i0, i1, -⟩ := fi_spec hF hf
    have eP : fiP h a = a / 32 := by unfold fiP; rw [if_pos hf]
    have eI : fiI h a = plI (spH h (a / 32)).cl a := by unfold fiI; rw [if_pos hf]
    obtain ⟨k0, -, -, k3, k4⟩ := block_in hF hf
    have hmask := wf_mask hwf p0 p1
    have hspw := hwf.2 (a / 32).toNat (by omega)
    have hok := right_ok (form_at hF p0 p1)
    have eF : frB h a = giveB (spH h (a / 32)).st (spH h (a / 32)).cl (spH h (a / 32)).fr (plI (spH h (a / 32)).cl a) := by unfold frB; rw [hf]; rfl
    have eH : frB h a = true → frH h a = { withS h (a / 32) ⟨(spH h (a / 32)).st, (spH h (a / 32)).cl, withW (spH h (a / 32)).fr (plI (spH h (a / 32)).cl a)⟩ with z := zerZ h.z a (szW (spH h (a / 32)).cl) } := fun e => by unfold frH; rw [if_pos e]
    have eN : frB h a = false → frH h a = h := fun e => by unfold frH; rw [if_neg (by simp [e])]
    have hz1 : 0 < szW (spH h (a / 32)).cl := by
      have hb := bl_bound (spH h (a / 32)).cl
      rcases cl_cases (spH h (a / 32)).cl with ⟨-, e0, e1, -⟩ | ⟨-, e0, e1, -⟩ | ⟨-, e0, e1, -⟩ | ⟨-, e0, e1, -⟩ | ⟨-, e0, e1, -⟩ <;> omega
    rw [hf, eP, eI] at hFi
    clear eP eI
    generalize a / 32 = P at *
    generalize plI (spH h P).cl a = I at *
    have hCm : ∀ (w1 : World) (B7 : Nat), Below w0.heap.size w0 w1 → Box1 B7 (.int .i64 I) w1 → Calls Tryd.prog 39 #[.agg #[.slice p h.n c, .slice q h.m d, .bool h.b], .int .i64 P, .func (.func 46) #[] #[.pointer (some ⟨B7, 0, none⟩)]] w1 fun e w' =>
        ∃ p' c' q' d', e = .returned (.tuple #[.agg #[.slice p' h.n c', .slice q' h.m d', .bool h.b], .bool (giveB (spH h P).st (spH h P).cl (spH h P).fr I)]) ∧ Changed w1 h P ⟨(spH h P).st, (spH h P).cl, giveF (spH h P).st (spH h P).cl (spH h P).fr I⟩ (giveB (spH h P).st (spH h P).cl (spH h P).fr I) (fun _ => False) (fun _ _ => True) p c q d p' c' q' d' w' := fun w1 B7 hB1 gI =>
      change_in (k := 46) (caps := #[.pointer (some ⟨B7, 0, none⟩)]) (T := fun _ => False) (R := fun _ _ => True) enters_free1 (hat.below hB1) hF
        (fun e => ⟨hspw.1, hspw.2.1, by show Mask (giveF _ _ _ _); rw [give_val e]; exact mask_with hmask⟩) (fun t ht => ht.elim) p0 p1
        (fun W1 hb1 => Calls.mono (free1_any (spH h P).st (spH h P).cl (spH h P).fr I B7 W1 hok hmask ((hS0.below hB1).below hb1) (gI.below hb1)) fun e W2 ⟨e1, e2⟩ => ⟨e1, Aside.of e2, trivial⟩)
    cases hg : giveB (spH h P).st (spH h P).cl (spH h P).fr I with
    | false =>
      rw [hg] at eF hCm
      rw [eN eF, eF]
      clear eF eN eH hF
      go_enter Tryd.func23, Tryd.ntmps23
      go_upto_region 1 with fail
      rw [← hw0]
      clear hw0
      go_upto_region 4 with (first
    | (go_at_call 15; refine Calls.mono (hFi) ?_; rintro e w' ⟨rfl, hb⟩; obtain ⟨hc, hf, hb, hz⟩ := bstep hb (w := w0) (by go_grown); try simp only [World.size_alloc, World.size_setCell, World.size_drew] at hc hf hz)
      )
      obtain ⟨w1, hw1⟩ : ∃ w1, w1 = w'.alloc (.cells #[.int .i64 I] 3) := ⟨_, rfl⟩
      have hB1 : Below w0.heap.size w0 w1 := by rw [hw1]; exact hb.alloc hb.size _
      have gI : Box1 w'.heap.size (.int .i64 I) w1 := by rw [hw1]; exact Box1.new _ _ _
      have hSl : w0.heap.size ≤ w'.heap.size := hb.size
      rw [← hw1]
      clear hw1 hb hc hf hz x0 x1 x2 y0 y1 y2 f0 f1 f2 l0 l1 hFi
      generalize w'.heap.size = B7 at *
      replace gB0 := gB0.below hB1
      replace gR := gR.below hB1
      have hS1 := hS0.below hB1
      have hC := hCm w1 B7 hB1 gI
      have hB1s := hB1.size
      clear hCm
      have g0 := gB0
      have g1 := gR
      obtain ⟨l0, x0, x1, x2, -, -, -⟩ := g0
      obtain ⟨l1, y0, y1, y2, f0, f1, f2⟩ := g1
      go_upto_region 5 with (first
        | (go_at_call 39; refine Calls.mono hC ?_; rintro e w' ⟨p', c', q', d', rfl, hch⟩; have hb := hch.plain; obtain ⟨hc, hf, hb, hz⟩ := bstep hb (w := w1) (by go_grown))
      )
      obtain ⟨rfl, rfl, rfl, rfl⟩ := hch.old rfl
      clear hC hch
      go_wp2
      refine bodyPost_ret (by simp [results, Tryd.results23, go_sem, *]; try rfl) rfl ?_
      have hbA := bjoin hb (bjoin hB1 hst)
      have hbb := (((hbA.alloc (Nat.le_trans hst.size (Nat.le_trans hB1s hz)) (.cells #[.slice p' h.n c', .slice q' h.m d', .bool h.b] 25)).setCell (p := ⟨w.heap.size + 1, 0, none⟩) (Nat.le_succ _) (.slice p' h.n c')).setCell (p := ⟨w.heap.size + 1, 1, none⟩) (Nat.le_succ _) (.slice q' h.m d')).setCell (p := ⟨w.heap.size + 1, 2, none⟩) (Nat.le_succ _) (.bool h.b)
      exact ⟨p', c', q', d', rfl, hh.below hbb, ⟨fun h => (by cases h), fun _ => ⟨rfl, rfl, rfl, rfl⟩⟩, hbb⟩
    | true =>
      have eG := give_val hg
      rw [hg, eG] at hCm
      rw [hg] at eF
      rw [eH eF, eF]
      clear eF eN eH hF eG
      go_enter Tryd.func23, Tryd.ntmps23
      go_upto_region 1 with fail
      rw [← hw0]
      clear hw0
      go_upto_region 4 with (first
    | (go_at_call 15; refine Calls.mono (hFi) ?_; rintro e w' ⟨rfl, hb⟩; obtain ⟨hc, hf, hb, hz⟩ := bstep hb (w := w0) (by go_grown); try simp only [World.size_alloc, World.size_setCell, World.size_drew] at hc hf hz)
      )
      obtain ⟨w1, hw1⟩ : ∃ w1, w1 = w'.alloc (.cells #[.int .i64 I] 3) := ⟨_, rfl⟩
      have hB1 : Below w0.heap.size w0 w1 := by rw [hw1]; exact hb.alloc hb.size _
      have gI : Box1 w'.heap.size (.int .i64 I) w1 := by rw [hw1]; exact Box1.new _ _ _
      have hSl : w0.heap.size ≤ w'.heap.size := hb.size
      rw [← hw1]
      clear hw1 hb hc hf hz x0 x1 x2 y0 y1 y2 f0 f1 f2 l0 l1 hFi
      generalize w'.heap.size = B7 at *
      replace gB0 := gB0.below hB1
      replace gR := gR.below hB1
      have hS1 := hS0.below hB1
      have hC := hCm w1 B7 hB1 gI
      have hB1s := hB1.size
      clear hCm
      have g0 := gB0
      have g1 := gR
      obtain ⟨l0, x0, x1, x2, -, -, -⟩ := g0
      obtain ⟨l1, y0, y1, y2, f0, f1, f2⟩ := g1
      go_upto_region 5 with (first
        | (go_at_call 39; refine Calls.mono hC ?_; rintro e w' ⟨p', c', q', d', rfl, hch⟩; have hb := hch.plain; obtain ⟨hc, hf, hb, hz⟩ := bstep hb (w := w1) (by go_grown))
      )
      have hown := hch.new rfl
      have hn0 : 0 < h.n := by omega
      have hm16 := (form_iff.1 hF'.out).2.1
      obtain ⟨gw, rfl, hgB, hgG⟩ := hown.word hn0
      have hcap := (hown.cap hn0).1
      obtain ⟨w5, hw5⟩ : ∃ w5, w5 = w'.alloc (.cells #[.slice (some ⟨gw, 0, none⟩) h.n c', .slice q' h.m d', .bool h.b] 25) := ⟨_, rfl⟩
      have hB5 : Below w1.heap.size w1 w5 := by rw [hw5]; exact hb.alloc hb.size _
      have hB6 : Below w'.heap.size w' w5 := by rw [hw5]; exact (Below.refl _ _).alloc (Nat.le_refl _) _
      have gG : Box3 w'.heap.size (.slice (some ⟨gw, 0, none⟩) h.n c') (.slice q' h.m d') (.bool h.b) w5 := by rw [hw5]; exact Box3.new _ _ _ _ _
      replace hown := hown.below hB6
      replace gR := gR.below hB5
      have hS5 := hS1.below hB5
      have hbW : Below w.heap.size w w5 := bjoin hB5 (bjoin hB1 hst)
      rw [← hw5]
      clear hw5 hb hc hf x0 x1 x2 y0 y1 y2 f0 f1 f2 l0 l1 gB0 hB5 hB6 hch hC hat hh
      generalize w'.heap.size = B9 at *
      obtain ⟨l0, x0, x1, x2, -, -, -⟩ := id gG
      have hbk := block_in_own (h := h) (x := ⟨(spH h P).st, (spH h P).cl, withW (spH h P).fr I⟩) hS5 hown.at hcap hm16 p0 p1 hz1 k0 k3
      go_upto_region 8 with (first
    | (go_at_call 48; refine Calls.mono (hbk) ?_; rintro e w' ⟨rfl, hb⟩; obtain ⟨hc, hf, hb, hz⟩ := bstep hb (w := w5) (by go_grown); try simp only [World.size_alloc, World.size_setCell, World.size_drew] at hc hf hz)
      )
      have hown' := hown.below hb
      obtain ⟨N, hN⟩ : ∃ N : Nat, (N : Int) = szW (spH h P).cl := ⟨(szW (spH h P).cl).toNat, by omega⟩
      have hcl := Lib.run_clear_slice (P := Tryd.prog) w' 22 50 0 (.int .u64 0) Tryd.underlying22 zero_u64 rfl rfl gw a.toNat N (c' - a.toNat) (by omega)
        (fun j hj => by
          obtain ⟨⟨u, hu⟩, -⟩ := hown'.store (i := a + j) (v := 0) (by omega) (show a + (j : Int) < h.n by omega) (by decide)
          rw [show (a + (j : Int)).toNat = a.toNat + j by omega] at hu
          rw [hu]; rfl)
        (fun j _ => hown'.words.frozenAt _)
      have ho := hown'.clearN N (a := a) k0 (show a + (N : Int) ≤ h.n by omega)
      rw [hN] at ho
      rw [show (szW (spH h P).cl).toNat = N by omega, hcl]
      clear hcl
      obtain ⟨w8, hw8⟩ : ∃ w8, w8 = w'.setCells gw a.toNat (List.replicate N (.int .u64 0)) := ⟨_, rfl⟩
      rw [← hw8] at ho ⊢
      replace gG : Box3 B9 (.slice (some ⟨gw, 0, none⟩) h.n c') (.slice q' h.m d') (.bool h.b) w8 := by rw [hw8]; exact (gG.below hb).setCells (by omega) _ _ _
      replace gR : Box3 (w.heap.size + 1) (.slice none 0 0) (.slice none 0 0) (.bool false) w8 := by rw [hw8]; exact (gR.below hb).setCells (by omega) _ _ _
      have hb8 : Below w.heap.size w w8 := by rw [hw8]; exact below_setCells (by omega) _ _ _ (bjoin hb hbW)
      clear hw8 hown hown' hb hc hf hz x0 x1 x2 l0 hbk
      obtain ⟨l0, x0, x1, x2, -, -, -⟩ := gG
      obtain ⟨l1, y0, y1, y2, f0, f1, f2⟩ := gR
      go_wp2
      refine bodyPost_ret (by simp [results, Tryd.results23, go_sem, *]; try rfl) rfl ?_
      have hz := (((ho.under (g := w.heap.size + 1) (by omega) 0 (.slice (some ⟨gw, 0, none⟩) h.n c')).under (g := w.heap.size + 1) (by omega) 1 (.slice q' h.m d')).under (g := w.heap.size + 1) (by omega) 2 (.bool h.b)).lower (show w.heap.size ≤ w1.heap.size by omega)
      exact ⟨_, c', q', d', rfl, hz.at, ⟨fun _ => ⟨hz.newW, hz.newS⟩, fun h => (by cases h)⟩, ((hb8.setCell (Nat.le_succ _) _).setCell (Nat.le_succ _) _).setCell (Nat.le_succ _) _⟩
end Go.Proofs.YtjlflbaglaillaaDoor
