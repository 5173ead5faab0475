/- SnapKeeps: what is handed in stays as a cycle begins, and what comes out is memory of its own. No condition; the table that the code reads is tied to the program's text. -/
import Derived.Test.YtmbgodncagjncaaDoorB50
import Derived.Test.YtmbgodncagjncaaDoorB51
import Derived.Test.YtmbgodncagjncaaDoorB38
import Derived.Test.YtmbgodncagjncaaDoorB52
import Derived.Test.YtmbgodncagjncaaDoorB53
import Derived.Test.YtmbgodncagjncaaDoorRows
import Derived.Test.YtmbgodncagjncaaDoorCards
import Derived.Test.YtmbgodncagjncaaDoorTie
import Derived.SevenTiedAt
namespace Go.Proofs.YtmbgodncagjncaaDoor
set_option linter.unusedSimpArgs false
set_option linter.unusedVariables false
open Go.ChangeShapes Go.WideShapes Go.ChangeAt Go.RowKit Go.Joins

theorem two_hm {w w0 : World} {p : Option Addr} {n c : Nat} {q : Option Addr} {k d : Nat} {b : Bool} {x0 x1 x2 x3 x4 x5 x6 x7 : Value} (e : w0 = (w.alloc (.cells #[.slice p n c, .slice q k d, .bool b] 25)).alloc (.cells #[x0, x1, x2, x3, x4, x5, x6, x7] 37)) :
    TBox 25 w.heap.size #[.slice p n c, .slice q k d, .bool b] w0 ∧ TBox 37 (w.heap.size + 1) #[x0, x1, x2, x3, x4, x5, x6, x7] w0 ∧ Below w.heap.size w w0 := tbox_two e
theorem box_three {T g : Nat} {x0 x1 x2 : Value} {w : World} (h : TBox T g #[x0, x1, x2] w) : g < w.heap.size ∧ w.cell? ⟨g, 0, none⟩ = some x0 ∧ w.cell? ⟨g, 1, none⟩ = some x1 ∧ w.cell? ⟨g, 2, none⟩ = some x2 := ⟨h.lt, h.cell 0, h.cell 1, h.cell 2⟩
/-- A row's block keeps its type and size as some cell of some row changes. -/
theorem tbox_resize {T T' g g' : Nat} {cur cur' : Array Value} {W : World} (h : TBox T g cur W) (h' : TBox T' g' cur' W) (o : Nat) (u : Value) : ∃ cur2, TBox T g cur2 (W.setCell ⟨g', o, none⟩ u) ∧ cur2.size = cur.size := by
  by_cases e : g = g'
  · subst e
    have := h.symm.trans h'
    injection this with this
    injection this with e1 e2
    subst e1 e2
    exact ⟨_, h.set o u, by simp⟩
  · exact ⟨cur, h.of_block (Below.heap_setCell W ⟨g', o, none⟩ u g e), rfl⟩
/-- The own words' block; the stacks of the own mutators' row. -/
def KW (g n : Nat) (W : World) : Prop := ∃ cur, TBox 56 g cur W ∧ n ≤ cur.size
theorem KW.set {g n T' g' : Nat} {cur' : Array Value} {W : World} (h : KW g n W) (h' : TBox T' g' cur' W) (o : Nat) (u : Value) : KW g n (W.setCell ⟨g', o, none⟩ u) := by
  obtain ⟨cur, h1, h2⟩ := h
  obtain ⟨cur2, h3, h4⟩ := tbox_resize h1 h' o u
  exact ⟨cur2, h3, by omega⟩
theorem KW.below {g n : Nat} {W W' : World} (h : KW g n W) (hb : Below W.heap.size W W') : KW g n W' := by
  obtain ⟨cur, h1, h2⟩ := h
  exact ⟨cur, h1.below hb, h2⟩
def StkOk (bx ox n : Nat) (z : Nat → Mu) (T : Nat → Prop) (W : World) : Prop := ∀ i, i < n → bx < W.heap.size ∧ ∃ ps cs, W.cell? ⟨bx, ox + i * 13, none⟩ = some (.slice ps (z i).n cs) ∧ (0 < (z i).n → ∃ g cur, ps = some ⟨g, 0, none⟩ ∧ T g ∧ TBox 46 g cur W ∧ (z i).n * 2 ≤ cur.size)
theorem StkOk.set {bx ox n T' g' : Nat} {z : Nat → Mu} {T : Nat → Prop} {cur' : Array Value} {W : World} (h : StkOk bx ox n z T W) (h' : TBox T' g' cur' W) (hne : ¬ bx = g') (o : Nat) (u : Value) : StkOk bx ox n z T (W.setCell ⟨g', o, none⟩ u) := fun i hi => by
  obtain ⟨hl, ps, cs, hc, hs⟩ := h i hi
  refine ⟨by simpa using hl, ps, cs, ?_, fun h0 => ?_⟩
  · rw [World.cell?_of_block (w := W) (a := ⟨bx, _, none⟩) (Below.heap_setCell W ⟨g', o, none⟩ u bx hne)]
    exact hc
  · obtain ⟨g, cur, e, hT, hx, hk⟩ := hs h0
    obtain ⟨cur2, h3, h4⟩ := tbox_resize hx h' o u
    exact ⟨g, cur2, e, hT, h3, by omega⟩
theorem StkOk.below {bx ox n : Nat} {z : Nat → Mu} {T : Nat → Prop} {W W' : World} (h : StkOk bx ox n z T W) (hb : Below W.heap.size W W') : StkOk bx ox n z T W' := fun i hi => by
  obtain ⟨hl, ps, cs, hc, hs⟩ := h i hi
  refine ⟨Nat.lt_of_lt_of_le hl hb.size, ps, cs, (hb.cell (p := ⟨bx, _, none⟩) hl).trans hc, fun h0 => ?_⟩
  obtain ⟨g, cur, e, hT, hx, hk⟩ := hs h0
  exact ⟨g, cur, e, hT, hx.below hb, hk⟩
/-- Which blocks are written: the own words', and those of values between two sizes. -/
def TK (gW lo hi : Nat) (W : World) (k : Nat) : Prop := k = gW ∨ (lo ≤ k ∧ k < hi ∧ ∃ cs, W.heap[k]? = some (.cells cs 46 (0, 0)))
theorem stk_ok {N gW n bx ox cx : Nat} {sp : Option Nat} {z : Nat → Mu} {W : World} (h : RAt (MuN N) 13 W (some ⟨bx, ox, sp⟩) cx n z) : StkOk bx ox n z (TK gW N W.heap.size W) W := fun i hi => by
  obtain ⟨b, off, L, e, hl, hL, hc, ps, cs, rfl, ho, -⟩ := h.row i hi
  injection e with e
  injection e with e1 e2
  subst e1 e2
  refine ⟨hl, ps, cs, hc 0 _ rfl, fun h0 => ?_⟩
  obtain ⟨g, cap, cur, ev, hN, hg, hnc, hm, hs, -⟩ : ∃ g cap cur, (Value.slice ps (z i).n cs) = .slice (some ⟨g, 0, none⟩) (z i).n cap ∧ N ≤ g ∧ W.heap[g]? = some (.cells cur 46 (0, 0)) ∧ (z i).n ≤ cap ∧ cap ≤ maxLen ∧ cur.size = cap * 2 ∧ True := by
    rcases ho.2 with ⟨-, h0'⟩ | ⟨g, cap, cur, hv, hb, hg, hn, hm, hs, ht⟩
    · omega
    · exact ⟨g, cap, cur, hv, hb, hg, hn, hm, hs, trivial⟩
  injection ev with ev
  exact ⟨g, cur, ev, .inr ⟨hN, (Array.getElem?_eq_some_iff.1 hg).1, cur, hg⟩, hg, by omega⟩
theorem muN_rat {N : Nat} {w : World} {p : Option Addr} {c n : Nat} {z : Nat → Mu} (h : RAt (MuN N) 13 w p c n z) (hw : ∀ i, i < n → ∀ k, k < (z i).n → ((z i).st k).wf) (h20 : ∀ i, i < n → (z i).n ≤ 20) : RAt MuC 13 w p c n z :=
  ⟨fun i hi => by
    obtain ⟨b, off, L, e, hl, hL, hc, ps, cs, eL, ho, hm⟩ := h.row i hi
    have := h20 i hi
    exact ⟨b, off, L, e, hl, hL, hc, ps, cs, eL, va_owned ho (by simp only [maxLen]; omega) (hw i hi), hm⟩, h.nle, h.pnil, h.ncap⟩
/-- A new marker's rows, as blocks aside of them are written. -/
theorem newM_keep {T : Nat → Prop} {N : Nat} {w w' : World} {r : Int} {nb nr : Nat} {br : Nat → Int} {ro : Nat → Vl} {pg : Option Addr} {cg : Nat} {pb : Option Addr} {cb : Nat} {pr : Option Addr} {cr : Nat} (h : MAtE N w (newM r nb br nr ro) pg cg pb cb pr cr) (ha : Aside T w w')
    (hpb : ∀ b off sp, pb = some ⟨b, off, sp⟩ → ¬ T b) (hpr : ∀ b off sp, pr = some ⟨b, off, sp⟩ → ¬ T b) : GrAt w' pg cg 0 (fun _ => 0) ∧ RAt GrC 2 w' pb cb nb (fun i => ⟨br i, 0, fun _ => 0⟩) ∧ VAt w' pr cr nr ro := by
  refine ⟨⟨fun i hi => absurd hi (Nat.not_lt_zero i), h.g.nle, h.g.pnil, h.g.ncap.1, h.g.ncap.2⟩, ⟨fun i hi => ?_, h.b.nle, h.b.pnil, h.b.ncap⟩, ⟨h.r.row.of_block ha.size fun h0 b off sp e => ?_, h.r.nle, h.r.pnil, h.r.ncap⟩⟩
  · obtain ⟨b, off, L, e, hl, hL, hc, q, d, e2, hg, hr⟩ := h.b.row i hi
    refine ⟨b, off, L, e, Nat.lt_of_lt_of_le hl ha.size, hL, fun k u hk => ?_, q, d, e2, ⟨fun i hi => absurd hi (Nat.not_lt_zero i), hg.nle, hg.pnil, hg.ncap.1, hg.ncap.2⟩, hr.2⟩
    rw [World.cell?_of_block (w := w) (a := ⟨b, _, none⟩) (ha.block b hl (hpb b off none e))]
    exact hc k u hk
  · obtain ⟨⟨b1, off1, e1, hl1, -⟩, -⟩ := h.r.row 0 h0
    rw [e] at e1
    injection e1 with e1
    injection e1 with e1
    subst e1
    exact ha.block b hl1 (hpr b off sp e)
set_option maxHeartbeats 16000000 in
set_option maxRecDepth 20000 in
theorem keeps18_walk {p : Option Addr} {c : Nat} {q : Option Addr} {d : Nat} {h : Hp} (pm : Option Addr) (n cm : Nat) (z : Nat → Mu) (w : World) (hat : HpAt w p c q d h) (hz0 : RAt MuC 13 w pm cm n z) (hS : Sz w) :
    Calls Tryd.prog 5 #[.agg #[.slice p h.n c, .slice q h.m d, .bool h.b], .slice pm n cm] w fun e w' => e = .returned (.bool true) ∧ Below w.heap.size w w' := by
  obtain ⟨w0, hw0⟩ : ∃ w0, w0 = w.alloc (.cells #[.slice p h.n c, .slice q h.m d, .bool h.b] 25) := ⟨_, rfl⟩
  have gH : TBox 25 w.heap.size #[.slice p h.n c, .slice q h.m d, .bool h.b] w0 := by rw [hw0]; exact TBox.new _ _ _
  have hB0 : Below w.heap.size w w0 := by rw [hw0]; exact (Below.refl _ _).alloc (Nat.le_refl _) _
  replace hat := hat.below hB0
  replace hS := hS.below hB0
  replace hz0 := hz0.below muC_below hB0
  have hFi := fun W (hW : Below w0.heap.size w0 W) => fits18_any p c q d h n z pm cm W (hat.below hW) (hz0.below muC_below hW)
  obtain ⟨l0, x0, x1, x2⟩ := box_three gH
  by_cases hgo : (formB h && fewU z n) = true
  · have hgo' := hgo
    rw [Bool.and_eq_true] at hgo'
    obtain ⟨hF, hU⟩ := hgo'
    obtain ⟨hn, hst⟩ := few_u hU
    rw [hgo] at hFi
    have hF' : Hid (formB h = true) := hF
    clear hgo hU hF
    go_enter Tryd.func5, Tryd.ntmps5
    go_upto_region 1 with fail
    rw [← hw0]
    clear hw0
    go_upto_region 3 with (first
    | (go_at_call 7; refine Calls.mono (awake18_any _ (hS.below (by go_grown))) ?_; rintro e w' ⟨rfl, hb⟩; obtain ⟨hc, hf, hb, hz⟩ := bstep hb (w := w0) (by go_grown); try simp only [World.size_alloc, World.size_setCell, World.size_drew] at hc hf hz)
    | (go_at_call 8; refine Calls.mono (hFi _ (by go_grown)) ?_; rintro e w' ⟨rfl, hb⟩; obtain ⟨hc, hf, hb, hz⟩ := bstep hb (w := w0) (by go_grown); try simp only [World.size_alloc, World.size_setCell, World.size_drew] at hc hf hz)
    )
    have hbW := bjoin hb hB0
    have h4 := hat.below hb
    have hM := hz0.below muC_below hb
    replace gH := gH.below hb
    replace hS := hS.below hb
    obtain ⟨l0, x0, x1, x2⟩ := box_three gH
    clear hFi hat hz0 hB0
    clear hb hc hf hz x0 x1 x2 l0
    generalize w' = wA at *
    obtain ⟨hmw, hmv⟩ := mu_rows hM
    refine wp_own_copy (s := 23) (h' := 2) (d' := 5) (pos := "law.go:82") (by kernel_rfl) (by decide) (by decide) (by decide) (by simp) hF'.out h4 (tbox_box3 gH) rfl ?_
    intro q0 q1 q2 q3 q4 q5 q6 q7 q8 q9 q10 B9 po co qo do_ wB hown g9 hl9 n1 n2 hbB
    simp only [puts, Act.put, Nat.reduceAdd, List.setIfInBounds_toArray, List.set_cons_succ, List.set_cons_zero]
    have hbA := hbB
    obtain ⟨gW, rfl, hgW, hgWl⟩ := hown.word (by have := form_iff.1 hF'.out; omega)
    have hgW9 : ¬ B9 = gW := fun e => n1 (by rw [e]; rfl)
    have h9lt : B9 < wB.heap.size := g9.1
    have hxo := hown.at
    replace hS := hS.below hbB
    clear n1 n2 hl9
    go_upto_region 5 with (first
      | (go_at_call 17; refine Calls.mono (rcopied18_any n z pm cm _ (hM.below muC_below hbB) hn hst) ?_; rintro e wC ⟨px, cx, rfl, hGr, hbC⟩)
    )
    obtain ⟨px', cx', ex, hX, hXt⟩ := GrowR.rat hGr (by simp only [maxLen]; omega)
    injection ex with ex _ ex2
    subst ex ex2
    have hXm := muN_rat hX hmv hst
    have hbAC := hbA.trans (hbC.mono hbA.size)
    replace g9 := g9.below hbC
    replace hown := hown.below hbC
    replace hxo := hxo.below hbC
    replace hS := hS.below hbC
    clear hGr hbB
    obtain ⟨l0, x0, x1, x2, -, -, -⟩ := id g9
    go_upto_region 6 with (first
      | (go_at_call 9; refine Calls.mono (sbegin_any 0 0 0 1 1 (some ⟨gW, 0, none⟩) co qo do_ h n z px cx _ hS (by decide) (by decide) hxo hF'.out hXm hn hst) ?_; rintro e wD ⟨p', c', q', d', pg, cg, pb, cb, pr, cr, rfl, hI, hMk, ⟨hN1, hN2, hN3, hN4⟩, hbD⟩)
    )
    have hrl0 : (rootL h z n).length ≤ 230 := by unfold rootL; rw [List.length_append]; have h1 := heldL_len (z := z) (n := n) hst; have := pendL_len h z n; omega
    generalize hRe : rootL h z n = R at *
    obtain ⟨K, hKe⟩ : ∃ K, K = R.length := ⟨_, rfl⟩
    rw [← hKe] at hMk ⊢
    have hKe' : Hid (K = R.length) := hKe
    have hRe' : Hid (rootL h z n = R) := hRe
    clear hKe hRe
    obtain ⟨wE, hwE⟩ : ∃ W, W = (wD.alloc (.cells #[.slice p' h.n c', .slice q' h.m d', .bool (!h.b)] 25)).alloc (.cells #[.int .i64 1, .slice pg 0 cg, .slice pb n cb, .slice pr K cr, .int .i64 (-1), .int .i64 0, .int .i64 (-1), .bool false] 37) := ⟨_, rfl⟩
    obtain ⟨gA, gM, hbE⟩ := two_hm hwE
    rw [← hwE]
    have hbCE := hbD.trans (hbE.mono hbD.size)
    clear hwE x0 x1 x2 l0 hXm
    have hM4 := hM.below muC_below hbAC
    have hH4 := h4.below hbAC
    have gH4 := gH.below hbAC
    replace g9 := g9.below hbCE
    replace hxo := hxo.below hbCE
    have hXE := muN_rat (hX.below muN_below hbCE) hmv hst
    replace hI := hI.below hbE
    replace hMk := hMk.below hbE
    have hDs : wC.heap.size ≤ wD.heap.size := hbD.size
    have hAE := hbAC.trans (hbCE.mono hbAC.size)
    clear hbE hbD
    generalize wD.heap.size = BA at *
    have hSm : ∀ W, Below wE.heap.size wE W → Calls Tryd.prog 11 #[.agg #[.slice (some ⟨gW, 0, none⟩) h.n co, .slice qo h.m do_, .bool h.b], .agg #[.slice p h.n c, .slice q h.m d, .bool h.b]] W fun e w' => e = .returned (.bool true) ∧ Below W.heap.size W w' := fun W hW => by
      have := rsame_in (hxo.below hW).in ((h4.below hAE).below hW).in
      rwa [sameH_self] at this
    have hSs : ∀ W, Below wE.heap.size wE W → Calls Tryd.prog 18 #[.slice px n cx, .slice pm n cm] W fun e w' => e = .returned (.bool true) ∧ Below W.heap.size W w' := fun W hW => rsames18_self n z px cx pm cm W (hXE.below muC_below hW) ((hM.below muC_below hAE).below muC_below hW)
    have gHE := gH.below hAE
    obtain ⟨l0, x0, x1, x2⟩ := box_three gHE
    obtain ⟨l1, y0, y1, y2, -, -, -⟩ := id g9
    go_upto_region 8 with (first
    | (go_at_call 11; refine Calls.mono (hSm _ (by go_grown)) ?_; rintro e w' ⟨rfl, hb⟩; obtain ⟨hc, hf, hb, hz⟩ := bstep hb (w := wE) (by go_grown); try simp only [World.size_alloc, World.size_setCell, World.size_drew] at hc hf hz)
    | (go_at_call 18; refine Calls.mono (hSs _ (by go_grown)) ?_; rintro e w' ⟨rfl, hb⟩; obtain ⟨hc, hf, hb, hz⟩ := bstep hb (w := wE) (by go_grown); try simp only [World.size_alloc, World.size_setCell, World.size_drew] at hc hf hz)
    )
    replace gA := gA.below hb
    replace gM := gM.below hb
    replace g9 := g9.below hb
    replace hI := hI.below hb
    replace hMk := hMk.below hb
    replace hbCE := bjoin hb hbCE
    replace hAE := bjoin hb hAE
    clear hSm hSs hXE gHE hxo hb hc hf hz x0 x1 x2 l0 y0 y1 y2 l1
    generalize w' = wF at *
    have hform := form_iff.1 hF'.out
    have hn5 : 0 < h.n ∧ h.n ≤ 512 := by omega
    clear hform
    obtain ⟨T, hT⟩ : ∃ T, T = TK gW wB.heap.size wC.heap.size wC := ⟨_, rfl⟩
    have hTW : T gW := by rw [hT]; exact .inl rfl
    have hT9 : ¬ T B9 := fun e => by
      rw [hT] at e
      rcases e with e | ⟨e, -, -⟩
      · exact hgW9 e
      · omega
    have hTlo : ∀ k, T k → wA.heap.size ≤ k := fun k e => by
      rw [hT] at e
      rcases e with e | ⟨e, -, -⟩
      · omega
      · have := hbA.size; omega
    have hThi : ∀ k, T k → k < wC.heap.size := fun k e => by
      rw [hT] at e
      rcases e with e | ⟨-, e, -⟩
      · have := hbC.size; omega
      · exact e
    have hKW : KW gW h.n wF := by
      obtain ⟨cur, h1, h2⟩ := own_cur hown.words hn5.1
      refine ⟨cur, h1.below hbCE, ?_⟩
      have h3 : cur[h.n - 1]? = some (.int .u64 (h.z (h.n - 1))) := h2 (h.n - 1) _ (vals_get .u64 h.z (show h.n - 1 < h.n by omega))
      have := (Array.getElem?_eq_some_iff.1 h3).1
      omega
    obtain ⟨bx, ox, hpx, hTx, hSt⟩ : ∃ bx ox, (0 < n → px = some ⟨bx, ox, none⟩) ∧ (0 < n → ¬ T bx) ∧ StkOk bx ox n z T wF := by
      by_cases h0 : 0 < n
      · obtain ⟨b, off, L, e, -⟩ := hX.row 0 h0
        refine ⟨b, off, fun _ => e, fun _ ht => ?_, ?_⟩
        · obtain ⟨h1, h2, cs, h3⟩ := hXt b off none e
          rw [hT] at ht
          rcases ht with ht | ⟨-, -, cs', h4⟩
          · omega
          · rw [h3] at h4
            injection h4 with h4
            injection h4 with _ h4
            revert h4
            decide
        · subst e
          rw [hT]
          exact (stk_ok hX).below hbCE
      · exact ⟨0, 0, fun e => absurd e h0, fun e => absurd e h0, fun i hi => by omega⟩
    have hNp : ∀ g, T g → Clear g p' q' := fun g hg => ⟨fun b off sp e eb => by have h1 := hN1 b off sp e; have h2 := hThi g hg; omega, fun b off sp e eb => by have h1 := hN2 b off sp e; have h2 := hThi g hg; omega⟩
    have hNr : ∀ b off sp, pr = some ⟨b, off, sp⟩ → ¬ T b := fun b off sp e ht => by have h1 := hN3 b off sp e; have h2 := hThi b ht; omega
    have hNb : ∀ b off sp, pb = some ⟨b, off, sp⟩ → ¬ T b := fun b off sp e ht => by have h1 := hN4 b off sp e; have h2 := hThi b ht; omega
    have hTA : ¬ T BA := fun ht => by have := hThi _ ht; omega
    have hTM : ¬ T (BA + 1) := fun ht => by have := hThi _ ht; omega
    have hst' : Hid (∀ i, i < n → (z i).n ≤ 20) := hst
    clear hN1 hN2 hN3 hN4 hT hThi hown hX hXt hbC hbCE hbAC hgW hgWl hgW9 h9lt hb hc hf hz hS hM4 hH4 gH4 hDs hst l0 x0 x1 x2
    go_wp2
    go_loopg [9] h.n (fun g iv wr => ∃ i : Nat, i ≤ h.n ∧ g = h.n - i ∧ iv = .int .i64 i ∧ KW gW h.n wr ∧ StkOk bx ox n z T wr ∧ Aside T wF wr)
    case atStart => exact ⟨0, by omega, by omega, rfl, hKW, hSt, Aside.of (Below.refl _ _)⟩
    case round =>
      clear hKW hSt
      obtain ⟨i, hi, rfl, rfl, ⟨cur, hcur, hcs⟩, hSt, hAs⟩ := hrel
      obtain ⟨l0, x0, x1, x2, -, -, -⟩ := g9.aside hAs hT9
      by_cases hil : i < h.n
      · obtain ⟨v, ev⟩ : ∃ v, cur[i]? = some v := ⟨cur[i]'(by omega), Array.getElem?_eq_getElem _⟩
        have c0 := (hcur.cell i).trans ev
        have f0 := hcur.frozen i
        have lW := hcur.lt
        have hKW2 := KW.set ⟨cur, hcur, hcs⟩ hcur i (.int .u64 9)
        have hSt2 : StkOk bx ox n z T (wr.setCell ⟨gW, i, none⟩ (.int .u64 9)) := by
          by_cases h0 : 0 < n
          · exact hSt.set hcur (fun e => hTx h0 (by rw [e]; exact hTW)) i _
          · exact fun j hj => by omega
        have hAs2 := hAs.setCell hTW i (.int .u64 9)
        clear hSt hcs ev hst' hF'
        go_wp2
        go_roundg (h.n - (i + 1))
        case measure => omega
        case rel => exact ⟨i + 1, by omega, rfl, by go_num, hKW2, hSt2, hAs2⟩
      · clear hcur hcs cur
        go_upto_region 12 with fail
        clear l0 x0 x1 x2 hil hi
        generalize wr = wG at *
        have hst2 := hst'.out
        go_wp2
        go_loopg [10, 11] n (fun g iv kv wr => ∃ i : Nat, i ≤ n ∧ g = n - i ∧ iv = .int .i64 i ∧ StkOk bx ox n z T wr ∧ Aside T wF wr)
        case atStart => exact ⟨0, by omega, by omega, rfl, hSt, hAs⟩
        case round =>
          clear hSt hAs
          obtain ⟨i, hi, rfl, rfl, hSt, hAs⟩ := hrel
          by_cases hil : i < n
          · obtain rfl := hpx (by omega)
            have hTx' := hTx (by omega)
            have hk20 := hst2 i hil
            clear hst2
            go_upto_region 15 with fail
            generalize wr = wH at *
            obtain ⟨m, hm⟩ : ∃ m, Hid (m = (z i).n) := ⟨_, rfl⟩
            rw [← hm.out] at hk20
            go_wp2
            go_loopg [11] m (fun g kv wr => ∃ k : Nat, k ≤ m ∧ g = m - k ∧ kv = .int .i64 k ∧ StkOk bx ox n z T wr ∧ Aside T wF wr)
            case atStart => exact ⟨0, by omega, by omega, rfl, hSt, hAs⟩
            case round =>
              clear hSt hAs
              obtain ⟨k, hk, rfl, rfl, hSt, hAs⟩ := hrel
              obtain ⟨lx, ps, cs, hc0, hs⟩ := hSt i hil
              rw [← hm.out] at hc0 hs
              by_cases hkm : k < m
              · obtain ⟨g, cur, rfl, hTg, hcur, hcs⟩ := hs (by omega)
                obtain ⟨v0, ev0⟩ : ∃ v, cur[k * 2]? = some v := ⟨cur[k * 2]'(by omega), Array.getElem?_eq_getElem _⟩
                obtain ⟨v1, ev1⟩ : ∃ v, cur[k * 2 + 1]? = some v := ⟨cur[k * 2 + 1]'(by omega), Array.getElem?_eq_getElem _⟩
                have c0 := (hcur.cell (k * 2)).trans ev0
                have c1 := (hcur.cell (k * 2 + 1)).trans ev1
                have f0 := hcur.frozen (k * 2)
                have f1 := hcur.frozen (k * 2 + 1)
                have lg := hcur.lt
                have hne : ¬ bx = g := fun e => hTx' (by rw [e]; exact hTg)
                have hcur2 := hcur.set (k * 2) (.int .i64 9)
                have hSt2 := (hSt.set hcur hne (k * 2) (.int .i64 9)).set hcur2 hne (k * 2 + 1) (.int .i64 0)
                have hAs2 := (hAs.setCell hTg (k * 2) (.int .i64 9)).setCell hTg (k * 2 + 1) (.int .i64 0)
                clear hSt hs hcs ev0 ev1 hcur hcur2
                go_wp2
                go_roundg (m - (k + 1))
                case measure => omega
                case rel => exact ⟨k + 1, by omega, rfl, by go_num, hSt2, hAs2⟩
              · obtain rfl : k = m := by omega
                clear hs
                go_wp2
                go_roundg (n - (i + 1))
                case measure => omega
                case rel => exact ⟨i + 1, by omega, rfl, by go_num, hSt, hAs⟩
          · obtain rfl : i = n := by omega
            have hEnd := hAs.below (n := wA.heap.size) hAE.size hTlo
            have hAr := hAE.trans hEnd
            have h5 := h4.below hAr
            have hM5 := hM.below muC_below hAr
            have gH5 := gH.below hAr
            have gA5 := gA.of_block (hAs.block _ gA.lt hTA)
            have gM5 := gM.of_block (hAs.block _ gM.lt hTM)
            have hI5 : HpIn wr p' h.n c' q' h.m d' (!h.b) (flipB h) := ⟨rfl, rfl, rfl, hI.at'.aside hAs hNp⟩
            obtain ⟨hg5, hb5, hr5⟩ := newM_keep hMk hAs hNb hNr
            have hbr := hAr.trans (Below.refl _ _)
            have hbWr := bjoin hAr hbW
            have hRb := rbegin18_any 0 0 0 1 1 p c q d h i z pm cm wr (show _ ∧ _ by decide) (show _ ∧ _ by decide) h5 hF'.out hM5 hn hst2
            rw [hRe'.out, ← hKe'.out] at hRb
            clear hSt hAs hst2 hst' hEnd hAE hMk hI gA gM g9 h4 hM gH hbr hTW hT9 hTlo hpx hTx hNp hNr hNb hTA hTM hmw hmv
            obtain ⟨l0, x0, x1, x2⟩ := box_three gH5
            go_upto_region 20 with (first
              | (go_at_call 10; refine Calls.mono hRb ?_; rintro e w7 ⟨p2, c2, q2, d2, pg2, cg2, pb2, cb2, pr2, cr2, rfl, hI2, hMk2, hb7⟩)
            )
            obtain ⟨wZ, hwZ⟩ : ∃ W, W = (w7.alloc (.cells #[.slice p2 h.n c2, .slice q2 h.m d2, .bool (!h.b)] 25)).alloc (.cells #[.int .i64 1, .slice pg2 0 cg2, .slice pb2 i cb2, .slice pr2 K cr2, .int .i64 (-1), .int .i64 0, .int .i64 (-1), .bool false] 37) := ⟨_, rfl⟩
            obtain ⟨gB, gN, hbZ⟩ := two_hm hwZ
            rw [← hwZ]
            have hbrZ := hb7.trans (hbZ.mono hb7.size)
            have gA8 := gA5.below hbrZ
            have gM8 := gM5.below hbrZ
            have hSH : ∀ W, Below wZ.heap.size wZ W → Calls Tryd.prog 11 #[.agg #[.slice p' h.n c', .slice q' h.m d', .bool (!h.b)], .agg #[.slice p2 h.n c2, .slice q2 h.m d2, .bool (!h.b)]] W fun e w' => e = .returned (.bool true) ∧ Below W.heap.size W w' := fun W hW => by
              have := rsame_in (hI5.below (hbrZ.trans (hW.mono hbrZ.size))) (hI2.below (hbZ.trans (hW.mono hbZ.size)))
              rw [sameH_self] at this
              exact this
            have hSM : ∀ W, Below wZ.heap.size wZ W → Calls Tryd.prog 12 #[.agg #[.int .i64 1, .slice pg 0 cg, .slice pb i cb, .slice pr K cr, .int .i64 (-1), .int .i64 0, .int .i64 (-1), .bool false], .agg #[.int .i64 1, .slice pg2 0 cg2, .slice pb2 i cb2, .slice pr2 K cr2, .int .i64 (-1), .int .i64 0, .int .i64 (-1), .bool false]] W fun e w' => e = .returned (.bool true) ∧ Below W.heap.size W w' := fun W hW => by
              have hb1 := hbrZ.trans (hW.mono hbrZ.size)
              have h2 := hMk2.below (hbZ.trans (hW.mono hbZ.size))
              exact rsame17_self (newM 1 i (fun _ => 1) K (lvF R)) pg cg pb cb pr cr pg2 cg2 pb2 cb2 pr2 cr2 W (hg5.below hb1) (hb5.below grC_below hb1) (hr5.below hb1) h2.g h2.b.plain h2.r
            have hbWZ := bjoin hbrZ hbWr
            obtain ⟨k0, u0', u1', u2'⟩ := box_three gA8
            obtain ⟨k1, v0, v1, v2⟩ := box_three gB
            obtain ⟨k2, s0, s1, s2, s3, s4, s5, s6, s7⟩ := mk_cells gM8
            obtain ⟨k3, r0, r1, r2, r3, r4, r5, r6, r7⟩ := mk_cells gN
            clear hwZ hRb x0 x1 x2 l0 hb7 hbZ hbrZ gA8 gM8 gA5 gM5 gB gN hI5 hI2 hMk2 hg5 hb5 hr5 h5 hM5 gH5 hRe' hKe'
            go_wp2_with (first
    | (go_at_call 11; refine Calls.mono (hSH _ (by go_grown)) ?_; rintro e w' ⟨rfl, hb⟩; obtain ⟨hc, hf, hb, hz⟩ := bstep hb (w := wZ) (by go_grown); try simp only [World.size_alloc, World.size_setCell, World.size_drew] at hc hf hz)
    | (go_at_call 12; refine Calls.mono (hSM _ (by go_grown)) ?_; rintro e w' ⟨rfl, hb⟩; obtain ⟨hc, hf, hb, hz⟩ := bstep hb (w := wZ) (by go_grown); try simp only [World.size_alloc, World.size_setCell, World.size_drew] at hc hf hz)
            )
            go_returns
            exact ⟨rfl, bjoin hb hbWZ⟩
  · have hgo' : (formB h && fewU z n) = false := by simpa using hgo
    rw [hgo'] at hFi
    clear hgo hgo'
    go_enter Tryd.func5, Tryd.ntmps5
    go_upto_region 1 with fail
    rw [← hw0]
    clear hw0
    go_wp2_with (first
    | (go_at_call 7; refine Calls.mono (awake18_any _ (hS.below (by go_grown))) ?_; rintro e w' ⟨rfl, hb⟩; obtain ⟨hc, hf, hb, hz⟩ := bstep hb (w := w0) (by go_grown); try simp only [World.size_alloc, World.size_setCell, World.size_drew] at hc hf hz)
    | (go_at_call 8; refine Calls.mono (hFi _ (by go_grown)) ?_; rintro e w' ⟨rfl, hb⟩; obtain ⟨hc, hf, hb, hz⟩ := bstep hb (w := w0) (by go_grown); try simp only [World.size_alloc, World.size_setCell, World.size_drew] at hc hf hz)
    )
    go_returns
    exact ⟨rfl, bjoin hb hB0⟩
namespace SnapKeeps
/-- What the row lists. -/
def lists : List (String × DataW Unit) := [("flotsam/class.sizes", Rows.laid_flotsam_class_sizes)]
set_option maxRecDepth 100000 in
theorem lifted (os : Os) (started : os.Started) (H : Type) (enc : TypeId × Value → H) :
    ReturnsInHanded {} Tryd.checked os 5 .any (fun w args => (Rows.snapKeepsSpec.pre enc Tryd.prog Tryd.f5 Rows.snapKeepsRow.domain false w args ∧ laidMetH Tryd.prog lists w) ∧ sizedMet enc Tryd.prog Tryd.f5 (OpenSpec.ofChange Rows.snapKeepsSpec) false w args) (Rows.snapKeepsSpec.post enc Tryd.prog Tryd.f5 false true false false) := by
  refine law_lifted_laid (C := Tryd.checked) seat_own started (by kernel_rfl) Tryd.func5 (by kernel_rfl) (of_decide_eq_true (by kernel_rfl)) rfl
    (fun ds hd => by have hd' : ds.length = 2 := hd; match ds, hd' with | [d0, d1], _ => rfl) rfl Tryd.underlying4
    (ChangeSpec.witness_shaped (enc := enc) (C := Tryd.checked) (os := os) (X := fun w _ => laidMetH Tryd.prog lists w) false (World.laidAll Tryd.prog os lists) #[.agg #[.slice none 0 0, .slice none 0 0, .bool false], .slice none 0 0] 8 (World.laidAll_os _ _ _)
      (World.shaped_of_ZipB (by kernel_rfl) (by kernel_rfl)) (by kernel_rfl) (by kernel_rfl) (by kernel_rfl)
      (by rw [MakeChecks.laidMetH_plain _ _ _ (by kernel_rfl)]; exact laidMet_laidAll _ (by kernel_rfl) (by kernel_rfl))) ?_
  intro W base args ds p hval hA hlt hL
  have hS : Sz W := sizes_of hL (by kernel_rfl) rfl
  rw [Tryd.params5] at hA hval
  obtain ⟨v0, v1, d0, d1, p0, p1, rfl, rfl, rfl, h0, h1⟩ := trodAll_two hA
  obtain ⟨x0, q0, c0, s0, e0, rfl, hh0⟩ := open_heap Tryd.underlying25 (by kernel_rfl) (by kernel_rfl) Tryd.underlying22 (by kernel_rfl) (by kernel_rfl) Tryd.underlying23 Tryd.underlying68 (by kernel_rfl) (by kernel_rfl) (by kernel_rfl) (by kernel_rfl) (by kernel_rfl) (by kernel_rfl) (hval 0 25 v0 rfl rfl) h0
  obtain ⟨q1, n1, cap1, z1, rfl, hm1⟩ := open_mutators Tryd.underlying26 Tryd.underlying49 (by kernel_rfl) ⟨rfl, rfl, rfl, rfl, rfl, rfl⟩ ⟨by kernel_rfl, by kernel_rfl, by kernel_rfl, by kernel_rfl, by kernel_rfl, by kernel_rfl⟩ Tryd.underlying35 Tryd.underlying46 (by kernel_rfl) (by kernel_rfl) (by kernel_rfl) (by kernel_rfl) (by kernel_rfl) (by kernel_rfl) rfl Tryd.underlying44 ⟨rfl, rfl, rfl, rfl⟩ ⟨by kernel_rfl, by kernel_rfl, by kernel_rfl, by kernel_rfl⟩ ⟨by kernel_rfl, by kernel_rfl, by kernel_rfl, by kernel_rfl⟩ ⟨rfl, rfl⟩ ⟨by kernel_rfl, by kernel_rfl⟩ Tryd.underlying47 (by kernel_rfl) (by kernel_rfl) (hval 1 26 v1 rfl rfl) h1
  exact keeps18_walk q1 n1 cap1 z1 W hh0 hm1 hS

theorem row_holds : Rows.SnapKeepsSaid :=
  OpenClaim.holds_of_wide 5 Tryd.f5 rfl rfl rfl rfl rfl rfl rfl ⟨rfl, rfl, rfl, rfl, rfl⟩ rfl rfl rfl rfl rfl (by kernel_rfl) Tryd.func5 (by kernel_rfl)
    (of_decide_eq_true (by kernel_rfl)) (by unfold Func.isWrapper; first | (rw [if_pos (by decide +kernel)]; kernel_rfl) | (rw [if_neg (by decide +kernel)]; exact ⟨rfl, rfl⟩))
    (fun os started H enc _ => lifted os started H enc)
/-- The tied card. -/
theorem holds : Rows.SnapKeepsCardSaid :=
  Claim7.holds_tied_plain_at .later [] [.data] true (true, "1fc3ee0dc7588e3d27a7d5a24eafd86ac73523e010a7788d053712e9af2933f6") false row_holds (fun _ h => by cases h) (by kernel_rfl) (fun _ h => by cases h) snapKeeps_row_tie rfl ⟨rfl, rfl⟩ (by kernel_rfl) rfl
    (fun f fn hf hfn => by
      obtain rfl : f = 5 := Option.some.inj ((show Tryd.prog.funcNamed "flotsam/flotsamlaw18.SnapKeeps" = some 5 by kernel_rfl).symm.trans hf) |>.symm
      obtain rfl : fn = Tryd.f5 := (Option.some.inj (Tryd.func5.symm.trans hfn)).symm
      exact ⟨by kernel_rfl, fun j t ht => by
        rw [Tryd.params5] at ht
        have hm : t ∈ [25, 26] := by simpa using Array.mem_of_getElem? ht
        have hall : ([25, 26].all fun u => !Tryd.prog.wantsStandIn u) = true := by kernel_rfl
        exact (show Tryd.prog.wantsStandIn t = false by simpa using List.all_eq_true.1 hall t hm)⟩)
    (by kernel_rfl)
#print axioms holds
end SnapKeeps
end Go.Proofs.YtmbgodncagjncaaDoor
