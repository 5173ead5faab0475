/- The reference's answers that layer 12's laws ask for, by a heap's three cells. -/
import Derived.Test.YtjoepiopigmmnaaDoorSweepTwo
import Derived.Test.YtjoepiopigmmnaaDoorRef12
import Derived.Test.YtjoepiopigmmnaaDoorCheck09
namespace Go.Proofs.YtjoepiopigmmnaaDoor
set_option linter.unusedSimpArgs false
set_option linter.unusedVariables false
open Go.ChangeShapes Go.WideShapes Go.ChangeAt Go.RowKit Go.Joins

theorem drI_is (s : Nat → Sp) : ∀ k : Nat, drI s k = (drT s k : Nat)
  | 0 => rfl
  | k + 1 => by
    have ih := drI_is s k
    unfold drI drT
    split
    · rw [ih]; simp
    · rw [ih]; simp
theorem bgTo_is (s : Nat → Sp) (k : Nat) : ∀ i, i < k → bgTo s k i = bgS (s i) := fun i hi => by
  unfold bgTo
  rw [if_pos hi]
  rfl
/-- All, step by step. -/
theorem al_one (h : Hp) (n : Nat) (y : Nat → Int) (i : Nat) : alA h n y (i + 1) = (onH (alA h n y i).1 n y, (alA h n y i).2 + onW (alA h n y i).1) := rfl
theorem st_no {h : Hp} (hF : formB h = true) (hw : h.wf) {n : Nat} {y : Nat → Int} {i : Nat} (e : onP (alA h n y i).1 = none) (hi : i ≤ drH h) : i = drH h ∧ alA h n y 17 = alA h n y i := by
  have h1 := (al_count hF hw n y i).1 e
  have h2 := dr_le h.s h.m
  have h3 := (form_iff.1 hF).2.1
  have h4 : drH h ≤ h.m := h2
  exact ⟨by omega, al_all hF hw h1 (by omega)⟩
structure StYes (h : Hp) (n : Nat) (y : Nat → Int) (i x : Nat) : Prop where
  lt : x < h.m
  dirty : (h.s x).st = 2
  next : i + 1 ≤ drH h
  rise : ∀ q : Nat, onP (alA h n y (i + 1)).1 = some q → (x : Int) < q
  pos : 0 ≤ (alA h n y i).2 ∧ (alA h n y i).2 ≤ 512
  pos1 : 0 ≤ (alA h n y i).2 + onW (alA h n y i).1 ∧ (alA h n y i).2 + onW (alA h n y i).1 ≤ 512
  w0 : 0 ≤ onW (alA h n y i).1
theorem us_bound12 {h : Hp} (hF : formB h = true) (hw : h.wf) : 0 ≤ usH h ∧ usH h ≤ 512 := by
  obtain ⟨-, h1, -, h3⟩ := form_iff.1 hF
  have := usT_bound (s := h.s) (k := h.m) fun i hi => ⟨h3 i hi, hw.2 i hi⟩
  unfold usH; omega
theorem st_yes {h : Hp} (hF : formB h = true) (hw : h.wf) {n : Nat} {y : Nat → Int} {i x : Nat} (e : onP (alA h n y i).1 = some x) : StYes h n y i x := by
  obtain ⟨a1, a2, a3, a4, a5, a6, a7, a8⟩ := al_form hF hw n y i
  obtain ⟨b1, b2, -, -, -, -, b7, b8⟩ := al_form hF hw n y (i + 1)
  rw [al_one] at b1 b2 b7 b8
  obtain ⟨o1, o2, -⟩ := on_some e
  have hu := (us_bound12 hF hw).2
  have hu1 := (us_bound12 a1 a2).1
  have hu2 := (us_bound12 b1 b2).1
  have hs := al_spans hF hw n y i x o2
  have hd := dr_pos o1 o2
  have hd' : 1 ≤ drH (alA h n y i).1 := hd
  have O := ond a1 a2 n y e
  have hp := O.pos
  refine ⟨by omega, by rw [← hs]; exact o2, by omega, fun q hq => ?_, ⟨a8, by omega⟩, ⟨b8, by show (alA h n y i).2 + onW (alA h n y i).1 ≤ 512; omega⟩, hp⟩
  have := al_rise a1 a2 e hq
  omega
/-- Beside whatever caches the same objects are left. -/
theorem once_same {h : Hp} (hF : formB h = true) (hw : h.wf) (h2 : ru2 h = true) (h3 : ru3 h = true) (n : Nat) (y : Nat → Int) (n' : Nat) (y' : Nat → Int) : (alA h n y 17).2 = (alA h n' y' 17).2 ∧ obL (alA h n y 17).1 (alA h n y 17).1.n = obL (alA h n' y' 17).1 (alA h n' y' 17).1.n := by
  have S := swept hF hw h2 h3 n y
  have S' := swept hF hw h2 h3 n' y'
  refine ⟨(al_same h n y n' y' 17).2, ?_⟩
  rw [S.nn, S'.nn]
  exact obL_congr (fun b => by rw [S.ob, S'.ob]) h.n
/-- What is black alone, begun and swept again, is the same. -/
theorem once_black {h g : Hp} {n : Nat} {y : Nat → Int} (S : Swept n y h g) (hb : ∀ a, a ∈ obL g g.n → blB g a = true) (n' : Nat) (y' : Nat → Int) : formB (bgH g) = true ∧ (bgH g).wf ∧ (alA (bgH g) n' y' 17).2 = 0 ∧ obL (alA (bgH g) n' y' 17).1 (alA (bgH g) n' y' 17).1.n = obL g g.n := by
  have hF := form_begin S.form
  have hw := wf_begin S.wf
  have hu : UsB (bgH g) := fun b ho => by
    rw [(bg_ob g b).2.1] at ho
    rw [(bg_ob g b).2.2.2]
    exact us_of S.form S.two b ho
  have hn : ∀ b, whB (bgH g) b = false := fun b => by
    rw [(bg_ob g b).2.2.1]
    unfold whB
    cases ho : obB g b with
    | false => rfl
    | true =>
      have hin := ob_fi ho
      simp only [fiB, Bool.and_eq_true] at hin
      obtain ⟨i0, i1⟩ := of_inI hin.1
      have hgn := (form_iff.1 S.form).2.2.1
      rw [hb b ((obL_mem g b g.n).2 ⟨i0, by omega, ho⟩)]
      rfl
  obtain ⟨a1, a2, -, -⟩ := al_black hF hw hu hn n' y' 17
  refine ⟨hF, hw, a1, ?_⟩
  rw [(al_form hF hw n' y' 17).2.2.1]
  exact obL_congr (fun b => (a2 b).trans (bg_ob g b).2.1) g.n
theorem few12_any (pc : Option Addr) (k cc : Nat) (w : World) (hk : k ≤ maxLen) :
    Calls Tryd.prog 9 #[.slice pc k cc] w fun e w' => e = .returned (.bool (decide (k ≤ 10))) ∧ Below w.heap.size w w' := by
  simp only [maxLen] at hk
  go_enter Tryd.func9, Tryd.ntmps9
  go_wp2
  go_returns
  exact ⟨ret_bool (by first | (simp; done) | (simp; omega)), by go_grown⟩
section
variable {w : World} {p : Option Addr} {n c : Nat} {q : Option Addr} {m d : Nat} {b : Bool} {h : Hp}
theorem rdirty_in (hh : HpIn w p n c q m d b h) :
    Calls Tryd.prog 12 #[.agg #[.slice p n c, .slice q m d, .bool b]] w fun e w' => e = .returned (.int .i64 (drH h : Nat)) ∧ Below w.heap.size w w' := by
  obtain ⟨rfl, rfl, rfl, hh⟩ := hh
  refine Calls.mono (rdirty12_any p c q d h w hh) ?_
  rintro e w' ⟨rfl, hb⟩
  exact ⟨by rw [drI_is]; rfl, hb⟩
theorem rbegin_in (hh : HpIn w p n c q m d b h) (hF : formB h = true) :
    Calls Tryd.prog 24 #[.agg #[.slice p n c, .slice q m d, .bool b]] w fun e w' => ∃ p' c' q' d', e = .returned (.agg #[.slice p' n c', .slice q' m d', .bool b]) ∧ HpIn w' p' n c' q' m d' b (bgH h) ∧ NewV w.heap.size (.slice p' n c') ∧ NewV w.heap.size (.slice q' m d') ∧ Below w.heap.size w w' := by
  obtain ⟨rfl, rfl, rfl, hh⟩ := hh
  refine Calls.mono (rbegin12_any p c q d h w hh hF) ?_
  rintro e w' ⟨p', c', q', d', rfl, ho, hb⟩
  have ho2 : HpOwn w' w.heap.size p' c' q' d' (bgH h) := ho.congr (z := h.z) (s := fun i => bgS (h.s i)) (b := h.b) (fun _ _ => rfl) (fun i hi => bgTo_is h.s h.m i hi)
  exact ⟨p', c', q', d', rfl, ho2.at.in, ho2.newW, ho2.newS, hb⟩
theorem rcheck12_in (hh : HpIn w p n c q m d b h) :
    Calls Tryd.prog 8 #[.agg #[.slice p n c, .slice q m d, .bool b]] w fun e w' => e = .returned (.int .i64 (ckH h)) ∧ Below w.heap.size w w' := by
  obtain ⟨rfl, rfl, rfl, hh⟩ := hh
  exact rcheck9_any p c q d h w hh
theorem rlist12_row (hh : HpIn w p n c q m d b h) (hF : formB h = true) {M : Nat} {z : Nat → Int} (eM : (obL h h.n).length = M) (ez : (fun i => (obL h h.n)[i]?.getD 0) = z) :
    Calls Tryd.prog 14 #[.agg #[.slice p n c, .slice q m d, .bool b]] w fun e w' => ∃ pl cl, e = .returned (.slice pl M cl) ∧ Ints .i64 w' pl M z ∧ Below w.heap.size w w' := by
  obtain ⟨rfl, rfl, rfl, hh⟩ := hh
  refine Calls.mono (rlist8_any p c q d h w hh hF) ?_
  rintro e w' ⟨v, rfl, hown, hb⟩
  obtain ⟨pl, cl, rfl, hr⟩ := row_owned hown (obL_wf h (by have := form_iff.1 hF; omega))
  have hi := hr.ints
  rw [eM, ez] at hi
  rw [eM]
  exact ⟨pl, cl, rfl, hi, hb⟩
theorem rrefs12_row {a : Int} (hh : HpIn w p n c q m d b h) (hF : formB h = true) {R : Nat} {y : Nat → Int} (eM : (rfH h a).length = R) (ey : (fun i => (rfH h a)[i]?.getD 0) = y) :
    Calls Tryd.prog 18 #[.agg #[.slice p n c, .slice q m d, .bool b], .int .i64 a] w fun e w' => ∃ pm cm, e = .returned (.slice pm R cm) ∧ Ints .i64 w' pm R y ∧ Below w.heap.size w w' := by
  obtain ⟨rfl, rfl, rfl, hh⟩ := hh
  refine Calls.mono (rrefs8_any p c q d h a w hh hF) ?_
  rintro e w' ⟨v, rfl, hown, hb⟩
  obtain ⟨pm, cm, rfl, hr⟩ := row_owned hown (rfH_wf hh.wf hF a)
  have hi := hr.ints
  rw [eM, ey] at hi
  rw [eM]
  exact ⟨pm, cm, rfl, hi, hb⟩
theorem rget12_in {a : Int} (hh : HpIn w p n c q m d b h) (hF : formB h = true) :
    Calls Tryd.prog 15 #[.agg #[.slice p n c, .slice q m d, .bool b], .int .i64 a] w fun e w' => e = .returned (.tuple #[.agg #[.bool (obB h a), .bool (obC h a), .int .i64 (obK h a), .int .i64 (obN h a)], .bool (obB h a)]) ∧ Below w.heap.size w w' := by
  obtain ⟨rfl, rfl, rfl, hh⟩ := hh
  exact rget8_any p c q d h a w hh hF
theorem rblack12_in {a : Int} (hh : HpIn w p n c q m d b h) (hF : formB h = true) :
    Calls Tryd.prog 16 #[.agg #[.slice p n c, .slice q m d, .bool b], .int .i64 a] w fun e w' => e = .returned (.bool (blB h a)) ∧ Below w.heap.size w w' := by
  obtain ⟨rfl, rfl, rfl, hh⟩ := hh
  exact rblack8_any p c q d h a w hh hF
end
end Go.Proofs.YtjoepiopigmmnaaDoor
