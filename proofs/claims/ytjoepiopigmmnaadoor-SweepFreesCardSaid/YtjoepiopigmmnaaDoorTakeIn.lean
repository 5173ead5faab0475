/- Taking, by a heap's three cells (chapter 11). -/
import Derived.Test.YtjoepiopigmmnaaDoorPlayed
namespace Go.Proofs.YtjoepiopigmmnaaDoor
set_option linter.unusedSimpArgs false
set_option linter.unusedVariables false
open Go.ChangeShapes Go.WideShapes Go.ChangeAt Go.RowKit Go.Joins

/-! What stays while some blocks turn. -/
theorem HpIn.aside {T : Nat → Prop} {W W' : World} {p : Option Addr} {n c : Nat} {q : Option Addr} {m d : Nat} {b : Bool} {h : Hp} (hh : HpIn W p n c q m d b h) (ha : Aside T W W') (hT : ∀ g, T g → Clear g p q) : HpIn W' p n c q m d b h :=
  ⟨hh.n_eq, hh.m_eq, hh.b_eq, ⟨hh.at'.ints.aside ha fun g t => (hT g t).1, hh.at'.spans.aside ha fun g t => (hT g t).2, hh.at'.nle, hh.at'.mle, hh.at'.pnil, hh.at'.qnil, hh.at'.ncap, hh.at'.mcap⟩⟩
theorem owned_stays {T : Nat → Prop} {W W' : World} {base : Nat} {e : TypeId} {size : Nat} {v : Value} {n : Nat} {xs : List Value} (h : W.ownsRow base e size v n xs) (hA : Aside T W W') (hT : ∀ k, v.ownBlock = some k → ¬ T k) : W'.ownsRow base e size v n xs := by
  refine ⟨h.1, ?_⟩
  rcases h.2 with h0 | ⟨g, cap, cur, rfl, hb, hh, r⟩
  · exact .inl h0
  · exact .inr ⟨g, cap, cur, rfl, hb, (hA.block g (h.lt g rfl).2 (hT g rfl)).trans hh, r⟩
/-- Rows of numbers that come in lie below. -/
theorem Ints.lower {k : IntKind} {W : World} {p : Option Addr} {n : Nat} {z : Nat → Int} (h : Ints k W p n z) (hn : 0 < n) : ∃ b off, p = some ⟨b, off, none⟩ ∧ b < W.heap.size := by
  obtain ⟨⟨b, off, e, hlt, -⟩, -⟩ := h 0 hn
  exact ⟨b, off, e, hlt⟩
/-- The cell of a cache's place. -/
theorem caches_cell {W : World} {b o k : Nat} {y : Nat → Int} (h : Ints .i64 W (some ⟨b, o, none⟩) (k * 4) y) {i j : Nat} (hi : i < k) (hj : j < 4) : W.cell? ⟨b, o + i * 4 + j, none⟩ = some (.int .i64 (y (i * 4 + j))) := by
  obtain ⟨⟨b', o', e, -, hv⟩, -⟩ := h (i * 4 + j) (by omega)
  injection e with e
  injection e with e1 e2
  subst e1 e2
  rw [Nat.add_assoc]
  exact hv
/-- What Take answers, by the cells of its variables. -/
structure TookIn (B : Nat) (ok : Bool) (w' : World) (n m k : Nat) (b : Bool) (H : Hp) (Y : Nat → Int) (p : Option Addr) (c : Nat) (q : Option Addr) (d : Nat) (pc : Option Addr) (cc : Nat) (p' : Option Addr) (c' : Nat) (q' : Option Addr) (d' : Nat) (pc' : Option Addr) (cc' : Nat) : Prop where
  heap : HpIn w' p' n c' q' m d' b H
  caches : Ints .i64 w' pc' (k * 4) Y
  cnil : pc' = none → k = 0 ∧ cc' = 0
  src : Src B ok n m p c q d p' c' q' d'
  new : ok = true → NewV B (.slice pc' k cc')
  old : ok = false → pc' = pc ∧ cc' = cc
section
variable {w : World} {p : Option Addr} {n c : Nat} {q : Option Addr} {m d : Nat} {b : Bool} {h : Hp} {pc : Option Addr} {k cc : Nat} {y : Nat → Int}
theorem TookIn.below {B : Nat} {ok : Bool} {W W' : World} {H : Hp} {Y : Nat → Int} {p' : Option Addr} {c' : Nat} {q' : Option Addr} {d' : Nat} {pc' : Option Addr} {cc' : Nat} (t : TookIn B ok W n m k b H Y p c q d pc cc p' c' q' d' pc' cc') (hb : Below W.heap.size W W') : TookIn B ok W' n m k b H Y p c q d pc cc p' c' q' d' pc' cc' :=
  ⟨t.heap.below hb, t.caches.below hb, t.cnil, t.src, t.new, t.old⟩
theorem take_n (h : Hp) (n : Nat) (y : Nat → Int) (m : Nat) (f : Int) : (takeH h n y m f).n = h.n ∧ (takeH h n y m f).m = h.m ∧ (takeH h n y m f).b = h.b := by
  unfold takeH
  split
  · obtain ⟨a1, a2, a3⟩ := la_n (opH h _ (ofC f)) (((_ : Nat)) : Int) f
    obtain ⟨b1, b2, b3⟩ := op_n h _ (ofC f)
    exact ⟨a1.trans b1, a2.trans b2, a3.trans b3⟩
  · exact ⟨rfl, rfl, rfl⟩
theorem TookAt.in' {w w' : World} {h : Hp} {k : Nat} {y : Nat → Int} {mm : Nat} {f : Int} {p' : Option Addr} {c' : Nat} {q' : Option Addr} {d' : Nat} {pc' : Option Addr} {cc' : Nat} (t : TookAt w w' h k y mm f p c q d pc cc p' c' q' d' pc' cc') : TookIn w.heap.size (takeP h k y mm f).isSome w' h.n h.m k h.b (takeH h k y mm f) (takeY h k y mm f) p c q d pc cc p' c' q' d' pc' cc' := by
  obtain ⟨e1, e2, e3⟩ := take_n h k y mm f
  exact ⟨⟨e1.symm, e2.symm, e3.symm, t.heap⟩, t.caches, t.cnil, t.src, t.new, t.old⟩
/-- A mutator that the caches have, of right ones, beside a heap of its form. -/
def rightM (h : Hp) (k : Nat) (y : Nat → Int) (mm : Int) : Bool := formB h && decide (k ≤ 10) && rightY h k y && decide (0 ≤ mm) && decide (mm < k)
theorem pageV_is (x : Option Nat) : ∃ i b, pageV x = .tuple #[.int .i64 i, .bool b] := by
  cases x with
  | none => exact ⟨_, _, rfl⟩
  | some i => exact ⟨_, _, rfl⟩
theorem rightM_iff {h : Hp} {k : Nat} {y : Nat → Int} {mm : Int} : rightM h k y mm = true ↔ formB h = true ∧ k ≤ 10 ∧ rightY h k y = true ∧ 0 ≤ mm ∧ mm < k := by
  simp only [rightM, Bool.and_eq_true, decide_eq_true_eq, and_assoc]
end
end Go.Proofs.YtjoepiopigmmnaaDoor
