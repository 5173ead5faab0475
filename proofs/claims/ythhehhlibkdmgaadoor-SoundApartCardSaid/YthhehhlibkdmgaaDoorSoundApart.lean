/- SoundApart: of a sound heap each word that isn't 0 lies within an object; what black objects, and those of clean spans, refer to are objects. No condition; the tables that the code reads are tied to the program's text. -/
import Derived.Test.YthhehhlibkdmgaaDoorRows
import Derived.Test.YthhehhlibkdmgaaDoorCards
import Derived.Test.YthhehhlibkdmgaaDoorTie
import Derived.Test.YthhehhlibkdmgaaDoorRow09
import Derived.SevenTiedAt
namespace Go.Proofs.YthhehhlibkdmgaaDoor
set_option linter.unusedSimpArgs false
set_option linter.unusedVariables false
open Go.ChangeShapes Go.WideShapes Go.ChangeAt Go.RowKit Go.Joins

/-- The first t objects' words are marked. -/
structure Mk (h : Hp) (z : Nat → Int) (t : Nat) (V : Nat → Int) : Prop where
  out : ∀ u, u < t → ∀ k : Nat, z u ≤ k → (k : Int) ≤ z u + obN h (z u) → V k = 1
/-- .. and k words from X on. -/
structure Mk2 (h : Hp) (z : Nat → Int) (t : Nat) (X k : Int) (V : Nat → Int) : Prop where
  base : Mk h z t V
  here : ∀ j : Nat, X ≤ j → (j : Int) < X + k → V j = 1
theorem put_at (V : Nat → Int) {p v : Int} {j : Nat} : putZ V p v j = v ∨ putZ V p v j = V j := by unfold putZ; split <;> simp
theorem Mk2.start {h : Hp} {z : Nat → Int} {t : Nat} {V : Nat → Int} (m : Mk h z t V) (X : Int) : Mk2 h z t X 0 V := ⟨m, fun j h1 h2 => by omega⟩
theorem Mk2.next {h : Hp} {z : Nat → Int} {t : Nat} {X k : Int} {V : Nat → Int} (m : Mk2 h z t X k V) (h0 : 0 ≤ X + k) : Mk2 h z t X (k + 1) (putZ V (X + k) 1) := by
  refine ⟨⟨fun u hu j h1 h2 => ?_⟩, fun j h1 h2 => ?_⟩
  · rcases put_at V (p := X + k) (v := 1) (j := j) with e | e
    · exact e
    · rw [e]; exact m.base.out u hu j h1 h2
  · by_cases hj : (j : Int) < X + k
    · rcases put_at V (p := X + k) (v := 1) (j := j) with e | e
      · exact e
      · rw [e]; exact m.here j h1 hj
    · unfold putZ
      rw [if_pos (by omega)]
theorem Mk2.done {h : Hp} {z : Nat → Int} {t : Nat} {k : Int} {V : Nat → Int} (m : Mk2 h z t (z t) k V) (hk : k = obN h (z t) + 1) : Mk h z (t + 1) V := ⟨fun u hu j h1 h2 => by
  by_cases e : u = t
  · subst e; exact m.here j h1 (by omega)
  · exact m.base.out u (by omega) j h1 h2⟩
set_option maxHeartbeats 32000000 in
set_option maxRecDepth 20000 in
theorem apart_walk {p : Option Addr} {c : Nat} {q : Option Addr} {d : Nat} {h : Hp} (w : World) (hat : HpAt w p c q d h) (hS : Sz w) :
    Calls Tryd.prog 4 #[.agg #[.slice p h.n c, .slice q h.m d, .bool h.b]] w fun e w' => e = .returned (.bool true) ∧ Below w.heap.size w w' := by
  obtain ⟨w0, hw0⟩ : ∃ w0, w0 = w.alloc (.cells #[.slice p h.n c, .slice q h.m d, .bool h.b] 25) := ⟨_, rfl⟩
  have g3 : Box3 w.heap.size (.slice p h.n c) (.slice q h.m d) (.bool h.b) w0 := by rw [hw0]; exact Box3.new _ _ _ _ _
  have hB0 : Below w.heap.size w w0 := by rw [hw0]; exact (Below.refl _ _).alloc (Nat.le_refl _) _
  replace hat := hat.below hB0
  replace hS := hS.below hB0
  obtain ⟨l3, x0, x1, x2, -, -, -⟩ := id g3
  have hFo := fun W (hW : Below w0.heap.size w0 W) => rform_in (hat.below hW).in
  have hOk := fun W (hW : Below w0.heap.size w0 W) => sok_in (hS.below hW) (hat.below hW).in
  cases hF : formB h with
  | false =>
    rw [hF] at hFo
    clear hF
    go_enter Tryd.func4, Tryd.ntmps4
    go_upto_region 1 with fail
    rw [← hw0]
    clear hw0
    go_wp2_with (first
    | (go_at_call 7; refine Calls.mono (awake9_any _ (hS.below (by go_grown))) ?_; rintro e w' ⟨rfl, hb⟩; obtain ⟨hc, hf, hb, hz⟩ := bstep hb (w := w0) (by go_grown); try simp only [World.size_alloc, World.size_setCell, World.size_drew] at hc hf hz)
    | (go_at_call 11; refine Calls.mono (hFo _ (by go_grown)) ?_; rintro e w' ⟨rfl, hb⟩; obtain ⟨hc, hf, hb, hz⟩ := bstep hb (w := w0) (by go_grown); try simp only [World.size_alloc, World.size_setCell, World.size_drew] at hc hf hz)
    )
    go_returns
    exact ⟨rfl, bjoin hb hB0⟩
  | true =>
    rw [hF] at hFo
    by_cases hk : ckH h = 0
    · obtain ⟨-, k2, k3, k4⟩ := ck_zero.1 hk
      have hF' : Hid (formB h = true) := hF
      have hwd := fun (i : Int) (i0 : 0 ≤ i) (i1 : i < h.n) (hz : ¬ woH h i = 0) => sound_word hF k2 k3 i0 i1 hz
      have hrs := fun a (ha : a ∈ obL h h.n) (hq : (spH h (a / 32)).st = 1 ∨ blB h a = true) => sound_refs k4 ha hq
      have hso := fun a (ho : obB h a = true) => sound_obj hF k2 ho
      obtain ⟨M, z, eM, ez, hM, hzm, hzs, hin⟩ := list_all hF
      have hLi := fun W (hW : Below w0.heap.size w0 W) => rlist_row2 (hat.below hW) hF'.out eM ez
      obtain ⟨i0, hi0, hz0, hz1, hz2⟩ := info_parts int_info'
      have hnl : h.n ≤ 512 := by have := form_iff.1 hF; omega
      rw [hk] at hOk
      clear hk hF k2 k3 k4 eM ez
      go_enter Tryd.func4, Tryd.ntmps4
      go_upto_region 1 with fail
      rw [← hw0]
      clear hw0
      go_upto_region 4 with (first
    | (go_at_call 7; refine Calls.mono (awake9_any _ (hS.below (by go_grown))) ?_; rintro e w' ⟨rfl, hb⟩; obtain ⟨hc, hf, hb, hz⟩ := bstep hb (w := w0) (by go_grown); try simp only [World.size_alloc, World.size_setCell, World.size_drew] at hc hf hz)
    | (go_at_call 11; refine Calls.mono (hFo _ (by go_grown)) ?_; rintro e w' ⟨rfl, hb⟩; obtain ⟨hc, hf, hb, hz⟩ := bstep hb (w := w0) (by go_grown); try simp only [World.size_alloc, World.size_setCell, World.size_drew] at hc hf hz)
    | (go_at_call 10; refine Calls.mono (hOk _ (by go_grown)) ?_; rintro e w' ⟨rfl, hb⟩; obtain ⟨hc, hf, hb, hz⟩ := bstep hb (w := w0) (by go_grown); try simp only [World.size_alloc, World.size_setCell, World.size_drew] at hc hf hz)
    | (go_at_call 12; refine Calls.mono (hLi _ (by go_grown)) ?_; rintro e w' ⟨pl, cl, rfl, hI, hb⟩; obtain ⟨hc, hf, hb, hz⟩ := bstep hb (w := w0) (by go_grown); try simp only [World.size_alloc, World.size_setCell, World.size_drew] at hc hf hz)
      )
      have hbW := bjoin hb hB0
      replace hat := hat.below hb
      replace g3 := g3.below hb
      clear hb hc hf hz x0 x1 x2 l3 hB0 hFo hOk hLi hS
      generalize w' = w4 at hbW hat g3 hI ⊢
      obtain ⟨l3, x0, x1, x2, -, -, -⟩ := id g3
      go_upto_region 5 with (first
        | (at_make; refine wpList_make_full _ rfl (.tmp 29) (.tmp 29) 29 rfl w4.heap.size 3 i0 (.int .i64 0) 1 Tryd.underlying29 hi0 hz0 hz1 _ _ _ _ h.n rfl rfl rfl rfl (by rw [hz2]; omega) (by simp only [maxLen]; omega) (Nat.le_refl _) ?_; intro w5 hown hgrow)
      )
      have hm : (madeCells (Value.int IntKind.i64 0).cells (h.n * 1)).toList = vals .i64 h.n (fun _ => 0) := by rw [Nat.mul_one, ← vals_const]; exact toList_madeCells_one _ _
      rw [hm] at hown
      have row := rowAt_owned hown
      have hB5 : Below w4.heap.size w4 w5 := (Below.refl _ _).grown hgrow (Nat.le_refl _) (by simp)
      clear hm hown hgrow x0 x1 x2 l3
      have hlow := hat.in.lower hF'.out
      have hIl : ∀ b off, pl = some ⟨b, off, none⟩ → 0 < M → b < w4.heap.size := fun b off e hp => by
        obtain ⟨⟨b', o', e', hl, -⟩, -⟩ := hI 0 hp
        rw [e] at e'
        injection e' with e'
        injection e' with e1 e2
        omega
      go_wp2
      go_loopg [5] M (fun g iv wr => ∃ (t : Int) (V : Nat → Int), 0 ≤ t ∧ t ≤ M ∧ g = (M - t).toNat ∧ iv = .int .i64 t ∧ Mk h z t.toNat V ∧ RowAt .i64 3 wr w4.heap.size h.n V ∧ Below w4.heap.size w4 wr)
      case atStart => exact ⟨0, fun _ => 0, by omega, by omega, by omega, rfl, ⟨fun u hu => by omega⟩, row, hB5⟩
      case round =>
        clear row hB5
        obtain ⟨t, V, t0, t1, rfl, rfl, hmk, row, hbw⟩ := hrel
        have hg3 := g3.below hbw
        have hatr := hat.below hbw
        have hIr := hI.below hbw
        have hbWr := bjoin hbw hbW
        obtain ⟨l3, x0, x1, x2, -, -, -⟩ := id hg3
        by_cases ht : t < M
        · obtain ⟨⟨bl, ol, eq1, hlt, -⟩, -⟩ := hI t.toNat (by omega)
          subst eq1
          obtain ⟨X0, X1, hox⟩ := (obL_mem h (z t.toNat) h.n).1 (hzm t.toNat (by omega))
          have hrX := hrs _ (hzm t.toNat (by omega))
          obtain ⟨-, N0, -, -⟩ := hso _ hox
          have hNb : z t.toNat + obN h (z t.toNat) < h.n := by
            obtain ⟨-, -, -, -, a5, a6, -, -, a9, -⟩ := ob_spec hF'.out hox
            rw [a9]; omega
          have hN15 : obN h (z t.toNat) ≤ 15 := by rw [(ob_spec hF'.out hox).2.2.2.2.2.2.2.2.1]; exact gN_bound.2
          have hfin : ∀ V', Mk2 h z t.toNat (z t.toNat) (obN h (z t.toNat) + 1) V' → Mk h z (t + 1).toNat V' := fun V' m => by
            have := m.done rfl
            rwa [show t.toNat + 1 = (t + 1).toNat by omega] at this
          have v1 : wr.cell? ⟨bl, ol + t.toNat, none⟩ = some (.int .i64 (z t.toNat)) := by
            obtain ⟨⟨b', o', e, -, v⟩, -⟩ := hIr t.toNat (by omega)
            injection e with e
            injection e with e1 e2
            subst e1 e2
            exact v
          have hlr : bl < wr.heap.size := Nat.lt_of_lt_of_le hlt hbw.size
          have hG' := fun W (hW : Below wr.heap.size wr W) => rget_at (hatr.below hW) hF'.out hox
          obtain ⟨R, y, eM, ey, hRl, hym, hys⟩ := refs_all hF'.out (z t.toNat)
          have hRe := fun W (hW : Below w4.heap.size w4 W) => rrefs_row2 (hat.below hW) hF'.out eM ey
          have hBl := fun W (hW : Below w4.heap.size w4 W) => rblack8_any p c q d h (z t.toNat) W (hat.below hW) hF'.out
          have hgood : ∀ k : Nat, k < R → obB h (y k) = false → ((h.s (z t.toNat / 32).toNat).st == 1) = false ∧ blB h (z t.toNat) = false := fun k hk he => by
            constructor
            · cases hq : ((h.s (z t.toNat / 32).toNat).st == 1) with
              | false => rfl
              | true => have := hrX (.inl (by simpa [spH] using hq)) _ (hym k hk); rw [this] at he; cases he
            · cases hq : blB h (z t.toNat) with
              | false => rfl
              | true => have := hrX (.inr hq) _ (hym k hk); rw [this] at he; cases he
          have m0 := Mk2.start hmk (z t.toNat)
          clear hrX eM ey hmk
          generalize obC h (z t.toNat) = C at *
          generalize obK h (z t.toNat) = K at *
          generalize obN h (z t.toNat) = N at *
          generalize hXz : z t.toNat = X at *
          go_upto_region 8 with fail
          refine wp_got (s := 38) (r := 37) (d0 := 6) (d1 := 7) (hb := 1) (lb := 3) (ib := 5) (pos := "law.go:36") (enters_of Tryd.func13 (by kernel_rfl) rfl) (by kernel_rfl) (by simp) (by decide) (by decide) (by decide) (by decide) (by decide) (by decide) (by decide) (by decide) (by decide) (by decide) (by decide) (by decide) (by decide) (by decide) (by decide) (by decide) (by decide) (by decide) hg3 t0 ht hM v1 hlr hG' rfl rfl rfl ?_
          intro y0 y1 y2 y3 y4 y5 y6 y7 y8 g w7 hg gX hb7
          simp only [puts, Act.put, Nat.reduceAdd, List.setIfInBounds_toArray, List.set_cons_succ, List.set_cons_zero]
          have row7 := row.below hb7
          have hbw7 := bjoin hb7 hbw
          have hgG : ¬ w4.heap.size = g := by have := row.lt; omega
          have hw4 : w.heap.size ≤ w4.heap.size := hbW.size
          clear row hbw hg3 hatr hIr hbWr x0 x1 x2 l3 v1 hlr hG' hb7 hg
          go_wp2
          go_loopg [8] (N + 1).toNat (fun gg kv wr => ∃ (k : Int) (V : Nat → Int), 0 ≤ k ∧ k ≤ N + 1 ∧ gg = (N + 1 - k).toNat ∧ kv = .int .i64 k ∧ Mk2 h z t.toNat X k V ∧ RowAt .i64 3 wr w4.heap.size h.n V ∧ Box4 g (.bool true) (.bool C) (.int .i64 K) (.int .i64 N) wr ∧ Below w4.heap.size w4 wr)
          case atStart => exact ⟨0, V, by omega, by omega, by omega, rfl, m0, row7, gX, hbw7⟩
          case round =>
            clear row7 gX hbw7 m0
            obtain ⟨k, V, k0, k1, rfl, rfl, m, row, gX, hbw⟩ := hrel
            have hatr := hat.below hbw
            have hIr := hI.below hbw
            have hg3 := g3.below hbw
            obtain ⟨l3, x0, x1, x2, -, -, -⟩ := id hg3
            have v1 : wr.cell? ⟨bl, ol + t.toNat, none⟩ = some (.int .i64 X) := by
              obtain ⟨⟨b', o', e, -, v⟩, -⟩ := hIr t.toNat (by omega)
              injection e with e
              injection e with e1 e2
              subst e1 e2
              rw [hXz] at v
              exact v
            have hlr : bl < wr.heap.size := Nat.lt_of_lt_of_le hlt hbw.size
            have lG := row.lt
            obtain ⟨lX, j0, j1, j2, j3, -, -, -, -⟩ := id gX
            by_cases hk : k ≤ N
            · have vG := row.cell (i := (X + k).toNat) (by omega)
              have fG := row.frozen (X + k).toNat
              have hXk : X + k < h.n := by omega
              have hX5 : X + k < 512 := by omega
              have row2 := row_put row (i := X + k) (by omega) 1
              have m2 := m.next (by omega)
              clear m hso hzm hzs hwd hrs
              go_wp2
              go_roundg (N + 1 - (k + 1)).toNat
              case measure => omega
              case rel => exact ⟨k + 1, _, by omega, by omega, rfl, by go_num, m2, row2, gX.of_block (Below.heap_setCell _ _ _ _ (fun e => hgG e.symm)) (by simp [World.setCell]), hbw.setCell (Nat.le_refl _) _⟩
            · obtain rfl : k = N + 1 := by omega
              go_upto_region 13 with fail
              refine wp_late (ds := [some 71, some 72, some 73, some 74, some 75, some 76, some 9]) (ts := [71, 72, 73, 74, 75, 76, 9]) (pv := [(fun v _ => v = .agg #[.slice p h.n c, .slice q h.m d, .bool h.b]), (fun v _ => v = .slice (some ⟨bl, ol, none⟩) M cl), (fun v _ => v = .int .i64 t), (fun v _ => v = .pointer (some ⟨bl, ol + t.toNat, none⟩)), (fun v _ => v = .int .i64 X), RowV (R) (y), RowV (R) (y)]) (skip := fun i => ([] : List Nat).contains i) (ia := 1000) (is := 1000) (k := 77) (Shape := (fun _ _ => True)) (Full := (fun _ _ => True)) (by kernel_rfl) (by kernel_rfl) rfl rfl (by decide) (by decide) (by simp) ?_ (by decide) (fun _ _ _ _ _ => trivial) (fun _ _ _ _ _ => trivial) ?_ ?_ ?_ ?_
              · exact .inl rfl
              · exact ⟨fun _ _ _ h _ => h, fun _ _ _ h _ => h, fun _ _ _ h _ => h, fun _ _ _ h _ => h, fun _ _ _ h _ => h, fun _ _ _ h hb => h.below hb, fun _ _ _ h hb => h.below hb, trivial⟩
              · exact ⟨rfl, rfl, rfl, rfl, rfl, rfl, rfl, trivial⟩
              · refine ⟨?_, ?_, ?_, ?_, ?_, ?_, ?_, trivial⟩
                · intro _ a' w' hb' hs hd hn Kc hK
                  have f1 : a'.tmps[1]?.getD undef = .pointer (some ⟨w.heap.size, 0, none⟩) := (hs 1 (by decide)).trans rfl
                  clear hs hd hn
                  rw [if_neg (by decide), if_neg (by decide)] at hK
                  have v18 : w'.cell? ⟨bl, ol + t.toNat, none⟩ = some (.int .i64 X) := (hb'.cell (p := ⟨bl, ol + t.toNat, none⟩) hlr).trans v1
                  obtain ⟨lB, k5, k6, k7, -, -, -⟩ := hg3.below hb'
                  unfold Oper.wp
                  go_simp
                  try go_bits
                  exact hK _ _ (Below.refl _ _) (by first | rfl | (show Value.int _ _ = Value.int _ _; go_num; done) | (simp [valOf, *]; done) | (simp [valOf]; omega))
                · intro _ a' w' hb' hs hd hn Kc hK
                  have f3 : a'.tmps[3]?.getD undef = .slice (some ⟨bl, ol, none⟩) M cl := (hs 3 (by decide)).trans rfl
                  clear hs hd hn
                  rw [if_neg (by decide), if_neg (by decide)] at hK
                  have v18 : w'.cell? ⟨bl, ol + t.toNat, none⟩ = some (.int .i64 X) := (hb'.cell (p := ⟨bl, ol + t.toNat, none⟩) hlr).trans v1
                  obtain ⟨lB, k5, k6, k7, -, -, -⟩ := hg3.below hb'
                  unfold Oper.wp
                  go_simp
                  try go_bits
                  exact hK _ _ (Below.refl _ _) (by first | rfl | (show Value.int _ _ = Value.int _ _; go_num; done) | (simp [valOf, *]; done) | (simp [valOf]; omega))
                · intro _ a' w' hb' hs hd hn Kc hK
                  have f5 : a'.tmps[5]?.getD undef = .int .i64 t := (hs 5 (by decide)).trans rfl
                  clear hs hd hn
                  rw [if_neg (by decide), if_neg (by decide)] at hK
                  have v18 : w'.cell? ⟨bl, ol + t.toNat, none⟩ = some (.int .i64 X) := (hb'.cell (p := ⟨bl, ol + t.toNat, none⟩) hlr).trans v1
                  obtain ⟨lB, k5, k6, k7, -, -, -⟩ := hg3.below hb'
                  unfold Oper.wp
                  go_simp
                  try go_bits
                  exact hK _ _ (Below.refl _ _) (by first | rfl | (show Value.int _ _ = Value.int _ _; go_num; done) | (simp [valOf, *]; done) | (simp [valOf]; omega))
                · intro _ a' w' hb' hs hd hn Kc hK
                  have f72 : a'.tmps[72]?.getD undef = .slice (some ⟨bl, ol, none⟩) M cl := hd 1 72 (by first | rfl | decide | simp [Region.binds]) rfl (by decide) (by decide) rfl
                  have f73 : a'.tmps[73]?.getD undef = .int .i64 t := hd 2 73 (by first | rfl | decide | simp [Region.binds]) rfl (by decide) (by decide) rfl
                  clear hs hd hn
                  rw [if_neg (by decide), if_neg (by decide)] at hK
                  have v18 : w'.cell? ⟨bl, ol + t.toNat, none⟩ = some (.int .i64 X) := (hb'.cell (p := ⟨bl, ol + t.toNat, none⟩) hlr).trans v1
                  obtain ⟨lB, k5, k6, k7, -, -, -⟩ := hg3.below hb'
                  unfold Oper.wp
                  go_simp
                  try go_bits
                  exact hK _ _ (Below.refl _ _) (by first | rfl | (show Value.int _ _ = Value.int _ _; go_num; done) | (simp [valOf, *]; done) | (simp [valOf]; omega))
                · intro _ a' w' hb' hs hd hn Kc hK
                  have f74 : a'.tmps[74]?.getD undef = .pointer (some ⟨bl, ol + t.toNat, none⟩) := hd 3 74 (by first | rfl | decide | simp [Region.binds]) rfl (by decide) (by decide) rfl
                  clear hs hd hn
                  rw [if_neg (by decide), if_neg (by decide)] at hK
                  have v18 : w'.cell? ⟨bl, ol + t.toNat, none⟩ = some (.int .i64 X) := (hb'.cell (p := ⟨bl, ol + t.toNat, none⟩) hlr).trans v1
                  obtain ⟨lB, k5, k6, k7, -, -, -⟩ := hg3.below hb'
                  unfold Oper.wp
                  go_simp
                  try go_bits
                  exact hK _ _ (Below.refl _ _) (by first | rfl | (show Value.int _ _ = Value.int _ _; go_num; done) | (simp [valOf, *]; done) | (simp [valOf]; omega))
                · intro _ a' w' hb' hs hd hn Kc hK
                  have f71 : a'.tmps[71]?.getD undef = .agg #[.slice p h.n c, .slice q h.m d, .bool h.b] := hd 0 71 (by first | rfl | decide | simp [Region.binds]) rfl (by decide) (by decide) rfl
                  have f75 : a'.tmps[75]?.getD undef = .int .i64 X := hd 4 75 (by first | rfl | decide | simp [Region.binds]) rfl (by decide) (by decide) rfl
                  clear hs hd hn
                  rw [if_neg (by decide), if_neg (by decide)] at hK
                  have v18 : w'.cell? ⟨bl, ol + t.toNat, none⟩ = some (.int .i64 X) := (hb'.cell (p := ⟨bl, ol + t.toNat, none⟩) hlr).trans v1
                  obtain ⟨lB, k5, k6, k7, -, -, -⟩ := hg3.below hb'
                  unfold Oper.wp
                  go_simp
                  try go_bits
                  refine Calls.mono (hRe _ (bjoin hb' hbw)) ?_
                  rintro e w'' ⟨pm, cm, rfl, hA, hb2⟩
                  exact hK _ _ hb2 ⟨_, _, rfl, hA⟩
                · intro _ a' w' hb' hs hd hn Kc hK
                  obtain ⟨pm, cm, f76, hA⟩ := hd 5 76 (by first | rfl | decide | simp [Region.binds]) rfl (by decide) (by decide) rfl
                  clear hs hd hn
                  rw [if_neg (by decide), if_neg (by decide)] at hK
                  have v18 : w'.cell? ⟨bl, ol + t.toNat, none⟩ = some (.int .i64 X) := (hb'.cell (p := ⟨bl, ol + t.toNat, none⟩) hlr).trans v1
                  obtain ⟨lB, k5, k6, k7, -, -, -⟩ := hg3.below hb'
                  unfold Oper.wp
                  go_simp
                  try go_bits
                  exact hK _ _ (Below.refl _ _) ⟨_, _, rfl, hA⟩
              intro Xf g w' hX hb hv
              obtain ⟨pm, cm, q9, hJ⟩ := hv 6 9 rfl rfl (by decide) (by decide)
              clear hX hv
              simp only [List.map_cons, List.map_nil, q9, puts, Act.put, Nat.reduceAdd, List.setIfInBounds_toArray, List.set_cons_succ, List.set_cons_zero]
              have row8 := row.below hb
              have hbw8 := bjoin hb hbw
              have m8 := hfin V m
              clear row hbw hatr hIr hg3 x0 x1 x2 l3 v1 hlr lG lX j0 j1 j2 j3 gX m hfin hb hRe hk k0 k1
              generalize w' = w8 at *
              go_wp2
              go_loopg [10] R (fun gg kv wr => ∃ u : Nat, u ≤ R ∧ gg = R - u ∧ kv = .int .i64 u ∧ Below w8.heap.size w8 wr)
              case atStart => exact ⟨0, by omega, by omega, rfl, Below.refl _ _⟩
              case round =>
                obtain ⟨u, uh, rfl, rfl, hbz⟩ := hrel
                have hbw := bjoin hbz hbw8
                by_cases hu : u < R
                · obtain ⟨⟨bp, op, eq3, hl3, v3⟩, -⟩ := (hJ.below hbz) u hu
                  subst eq3
                  have hatr := hat.below hbw
                  have hIr := hI.below hbw
                  have hg3 := g3.below hbw
                  obtain ⟨l3, x0, x1, x2, -, -, -⟩ := id hg3
                  have v1 : wr.cell? ⟨bl, ol + t.toNat, none⟩ = some (.int .i64 X) := by
                    obtain ⟨⟨b', o', e, -, v⟩, -⟩ := hIr t.toNat (by omega)
                    injection e with e
                    injection e with e1 e2
                    subst e1 e2
                    rw [hXz] at v
                    exact v
                  have hlr : bl < wr.heap.size := Nat.lt_of_lt_of_le hlt hbw.size
                  have hIn : ∀ W, Below wr.heap.size wr W → Calls Tryd.prog 15 #[.slice (some ⟨bl, ol, none⟩) M cl, .int .i64 (y u)] W fun e w' => e = .returned (.bool (obB h (y u))) ∧ Below W.heap.size W w' := fun W hW => by
                    have := rin8_any (some ⟨bl, ol, none⟩) M cl z (y u) W (hIr.below hW) (by simp only [maxLen]; omega)
                    rwa [hin] at this
                  have hgu := hgood u hu
                  cases e : obB h (y u) with
                  | true =>
                    rw [e] at hIn
                    clear hgu e hgood hin hzm hzs hso hwd hrs hym hys
                    generalize y u = Y at *
                    go_upto_region 17 with fail
                    refine wp_region_plus (by kernel_rfl) (by kernel_rfl) fun hpc => ?_
                    repeat (first | go_big_quiet_step ((first | (go_at_call 15; exact quiet_plus (hIn _ (plus_below _ _))))) | quiet_step ((first | (go_at_call 15; exact quiet_plus (hIn _ (plus_below _ _))))))
                    refine wpQuiet_nil ?_
                    intro w' hbq
                    clear hpc
                    obtain ⟨hc, hf, hb, hz⟩ := bstep hbq (w := wr) (by go_grown)
                    try simp only [World.size_alloc, World.size_setCell, World.size_drew] at hc hf hz
                    go_wp2
                    go_roundg (R - (u + 1))
                    case measure => omega
                    case rel => exact ⟨u + 1, by omega, rfl, by go_num, bjoin hb hbz⟩
                  | false =>
                    obtain ⟨q1, q2⟩ := hgu e
                    rw [e] at hIn
                    have hP : (X / 32).toNat < h.m := by have := form_iff.1 hF'.out; omega
                    obtain ⟨⟨bs, os, eq2, hlt2, s0, -, -⟩, -⟩ := hatr.spans (X / 32).toNat hP
                    subst eq2
                    have hBlW : ∀ W, Below wr.heap.size wr W → Calls Tryd.prog 16 #[.agg #[.slice p h.n c, .slice (some ⟨bs, os, none⟩) h.m d, .bool h.b], .int .i64 X] W fun e w' => e = .returned (.bool false) ∧ Below W.heap.size W w' := fun W hW => by
                      have := hBl W (bjoin hW hbw)
                      rwa [q2] at this
                    have hP32 : 0 ≤ X / 32 ∧ X / 32 < 16 := by omega
                    obtain ⟨Q0, Q1⟩ := hP32
                    generalize (h.s (X / 32).toNat).st = St at *
                    clear e hgood hin hzm hzs hso hwd hrs hym hys q2 hBl
                    generalize y u = Y at *
                    go_upto_region 17 with fail
                    refine wp_region_plus (by kernel_rfl) (by kernel_rfl) fun hpc => ?_
                    repeat (first | go_big_quiet_step ((first | (go_at_call 15; exact quiet_plus (hIn _ (plus_below _ _))) | (go_at_call 16; exact quiet_plus (hBlW _ (plus_below _ _))))) | quiet_step ((first | (go_at_call 15; exact quiet_plus (hIn _ (plus_below _ _))) | (go_at_call 16; exact quiet_plus (hBlW _ (plus_below _ _))))))
                    refine wpQuiet_nil ?_
                    intro w' hbq
                    clear hpc
                    obtain ⟨hc, hf, hb, hz⟩ := bstep hbq (w := wr) (by go_grown)
                    try simp only [World.size_alloc, World.size_setCell, World.size_drew] at hc hf hz
                    go_wp2
                    go_roundg (R - (u + 1))
                    case measure => omega
                    case rel => exact ⟨u + 1, by omega, rfl, by go_num, bjoin hb hbz⟩
                · obtain rfl : u = R := by omega
                  go_wp2
                  go_roundg ((M : Int) - (t + 1)).toNat
                  case measure => omega
                  case rel => exact ⟨t + 1, V, by omega, by omega, rfl, by go_num, m8, row8.below hbz, hbw⟩
        · obtain rfl : t = (M : Int) := by omega
          have hmv : ∀ i : Nat, i < h.n → V i = 0 → woH h i = 0 := fun i hi hv => by
            by_cases hz : woH h i = 0
            · exact hz
            · obtain ⟨a, ho, a1, a2⟩ := hwd i (by omega) (by omega) hz
              obtain ⟨-, -, a3, a4, -⟩ := ob_spec hF'.out ho
              obtain ⟨u, hu, rfl⟩ := hzs a ((obL_mem h a h.n).2 ⟨a3, a4, ho⟩)
              have := hmk.out u (by omega) i a1 a2
              omega
          clear hwd hrs hso hzm hzs hin hmk
          go_wp2
          go_loopg [11] h.n (fun gg kv wr' => ∃ i : Nat, i ≤ h.n ∧ gg = h.n - i ∧ kv = .int .i64 i ∧ Below wr.heap.size wr wr')
          case atStart => exact ⟨0, by omega, by omega, rfl, Below.refl _ _⟩
          case round =>
            obtain ⟨i, ih, rfl, rfl, hbz⟩ := hrel
            have row2 := row.below hbz
            have hg3' := hg3.below hbz
            obtain ⟨l3', x0', x1', x2', -, -, -⟩ := id hg3'
            have lG := row2.lt
            by_cases hi : i < h.n
            · have vG := row2.cell (i := i) hi
              by_cases hv : V i = 0
              · obtain ⟨⟨bw, ow, eq4, hl4, v4⟩, -⟩ := (hatr.below hbz).ints i hi
                rw [show h.z i = woH h (i : Int) by unfold woH; simp, hmv i hi hv] at v4
                rw [hv] at vG
                subst eq4
                clear hmv hv
                go_wp2
                go_roundg (h.n - (i + 1))
                case measure => omega
                case rel => exact ⟨i + 1, by omega, rfl, by go_num, hbz⟩
              · have hv0 : (V i == 0) = false := by simp [hv]
                clear hmv hv
                generalize V i = Vi at *
                go_wp2
                go_roundg (h.n - (i + 1))
                case measure => omega
                case rel => exact ⟨i + 1, by omega, rfl, by go_num, hbz⟩
            · obtain rfl : i = h.n := by omega
              go_wp2
              go_returns
              exact ⟨rfl, bjoin hbz hbWr⟩
    · have hk0 : (ckH h == 0) = false := by simp [hk]
      rw [hk0] at hOk
      clear hk hk0 hF
      go_enter Tryd.func4, Tryd.ntmps4
      go_upto_region 1 with fail
      rw [← hw0]
      clear hw0
      go_wp2_with (first
    | (go_at_call 7; refine Calls.mono (awake9_any _ (hS.below (by go_grown))) ?_; rintro e w' ⟨rfl, hb⟩; obtain ⟨hc, hf, hb, hz⟩ := bstep hb (w := w0) (by go_grown); try simp only [World.size_alloc, World.size_setCell, World.size_drew] at hc hf hz)
    | (go_at_call 11; refine Calls.mono (hFo _ (by go_grown)) ?_; rintro e w' ⟨rfl, hb⟩; obtain ⟨hc, hf, hb, hz⟩ := bstep hb (w := w0) (by go_grown); try simp only [World.size_alloc, World.size_setCell, World.size_drew] at hc hf hz)
    | (go_at_call 10; refine Calls.mono (hOk _ (by go_grown)) ?_; rintro e w' ⟨rfl, hb⟩; obtain ⟨hc, hf, hb, hz⟩ := bstep hb (w := w0) (by go_grown); try simp only [World.size_alloc, World.size_setCell, World.size_drew] at hc hf hz)
      )
      go_returns
      exact ⟨rfl, bjoin hb hB0⟩

namespace SoundApart
/-- What the row lists. -/
def lists : List (String × DataW Unit) := [("flotsam/class.sizes", Rows.laid_flotsam_class_sizes)]
set_option maxRecDepth 100000 in
theorem lifted (os : Os) (started : os.Started) (H : Type) (enc : TypeId × Value → H) :
    ReturnsInHanded {} Tryd.checked os 4 .any (fun w args => (Rows.soundApartSpec.pre enc Tryd.prog Tryd.f4 Rows.soundApartRow.domain false w args ∧ laidMetH Tryd.prog lists w) ∧ sizedMet enc Tryd.prog Tryd.f4 (OpenSpec.ofChange Rows.soundApartSpec) false w args) (Rows.soundApartSpec.post enc Tryd.prog Tryd.f4 false true false false) := by
  refine law_lifted_laid (C := Tryd.checked) seat_own started (by kernel_rfl) Tryd.func4 (by kernel_rfl) (of_decide_eq_true (by kernel_rfl)) rfl
    (fun ds hd => by have hd' : ds.length = 1 := hd; match ds, hd' with | [d0], _ => rfl) rfl Tryd.underlying4
    (ChangeSpec.witness_shaped (enc := enc) (C := Tryd.checked) (os := os) (X := fun w _ => laidMetH Tryd.prog lists w) false (World.laidAll Tryd.prog os lists) #[.agg #[.slice none 0 0, .slice none 0 0, .bool false]] 8 (World.laidAll_os _ _ _)
      (World.shaped_of_ZipB (by kernel_rfl) (by kernel_rfl)) (by kernel_rfl) (by kernel_rfl) (by kernel_rfl)
      (by rw [MakeChecks.laidMetH_plain _ _ _ (by kernel_rfl)]; exact laidMet_laidAll _ (by kernel_rfl) (by kernel_rfl))) ?_
  intro W base args ds p hval hA hlt hL
  have hS : Sz W := sizes_of hL (by kernel_rfl) rfl
  rw [Tryd.params4] at hA hval
  obtain ⟨v0, d0, rfl, rfl, h0⟩ := trodAll_one hA
  obtain ⟨x0, q0, c0, s0, e0, rfl, hh0⟩ := open_heap Tryd.underlying25 (by kernel_rfl) (by kernel_rfl) Tryd.underlying22 (by kernel_rfl) (by kernel_rfl) Tryd.underlying23 Tryd.underlying39 (by kernel_rfl) (by kernel_rfl) (by kernel_rfl) (by kernel_rfl) (by kernel_rfl) (by kernel_rfl) (hval 0 25 v0 rfl rfl) h0
  exact apart_walk W hh0 hS

theorem row_holds : Rows.SoundApartSaid :=
  OpenClaim.holds_of_wide 4 Tryd.f4 rfl rfl rfl rfl rfl rfl rfl ⟨rfl, rfl, rfl, rfl, rfl⟩ rfl rfl rfl rfl rfl (by kernel_rfl) Tryd.func4 (by kernel_rfl)
    (of_decide_eq_true (by kernel_rfl)) (by unfold Func.isWrapper; first | (rw [if_pos (by decide +kernel)]; kernel_rfl) | (rw [if_neg (by decide +kernel)]; exact ⟨rfl, rfl⟩))
    (fun os started H enc _ => lifted os started H enc)
/-- The tied card. -/
theorem holds : Rows.SoundApartCardSaid :=
  Claim7.holds_tied_plain_at .later [] [.data] true (true, "0319e39815f5d4fc24417ff8cd6ea6b0fe21decf05268195319bf92839ff0bc8") false row_holds (fun _ h => by cases h) (by kernel_rfl) (fun _ h => by cases h) soundApart_row_tie rfl ⟨rfl, rfl⟩ (by kernel_rfl) rfl
    (fun f fn hf hfn => by
      obtain rfl : f = 4 := Option.some.inj ((show Tryd.prog.funcNamed "flotsam/flotsamlaw09.SoundApart" = some 4 by kernel_rfl).symm.trans hf) |>.symm
      obtain rfl : fn = Tryd.f4 := (Option.some.inj (Tryd.func4.symm.trans hfn)).symm
      exact ⟨by kernel_rfl, fun j t ht => by
        rw [Tryd.params4] at ht
        have hm : t ∈ [25] := by simpa using Array.mem_of_getElem? ht
        have hall : ([25].all fun u => !Tryd.prog.wantsStandIn u) = true := by kernel_rfl
        exact (show Tryd.prog.wantsStandIn t = false by simpa using List.all_eq_true.1 hall t hm)⟩)
    (by kernel_rfl)
#print axioms holds
end SoundApart
end Go.Proofs.YthhehhlibkdmgaaDoor
