/- The contract of the reference's From (chapter 15). -/
import Derived.Test.YtmbgodncagjncaaDoorA49
import Derived.Test.YtmbgodncagjncaaDoorA32
import Derived.Test.YtmbgodncagjncaaDoorA18
namespace Go.Proofs.YtmbgodncagjncaaDoor
set_option linter.unusedSimpArgs false
set_option linter.unusedVariables false
open Go.ChangeShapes Go.WideShapes Go.ChangeAt Go.RowKit Go.Joins

theorem bool_info15 : (Tryd.prog.info? 4).map (fun i => (i.zero, i.size, i.bytes)) = some (some (.bool false), 1, 1) := by kernel_rfl
theorem rfH_len15 (h : Hp) (hF : formB h = true) (a : Int) : (rfH h a).length ≤ 15 := by
  have h1 : (rfH h a).length ≤ (obN h a).toNat := rfL_len h a _
  have hnb : 0 ≤ obN h a ∧ obN h a ≤ 15 := by
    cases ho : obB h a with
    | false => rw [(ob_no ho).2.2]; omega
    | true => have := gN_bound (X := woH h a); rw [(ob_spec hF ho).2.2.2.2.2.2.2.2.1]; exact this
  omega
theorem below_drew15 {B : Nat} {w w' : World} (h : Below B w w') : Below B w w'.drew := h.trans ⟨rfl, rfl, rfl, Nat.le_refl _, fun _ _ => rfl⟩
/-- Refs, and In of its answer, as a walk takes them. -/
theorem rrefs15 {p : Option Addr} {c : Nat} {q : Option Addr} {d : Nat} {h : Hp} (hF : formB h = true) (a : Int) (W : World) (hW : HpAt W p c q d h) :
    Calls Tryd.prog 37 #[.agg #[.slice p h.n c, .slice q h.m d, .bool h.b], .int .i64 a] W fun e w' => ∃ pm cm, e = .returned (.slice pm (rfH h a).length cm) ∧ NumRow W.heap.size (rfH h a) w' pm cm ∧ Below W.heap.size W w' := by
  refine Calls.mono (rrefs8_any p c q d h a W hW hF) ?_
  rintro e w' ⟨v, rfl, hown, hb⟩
  obtain ⟨pm, cm, rfl, hr⟩ := row_owned hown (rfH_wf hW.wf hF a)
  exact ⟨pm, cm, rfl, hr, hb⟩
theorem rin15 {p : Option Addr} {cap : Nat} {M : List Int} (hM : M.length ≤ 15) (x : Int) (W : World) (hz : Ints .i64 W p M.length fun i => M[i]?.getD 0) :
    Calls Tryd.prog 38 #[.slice p M.length cap, .int .i64 x] W fun e w' => e = .returned (.bool (decide (x ∈ M))) ∧ Below W.heap.size W w' := by
  have e : inZ M.length (fun i => M[i]?.getD 0) x = decide (x ∈ M) := by rw [Bool.eq_iff_iff, inZ_mem]; simp
  rw [← e]
  exact rin8_any p M.length cap _ x W hz (by simp only [maxLen]; omega)
/-- A row of numbers is no row of flags. -/
theorem ints_flags {w : World} {B B' n : Nat} {X : Nat → Bool} {e : TypeId} {pm : Option Addr} {m : Nat} {y : Nat → Int} (h : w.ownsRow B e 1 (.slice (some ⟨B', 0, none⟩) n n) n (flV n X)) (hi : Ints .i64 w pm m y) (hm : 0 < m) : ∀ b off, pm = some ⟨b, off, none⟩ → b ≠ B' := fun b off ep eb => by
  obtain ⟨⟨b1, o1, e1, -, v⟩, -⟩ := hi 0 hm
  rw [ep] at e1
  injection e1 with e1
  injection e1 with e1 e2
  subst e1 e2
  subst eb
  rw [Nat.add_zero] at v
  rcases h.2 with ⟨h', -⟩ | ⟨g', cap', cur, h', -, hg, -, -, hcs, htake⟩
  · cases h'
  · injection h' with h1 h2 h3
    injection h1 with h1
    injection h1 with h1
    subst h1 h3
    rw [cell_of_row w b off cur e (0, 0) hg] at v
    have hlt : off < cur.size := (Array.getElem?_eq_some_iff.1 v).1
    have hz : cur.toList = flV n X := by
      rw [← htake, List.take_of_length_le (by rw [Array.length_toList, hcs]; exact Nat.le_refl _)]
    rw [← Array.getElem?_toList, hz, flV_get (by omega)] at v
    cases v
/-- .. so a flag that is set leaves it. -/
theorem Ints.setFlag {w : World} {B B' n k : Nat} {X : Nat → Bool} {e : TypeId} {pm : Option Addr} {m : Nat} {y : Nat → Int} {u : Value} (hi : Ints .i64 w pm m y) (h : w.ownsRow B e 1 (.slice (some ⟨B', 0, none⟩) n n) n (flV n X)) : Ints .i64 (w.setCell ⟨B', k, none⟩ u) pm m y := by
  by_cases hm : 0 < m
  · exact hi.setCell (ints_flags h hi hm) k u
  · exact fun i hi => by omega
set_option maxRecDepth 20000 in
set_option maxHeartbeats 8000000 in
theorem rfrom15_any (p : Option Addr) (c : Nat) (q : Option Addr) (d : Nat) (h : Hp) (pv : Option Addr) (K cv : Nat) (z : Nat → Vl) (w : World) (hh : HpAt w p c q d h) (hF : formB h = true) (hv : VAt w pv cv K z) (hK : K ≤ 1000000) :
    Calls Tryd.prog 16 #[.agg #[.slice p h.n c, .slice q h.m d, .bool h.b], .slice pv K cv] w fun e w' => ∃ pl cl, e = .returned (.slice pl (rcL h (vrL z K)).length cl) ∧ NumRow w.heap.size (rcL h (vrL z K)) w' pl cl ∧ Below w.heap.size w w' := by
  obtain ⟨w0, hw0⟩ : ∃ w0, w0 = w.alloc (.cells #[.slice p h.n c, .slice q h.m d, .bool h.b] 25) := ⟨_, rfl⟩
  have gB : Box3 w.heap.size (.slice p h.n c) (.slice q h.m d) (.bool h.b) w0 := by rw [hw0]; exact Box3.new _ _ _ _ _
  have hst : Below w.heap.size w w0 := by rw [hw0]; go_grown
  have hat := hh.below hst
  have hrow := hv.row.below hst
  have hsz0 : w.heap.size ≤ w0.heap.size := hst.size
  obtain ⟨l0, x0, x1, x2, -, -, -⟩ := id gB
  obtain ⟨i0, hi0, hz0, hz1, hz2⟩ := info_parts int_info'
  obtain ⟨j0, hj0, jz0, jz1, jz2⟩ := info_parts bool_info15
  have hnl : h.n ≤ 512 := by have := form_iff.1 hF; omega
  have hlen := obL_len h h.n
  have hL := rlist8_any p c q d h w0 hat hF
  have hwfL := obL_wf h hnl
  have hR := fun a W (hW : HpAt W p c q d h) => rrefs15 hF a W hW
  have hRl := rfH_len15 h hF
  obtain ⟨l, hl⟩ : ∃ l : Nat → Int, l = fun i => (obL h h.n)[i]?.getD 0 := ⟨_, rfl⟩
  have hLo : Hid (∀ i, i < (obL h h.n).length → obB h (l i) = true) := fun i hi => by
    have := (obL_mem h (l i) h.n).1 (by rw [hl]; show (obL h h.n)[i]?.getD 0 ∈ _; rw [List.getElem?_eq_getElem hi]; exact List.getElem_mem hi)
    exact this.2.2
  have hLa : Hid (∀ a, obB h a = true → ∃ i, i < (obL h h.n).length ∧ l i = a) := fun a ho => by
    have hin := ob_in hF ho
    obtain ⟨i, hi, rfl⟩ := List.getElem_of_mem ((obL_mem h a h.n).2 ⟨hin.1, hin.2, ho⟩)
    exact ⟨i, hi, by rw [hl]; show (obL h h.n)[i]?.getD 0 = _; rw [List.getElem?_eq_getElem hi]; rfl⟩
  have hrc : Hid (rcL h (vrL z K) = (obL h h.n).filter fun a => rcB h (vrL z K) a) := (rfl : rcL h (vrL z K) = (obL h h.n).filter fun a => rcB h (vrL z K) a)
  clear hF hh hv
  generalize rcL h (vrL z K) = KL at *
  generalize obL h h.n = L at *
  go_enter Tryd.func16, Tryd.ntmps16
  go_upto_region 1 with fail
  rw [← hw0]
  clear hw0
  go_upto_region 2 with (first
    | (go_at_call 13; refine Calls.mono hL ?_; rintro e w1 ⟨v, rfl, hown, hb1⟩)
  )
  obtain ⟨pl, cl, rfl, hNR⟩ := row_owned hown hwfL
  have gB1 := gB.below hb1
  have hat1 := hat.below hb1
  have hrow1 := hrow.below hb1
  have hI1 := hNR.ints
  rw [← hl] at hI1
  have hlH : Hid (l = fun i => L[i]?.getD 0) := hl
  clear hl
  have hb0 := bjoin hb1 hst
  have hsz1 : w.heap.size ≤ w1.heap.size := hb0.size
  clear hown hNR hL hb1 x0 x1 x2 l0 gB hat hrow hst
  go_upto_region 3 with (first
    | (at_make; refine wpList_make_full _ rfl (.tmp 18) (.tmp 18) 80 rfl w1.heap.size 4 j0 (.bool false) 1 Tryd.underlying80 hj0 jz0 jz1 _ _ _ _ L.length rfl rfl rfl rfl (by rw [jz2]; omega) (by simp only [maxLen]; omega) (Nat.le_refl _) ?_; intro w2 hown hgrow)
  )
  have hmk : (madeCells (Value.bool false).cells (L.length * 1)).toList = flV L.length (rtF l z K 0 0) := by rw [Nat.mul_one, rt_nought, ← flV_nought]; exact toList_madeCells_one _ _
  rw [hmk] at hown
  have hB2 : Below w1.heap.size w1 w2 := (Below.refl _ _).grown hgrow (Nat.le_refl _) (by simp)
  clear hmk hgrow
  go_wp2
  go_loopg [7] L.length (fun g iv wr => ∃ i : Nat, i ≤ L.length ∧ g = L.length - i ∧ iv = .int .i64 i ∧ wr.ownsRow w1.heap.size 4 1 (.slice (some ⟨w1.heap.size, 0, none⟩) L.length L.length) L.length (flV L.length (rtF l z K i 0)) ∧ Below w1.heap.size w1 wr)
  case atStart => exact ⟨0, by omega, by omega, rfl, hown, hB2⟩
  case round =>
    clear hown hB2
    obtain ⟨i, ih, rfl, rfl, hown, hbw⟩ := hrel
    by_cases hi : i < L.length
    · go_wp2
      go_loopg [8] K (fun g kv wr => ∃ k : Nat, k ≤ K ∧ g = K - k ∧ kv = .int .i64 k ∧ wr.ownsRow w1.heap.size 4 1 (.slice (some ⟨w1.heap.size, 0, none⟩) L.length L.length) L.length (flV L.length (rtF l z K i k)) ∧ Below w1.heap.size w1 wr)
      case atStart => exact ⟨0, by omega, by omega, rfl, hown, hbw⟩
      case round =>
        clear hown hbw
        obtain ⟨k, kh, rfl, rfl, hown, hbw⟩ := hrel
        by_cases hk : k < K
        · obtain ⟨⟨bl, ol, rfl, hlt, u0⟩, -⟩ := (hI1.below hbw) i hi
          obtain ⟨⟨bv, ov, rfl, hltv, v0, v1⟩, -⟩ := (hrow1.below hbw) k hk
          have hcell := (hown.cellAt i (by omega)).trans (flV_get hi)
          have hfz := hown.frozenAt i
          have hltB := (hown.lt w1.heap.size rfl).2
          have hst : ∀ b : Bool, (b = true ↔ (rtF l z K i k i = true ∨ ((z k).k = 2 ∧ (z k).n = l i))) → (wr.setCell ⟨w1.heap.size, i, none⟩ (.bool b)).ownsRow w1.heap.size 4 1 (.slice (some ⟨w1.heap.size, 0, none⟩) L.length L.length) L.length (flV L.length (rtF l z K i (k + 1))) := fun b hb => by
            have := (hown.stored i (.bool b)).1
            rw [flV_set, rt_step hb] at this
            exact this
          have hbS := fun b : Bool => hbw.setCell (p := ⟨w1.heap.size, i, none⟩) (Nat.le_refl w1.heap.size) (.bool b)
          clear hown
          cases hX : rtF l z K i k i
          case' true =>
            have hst2 := hst true ⟨fun _ => .inl hX, fun _ => rfl⟩
            have hbS2 := hbS true
            rw [hX] at hcell
            clear hst hbS hX
            go_upto_region 9 with fail
            go_region
            go_wp2
            go_roundg (K - (k + 1))
            case measure => omega
            case rel => exact ⟨k + 1, by omega, rfl, by go_num, hst2, by first | exact hbS2 | exact below_drew15 hbS2⟩
          case' false =>
            rw [hX] at hcell
            by_cases e1 : (z k).k = 2
            · by_cases e2 : (z k).n = l i
              · have hst2 := hst true ⟨fun _ => .inr ⟨e1, e2⟩, fun _ => rfl⟩
                have hbS2 := hbS true
                rw [e1] at v0
                rw [e2] at v1
                clear hst hbS hX e1 e2
                generalize l i = li at *
                go_upto_region 9 with fail
                go_region
                go_wp2
                go_roundg (K - (k + 1))
                case measure => omega
                case rel => exact ⟨k + 1, by omega, rfl, by go_num, hst2, by first | exact hbS2 | exact below_drew15 hbS2⟩
              · have hst2 := hst false ⟨fun h => (by cases h), fun h => h.elim (fun h => (by rw [hX] at h; cases h)) fun h => absurd h.2 e2⟩
                have hbS2 := hbS false
                rw [e1] at v0
                have d2 : ((z k).n == l i) = false := by simpa using e2
                clear hst hbS hX e1 e2
                generalize l i = li at *
                generalize (z k).n = kn at *
                go_upto_region 9 with fail
                go_region
                go_wp2
                go_roundg (K - (k + 1))
                case measure => omega
                case rel => exact ⟨k + 1, by omega, rfl, by go_num, hst2, by first | exact hbS2 | exact below_drew15 hbS2⟩
            · have hst2 := hst false ⟨fun h => (by cases h), fun h => h.elim (fun h => (by rw [hX] at h; cases h)) fun h => absurd h.1 e1⟩
              have hbS2 := hbS false
              have d1 : ((z k).k == 2) = false := by simpa using e1
              clear hst hbS hX e1
              generalize l i = li at *
              generalize (z k).n = kn at *
              generalize (z k).k = kk at *
              go_upto_region 9 with fail
              go_region
              go_wp2
              go_roundg (K - (k + 1))
              case measure => omega
              case rel => exact ⟨k + 1, by omega, rfl, by go_num, hst2, by first | exact hbS2 | exact below_drew15 hbS2⟩
        · obtain rfl : k = K := by omega
          rw [rt_row] at hown
          go_wp2
          go_roundg (L.length - (i + 1))
          case measure => omega
          case rel => exact ⟨i + 1, by omega, rfl, by go_num, hown, hbw⟩
    · obtain rfl : i = L.length := by omega
      have hX0 := rt_end (z := z) (K := K) hLo.out
      generalize rtF l z K L.length 0 = X0 at *
      generalize vrL z K = S at *
      go_wp2
      go_loopg [9] L.length (fun g rv wr => ∃ r : Nat, r ≤ L.length ∧ g = L.length - r ∧ rv = .int .i64 r ∧ (∃ X, RdF h S L.length l r X ∧ wr.ownsRow w1.heap.size 4 1 (.slice (some ⟨w1.heap.size, 0, none⟩) L.length L.length) L.length (flV L.length X)) ∧ Below w1.heap.size w1 wr)
      case atStart => exact ⟨0, by omega, by omega, rfl, ⟨X0, hX0, hown⟩, hbw⟩
      case round =>
        clear hX0 hown hbw
        obtain ⟨r, rh, rfl, rfl, ⟨X, hX, hown⟩, hbw⟩ := hrel
        by_cases hr : r < L.length
        · go_wp2
          go_loopg [10] L.length (fun g jv wr => ∃ j : Nat, j ≤ L.length ∧ g = L.length - j ∧ jv = .int .i64 j ∧ (∃ Y, RiF h S L.length l X j Y ∧ wr.ownsRow w1.heap.size 4 1 (.slice (some ⟨w1.heap.size, 0, none⟩) L.length L.length) L.length (flV L.length Y)) ∧ Below w1.heap.size w1 wr)
          case atStart => exact ⟨0, by omega, by omega, rfl, ⟨X, ri_start hX, hown⟩, hbw⟩
          case round =>
            clear hown hbw
            obtain ⟨j, jh, rfl, rfl, ⟨Y, hY, hown⟩, hbw⟩ := hrel
            by_cases hj : j < L.length
            · obtain ⟨⟨bl, ol, rfl, hlt, u0⟩, -⟩ := (hI1.below hbw) j hj
              have hcell := (hown.cellAt j (by omega)).trans (flV_get hj)
              have hltB := (hown.lt w1.heap.size rfl).2
              cases hYj : Y j
              case' false =>
                have hY2 := ri_skip hY hj hYj
                rw [hYj] at hcell
                go_wp2
                go_roundg (L.length - (j + 1))
                case measure => omega
                case rel => exact ⟨j + 1, by omega, rfl, by go_num, ⟨Y, hY2, hown⟩, hbw⟩
              case' true =>
                have hRj := hY.2.1 j hj hYj
                rw [hYj] at hcell
                have hgr := gB1.below hbw
                have hatr := hat1.below hbw
                obtain ⟨l0, x0, x1, x2, -, -, -⟩ := id hgr
                have hRf := hR (l j)
                have hMl := hRl (l j)
                have hMl' : Hid ((rfH h (l j)).length ≤ 15) := hMl
                obtain ⟨M, eM⟩ : ∃ M, M = rfH h (l j) := ⟨_, rfl⟩
                rw [← eM] at hRf hMl
                obtain ⟨lj, elj⟩ : ∃ x, x = l j := ⟨_, rfl⟩
                rw [← elj] at u0 hRf
                have hRe : ∀ W, Below wr.heap.size wr W → Calls Tryd.prog 37 #[.agg #[.slice p h.n c, .slice q h.m d, .bool h.b], .int .i64 lj] W fun e w' => ∃ pm cm, e = .returned (.slice pm M.length cm) ∧ (Ints .i64 w' pm M.length fun i => M[i]?.getD 0) ∧ Below W.heap.size W w' := fun W hW => by
                  refine Calls.mono (hRf W (hatr.below hW)) ?_
                  rintro e w' ⟨pm, cm, rfl, ⟨hMI, hMN⟩, hb⟩
                  exact ⟨pm, cm, rfl, hMI, hb⟩
                have eM' : Hid (M = rfH h (l j)) := eM
                clear eM elj hRf hMl hYj hRl hR
                go_upto_region 17 with fail
                clear hcell
                refine wp_late (ds := [some 76, some 77, some 78, some 79, some 80, some 81, some 11]) (ts := [76, 77, 78, 79, 80, 81, 11]) (pv := [(fun v _ => v = .agg #[.slice p h.n c, .slice q h.m d, .bool h.b]), (fun v _ => v = .slice (some ⟨bl, ol, none⟩) L.length cl), (fun v _ => v = .int .i64 (j : Int)), (fun v _ => v = .pointer (some ⟨bl, ol + j, none⟩)), (fun v _ => v = .int .i64 lj), RowV (M.length) (fun i => M[i]?.getD 0), RowV (M.length) (fun i => M[i]?.getD 0)]) (skip := fun i => ([] : List Nat).contains i) (ia := 1000) (is := 1000) (k := 82) (Shape := (fun _ _ => True)) (Full := (fun _ _ => True)) (by kernel_rfl) (by kernel_rfl) rfl rfl (by decide) (by decide) (by simp) ?_ (by decide) (fun _ _ _ _ _ => trivial) (fun _ _ _ _ _ => trivial) ?_ ?_ ?_ ?_
                · exact .inl rfl
                · exact ⟨fun _ _ _ h _ => h, fun _ _ _ h _ => h, fun _ _ _ h _ => h, fun _ _ _ h _ => h, fun _ _ _ h _ => h, fun _ _ _ h hb => h.below hb, fun _ _ _ h hb => h.below hb, trivial⟩
                · exact ⟨rfl, rfl, rfl, rfl, rfl, rfl, rfl, trivial⟩
                · refine ⟨?_, ?_, ?_, ?_, ?_, ?_, ?_, trivial⟩
                  · intro _ a' w' hb' hs hd hn Kc hK
                    have f2 : a'.tmps[2]?.getD undef = .pointer (some ⟨w.heap.size, 0, none⟩) := (hs 2 (by decide)).trans rfl
                    clear hs hd hn
                    rw [if_neg (by decide), if_neg (by decide)] at hK
                    have u1 : w'.cell? ⟨bl, ol + j, none⟩ = some (.int .i64 lj) := (hb'.cell (p := ⟨bl, ol + j, none⟩) hlt).trans u0
                    obtain ⟨lB, k0, k1, k2, -, -, -⟩ := hgr.below hb'
                    unfold Oper.wp
                    go_simp
                    try go_bits
                    exact hK _ _ (Below.refl _ _) (by first | rfl | (show Value.int _ _ = Value.int _ _; go_num; done) | (simp [valOf, *]; done) | (simp [valOf]; omega))
                  · intro _ a' w' hb' hs hd hn Kc hK
                    have f5 : a'.tmps[5]?.getD undef = .slice (some ⟨bl, ol, none⟩) L.length cl := (hs 5 (by decide)).trans rfl
                    clear hs hd hn
                    rw [if_neg (by decide), if_neg (by decide)] at hK
                    have u1 : w'.cell? ⟨bl, ol + j, none⟩ = some (.int .i64 lj) := (hb'.cell (p := ⟨bl, ol + j, none⟩) hlt).trans u0
                    obtain ⟨lB, k0, k1, k2, -, -, -⟩ := hgr.below hb'
                    unfold Oper.wp
                    go_simp
                    try go_bits
                    exact hK _ _ (Below.refl _ _) (by first | rfl | (show Value.int _ _ = Value.int _ _; go_num; done) | (simp [valOf, *]; done) | (simp [valOf]; omega))
                  · intro _ a' w' hb' hs hd hn Kc hK
                    have f10 : a'.tmps[10]?.getD undef = .int .i64 (j : Int) := (hs 10 (by decide)).trans rfl
                    clear hs hd hn
                    rw [if_neg (by decide), if_neg (by decide)] at hK
                    have u1 : w'.cell? ⟨bl, ol + j, none⟩ = some (.int .i64 lj) := (hb'.cell (p := ⟨bl, ol + j, none⟩) hlt).trans u0
                    obtain ⟨lB, k0, k1, k2, -, -, -⟩ := hgr.below hb'
                    unfold Oper.wp
                    go_simp
                    try go_bits
                    exact hK _ _ (Below.refl _ _) (by first | rfl | (show Value.int _ _ = Value.int _ _; go_num; done) | (simp [valOf, *]; done) | (simp [valOf]; omega))
                  · intro _ a' w' hb' hs hd hn Kc hK
                    have f77 : a'.tmps[77]?.getD undef = .slice (some ⟨bl, ol, none⟩) L.length cl := hd 1 77 (by first | rfl | decide | simp [Region.binds]) rfl (by decide) (by decide) rfl
                    have f78 : a'.tmps[78]?.getD undef = .int .i64 (j : Int) := hd 2 78 (by first | rfl | decide | simp [Region.binds]) rfl (by decide) (by decide) rfl
                    clear hs hd hn
                    rw [if_neg (by decide), if_neg (by decide)] at hK
                    have u1 : w'.cell? ⟨bl, ol + j, none⟩ = some (.int .i64 lj) := (hb'.cell (p := ⟨bl, ol + j, none⟩) hlt).trans u0
                    obtain ⟨lB, k0, k1, k2, -, -, -⟩ := hgr.below hb'
                    unfold Oper.wp
                    go_simp
                    try go_bits
                    exact hK _ _ (Below.refl _ _) (by first | rfl | (show Value.int _ _ = Value.int _ _; go_num; done) | (simp [valOf, *]; done) | (simp [valOf]; omega))
                  · intro _ a' w' hb' hs hd hn Kc hK
                    have f79 : a'.tmps[79]?.getD undef = .pointer (some ⟨bl, ol + j, none⟩) := hd 3 79 (by first | rfl | decide | simp [Region.binds]) rfl (by decide) (by decide) rfl
                    clear hs hd hn
                    rw [if_neg (by decide), if_neg (by decide)] at hK
                    have u1 : w'.cell? ⟨bl, ol + j, none⟩ = some (.int .i64 lj) := (hb'.cell (p := ⟨bl, ol + j, none⟩) hlt).trans u0
                    obtain ⟨lB, k0, k1, k2, -, -, -⟩ := hgr.below hb'
                    unfold Oper.wp
                    go_simp
                    try go_bits
                    exact hK _ _ (Below.refl _ _) (by first | rfl | (show Value.int _ _ = Value.int _ _; go_num; done) | (simp [valOf, *]; done) | (simp [valOf]; omega))
                  · intro _ a' w' hb' hs hd hn Kc hK
                    have f76 : a'.tmps[76]?.getD undef = .agg #[.slice p h.n c, .slice q h.m d, .bool h.b] := hd 0 76 (by first | rfl | decide | simp [Region.binds]) rfl (by decide) (by decide) rfl
                    have f80 : a'.tmps[80]?.getD undef = .int .i64 lj := hd 4 80 (by first | rfl | decide | simp [Region.binds]) rfl (by decide) (by decide) rfl
                    clear hs hd hn
                    rw [if_neg (by decide), if_neg (by decide)] at hK
                    have u1 : w'.cell? ⟨bl, ol + j, none⟩ = some (.int .i64 lj) := (hb'.cell (p := ⟨bl, ol + j, none⟩) hlt).trans u0
                    obtain ⟨lB, k0, k1, k2, -, -, -⟩ := hgr.below hb'
                    unfold Oper.wp
                    go_simp
                    try go_bits
                    refine Calls.mono (hRe _ hb') ?_
                    rintro e w'' ⟨pm, cm, rfl, hA, hb2⟩
                    exact hK _ _ hb2 ⟨_, _, rfl, hA⟩
                  · intro _ a' w' hb' hs hd hn Kc hK
                    obtain ⟨pm, cm, f81, hA⟩ := hd 5 81 (by first | rfl | decide | simp [Region.binds]) rfl (by decide) (by decide) rfl
                    clear hs hd hn
                    rw [if_neg (by decide), if_neg (by decide)] at hK
                    have u1 : w'.cell? ⟨bl, ol + j, none⟩ = some (.int .i64 lj) := (hb'.cell (p := ⟨bl, ol + j, none⟩) hlt).trans u0
                    obtain ⟨lB, k0, k1, k2, -, -, -⟩ := hgr.below hb'
                    unfold Oper.wp
                    go_simp
                    try go_bits
                    exact hK _ _ (Below.refl _ _) ⟨_, _, rfl, hA⟩
                intro Xf g w' hX hb hv
                obtain ⟨pm, cm, q11, hJ⟩ := hv 6 11 rfl rfl (by decide) (by decide)
                clear hX hv
                simp only [List.map_cons, List.map_nil, q11, puts, Act.put, Nat.reduceAdd, List.setIfInBounds_toArray, List.set_cons_succ, List.set_cons_zero]
                have hbW := bjoin hb hbw
                have hown6 := owned_below hown hb
                have hY2 : RkF h S L.length l X j 0 Y := rk_start hY
                have hMI := hJ
                clear hown hbw hb hJ hY hRe u0 hgr hatr l0 x0 x1 x2
                generalize w' = w6 at *
                go_wp2
                go_loopg [12] L.length (fun g kv wr => ∃ k : Nat, k ≤ L.length ∧ g = L.length - k ∧ kv = .int .i64 k ∧ (∃ Y, RkF h S L.length l X j k Y ∧ wr.ownsRow w1.heap.size 4 1 (.slice (some ⟨w1.heap.size, 0, none⟩) L.length L.length) L.length (flV L.length Y)) ∧ (Ints .i64 wr pm M.length fun i => M[i]?.getD 0) ∧ Below w1.heap.size w1 wr)
                case atStart => exact ⟨0, by omega, by omega, rfl, ⟨Y, hY2, hown6⟩, hMI, hbW⟩
                case round =>
                  clear hY2 hown6 hMI hbW Y
                  obtain ⟨k, kh, rfl, rfl, ⟨Y, hY, hown⟩, hMI, hbw⟩ := hrel
                  by_cases hk : k < L.length
                  · obtain ⟨⟨bl', ol', ee, hlt, u0⟩, -⟩ := (hI1.below hbw) k hk
                    injection ee with ee
                    injection ee with ee1 ee2
                    subst ee1 ee2
                    have hcell := (hown.cellAt k (by omega)).trans (flV_get hk)
                    have hfz := hown.frozenAt k
                    have hltB := (hown.lt w1.heap.size rfl).2
                    have hst : ∀ (W : World) (b : Bool), W.ownsRow w1.heap.size 4 1 (.slice (some ⟨w1.heap.size, 0, none⟩) L.length L.length) L.length (flV L.length Y) → (b = true ↔ (Y k = true ∨ l k ∈ M)) → ∃ Y, RkF h S L.length l X j (k + 1) Y ∧ (W.setCell ⟨w1.heap.size, k, none⟩ (.bool b)).ownsRow w1.heap.size 4 1 (.slice (some ⟨w1.heap.size, 0, none⟩) L.length L.length) L.length (flV L.length Y) := fun W b hW hb => by
                      have := (hW.stored k (.bool b)).1
                      rw [flV_set] at this
                      exact ⟨flS Y k b, rk_step hLo.out hRj hk hY (by rw [← eM'.out]; exact hb), this⟩
                    cases hYk : Y k
                    case' true =>
                      have hst2 := hst _ true hown ⟨fun _ => .inl hYk, fun _ => rfl⟩
                      have hM2 := hMI.setFlag (k := k) (u := .bool true) hown
                      have hbS2 := hbw.setCell (p := ⟨w1.heap.size, k, none⟩) (Nat.le_refl w1.heap.size) (.bool true)
                      rw [hYk] at hcell
                      clear hst hown hYk hY hMI
                      go_wp2
                      go_roundg (L.length - (k + 1))
                      case measure => omega
                      case rel => exact ⟨k + 1, by omega, rfl, by go_num, hst2, hM2, by first | exact hbS2 | exact below_drew15 hbS2⟩
                    case' false =>
                      rw [hYk] at hcell
                      have hIn := rin15 (cap := cm) (by rw [eM'.out]; exact hMl'.out) (l k) wr hMI
                      have hbb : decide (l k ∈ M) = true ↔ (Y k = true ∨ l k ∈ M) := by rw [hYk]; simp
                      generalize decide (l k ∈ M) = bb at *
                      have hst3 := fun W (hW : W.ownsRow w1.heap.size 4 1 (.slice (some ⟨w1.heap.size, 0, none⟩) L.length L.length) L.length (flV L.length Y)) => hst W bb hW hbb
                      clear hst hYk hY hbb
                      generalize l k = lk at *
                      go_upto_region 20 with (first
    | (go_at_call 38; refine Calls.mono hIn ?_; rintro e w7 ⟨rfl, hb7⟩; obtain ⟨hc, hf, hb, hz⟩ := bstep hb7 (w := wr) (Below.refl _ _))
                      )
                      have hst2 := hst3 _ (owned_below hown hb7)
                      have hM2 := (hMI.below hb7).setFlag (k := k) (u := .bool bb) (owned_below hown hb7)
                      have hbS2 := (bjoin hb7 hbw).setCell (p := ⟨w1.heap.size, k, none⟩) (Nat.le_refl w1.heap.size) (.bool bb)
                      clear hst3 hown hMI
                      go_wp2
                      go_roundg (L.length - (k + 1))
                      case measure => omega
                      case rel => exact ⟨k + 1, by omega, rfl, by go_num, hst2, hM2, by first | exact hbS2 | exact below_drew15 hbS2⟩
                  · obtain rfl : k = L.length := by omega
                    have hY2 := rk_done hY
                    go_wp2
                    go_roundg (L.length - (j + 1))
                    case measure => omega
                    case rel => exact ⟨j + 1, by omega, rfl, by go_num, ⟨Y, hY2, hown⟩, hbw⟩
            · obtain rfl : j = L.length := by omega
              have hX2 := rd_step hLa.out hX hY
              go_wp2
              go_roundg (L.length - (r + 1))
              case measure => omega
              case rel => exact ⟨r + 1, by omega, rfl, by go_num, ⟨Y, hX2, hown⟩, hbw⟩
        · obtain rfl : r = L.length := by omega
          rw [rd_flags hLa.out hX] at hown
          clear hX
          have hbw5 := bjoin hbw hb0
          have hI5 := hI1.below hbw
          have hsz5 : w.heap.size ≤ wr.heap.size := hbw5.size
          clear hbw hI1 hrow1 gB1 hat1 hb0
          generalize wr = w5 at *
          go_wp2
          go_loopg [13, 14] L.length (fun g ov iv wr => ∃ j : Nat, j ≤ L.length ∧ g = L.length - j ∧ iv = .int .i64 j ∧ wr.ownsRow w5.heap.size 3 1 ov ((L.take j).filter fun a => rcB h S a).length (((L.take j).filter fun a => rcB h S a).map (Value.int .i64)) ∧ Below w5.heap.size w5 wr)
          case atStart => exact ⟨0, by omega, by omega, rfl, World.ownsRow_nil _ _ _ _, Below.refl _ _⟩
          case round =>
            obtain ⟨j, jh, rfl, rfl, hownj, hbw⟩ := hrel
            have hsz : w5.heap.size ≤ wr.heap.size := hbw.size
            by_cases hj : j < L.length
            · obtain ⟨⟨bl, ol, rfl, hlt, v0⟩, -⟩ := (hI5.below hbw) j hj
              have hownF := owned_below hown hbw
              have hcell := (hownF.cellAt j (by omega)).trans (flV_get hj)
              have hltB := (hownF.lt w1.heap.size rfl).2
              have hq : ((L.take j).filter fun a => rcB h S a).length ≤ 512 := Nat.le_trans (List.length_filter_le _ _) (by rw [List.length_take]; omega)
              have e1 : (L.take (j + 1)).filter (fun a => rcB h S a) = (L.take j).filter (fun a => rcB h S a) ++ (if rcB h S (l j) = true then [l j] else []) := by
                rw [hlH.out, List.take_add_one, List.filter_append, List.getElem?_eq_getElem hj]
                simp [List.filter_cons, hj]
              generalize hX : l j = X at *
              generalize hE1 : (L.take (j + 1)).filter (fun a => rcB h S a) = A1 at *
              generalize (L.take j).filter (fun a => rcB h S a) = A at *
              clear hownF
              cases ho : rcB h S X with
              | true =>
                rw [ho] at hcell
                rw [ho, if_pos rfl] at e1
                go_wp2_with (first
                  | (at_builtin; refine wpList_append_own _ rfl (.tmp 113) (.tmp 118) 31 rfl w5.heap.size 3 i0 (.int .i64 0) 1 8 Tryd.underlying31 hi0 hz0 hz1 hz2 rfl (by decide) _ _ _ rfl (hownj.alloc _) ⟨wr.heap.size, 0, none⟩ 1 1 [.int .i64 X] rfl rfl (one_new _ _ _) (by simp [Value.oneCell']) (by simp only [maxLen]; omega) (by omega) (by simp; omega) ?_; intro ov w9 hown' hgrow _)
                )
                have hown2 : w9.ownsRow w5.heap.size 3 1 ov A1.length (A1.map (Value.int .i64)) := by rw [e1]; simpa using hown'
                have hb2 := (hbw.alloc hsz (.cells #[.int .i64 X] 3)).grown hgrow (by simp; omega) (fun k hk => (hownj.lt k hk).1)
                go_roundg (L.length - (j + 1))
                case measure => omega
                case rel => exact ⟨j + 1, by omega, rfl, by go_num, by rw [hE1]; exact hown2, hb2⟩
              | false =>
                rw [ho] at hcell
                rw [ho, if_neg (by simp), List.append_nil] at e1
                go_wp2
                go_roundg (L.length - (j + 1))
                case measure => omega
                case rel => exact ⟨j + 1, by omega, rfl, by go_num, by rw [hE1, e1]; exact hownj, hbw⟩
            · obtain rfl : j = L.length := by omega
              rw [List.take_length, ← hrc.out] at hownj
              have hwK : ∀ x ∈ KL, (Lit.int .i64 x).wf = true := fun x hx => hwfL x (by rw [hrc.out] at hx; exact (List.mem_filter.1 hx).1)
              obtain ⟨pk, ck, ff, hKK⟩ := row_owned (owned_base hownj hsz5) hwK
              rw [ff] at hownj ⊢
              clear ff
              go_wp2
              go_returns
              exact ⟨pk, ck, rfl, hKK, bjoin hbw hbw5⟩
end Go.Proofs.YtmbgodncagjncaaDoor
