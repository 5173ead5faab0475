/- HeapApart: whatever deeds are done with a new heap, it keeps its form, and objects that were laid and not freed lie apart, where their header stands; all other words are 0; what is used is what they have. No condition; the tables that the code reads are tied to the program's text. -/
import Derived.Test.YtjlflbaglaillaaDoorRows
import Derived.Test.YtjlflbaglaillaaDoorCards
import Derived.Test.YtjlflbaglaillaaDoorTie
import Derived.Test.YtjlflbaglaillaaDoorTiedBits
import Derived.Test.YtjlflbaglaillaaDoorAwake07
import Derived.Test.YtjlflbaglaillaaDoorMarks
import Derived.Test.YtjlflbaglaillaaDoorGotRow
import Derived.SevenTiedAt
namespace Go.Proofs.YtjlflbaglaillaaDoor
set_option linter.unusedSimpArgs false
set_option linter.unusedVariables false
open Go.ChangeShapes Go.WideShapes Go.ChangeAt Go.RowKit Go.Joins

theorem shl_class {cl : Int} (h0 : 0 ≤ cl) (h1 : cl < 4) : wrap64 (2 * 2 ^ cl.toNat) = szW cl := by
  have h4 : cl = 0 ∨ cl = 1 ∨ cl = 2 ∨ cl = 3 := by omega
  rcases h4 with rfl | rfl | rfl | rfl <;> decide +kernel
theorem infoN : (Tryd.prog.info? 3).map (fun i => (i.zero, i.size, i.bytes)) = some (some (.int .i64 0), 1, 8) := by kernel_rfl
set_option maxHeartbeats 64000000 in
set_option maxRecDepth 20000 in
theorem apart_walk (c0 : Int) (p : Option Addr) (n cap : Nat) (f : Nat → Dd) (w : World) (hin : Deeds w p n f) (hn : n ≤ maxLen) (c00 : 0 ≤ c0) (c01 : c0 < 256) (hS : Sz w) (hT : Tab w) :
    Calls Tryd.prog 5 #[.int .u8 c0, .slice p n cap] w fun e w' => e = .returned (.bool true) ∧ Below w.heap.size w w' := by
  simp only [maxLen] at hn
  by_cases hs : n ≤ 100
  · have d0 : decide (100 < (n : Int)) = false := by simp; omega
    have t0 : (n : Int) ≤ 100 := by omega
    have m0 : 1 ≤ 1 + c0 % 16 := by omega
    have hS0 := hS
    have hT0 := hT
    have hI0 := hin
    have m1 : 1 + c0 % 16 ≤ 16 := by omega
    go_enter Tryd.func5, Tryd.ntmps5
    go_upto_region 4 with (first
    | (go_at_call 9; refine Calls.mono (awake_any _ (hS.below (by go_grown)) (hT.below (by go_grown))) ?_; rintro e w' ⟨rfl, hb⟩; obtain ⟨hc, hf, hb, hz⟩ := bstep hb (w := w) (by go_grown); try simp only [World.size_alloc, World.size_setCell, World.size_drew] at hc hf hz)
    )
    have hb0 := hb
    replace hS := hS.below hb
    replace hT := hT.below hb
    replace hin := hin.below hb
    clear hb hc hf hz
    generalize w' = w0 at hb0 hS hT hin ⊢
    generalize 1 + c0 % 16 = K at m0 m1 ⊢
    have hnu : nuB K = true := by simp [nuB, m0, m1]
    obtain ⟨e0, e1, -, -⟩ := nu_yes hnu
    go_upto_region 5 with (first
    | (go_at_call 10; refine Calls.mono (hnew_in _ (hS.below (by go_grown)) (hT.below (by go_grown))) ?_; rintro e w' ⟨p1, n1, c1, q1, m1', d1, b1, rfl, hh1, hv1, hv2, hb⟩; obtain ⟨hc, hf, hb, hz⟩ := bstep hb (w := w0) (by go_grown); try simp only [World.size_alloc, World.size_setCell, World.size_drew] at hc hf hz)
    )
    rw [e0] at hh1
    have hF1 : formB (newH K.toNat) = true := form_new (by omega) (by omega)
    have hLo := hh1.lower hF1
    obtain rfl : b1 = false := hh1.b_eq
    obtain ⟨w1, hw1⟩ : ∃ W, W = w'.alloc (.cells #[.slice p1 n1 c1, .slice q1 m1' d1, .bool false] 25) := ⟨_, rfl⟩
    have hB1 : Below w'.heap.size w' w1 := by rw [hw1]; exact (Below.refl _ _).alloc (Nat.le_refl _) _
    have hl1 : w1.heap.size = w'.heap.size + 1 := by rw [hw1]; simp
    have hbl : w0.heap.size ≤ w'.heap.size := hb.size
    have hbB : w.heap.size ≤ w'.heap.size := Nat.le_trans hb0.size hbl
    have hap : Ap w1 w'.heap.size (w'.heap.size + 1) n1 m1' p1 c1 q1 d1 (.slice none 0 0) (.slice none 0 0) (newH K.toNat) [] [] := {
      heap := hh1.below hB1
      form := hF1
      clr := hLo.clear (Nat.le_refl _)
      rowA := World.ownsRow_nil _ _ _ _
      rowS := World.ownsRow_nil _ _ _ _
      box := by rw [hw1]; exact Box3.new _ _ _ _ _
      ca := fun g hg => by cases hg
      cs := fun g hg => by cases hg
      ne := fun g hg => by cases hg
      lo := Nat.lt_succ_self _ }
    have hbW : Below w.heap.size w w1 := bjoin (bjoin hB1 hb) hb0
    have hN : Hid (n1 = 32 * K.toNat) := hh1.n_eq
    have hM : Hid (m1' = K.toNat) := hh1.m_eq
    have hld := Laid.new (n := K.toNat) (by omega) (by omega)
    rw [← hw1]
    clear hw1 hb hc hf hz hB1 hb0 hv1 hv2 hLo hh1 e0 hnu hF1
    generalize w'.heap.size = B at *
    clear hS hT hin
    go_wp2
    go_loopg [8, 9, 10] n (fun g va vs iv wr => ∃ (i : Int) (L : List (Int × Int)) (H : Hp) (p' : Option Addr) (c' : Nat) (q' : Option Addr) (d' : Nat), 0 ≤ i ∧ i ≤ n ∧ g = (n - i).toNat ∧ iv = .int .i64 i ∧ (L.length : Int) ≤ i ∧ Laid H L ∧ Ap wr B (B + 1) n1 m1' p' c' q' d' va vs H (L.map Prod.fst) (L.map Prod.snd) ∧ Below w.heap.size w wr)
    case atStart => exact ⟨0, [], _, _, _, _, _, by omega, by omega, by omega, rfl, by simp, hld, hap, hbW⟩
    case round =>
      clear hap hld hbW
      obtain ⟨i, L, H, p', c', q', d', il, ih, rfl, rfl, hlen, hld, hap, hbw⟩ := hrel
      have hS := hS0.below hbw
      have hT := hT0.below hbw
      by_cases hi : i < n
      · obtain ⟨⟨bb, off, rfl, hlt, v0, v1, v2⟩, hwf⟩ := (hI0.below hbw) i.toNat (by omega)
        have k_ := hap.box
        obtain ⟨l6, x0, x1, x2, -, -, -⟩ := k_
        go_upto_region 11 with fail
        obtain ⟨w2, hw2⟩ : ∃ W, W = wr.alloc (.cells #[.int .i64 (f i.toNat).k, .int .i64 (f i.toNat).a, .int .i64 (f i.toNat).b] 45) := ⟨_, rfl⟩
        have hB2 : Below wr.heap.size wr w2 := by rw [hw2]; exact (Below.refl _ _).alloc (Nat.le_refl _) _
        have gD : Box3 wr.heap.size (.int .i64 (f i.toNat).k) (.int .i64 (f i.toNat).a) (.int .i64 (f i.toNat).b) w2 := by rw [hw2]; exact Box3.new _ _ _ _ _
        have hl2 : wr.heap.size + 1 = w2.heap.size := by rw [hw2]; simp
        have lB : B < wr.heap.size := l6
        have hD1 := fun g hg => (hap.rowA.lt g hg).2
        have hD2 := fun g hg => (hap.rowS.lt g hg).2
        replace hap := hap.below hB2
        replace hS := hS.below hB2
        replace hT := hT.below hB2
        replace hbw := bjoin hB2 hbw
        rw [← hw2]
        clear hw2 x0 x1 x2 l6 v0 v1 v2 hlt hwf hB2
        generalize wr.heap.size = D at *
        have hF' : Hid (formB H = true) := hap.form
        have hwfH : Hid H.wf := hld.wf
        have k_ := hap.box
        obtain ⟨l6, x0, x1, x2, x3, x4, x5⟩ := k_
        have k_ := gD
        obtain ⟨lD, z0, z1, z2, -, -, -⟩ := k_
        have hcase : (f i.toNat).k = 0 ∨ ((f i.toNat).k = 1 ∨ (f i.toNat).k = 2) ∨ (f i.toNat).k = 3 ∨ (f i.toNat).k = 4 ∨ (¬ (f i.toNat).k = 0 ∧ ¬ (f i.toNat).k = 1 ∧ ¬ (f i.toNat).k = 2 ∧ ¬ (f i.toNat).k = 3 ∧ ¬ (f i.toNat).k = 4) := by omega
        rcases hcase with hk | hk | hk | hk | ⟨k0, k1, k2, k3, k4⟩
        · rw [hk] at z0
          go_upto_region 38 with (first
    | (go_at_call 19; refine Calls.mono (hopen_in (hS.below (by go_grown)) (hT.below (by go_grown)) (hap.heap.below (by go_grown)) hF'.out) ?_; rintro e w' ⟨p2, c2, q2, d2, rfl, hh2, hs2, hb⟩; obtain ⟨hc, hf, hb, hz⟩ := bstep hb (w := w2) (by go_grown); try simp only [World.size_alloc, World.size_setCell, World.size_drew] at hc hf hz)
          )
          have hap' := (hap.below hb).put hh2 (form_open hap.form _ _) hs2 (fun g hg => by have := (hap.rowA.lt g hg).2; first | omega | (simp; omega)) (fun g hg => by have := (hap.rowS.lt g hg).2; first | omega | (simp; omega)) (by have := hap.box.1; first | omega | (simp; omega))
          have hbS := below_stores (bjoin hb hbw) hbB (.slice p2 n1 c2) (.slice q2 m1' d2) (.bool false)
          have hld' := hld.open (f i.toNat).a (f i.toNat).b
          clear hb hc hf hz hh2 hs2 hap hld x0 x1 x2 z0 z1 z2
          generalize (((w'.setCell ⟨B, 0, none⟩ (.slice p2 n1 c2)).setCell ⟨B, 1, none⟩ (.slice q2 m1' d2)).setCell ⟨B, 2, none⟩ (.bool false)) = w3 at hap' hbS ⊢
          have hS3 := hS0.below hbS
          have hT3 := hT0.below hbS
          have hF3 := hap'.form
          have k_ := hap'.box
          obtain ⟨l6, x0, x1, x2, -, -, -⟩ := k_
          go_wp2_with (first
    | (go_at_call 13; refine Calls.mono (hform_in (hS3.below (by go_grown)) (hT3.below (by go_grown)) (hap'.heap.below (by go_grown))) ?_; rintro e w' ⟨rfl, hb⟩; obtain ⟨hc, hf, hb, hz⟩ := bstep hb (w := w3) (by go_grown); try simp only [World.size_alloc, World.size_setCell, World.size_drew] at hc hf hz)
          )
          go_roundg ((n : Int) - (i + 1)).toNat
          case measure => omega
          case rel => exact ⟨i + 1, _, _, _, _, _, _, by omega, by omega, rfl, by go_num, by omega, hld', hap'.below hb, bjoin hb hbS⟩
        · have hlb := hld.lay (f i.toNat).a (f i.toNat).b
          have hkk : (f i.toNat).k = 1 ∨ (f i.toNat).k = 2 := hk
          clear hk
          have hLF : ∃ kk : Int, (kk = 1 ∨ kk = 2) ∧ w2.cell? ⟨D, 0, none⟩ = some (.int .i64 kk) := ⟨_, hkk, z0⟩
          clear z0 hkk
          obtain ⟨kk, hkk, z0⟩ := hLF
          rcases hkk with rfl | rfl
          all_goals
            go_upto_region 18 with (first
    | (go_at_call 25; refine Calls.mono (hlay_in (hS.below (by go_grown)) (hT.below (by go_grown)) (hap.heap.below (by go_grown)) hF'.out) ?_; rintro e w' ⟨p2, c2, q2, d2, rfl, hh2, hs2, hb⟩; obtain ⟨hc, hf, hb, hz⟩ := bstep hb (w := w2) (by go_grown); try simp only [World.size_alloc, World.size_setCell, World.size_drew] at hc hf hz)
            )
            have hA_ : Below w'.heap.size w' (w'.alloc (.cells #[.slice p2 n1 c2, .slice q2 m1' d2, .bool false] 25)) := (Below.refl _ _).alloc (Nat.le_refl _) _
            have hap' := ((hap.below hb).below hA_).put (hh2.below hA_) (form_lay hap.form hld.wf _ _) hs2 (fun g hg => by have := (hap.rowA.lt g hg).2; first | omega | (simp; omega)) (fun g hg => by have := (hap.rowS.lt g hg).2; first | omega | (simp; omega)) (by have := hap.box.1; first | omega | (simp; omega))
            have hbS := below_stores (bjoin hA_ (bjoin hb hbw)) hbB (.slice p2 n1 c2) (.slice q2 m1' d2) (.bool false)
            have gD' := ((gD.below hb).below hA_).others (g := B) (by omega) (.slice p2 n1 c2) (.slice q2 m1' d2) (.bool false)
            clear hb hc hf hz hh2 hs2 hap hld x0 x1 x2 x3 x4 x5 z0 z1 z2 hA_ gD l6 lD
            generalize ((((w'.alloc (.cells #[.slice p2 n1 c2, .slice q2 m1' d2, .bool false] 25)).setCell ⟨B, 0, none⟩ (.slice p2 n1 c2)).setCell ⟨B, 1, none⟩ (.slice q2 m1' d2)).setCell ⟨B, 2, none⟩ (.bool false)) = w3 at hap' hbS gD' ⊢
            have hS3 := hS0.below hbS
            have hT3 := hT0.below hbS
            cases hl : laB H (f i.toNat).a (f i.toNat).b with
            | false =>
              have hld' : Laid (laH H (f i.toNat).a (f i.toNat).b) L := by have := hlb.1; rw [hl] at this; simpa using this
              go_upto_region 38 with fail
              clear hlb gD'
              have hF3 := hap'.form
              have k_ := hap'.box
              obtain ⟨l6, x0, x1, x2, -, -, -⟩ := k_
              go_wp2_with (first
    | (go_at_call 13; refine Calls.mono (hform_in (hS3.below (by go_grown)) (hT3.below (by go_grown)) (hap'.heap.below (by go_grown))) ?_; rintro e w' ⟨rfl, hb⟩; obtain ⟨hc, hf, hb, hz⟩ := bstep hb (w := w3) (by go_grown); try simp only [World.size_alloc, World.size_setCell, World.size_drew] at hc hf hz)
              )
              go_roundg ((n : Int) - (i + 1)).toNat
              case measure => omega
              case rel => exact ⟨i + 1, _, _, _, _, _, _, by omega, by omega, rfl, by go_num, by omega, hld', hap'.below hb, bjoin hb hbS⟩
            | true =>
              obtain ⟨hcl, cl0, cl1⟩ := hlb.2 hl
              have hld' := hlb.1
              rw [if_pos hl] at hld'
              obtain ⟨a0, a1, -⟩ := la_spec hF'.out hwfH.out hl
              have hHm : Hid ((laH H (f i.toNat).a (f i.toNat).b).m = H.m) := (la_n _ _ _).2.1
              have hm1 : Hid (m1' = H.m) := hap'.heap.m_eq.trans hHm.out
              clear hlb hl
              generalize laA H (f i.toNat).a (f i.toNat).b = A at *
              generalize laH H (f i.toNat).a (f i.toNat).b = H2 at *
              generalize (spH H (f i.toNat).a).cl = cl at *
              obtain ⟨xs, hxs⟩ : ∃ xs, xs = L.map Prod.fst := ⟨_, rfl⟩
              obtain ⟨ys, hys⟩ : ∃ ys, ys = L.map Prod.snd := ⟨_, rfl⟩
              have hxl : xs.length ≤ 100 := by rw [hxs, List.length_map]; omega
              have hyl : ys.length ≤ 100 := by rw [hys, List.length_map]; omega
              rw [← hxs, ← hys] at hap'
              have hX : Hid ((L ++ [(A, szW cl)]).map Prod.fst = xs ++ [A] ∧ (L ++ [(A, szW cl)]).map Prod.snd = ys ++ [szW cl]) := ⟨by rw [hxs]; simp, by rw [hys]; simp⟩
              clear hxs hys
              obtain ⟨pa, ca, rfl, -⟩ := owned_new hap'.rowA
              obtain ⟨ps, cs', rfl, -⟩ := owned_new hap'.rowS
              obtain ⟨i0, hi0, hz0, hz1, hz2⟩ := info_parts infoN
              have lB3 := hap'.box.1
              have hT_ : Below w3.heap.size w3 (w3.alloc (.cells #[.int .i64 A] 3)) := (Below.refl _ _).alloc (Nat.le_refl _) _
              go_upto_region 20 with (first
                | (at_builtin; refine wpList_append_lies _ rfl (.tmp 82) (.tmp 84) 43 rfl (B + 1) 3 i0 (.int .i64 0) 1 8 Tryd.underlying43 hi0 hz0 hz1 hz2 rfl (by decide) (.slice pa xs.length ca) xs.length (i64s xs) rfl (owned_below hap'.rowA hT_) ⟨w3.heap.size, 0, none⟩ 1 1 [.int .i64 A] rfl rfl (one_new _ _ _) (by simp [Value.oneCell']) (by decide) (by simp only [maxLen]; omega) (by omega) (by simp; omega) _ rfl ?_; intro g1 cap1 w6 hown hgrow hat hlt)
              )
              have hap2 := (hap'.below hT_).pushA hgrow hown rfl hat
              have hb6 : Below w.heap.size w w6 := (bjoin hT_ hbS).grown hgrow (by have := hbS.size; simp; omega) (fun k hk => by have := (hap'.rowA.lt k hk).1; omega)
              have gD6 := (gD'.below hT_).grown hgrow (fun e => by have := hD1 D e; omega)
              have hl6 : w3.heap.size + 1 ≤ w6.heap.size := by have := hgrow.size; simpa using this
              clear hown hgrow hat hlt hap' gD' hT_ hbS
              have hlen' : ((L ++ [(A, szW cl)]).length : Int) ≤ i + 1 := by simp; omega
              generalize (f i.toNat).a = a at *
              have a2 : a < (m1' : Int) := by have := hm1.out; omega
              obtain ⟨⟨bq, oq, rfl, lq, -, s1, -⟩, -⟩ := hap2.heap.at'.spans a.toNat (by have := hm1.out; have := hHm.out; omega)
              rw [show (H2.s a.toNat).cl = cl from hcl] at s1
              have k_ := hap2.box
              obtain ⟨l6, x0, x1, x2, -, -, -⟩ := k_
              have k_ := gD6
              obtain ⟨lD, z0, z1, z2, -, -, -⟩ := k_
              clear hcl a1 hHm hm1 hwfH hF' gD6
              have hsh : wrap64 (2 * 2 ^ cl.toNat) = szW cl := shl_class cl0 cl1
              have hsz := sz_bound cl
              obtain ⟨hsz0, hsz1⟩ := hsz
              generalize szW cl = s at *
              have hT_ : Below w6.heap.size w6 (w6.alloc (.cells #[.int .i64 s] 3)) := (Below.refl _ _).alloc (Nat.le_refl _) _
              go_upto_region 38 with (first
                | (at_builtin; refine wpList_append_lies _ rfl (.tmp 86) (.tmp 96) 43 rfl (B + 1) 3 i0 (.int .i64 0) 1 8 Tryd.underlying43 hi0 hz0 hz1 hz2 rfl (by decide) (.slice ps ys.length cs') ys.length (i64s ys) rfl (owned_below hap2.rowS hT_) ⟨w6.heap.size, 0, none⟩ 1 1 [.int .i64 s] rfl rfl (one_new _ _ _) (by simp [Value.oneCell']) (by decide) (by simp only [maxLen]; omega) (by omega) (by simp; omega) _ rfl ?_; intro g2 cap2 w7 hown hgrow hat hlt)
              )
              have hap' := (hap2.below hT_).pushS hgrow hown rfl hat
              rw [← hX.out.1, ← hX.out.2] at hap'
              have hbS : Below w.heap.size w w7 := (bjoin hT_ hb6).grown hgrow (by have := hb6.size; simp; omega) (fun k hk => by have := (hap2.rowS.lt k hk).1; omega)
              have hS3 := hS0.below hbS
              have hT3 := hT0.below hbS
              clear hown hgrow hat hlt hap2 hT_ hb6 x0 x1 x2 z0 z1 z2 l6 lD s1
              generalize w7 = w3 at hap' hbS hS3 hT3 ⊢
              have hF3 := hap'.form
              have k_ := hap'.box
              obtain ⟨l6, x0, x1, x2, -, -, -⟩ := k_
              go_wp2_with (first
    | (go_at_call 13; refine Calls.mono (hform_in (hS3.below (by go_grown)) (hT3.below (by go_grown)) (hap'.heap.below (by go_grown))) ?_; rintro e w' ⟨rfl, hb⟩; obtain ⟨hc, hf, hb, hz⟩ := bstep hb (w := w3) (by go_grown); try simp only [World.size_alloc, World.size_setCell, World.size_drew] at hc hf hz)
              )
              go_roundg ((n : Int) - (i + 1)).toNat
              case measure => omega
              case rel => exact ⟨i + 1, _, _, _, _, _, _, by omega, by omega, rfl, by go_num, hlen', hld', hap'.below hb, bjoin hb hbS⟩
        · rw [hk] at z0
          obtain ⟨hld', hlen2⟩ := hld.frees (f i.toNat).a
          go_upto_region 24 with (first
    | (go_at_call 23; refine Calls.mono (hfree_in (hS.below (by go_grown)) (hT.below (by go_grown)) (hap.heap.below (by go_grown)) hF'.out) ?_; rintro e w' ⟨p2, c2, q2, d2, rfl, hh2, hs2, hb⟩; obtain ⟨hc, hf, hb, hz⟩ := bstep hb (w := w2) (by go_grown); try simp only [World.size_alloc, World.size_setCell, World.size_drew] at hc hf hz)
          )
          have hA_ : Below w'.heap.size w' (w'.alloc (.cells #[.slice p2 n1 c2, .slice q2 m1' d2, .bool false] 25)) := (Below.refl _ _).alloc (Nat.le_refl _) _
          have hap' := ((hap.below hb).below hA_).put (hh2.below hA_) (form_free hap.form hwfH.out _) hs2 (fun g hg => by have := (hap.rowA.lt g hg).2; first | omega | (simp; omega)) (fun g hg => by have := (hap.rowS.lt g hg).2; first | omega | (simp; omega)) (by have := hap.box.1; first | omega | (simp; omega))
          have hbS := below_stores (bjoin hA_ (bjoin hb hbw)) hbB (.slice p2 n1 c2) (.slice q2 m1' d2) (.bool false)
          have gD' := ((gD.below hb).below hA_).others (g := B) (by omega) (.slice p2 n1 c2) (.slice q2 m1' d2) (.bool false)
          have hl3 : w2.heap.size ≤ w'.heap.size := hb.size
          have hl4 : ((((w'.alloc (.cells #[.slice p2 n1 c2, .slice q2 m1' d2, .bool false] 25)).setCell ⟨B, 0, none⟩ (.slice p2 n1 c2)).setCell ⟨B, 1, none⟩ (.slice q2 m1' d2)).setCell ⟨B, 2, none⟩ (.bool false)).heap.size = w'.heap.size + 1 := by simp
          clear hb hc hf hz hh2 hs2 hap hld x0 x1 x2 x3 x4 x5 z0 z1 z2 hA_ gD l6 lD
          generalize ((((w'.alloc (.cells #[.slice p2 n1 c2, .slice q2 m1' d2, .bool false] 25)).setCell ⟨B, 0, none⟩ (.slice p2 n1 c2)).setCell ⟨B, 1, none⟩ (.slice q2 m1' d2)).setCell ⟨B, 2, none⟩ (.bool false)) = w3 at hap' hbS gD' hl4 ⊢
          generalize frB H (f i.toNat).a = okf at *
          generalize frH H (f i.toNat).a = H2 at *
          generalize hae : (f i.toNat).a = a at *
          obtain ⟨xs, hxs⟩ : ∃ xs, xs = L.map Prod.fst := ⟨_, rfl⟩
          obtain ⟨ys, hys⟩ : ∃ ys, ys = L.map Prod.snd := ⟨_, rfl⟩
          obtain ⟨l, hll⟩ : ∃ l, l = L.length := ⟨_, rfl⟩
          have hxl : xs.length = l := by rw [hxs, hll, List.length_map]
          have hyl : ys.length = l := by rw [hys, hll, List.length_map]
          have hl1 : l ≤ 100 := by rw [hll]; omega
          have hll' : Hid (l = L.length) := hll
          have hxs' : Hid (xs = L.map Prod.fst ∧ ys = L.map Prod.snd) := ⟨hxs, hys⟩
          rw [← hxs, ← hys] at hap'
          have hrA := hap'.rowA
          have hrS := hap'.rowS
          rw [hxl] at hrA
          rw [hyl] at hrS
          obtain ⟨pa, ca, rfl, -⟩ := owned_new hrA
          obtain ⟨ps, cs', rfl, -⟩ := owned_new hrS
          have hap0 := hap'.start (base' := w3.heap.size) hap'.box.1
          have hbs : B < w3.heap.size := hap'.box.1
          have hsA : ∀ g, (Value.slice pa l ca).ownBlock = some g → g < w3.heap.size := fun g hg => (hrA.lt g hg).2
          have hsS : ∀ g, (Value.slice ps l cs').ownBlock = some g → g < w3.heap.size := fun g hg => (hrS.lt g hg).2
          have hDs : D < w3.heap.size := gD'.1
          rw [← hll] at hlen2
          clear hap' hxs hys hll hxl hyl hD1 hD2
          generalize hN3 : w3.heap.size = N3 at *
          obtain ⟨i0, hi0, hz0, hz1, hz2⟩ := info_parts infoN
          go_upto_region 26 with fail
          go_wp2
          go_loopg [17, 18, 19] l (fun gg xv yv kv wr => ∃ k : Nat, k ≤ l ∧ gg = l - k ∧ kv = .int .i64 k ∧ Ap wr B N3 n1 m1' p2 c2 q2 d2 xv yv H2 ((stay a (L.take k)).map Prod.fst) ((stay a (L.take k)).map Prod.snd) ∧ wr.ownsRow (B + 1) 3 1 (.slice pa l ca) l (i64s xs) ∧ wr.ownsRow (B + 1) 3 1 (.slice ps l cs') l (i64s ys) ∧ Box3 D (.int .i64 (f i.toNat).k) (.int .i64 a) (.int .i64 (f i.toNat).b) wr ∧ Below w.heap.size w wr ∧ N3 ≤ wr.heap.size)
          case atStart => exact ⟨0, by omega, by omega, rfl, by simpa [stay] using hap0, hrA, hrS, gD', hbS, by omega⟩
          case round =>
            clear hap0 hrA hrS gD' hbS
            obtain ⟨k, kh, rfl, rfl, hap, hrA, hrS, gD, hbw, hsz3⟩ := hrel
            by_cases hkl : k < l
            · obtain ⟨e, he⟩ : ∃ e, L[k]? = some e := ⟨L[k]'(by have := hll'.out; omega), List.getElem?_eq_getElem _⟩
              obtain ⟨y0, s0⟩ := e
              have hst := stay_take (a := a) he
              have hxk : (i64s xs)[k]? = some (.int .i64 y0) := by rw [hxs'.out.1]; simp [i64s, he]
              have hyk : (i64s ys)[k]? = some (.int .i64 s0) := by rw [hxs'.out.2]; simp [i64s, he]
              rcases hrA.2 with ⟨-, h0⟩ | ⟨ga, capA, cur, hv, -, -⟩
              · omega
              rcases hrS.2 with ⟨-, h0⟩ | ⟨gs, capS, cur', hv', -, -⟩
              · omega
              injection hv with hv1 hv2 hv3
              injection hv' with hv1' hv2' hv3'
              subst hv1 hv3 hv1' hv3'
              have lga := (hrA.lt ga rfl).2
              have lgs := (hrS.lt gs rfl).2
              have vA := (hrA.cellAt k (by omega)).trans hxk
              have k_ := gD
              obtain ⟨lD, z0, z1, z2, -, -, -⟩ := k_
              by_cases hx : y0 = a
              · rw [if_pos hx] at hst
                have d0 : (y0 != a) = false := by simp [hx]
                rw [← hst] at hap
                go_upto_region 29 with fail
                refine wp_region_plus (by kernel_rfl) (by kernel_rfl) fun hpc => ?_
                repeat (first | go_big_quiet_step (fail) | quiet_step (fail))
                refine wpQuiet_nil ?_
                intro w' hbq
                clear hpc
                obtain ⟨hc, hf, hb, hz⟩ := bstep hbq (w := wr) (by go_grown)
                try simp only [World.size_alloc, World.size_setCell, World.size_drew] at hc hf hz
                go_wp2
                go_roundg (l - (k + 1))
                case measure => omega
                case rel => exact ⟨k + 1, by omega, rfl, by go_num, hap.below hb, owned_below hrA hb, owned_below hrS hb, gD.below hb, bjoin hb hbw, by have := hb.size; omega⟩
              · rw [if_neg hx] at hst
                have d0 : (y0 != a) = true := by simp [hx]
                go_upto_region 29 with fail
                refine wp_region_plus (by kernel_rfl) (by kernel_rfl) fun hpc => ?_
                repeat (first | go_big_quiet_step (fail) | quiet_step (fail))
                refine wpQuiet_nil ?_
                intro w' hbq
                clear hpc
                obtain ⟨hc, hf, hb, hz⟩ := bstep hbq (w := wr) (by go_grown)
                try simp only [World.size_alloc, World.size_setCell, World.size_drew] at hc hf hz
                go_upto_region 30 with fail
                replace hap := hap.below hb
                replace hrA := owned_below hrA hb
                replace hrS := owned_below hrS hb
                replace gD := gD.below hb
                replace hbw := bjoin hb hbw
                have lN : N3 ≤ w'.heap.size := by have := hb.size; omega
                clear hb hc hf hz vA z0 z1 z2 lD lga lgs
                generalize w' = w4 at hap hrA hrS gD hbw lN ⊢
                have lga := (hrA.lt ga rfl).2
                have lgs := (hrS.lt gs rfl).2
                have vA := (hrA.cellAt k (by omega)).trans hxk
                generalize hX : stay a (L.take k) = X at *
                have hXl : X.length ≤ 100 := by
                  have h1 := stay_le a (L.take k)
                  have h2 : (L.take k).length ≤ k := by simp; omega
                  rw [hX] at h1; omega
                obtain ⟨us, hus⟩ : ∃ us, us = X.map Prod.fst := ⟨_, rfl⟩
                obtain ⟨ws, hws⟩ : ∃ ws, ws = X.map Prod.snd := ⟨_, rfl⟩
                have hul : us.length ≤ 100 := by rw [hus, List.length_map]; omega
                have hwl : ws.length ≤ 100 := by rw [hws, List.length_map]; omega
                rw [← hus, ← hws] at hap
                have hXe : Hid ((X ++ [(y0, s0)]).map Prod.fst = us ++ [y0] ∧ (X ++ [(y0, s0)]).map Prod.snd = ws ++ [s0]) := ⟨by rw [hus]; simp, by rw [hws]; simp⟩
                clear hus hws
                obtain ⟨px, cx, rfl, -⟩ := owned_new hap.rowA
                obtain ⟨py, cy, rfl, -⟩ := owned_new hap.rowS
                have hT_ : Below w4.heap.size w4 (w4.alloc (.cells #[.int .i64 y0] 3)) := (Below.refl _ _).alloc (Nat.le_refl _) _
                go_upto_region 31 with (first
              | (at_builtin; refine wpList_append_lies _ rfl (.tmp 121) (.tmp 126) 43 rfl N3 3 i0 (.int .i64 0) 1 8 Tryd.underlying43 hi0 hz0 hz1 hz2 rfl (by decide) (.slice px us.length cx) us.length (i64s us) rfl (owned_below hap.rowA hT_) ⟨w4.heap.size, 0, none⟩ 1 1 [.int .i64 y0] rfl rfl (one_new _ _ _) (by simp [Value.oneCell']) (by decide) (by simp only [maxLen]; omega) (by omega) (by simp; omega) _ rfl ?_; intro g1 cap1 w6 hown hgrow hat hlt)
                )
                have hap2 := (hap.below hT_).pushA hgrow hown rfl hat
                have hrA2 := (owned_below hrA hT_).kept hgrow (.inr fun e => by have := (hap.rowA.lt ga e.symm).1; have := hsA ga rfl; omega)
                have hrS2 := (owned_below hrS hT_).kept hgrow (.inr fun e => by have := (hap.rowA.lt gs e.symm).1; have := hsS gs rfl; omega)
                have gD2 := (gD.below hT_).grown hgrow (fun e => by have := (hap.rowA.lt D e).1; omega)
                have hb6 : Below w.heap.size w w6 := (bjoin hT_ hbw).grown hgrow (by have := hbw.size; simp; omega) (fun k hk => by have := (hap.rowA.lt k hk).1; omega)
                have hl6 : w4.heap.size + 1 ≤ w6.heap.size := by have := hgrow.size; simpa using this
                clear hown hgrow hat hlt hap hrA hrS gD hT_ hbw vA
                have vS := (hrS2.cellAt k (by omega)).trans hyk
                have hT_ : Below w6.heap.size w6 (w6.alloc (.cells #[.int .i64 s0] 3)) := (Below.refl _ _).alloc (Nat.le_refl _) _
                go_upto_region 28 with (first
              | (at_builtin; refine wpList_append_lies _ rfl (.tmp 128) (.tmp 133) 43 rfl N3 3 i0 (.int .i64 0) 1 8 Tryd.underlying43 hi0 hz0 hz1 hz2 rfl (by decide) (.slice py ws.length cy) ws.length (i64s ws) rfl (owned_below hap2.rowS hT_) ⟨w6.heap.size, 0, none⟩ 1 1 [.int .i64 s0] rfl rfl (one_new _ _ _) (by simp [Value.oneCell']) (by decide) (by simp only [maxLen]; omega) (by omega) (by simp; omega) _ rfl ?_; intro g2 cap2 w7 hown hgrow hat hlt)
                )
                have hap3 := (hap2.below hT_).pushS hgrow hown rfl hat
                rw [← hXe.out.1, ← hXe.out.2, ← hst] at hap3
                have hrA3 := (owned_below hrA2 hT_).kept hgrow (.inr fun e => by have := (hap2.rowS.lt ga e.symm).1; have := hsA ga rfl; omega)
                have hrS3 := (owned_below hrS2 hT_).kept hgrow (.inr fun e => by have := (hap2.rowS.lt gs e.symm).1; have := hsS gs rfl; omega)
                have gD3 := (gD2.below hT_).grown hgrow (fun e => by have := (hap2.rowS.lt D e).1; omega)
                have hb7 : Below w.heap.size w w7 := (bjoin hT_ hb6).grown hgrow (by have := hb6.size; simp; omega) (fun k hk => by have := (hap2.rowS.lt k hk).1; omega)
                have hl7 : w6.heap.size + 1 ≤ w7.heap.size := by have := hgrow.size; simpa using this
                clear hown hgrow hat hlt hap2 hrA2 hrS2 gD2 hT_ hb6 vS
                go_wp2
                go_roundg (l - (k + 1))
                case measure => omega
                case rel => exact ⟨k + 1, by omega, rfl, by go_num, hap3, hrA3, hrS3, gD3, hb7, by omega⟩
            · obtain rfl : k = l := by omega
              have e : L.take k = L := by rw [hll'.out, List.take_length]
              rw [e] at hap
              have hrX := hap.rowA
              have hrY := hap.rowS
              rw [List.length_map] at hrX hrY
              obtain ⟨px, cx, rfl, -⟩ := owned_new hrX
              obtain ⟨py, cy, rfl, -⟩ := owned_new hrY
              have hap' := hap.lower (base' := B + 1) (by omega) (Nat.lt_succ_self _)
              have hbS := hbw
              have hle := stay_le a L
              clear hap hrA hrS hrX hrY gD hbw e
              have hcs : okf = false ∧ ¬ (stay a L).length < k ∨ okf = true ∧ (stay a L).length < k := by
                cases okf
                · left; refine ⟨rfl, ?_⟩; have := of_decide_eq_false hlen2; omega
                · right; refine ⟨rfl, ?_⟩; have := of_decide_eq_true hlen2; omega
              clear hlen2
              rcases hcs with ⟨rfl, hcs⟩ | ⟨rfl, hcs⟩
              all_goals
                go_upto_region 38 with fail
                generalize wr = w3 at hap' hbS ⊢
                have hS3 := hS0.below hbS
                have hT3 := hT0.below hbS
                have hF3 := hap'.form
                have k_ := hap'.box
                obtain ⟨l6, x0, x1, x2, -, -, -⟩ := k_
                go_wp2_with (first
    | (go_at_call 13; refine Calls.mono (hform_in (hS3.below (by go_grown)) (hT3.below (by go_grown)) (hap'.heap.below (by go_grown))) ?_; rintro e w' ⟨rfl, hb⟩; obtain ⟨hc, hf, hb, hz⟩ := bstep hb (w := w3) (by go_grown); try simp only [World.size_alloc, World.size_setCell, World.size_drew] at hc hf hz)
                )
                go_roundg ((n : Int) - (i + 1)).toNat
                case measure => omega
                case rel => exact ⟨i + 1, _, _, _, _, _, _, by omega, by omega, rfl, by go_num, by omega, hld', hap'.below hb, bjoin hb hbS⟩
        · rw [hk] at z0
          go_upto_region 38 with (first
    | (go_at_call 21; refine Calls.mono (hclose_in (hS.below (by go_grown)) (hT.below (by go_grown)) (hap.heap.below (by go_grown)) hF'.out) ?_; rintro e w' ⟨p2, c2, q2, d2, rfl, hh2, hs2, hb⟩; obtain ⟨hc, hf, hb, hz⟩ := bstep hb (w := w2) (by go_grown); try simp only [World.size_alloc, World.size_setCell, World.size_drew] at hc hf hz)
          )
          have hap' := (hap.below hb).put hh2 (form_close hap.form _) hs2 (fun g hg => by have := (hap.rowA.lt g hg).2; first | omega | (simp; omega)) (fun g hg => by have := (hap.rowS.lt g hg).2; first | omega | (simp; omega)) (by have := hap.box.1; first | omega | (simp; omega))
          have hbS := below_stores (bjoin hb hbw) hbB (.slice p2 n1 c2) (.slice q2 m1' d2) (.bool false)
          have hld' := hld.close (f i.toNat).a
          clear hb hc hf hz hh2 hs2 hap hld x0 x1 x2 z0 z1 z2
          generalize (((w'.setCell ⟨B, 0, none⟩ (.slice p2 n1 c2)).setCell ⟨B, 1, none⟩ (.slice q2 m1' d2)).setCell ⟨B, 2, none⟩ (.bool false)) = w3 at hap' hbS ⊢
          have hS3 := hS0.below hbS
          have hT3 := hT0.below hbS
          have hF3 := hap'.form
          have k_ := hap'.box
          obtain ⟨l6, x0, x1, x2, -, -, -⟩ := k_
          go_wp2_with (first
    | (go_at_call 13; refine Calls.mono (hform_in (hS3.below (by go_grown)) (hT3.below (by go_grown)) (hap'.heap.below (by go_grown))) ?_; rintro e w' ⟨rfl, hb⟩; obtain ⟨hc, hf, hb, hz⟩ := bstep hb (w := w3) (by go_grown); try simp only [World.size_alloc, World.size_setCell, World.size_drew] at hc hf hz)
          )
          go_roundg ((n : Int) - (i + 1)).toNat
          case measure => omega
          case rel => exact ⟨i + 1, _, _, _, _, _, _, by omega, by omega, rfl, by go_num, by omega, hld', hap'.below hb, bjoin hb hbS⟩
        · generalize (f i.toNat).k = kk at *
          go_upto_region 38 with fail
          have hap' := hap
          have hld' := hld
          have hbS := hbw
          clear hap hld x0 x1 x2 z0 z1 z2 l6
          generalize w2 = w3 at hap' hbS ⊢
          have hS3 := hS0.below hbS
          have hT3 := hT0.below hbS
          have hF3 := hap'.form
          have k_ := hap'.box
          obtain ⟨l6, x0, x1, x2, -, -, -⟩ := k_
          go_wp2_with (first
    | (go_at_call 13; refine Calls.mono (hform_in (hS3.below (by go_grown)) (hT3.below (by go_grown)) (hap'.heap.below (by go_grown))) ?_; rintro e w' ⟨rfl, hb⟩; obtain ⟨hc, hf, hb, hz⟩ := bstep hb (w := w3) (by go_grown); try simp only [World.size_alloc, World.size_setCell, World.size_drew] at hc hf hz)
          )
          go_roundg ((n : Int) - (i + 1)).toNat
          case measure => omega
          case rel => exact ⟨i + 1, _, _, _, _, _, _, by omega, by omega, rfl, by go_num, by omega, hld', hap'.below hb, bjoin hb hbS⟩
      · obtain rfl : i = (n : Int) := by omega
        have hrA := hap.rowA
        have hrS := hap.rowS
        obtain ⟨l, hll⟩ : ∃ l, l = L.length := ⟨_, rfl⟩
        rw [List.length_map, ← hll] at hrA hrS
        have hl1 : l ≤ 100 := by omega
        have hll' : Hid (l = L.length) := hll
        clear hll
        obtain ⟨pa, ca, rfl, -⟩ := owned_new hrA
        obtain ⟨ps, cs', rfl, -⟩ := owned_new hrS
        obtain ⟨i0, hi0, hz0, hz1, hz2⟩ := info_parts infoN
        have hK : 32 * K = ((32 * K.toNat : Nat) : Int) := by omega
        have hK' : 32 * K.toNat ≤ 512 := by omega
        have hN' := hN.out
        generalize 32 * K.toNat = N at hK hK' hN'
        subst hN'
        have hnH : Hid (n1 = H.n) := hap.heap.n_eq
        go_upto_region 41 with (first
          | (at_make; refine wpList_make_full _ rfl (.tmp 157) (.tmp 157) 43 rfl wr.heap.size 3 i0 (.int .i64 0) 1 Tryd.underlying43 hi0 hz0 hz1 _ _ _ _ n1 rfl rfl rfl rfl (by rw [hz2]; omega) (by simp only [maxLen]; omega) (Nat.le_refl _) ?_; intro w4 hown hgrow)
        )
        have hm : (madeCells (Value.int IntKind.i64 0).cells (n1 * 1)).toList = vals .i64 n1 (fun _ => 0) := by rw [Nat.mul_one, ← vals_const]; exact toList_madeCells_one _ _
        rw [hm] at hown
        have row := rowAt_owned hown
        have hB4 : Below wr.heap.size wr w4 := (Below.refl _ _).grown hgrow (Nat.le_refl _) (by simp)
        have hCl := (hap.heap.lower hap.form).clear (Nat.le_refl _)
        have hgA : ∀ g, (Value.slice pa l ca).ownBlock = some g → g < wr.heap.size := fun g hg => (hrA.lt g hg).2
        have hgS : ∀ g, (Value.slice ps l cs').ownBlock = some g → g < wr.heap.size := fun g hg => (hrS.lt g hg).2
        have hBg := hap.box.1
        have hF' : Hid (formB H = true) := hap.form
        have hhp := hap.heap.below hB4
        have hbx := hap.box.below hB4
        replace hrA := owned_below hrA hB4
        replace hrS := owned_below hrS hB4
        have hbW := bjoin hB4 hbw
        have hwg : w.heap.size ≤ wr.heap.size := hbw.size
        rw [← mark_start] at row
        clear hm hown hgrow hap hbw hB4 hS hT hK
        generalize wr.heap.size = G at *
        go_wp2
        go_loopg [21, 22] l (fun gg tv jv wr => ∃ j : Nat, j ≤ l ∧ gg = l - j ∧ jv = .int .i64 j ∧ tv = .int .i64 (((L.take j).map Prod.snd).sum) ∧ RowAt .i64 3 wr G n1 (markZ (L.take j) 0 0) ∧ HpIn wr p' n1 c' q' m1' d' false H ∧ Box3 B (.slice p' n1 c') (.slice q' m1' d') (.bool false) wr ∧ wr.ownsRow (B + 1) 3 1 (.slice pa l ca) l (i64s (L.map Prod.fst)) ∧ wr.ownsRow (B + 1) 3 1 (.slice ps l cs') l (i64s (L.map Prod.snd)) ∧ Below w.heap.size w wr)
        case atStart => exact ⟨0, by omega, by omega, rfl, by simp, by simpa using row, hhp, hbx, hrA, hrS, hbW⟩
        case round =>
          clear row hhp hbx hrA hrS hbW
          obtain ⟨j, jh, rfl, rfl, rfl, row, hhp, hbx, hrA, hrS, hbw⟩ := hrel
          by_cases hj : j < l
          · obtain ⟨e, he⟩ : ∃ e, L[j]? = some e := ⟨L[j]'(by have := hll'.out; omega), List.getElem?_eq_getElem _⟩
            have hem : e ∈ L := List.mem_of_getElem? he
            obtain ⟨a, s⟩ := e
            obtain ⟨a0, a1, s0, s1⟩ := hld.small hem
            simp only [] at a0 a1 s0 s1
            rw [← hnH.out] at a1
            have hsm := sums_bound (L.take j) fun x hx => by
              have := hld.small (List.mem_of_mem_take hx); omega
            have hsm2 : ((L.take j).length : Int) ≤ 100 := by simp; omega
            obtain ⟨hnx, hsn⟩ := sums_next he
            simp only [] at hsn
            generalize hT0 : ((L.take j).map Prod.snd).sum = T at *
            obtain ⟨t0', t1'⟩ := hsm
            have hxk : (i64s (L.map Prod.fst))[j]? = some (.int .i64 a) := by simp [i64s, he]
            have hyk : (i64s (L.map Prod.snd))[j]? = some (.int .i64 s) := by simp [i64s, he]
            rcases hrA.2 with ⟨-, h0⟩ | ⟨ga, capA, cur, hv, -, -⟩
            · omega
            rcases hrS.2 with ⟨-, h0⟩ | ⟨gs, capS, cur', hv', -, -⟩
            · omega
            injection hv with hv1 hv2 hv3
            injection hv' with hv1' hv2' hv3'
            subst hv1 hv3 hv1' hv3'
            have lga := hgA ga rfl
            have lgs := hgS gs rfl
            have vA := (hrA.cellAt j (by omega)).trans hxk
            have vS := (hrS.cellAt j (by omega)).trans hyk
            go_upto_region 46 with fail
            clear vA vS
            go_wp2
            go_loopg [23] s.toNat (fun gg kv wr => ∃ k : Int, 0 ≤ k ∧ k ≤ s ∧ gg = (s - k).toNat ∧ kv = .int .i64 k ∧ RowAt .i64 3 wr G n1 (markZ (L.take j) a k) ∧ HpIn wr p' n1 c' q' m1' d' false H ∧ Box3 B (.slice p' n1 c') (.slice q' m1' d') (.bool false) wr ∧ wr.ownsRow (B + 1) 3 1 (.slice (some ⟨ga, 0, none⟩) l ca) l (i64s (L.map Prod.fst)) ∧ wr.ownsRow (B + 1) 3 1 (.slice (some ⟨gs, 0, none⟩) l cs') l (i64s (L.map Prod.snd)) ∧ Below w.heap.size w wr)
            case atStart => exact ⟨0, by omega, by omega, by omega, rfl, by rw [mark_none _ a 0]; exact row, hhp, hbx, hrA, hrS, hbw⟩
            case round =>
              clear row hhp hbx hrA hrS hbw
              obtain ⟨k, kl, kh, rfl, rfl, row, hhp, hbx, hrA, hrS, hbw⟩ := hrel
              have vA := (hrA.cellAt j (by omega)).trans hxk
              have vS := (hrS.cellAt j (by omega)).trans hyk
              have mA := (hrA.lt ga rfl).2
              have mS := (hrS.lt gs rfl).2
              have k_ := hbx
              obtain ⟨l6, x0, x1, x2, -, -, -⟩ := k_
              by_cases hk : k < s
              · have vG := row.cell (i := (a + k).toNat) (by omega)
                rw [mark_zero hld he kl hk] at vG
                have fG := row.frozen (a + k).toNat
                have mG := row.lt
                have hrow2 := row_put row (i := a + k) (by omega) 1
                clear hrow2
                obtain ⟨bw, ow, rfl, lbw, hw⟩ := hhp.word (by omega)
                have vW := hw (a + k) (by omega) (by omega)
                have htl := hld.tail _ hem k
                clear hw
                have hak : a + k < (n1 : Int) := by omega
                have hdc : decide ((n1 : Int) ≤ a + k) = false := by simp; omega
                by_cases hk0 : k = 0
                · subst hk0
                  rw [Int.add_zero] at vG fG hak hdc
                  have hdk : decide ((0 : Int) < 0) = false := rfl
                  clear htl vW
                  go_upto_region 49 with fail
                  refine wp_region_plus (by kernel_rfl) (by kernel_rfl) fun hpc => ?_
                  repeat (first | go_big_quiet_step (fail) | quiet_step (fail))
                  refine wpQuiet_nil ?_
                  intro w' hbq
                  clear hpc
                  obtain ⟨hc, hf, hb, hz⟩ := bstep hbq (w := wr) (by go_grown)
                  try simp only [World.size_alloc, World.size_setCell, World.size_drew] at hc hf hz
                  go_wp2
                  have hrow2 := row_put (row.below hb) (i := a + 0) (by omega) 1
                  rw [mark_next _ _ _ (by omega)] at hrow2
                  rw [Int.add_zero] at hrow2
                  go_roundg (s - (0 + 1)).toNat
                  case measure => omega
                  case rel => exact ⟨0 + 1, by omega, by omega, rfl, by go_num, hrow2, (hhp.below hb).setCell hCl _ _, (hbx.below hb).other (by omega) _ _, owned_setCell (owned_below hrA hb) (fun e => by simp [Value.ownBlock] at e; omega) _ _, owned_setCell (owned_below hrS hb) (fun e => by simp [Value.ownBlock] at e; omega) _ _, (bjoin hb hbw).setCell hwg _⟩
                · have h0k : 0 < k := by omega
                  rw [htl h0k hk] at vW
                  have hdk : decide (0 < k) = true := by simp; omega
                  clear htl hk0
                  go_upto_region 49 with fail
                  refine wp_region_plus (by kernel_rfl) (by kernel_rfl) fun hpc => ?_
                  repeat (first | go_big_quiet_step (fail) | quiet_step (fail))
                  refine wpQuiet_nil ?_
                  intro w' hbq
                  clear hpc
                  obtain ⟨hc, hf, hb, hz⟩ := bstep hbq (w := wr) (by go_grown)
                  try simp only [World.size_alloc, World.size_setCell, World.size_drew] at hc hf hz
                  go_wp2
                  have hrow2 := row_put (row.below hb) (i := a + k) (by omega) 1
                  rw [mark_next _ _ _ (by omega)] at hrow2
                  go_roundg (s - (k + 1)).toNat
                  case measure => omega
                  case rel => exact ⟨k + 1, by omega, by omega, rfl, by go_num, hrow2, (hhp.below hb).setCell hCl _ _, (hbx.below hb).other (by omega) _ _, owned_setCell (owned_below hrA hb) (fun e => by simp [Value.ownBlock] at e; omega) _ _, owned_setCell (owned_below hrS hb) (fun e => by simp [Value.ownBlock] at e; omega) _ _, (bjoin hb hbw).setCell hwg _⟩
              · obtain rfl : k = s := by omega
                go_upto_region 52 with fail
                obtain ⟨X, K, C, F, hzX, X0, X1, g0, g1, g2, g3, hKs⟩ := mark_head hld hem
                simp only [] at hzX hKs
                obtain ⟨bw, ow, rfl, lbw, hw⟩ := hhp.word (by omega)
                have vW := hw a (by omega) (by omega)
                rw [hzX] at vW
                have hG := rhget_any X
                rw [g0, g1, g2, g3] at hG
                simp only [Bool.true_or] at hG
                clear hw g0 g1 g2 g3 hzX x0 x1 x2 l6
                refine wp_got_row (by kernel_rfl) (by simp) hbx hj vA mA a0 (show a < (n1 : Int) by omega) hK' hl1 vW lbw (fun W => hG W (by omega) (by omega)) rfl rfl rfl ?_
                intro y0 y1 y2 y3 y4 y5 y6 y7 y8 y9 y10 y11 g w6 hg g4 hb6
                simp only [puts, Act.put]
                replace row := row.below hb6
                rw [mark_whole (L.take j) (a, k) 0, ← hnx] at row
                replace hhp := hhp.below hb6
                replace hbx := hbx.below hb6
                replace hrA := owned_below hrA hb6
                replace hrS := owned_below hrS hb6
                replace hbw := bjoin hb6 hbw
                have vS := (hrS.cellAt j (by omega)).trans hyk
                have mS := (hrS.lt gs rfl).2
                obtain ⟨l4, z0, z1, z2, z3, -, -, -, -⟩ := g4
                clear hb6 vA vW lbw hG mA
                obtain ⟨K0, K1, hKs⟩ := hKs
                have hsh : wrap64 (2 * 2 ^ K.toNat) = k := by rw [hKs]; exact shl_class K0 K1
                clear hKs
                go_upto_region 53 with fail
                refine wp_region_plus (by kernel_rfl) (by kernel_rfl) fun hpc => ?_
                repeat (first | go_big_quiet_step (fail) | quiet_step (fail))
                refine wpQuiet_nil ?_
                intro w' hbq
                clear hpc
                obtain ⟨hc, hf, hb, hz⟩ := bstep hbq (w := w6) (by go_grown)
                try simp only [World.size_alloc, World.size_setCell, World.size_drew] at hc hf hz
                go_wp2
                go_roundg (l - (j + 1))
                case measure => omega
                case rel => exact ⟨j + 1, by omega, rfl, by go_num, by rw [hsn], row.below hb, hhp.below hb, hbx.below hb, owned_below hrA hb, owned_below hrS hb, bjoin hb hbw⟩
          · have hjl : j = l := by omega
            subst hjl
            have hLt : L.take j = L := by rw [hll'.out, List.take_length]
            rw [hLt] at row ⊢
            have hsum : usH H = (L.map Prod.snd).sum := hld.sum
            have hn32 := form_iff.1 hF'.out
            have hn0 : 0 < n1 := by have := hnH.out; omega
            clear hn32
            generalize wr = w7 at *
            have mG := row.lt
            obtain ⟨bw, ow, rfl, lbw, hw⟩ := hhp.word hn0
            obtain ⟨l6, x0, x1, x2, -, -, -⟩ := id hbx
            go_wp2
            go_loopg [26] n1 (fun gg iv wx => ∃ i : Nat, i ≤ n1 ∧ gg = n1 - i ∧ iv = .int .i64 i ∧ wx = w7)
            case atStart => exact ⟨0, by omega, by omega, rfl, rfl⟩
            case round =>
              obtain ⟨i, ih, rfl, rfl, rfl⟩ := hrel
              by_cases hi : i < n1
              · have vG := row.cell (i := i) hi
                have vW := hw i (by omega) (by omega)
                have hzr := mark_rest hld (i := i) (by have := hnH.out; omega)
                by_cases hm : markZ L 0 0 i = 0
                · rw [Int.toNat_natCast, hzr hm] at vW
                  rw [hm] at vG
                  clear hzr hw hm
                  go_wp2
                  go_roundg (n1 - (i + 1))
                  case measure => omega
                  case rel => exact ⟨i + 1, by omega, rfl, by go_num, rfl⟩
                · have h1 : markZ L 0 0 i = 1 := by
                    unfold markZ at hm ⊢
                    split
                    · rfl
                    · rename_i h
                      rw [if_neg h] at hm
                      exact absurd rfl hm
                  rw [h1] at vG
                  clear hzr hw hm h1 vW
                  go_wp2
                  go_roundg (n1 - (i + 1))
                  case measure => omega
                  case rel => exact ⟨i + 1, by omega, rfl, by go_num, rfl⟩
              · obtain rfl : i = n1 := by omega
                rw [← hsum]
                have hU := hused_in (hS0.below hbw) (hT0.below hbw) hhp hF'.out
                clear hw hsum
                go_wp2_with (first
    | (go_at_call 17; refine Calls.mono (hU) ?_; rintro e w' ⟨rfl, hb⟩; obtain ⟨hc, hf, hb, hz⟩ := bstep hb (w := wr) (by go_grown); try simp only [World.size_alloc, World.size_setCell, World.size_drew] at hc hf hz)
                )
                go_returns
                exact ⟨ret_bool (by simp), bjoin hb hbw⟩
  · have d0 : decide (100 < (n : Int)) = true := by simp; omega
    go_enter Tryd.func5, Tryd.ntmps5
    go_wp2_with (first
    | (go_at_call 9; refine Calls.mono (awake_any _ (hS.below (by go_grown)) (hT.below (by go_grown))) ?_; rintro e w' ⟨rfl, hb⟩; obtain ⟨hc, hf, hb, hz⟩ := bstep hb (w := w) (by go_grown); try simp only [World.size_alloc, World.size_setCell, World.size_drew] at hc hf hz)
    )
    go_returns
    exact ⟨rfl, by go_grown⟩
end Go.Proofs.YtjlflbaglaillaaDoor
