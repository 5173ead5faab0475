/- RootsStack: whatever is pushed is found in its slot, counted from the bottom, and popped from the top. No condition. -/
import Derived.Test.YtcackfimcpheoaaRows
import Derived.Test.YtcackfimcpheoaaAwake14
namespace Go.Proofs.Ytcackfimcpheoaa
set_option linter.unusedSimpArgs false
set_option linter.unusedVariables false
open Go.ChangeShapes Go.WideShapes Go.ChangeAt Go.RowKit Go.Joins

/-- Push, of the first `min j K` values of a list: one more, as long as there is room. -/
theorem lvpush_any (K j m : Nat) (p : Option Addr) (c : Nat) (z : Nat → Vl) (w : World) (hK : K ≤ 255) (hj : j < m) (hy : ∀ i, i < m → (z i).wf) (N N2 : Nat) (hN : min j K = N) (hN2 : min (j + 1) K = N2) (E : Int) (hE : (if (j : Int) < K then 0 else 5 : Int) = E) (hz : VAt w p c N z) :
    Calls Try.prog 8 #[.slice p N c, .int .i64 K, (z j).agg] w fun e w' => ∃ p' c', e = .returned (.tuple #[.slice p' N2 c', .int .i64 E]) ∧ VAt w' p' c' N2 z ∧ Below w.heap.size w w' := by
  have hp := vpush_any K (z j) p N c z w hz (by omega) (hy j hj)
  have hB : vpB N K = decide (j < K) := by unfold vpB; simp; omega
  have e2 : vpN N K = N2 := by
    unfold vpN; rw [hB]
    by_cases hk : j < K
    · rw [if_pos (by simpa using hk)]; omega
    · rw [if_neg (by simpa using hk)]; omega
  have e3 : vpE N K = E := by
    rw [← hE]; unfold vpE; rw [hB]
    by_cases hk : j < K
    · rw [if_pos (by simpa using hk), if_pos (by omega)]
    · rw [if_neg (by simpa using hk), if_neg (by omega)]
  have e4 : vpZ N K z (z j) = z := by
    unfold vpZ; rw [hB]
    by_cases hk : j < K
    · rw [if_pos (by simpa using hk)]
      funext i
      unfold pvZ
      by_cases hi : i = N
      · rw [if_pos hi, hi, show N = j by omega]
      · rw [if_neg hi]
    · rw [if_neg (by simpa using hk)]
  rw [e2, e3, e4] at hp
  refine Calls.mono hp ?_
  rintro e w' ⟨p', c', rfl, hA, -, hb⟩
  exact ⟨p', c', rfl, hA, hb⟩
set_option maxHeartbeats 16000000 in
set_option maxRecDepth 20000 in
theorem stack14_walk (p : Option Addr) (n c : Nat) (z : Nat → Vl) (a : Int) (w : World) (hA : VAt w p c n z) (ha0 : 0 ≤ a) (ha1 : a ≤ 255) :
    Calls Try.prog 4 #[.slice p n c, .int .u8 a] w fun e w' => e = .returned (.bool true) ∧ Below w.heap.size w w' := by
  have hnm := hA.nle
  simp only [maxLen] at hnm
  by_cases hbig : 100 < n
  · have d0 : decide (100 < (n : Int)) = true := by simp; omega
    go_enter Try.func4, Try.ntmps4
    go_wp2_with (first
    | (go_at_call 7; refine Calls.mono (awake14_any _) ?_; rintro e w' ⟨rfl, hb⟩; obtain ⟨hc, hf, hb, hz⟩ := bstep hb (w := w) (by go_grown); try simp only [World.size_alloc, World.size_setCell, World.size_drew] at hc hf hz)
    )
    go_returns
    first | exact ⟨rfl, hb⟩ | exact ⟨ret_bool (by simp), hb⟩ | exact ⟨rfl, by go_grown⟩
  · have d0 : decide (100 < (n : Int)) = false := by simp; omega
    obtain ⟨K, rfl⟩ : ∃ K : Nat, a = K := ⟨a.toNat, by omega⟩
    have hK : K ≤ 255 := by omega
    have hwf := hA.row.wf
    go_enter Try.func4, Try.ntmps4
    go_upto_region 3 with (first
    | (go_at_call 7; refine Calls.mono (awake14_any _) ?_; rintro e w' ⟨rfl, hb⟩; obtain ⟨hc, hf, hb, hz⟩ := bstep hb (w := w) (by go_grown); try simp only [World.size_alloc, World.size_setCell, World.size_drew] at hc hf hz)
    )
    replace hA := hA.below hb
    have hb0 := hb
    clear hb hc hf hz
    generalize w' = w1 at *
    go_wp2
    go_loopg [5, 6] n (fun mm sv jv wr => ∃ j : Nat, j ≤ n ∧ mm = n - j ∧ jv = .int .i64 j ∧ (∃ N q d, min j K = N ∧ sv = .slice q N d ∧ VAt wr q d N z) ∧ Below w1.heap.size w1 wr)
    case atStart => exact ⟨0, by omega, by omega, rfl, ⟨0, none, 0, by omega, rfl, va_nil _ _⟩, Below.refl _ _⟩
    case round =>
      obtain ⟨j, jh, rfl, rfl, ⟨N, q, d, hN, rfl, hB⟩, hbr⟩ := hrel
      by_cases hj : j < n
      · have hP := lvpush_any K j n q d z wr hK hj hwf N _ hN rfl _ rfl hB
        generalize hN2 : min (j + 1) K = N2 at hP
        generalize hE : (if (j : Int) < K then 0 else 5 : Int) = E at hP
        obtain ⟨⟨b, off, rfl, hl, v0, v1⟩, -⟩ := (hA.row.below hbr) j hj
        unfold Vl.agg at hP
        have hjn : (j : Int) < n := by omega
        generalize z j = V at hP v0 v1
        obtain ⟨V0, V1⟩ := V
        dsimp only at *
        go_upto_region 8 with (first
          | (go_at_call 8; refine Calls.mono hP ?_; rintro e w2 ⟨p', c', rfl, hC, hb2⟩)
        )
        have hbw := bjoin hb2 hbr
        clear hP hB hb2 v0 v1 hl hbr
        by_cases hlt : (j : Int) < K
        case' pos => obtain rfl : E = 0 := by rw [← hE, if_pos hlt]
        case' neg => obtain rfl : E = 5 := by rw [← hE, if_neg hlt]
        all_goals
          clear hE
          go_wp2
          go_roundg (n - (j + 1))
          case measure => omega
          case rel => exact ⟨j + 1, by omega, rfl, by go_num, ⟨N2, p', c', hN2, rfl, hC⟩, hbw⟩
      · obtain rfl : j = n := by omega
        have hNj : N ≤ j := by omega
        have hbW := bjoin hbr hb0
        replace hA := hA.below hbr
        clear hbr hb0
        generalize wr = w2 at *
        by_cases hKm : (j : Int) ≤ K
        case' pos => have hNe : Hid (N = j) := by show _ = _; omega
        case' neg => have hNe : Hid (N = K) := by show _ = _; omega
        all_goals
          clear hN
          go_upto_region 12 with fail
          go_wp2
          go_loopg [10] N (fun mm v wr => ∃ i : Nat, i ≤ N ∧ mm = N - i ∧ v = .int .i64 i ∧ Below w2.heap.size w2 wr)
          case atStart => exact ⟨0, by omega, by omega, rfl, Below.refl _ _⟩
          case round =>
            obtain ⟨i, ih, rfl, rfl, hbr⟩ := hrel
            by_cases hi : i < N
            · have hS := vslot_any q N d z (i : Int) wr (hB.below hbr)
              rw [show vsX N z (i : Int) = z i from by unfold vsX; rw [if_pos (by omega)]; rfl, show vsE N (i : Int) = 0 from by unfold vsE; rw [if_pos (by omega)]] at hS
              obtain ⟨⟨b, off, rfl, hl, v0, v1⟩, -⟩ := (hA.row.below hbr) i (by omega)
              unfold Vl.agg at hS
              have hin : (i : Int) < j := by omega
              generalize z i = V at hS v0 v1
              obtain ⟨V0, V1⟩ := V
              dsimp only at *
              have hi2 := hi
              rw [hNe.out] at hi2
              go_upto_region 16 with (first
                | (go_at_call 12; refine Calls.mono hS ?_; rintro e w3 ⟨rfl, hb3⟩)
              )
              obtain ⟨w4, hw4⟩ : ∃ W, W = w3.alloc (.cells #[.int .i64 V0, .int .i64 V1] 24) := ⟨_, rfl⟩
              have gX : TBox 24 w3.heap.size #[.int .i64 V0, .int .i64 V1] w4 := by rw [hw4]; exact TBox.new _ _ _
              have hb4 : Below w3.heap.size w3 w4 := by rw [hw4]; exact (Below.refl _ _).alloc (Nat.le_refl _) _
              rw [← hw4]
              clear hw4
              replace hb4 := bjoin hb4 hb3
              have lX := gX.lt
              have x0 : w4.cell? ⟨w3.heap.size, 0, none⟩ = some (.int .i64 V0) := gX.cell 0
              have x1 : w4.cell? ⟨w3.heap.size, 1, none⟩ = some (.int .i64 V1) := gX.cell 1
              replace v0 := (hb4.cell (p := ⟨b, off + i * 2, none⟩) hl).trans v0
              replace v1 := (hb4.cell (p := ⟨b, off + i * 2 + 1, none⟩) hl).trans v1
              replace hbr := bjoin hb4 hbr
              have hl4 : b < w4.heap.size := Nat.lt_of_lt_of_le hl hb4.size
              clear hb3 hb4 gX hS hl
              generalize w3.heap.size = BX at *
              go_upto_region 16 with fail
              go_quiet (fail)
              go_wp2
              go_roundg (N - (i + 1))
              case measure => omega
              case rel => exact ⟨i + 1, by omega, rfl, by go_num, hbr.trans ⟨rfl, rfl, rfl, Nat.le_refl _, fun _ _ => rfl⟩⟩
            · have hi2 := hi
              rw [hNe.out] at hi2
              obtain rfl : i = N := by omega
              have hbW3 := bjoin hbr hbW
              replace hA := hA.below hbr
              replace hB := hB.below hbr
              clear hbr hbW
              go_upto_region 18 with fail
              generalize wr = w3 at *
              go_wp2
              go_loopg [5, 13] i (fun mm sv v wr => ∃ k : Int, -1 ≤ k ∧ k < i ∧ mm = (k + 1).toNat ∧ v = .int .i64 k ∧ (∃ (q : Option Addr) (d n : Nat), (n : Int) = k + 1 ∧ sv = .slice q n d ∧ VAt wr q d n z) ∧ Below w3.heap.size w3 wr)
              case atStart => exact ⟨(i : Int) - 1, by omega, by omega, by omega, by rw [hNe.out], ⟨q, d, i, by omega, rfl, hB⟩, Below.refl _ _⟩
              case round =>
                clear hB hNe
                obtain ⟨k, kl, kh, rfl, rfl, ⟨q2, d2, n2, hn2, rfl, hB⟩, hbr⟩ := hrel
                by_cases hk : 0 ≤ k
                · obtain ⟨m, rfl⟩ : ∃ m : Nat, k = m := ⟨k.toNat, by omega⟩
                  obtain rfl : n2 = m + 1 := by omega
                  have hQ := vpop_any q2 (m + 1) d2 z wr hB (by omega)
                  rw [show vqX (m + 1) z = z m from by unfold vqX; rw [if_neg (by omega)]; rfl, show vqE (m + 1) = 0 from by unfold vqE; rw [if_neg (by omega)], show m + 1 - 1 = m from rfl] at hQ
                  obtain ⟨⟨b, off, rfl, hl, v0, v1⟩, -⟩ := (hA.row.below hbr) m (by omega)
                  unfold Vl.agg at hQ
                  have hmj : (m : Int) < j := by omega
                  generalize z m = V at hQ v0 v1
                  obtain ⟨V0, V1⟩ := V
                  dsimp only at *
                  go_upto_region 22 with (first
                    | (go_at_call 10; refine Calls.mono hQ ?_; rintro e w4 ⟨p4, c4, rfl, hC, -, hb4⟩)
                  )
                  obtain ⟨w5, hw5⟩ : ∃ W, W = w4.alloc (.cells #[.int .i64 V0, .int .i64 V1] 24) := ⟨_, rfl⟩
                  have gX : TBox 24 w4.heap.size #[.int .i64 V0, .int .i64 V1] w5 := by rw [hw5]; exact TBox.new _ _ _
                  have hb5 : Below w4.heap.size w4 w5 := by rw [hw5]; exact (Below.refl _ _).alloc (Nat.le_refl _) _
                  rw [← hw5]
                  clear hw5
                  replace hC := hC.below hb5
                  replace hb5 := bjoin hb5 hb4
                  have lX := gX.lt
                  have x0 : w5.cell? ⟨w4.heap.size, 0, none⟩ = some (.int .i64 V0) := gX.cell 0
                  have x1 : w5.cell? ⟨w4.heap.size, 1, none⟩ = some (.int .i64 V1) := gX.cell 1
                  replace v0 := (hb5.cell (p := ⟨b, off + m * 2, none⟩) hl).trans v0
                  replace v1 := (hb5.cell (p := ⟨b, off + m * 2 + 1, none⟩) hl).trans v1
                  replace hbr := bjoin hb5 hbr
                  have hl4 : b < w5.heap.size := Nat.lt_of_lt_of_le hl hb5.size
                  clear hb4 hb5 gX hQ hl hB
                  generalize w4.heap.size = BX at *
                  go_quiet (fail)
                  go_wp2
                  go_roundg ((m : Int) - 1 + 1).toNat
                  case measure => omega
                  case rel => exact ⟨(m : Int) - 1, by omega, by omega, rfl, by go_num, ⟨p4, c4, m, by omega, rfl, hC.below ⟨rfl, rfl, rfl, Nat.le_refl _, fun _ _ => rfl⟩⟩, hbr.trans ⟨rfl, rfl, rfl, Nat.le_refl _, fun _ _ => rfl⟩⟩
                · obtain rfl : k = -1 := by omega
                  obtain rfl : n2 = 0 := by omega
                  have hQ := vpop_any q2 0 d2 z wr hB (by omega)
                  rw [show vqX 0 z = ⟨0, 0⟩ from by unfold vqX; rw [if_pos rfl], show vqE 0 = 3 from by unfold vqE; rw [if_pos rfl]] at hQ
                  unfold Vl.agg at hQ
                  go_wp2_with (first
                    | (go_at_call 10; refine Calls.mono hQ ?_; rintro e w4 ⟨p4, c4, rfl, hC, -, hb4⟩)
                  )
                  go_returns
                  exact ⟨rfl, bjoin ((Below.refl w4.heap.size w4).alloc (Nat.le_refl _) _) (bjoin hb4 (bjoin hbr hbW3))⟩
namespace RootsStack
theorem own : ownKnob Try.prog.godebug = none := by kernel_rfl
set_option maxRecDepth 100000 in
theorem lifted (os : Os) (started : os.Started) (H : Type) (enc : TypeId × Value → H) :
    ReturnsInHanded {} Try.checked os 4 .any (Rows.rootsStackSpec.pre6 enc Try.prog Try.f4 Rows.rootsStackRow.domain false) (Rows.rootsStackSpec.post enc Try.prog Try.f4 false true false false) := by
  refine law_lifted (C := Try.checked) own started (by kernel_rfl) Try.func4 (by kernel_rfl) (of_decide_eq_true (by kernel_rfl)) rfl
    (fun ds hd => by have hd' : ds.length = 2 := hd; match ds, hd' with | [d0, d1], _ => rfl) rfl Try.underlying4
    (ChangeSpec.witness6 (enc := enc) (C := Try.checked) false ⟨#[], #[.slice none 0 0, .int .u8 0], []⟩ 8 (by kernel_rfl) (by kernel_rfl) (by kernel_rfl) (by kernel_rfl)) ?_
  intro W base args ds p hval hA hlt
  rw [Try.params4] at hA hval
  obtain ⟨v0, v1, d0, d1, p0, p1, rfl, rfl, rfl, h0, h1⟩ := trodAll_two hA
  obtain ⟨q0, n0, cap0, z0, rfl, hv0⟩ := open_vals Try.underlying22 Try.underlying24 (by kernel_rfl) (by kernel_rfl) (by kernel_rfl) (by kernel_rfl) (hval 0 22 v0 rfl rfl) h0
  obtain ⟨a1, rfl, ha1⟩ := open_u8 Try.underlying5 (hval 1 5 v1 rfl rfl) h1
  exact stack14_walk q0 n0 cap0 z0 a1 W hv0 (by omega) (by omega)

/-- The statement. -/
theorem holds : Rows.RootsStackSaid :=
  OpenClaim.holds_of_wide 4 Try.f4 rfl rfl rfl rfl rfl rfl rfl ⟨rfl, rfl, rfl, rfl, rfl⟩ rfl rfl rfl rfl rfl (by kernel_rfl) Try.func4 (by kernel_rfl)
    (of_decide_eq_true (by kernel_rfl)) (by unfold Func.isWrapper; first | (rw [if_pos (by decide +kernel)]; kernel_rfl) | (rw [if_neg (by decide +kernel)]; exact ⟨rfl, rfl⟩))
    (fun os started H enc _ => lifted os started H enc)
#print axioms holds
end RootsStack
end Go.Proofs.Ytcackfimcpheoaa
