/- Contracts of container/heap over the queue's row (chapter 10). -/
import Derived.Test.YtneanbagdkeoiaaDoorQueue
import Derived.Deep.Cut
namespace Go.Proofs.YtneanbagdkeoiaaDoor
set_option linter.unusedSimpArgs false
set_option linter.unusedVariables false
open Go.ChangeShapes Go.WideShapes Go.ChangeAt Go.RowKit Go.Joins

theorem Aside.eqv {T T' : Nat → Prop} {W W' : World} (h : Aside T W W') (e : ∀ k, T k → T' k) : Aside T' W W' := ⟨h.os, h.tape, h.output, h.size, fun k hk ht => h.block k hk fun t => ht (e k t)⟩
set_option maxHeartbeats 4000000 in
theorem up_any {base B o : Nat} {R : List Int} {v : Value} (j : Int) (w : World) (r : Rw base B o R v w) (j0 : 0 ≤ j) (j1 : j < R.length) (hu : UpAt R j.toNat) :
    Calls Tryd.prog 86 #[.iface 102 (.pointer (some ⟨B, o, none⟩)), .int .i64 j] w fun e w' => e = .returned (.tuple #[]) ∧ ∃ R', Rw base B o R' v w' ∧ R'.Perm R ∧ HeapL R' ∧ Aside (fun k => v.ownBlock = some k) w w' := by
  have hlen := r.len
  go_enter Tryd.func86, Tryd.ntmps86
  go_wp2
  go_loopg [1] j.toNat (fun g jv wr => ∃ (i : Int) (R' : List Int), 0 ≤ i ∧ i < R.length ∧ g = i.toNat ∧ jv = .int .i64 i ∧ UpAt R' i.toNat ∧ R'.Perm R ∧ Rw base B o R' v wr ∧ Aside (fun k => v.ownBlock = some k) w wr)
  case atStart => exact ⟨j, R, j0, j1, rfl, rfl, hu, List.Perm.refl _, r, Aside.of (Below.refl _ _)⟩
  case round =>
    clear r hu j0 j1
    obtain ⟨i, R', i0, i1, rfl, rfl, hu, hp, r, hA⟩ := hrel
    have hl := hp.length_eq
    by_cases hz : i = 0
    · subst hz
      have ht := hu.top
      clear hu i0
      go_upto_region 1 with fail
      go_wp2
      go_returns
      exact ⟨rfl, R', r, hp, ht, hA⟩
    · have q0 : 0 ≤ (i - 1) / 2 := by omega
      have q1 : (i - 1) / 2 < i := by omega
      have q2 : Hid (((i - 1) / 2).toNat = (i.toNat - 1) / 2) := (by omega : ((i - 1) / 2).toNat = (i.toNat - 1) / 2)
      have i1' : 1 ≤ i := by omega
      go_upto_region 1 with fail
      generalize (i - 1) / 2 = q at *
      have hqi : (q == i) = false := by simp; omega
      have hm := m_less B o v wr r.cell
      have hL := qless_any i q wr r i0 (by omega) q0 (by omega)
      have hS := fun (W : World) (hW : Below wr.heap.size wr W) => qswap_any q i W (r.below hW) q0 (by omega) i0 (by omega)
      have hms := fun (W : World) (hW : Below wr.heap.size wr W) => m_swap B o v W (r.below hW).cell
      have hir : i < R'.length := by omega
      by_cases hx : atL R' i.toNat < atL R' q.toNat
      · have hdx : decide (atL R' i.toNat < atL R' q.toNat) = true := by simp [hx]
        rw [hdx] at hL
        have hu2 := hu.step (by omega) (by omega) (by rw [← q2.out]; exact hx)
        rw [← q2.out] at hu2
        go_upto_region 2 with (first
    | (go_at_call 109; refine Calls.mono (hL) ?_; rintro e w' ⟨rfl, hb⟩; obtain ⟨hc, hf, hb, hz⟩ := bstep hb (w := wr) (by go_grown); try simp only [World.size_alloc, World.size_setCell, World.size_drew] at hc hf hz)
        )
        have hm2 := hms w' hb
        have hS2 := hS w' hb
        clear hm hL hS hms
        go_wp2_with (first
          | (go_at_call 110; refine Calls.mono hS2 ?_; rintro e w2 ⟨rfl, r2, hA2⟩)
        )
        go_roundg q.toNat
        case measure => omega
        case rel => exact ⟨q, _, q0, by omega, rfl, rfl, hu2, (swap_perm (by omega) (by omega)).trans hp, r2, (hA.trans (Aside.of hb)).trans hA2⟩
      · have hdx : decide (atL R' i.toNat < atL R' q.toNat) = false := by simp; omega
        rw [hdx] at hL
        have ht := hu.fits (by rw [← q2.out]; omega)
        clear hS hms hu
        go_wp2_with (first
    | (go_at_call 109; refine Calls.mono (hL) ?_; rintro e w' ⟨rfl, hb⟩; obtain ⟨hc, hf, hb, hz⟩ := bstep hb (w := wr) (by go_grown); try simp only [World.size_alloc, World.size_setCell, World.size_drew] at hc hf hz)
        )
        go_returns
        exact ⟨rfl, R', r.below hb, hp, ht, hA.trans (Aside.of hb)⟩
set_option maxRecDepth 20000 in
set_option maxHeartbeats 8000000 in
theorem down_any {base B o : Nat} {R : List Int} {v : Value} (i0 n : Int) (w : World) (r : Rw base B o R v w) (h0 : 0 ≤ i0) (n0 : 0 ≤ n) (hn : n ≤ R.length) (hd : DownAt R i0.toNat n.toNat i0.toNat) (hin : i0 ≤ n) :
    Calls Tryd.prog 85 #[.iface 102 (.pointer (some ⟨B, o, none⟩)), .int .i64 i0, .int .i64 n] w fun e w' => (∃ b, e = .returned (.bool b)) ∧ ∃ R', Rw base B o R' v w' ∧ R'.Perm R ∧ (∀ k, n.toNat ≤ k → atL R' k = atL R k) ∧ HeapFrom R' i0.toNat n.toNat ∧ Aside (fun k => v.ownBlock = some k) w w' := by
  have hlen := r.len
  go_enter Tryd.func85, Tryd.ntmps85
  go_wp2
  go_loopg [7] (n - i0).toNat (fun g jv wr => ∃ (i : Int) (R' : List Int), i0 ≤ i ∧ i ≤ n ∧ g = (n - i).toNat ∧ jv = .int .i64 i ∧ DownAt R' i0.toNat n.toNat i.toNat ∧ R'.Perm R ∧ (∀ k, n.toNat ≤ k → atL R' k = atL R k) ∧ Rw base B o R' v wr ∧ Aside (fun k => v.ownBlock = some k) w wr)
  case atStart => exact ⟨i0, R, Int.le_refl _, hin, rfl, rfl, hd, List.Perm.refl _, fun _ _ => rfl, r, Aside.of (Below.refl _ _)⟩
  case round =>
    clear r hd hin
    obtain ⟨i, R', i1, i2, rfl, rfl, hd, hp, hk, r, hA⟩ := hrel
    have hl := hp.length_eq
    by_cases hz : n ≤ 2 * i + 1
    · have ht := hd.leaf (by omega)
      have dz : decide (n ≤ 2 * i + 1) = true := by simp [hz]
      clear hd
      go_wp2
      go_returns
      exact ⟨⟨_, rfl⟩, R', r, hp, hk, ht, hA⟩
    · have j0 : 0 ≤ 2 * i + 1 := by omega
      have j1 : 2 * i + 1 < n := by omega
      have jh : Hid ((2 * i + 1).toNat = 2 * i.toNat + 1) := (by omega : (2 * i + 1).toNat = 2 * i.toNat + 1)
      have hii : i < 2 * i + 1 := by omega
      go_upto_region 3 with fail
      generalize 2 * i + 1 = j at *
      have dn : decide (n ≤ j) = false := by simp; omega
      have hpar : ∀ k, 0 < k → (k - 1) / 2 = i.toNat → k = j.toNat ∨ k = (j + 1).toNat := fun k k0 k1 => by have := jh.out; omega
      rcases (show j + 1 < n ∧ atL R' (j + 1).toNat < atL R' j.toNat ∨ j + 1 < n ∧ ¬ atL R' (j + 1).toNat < atL R' j.toNat ∨ ¬ j + 1 < n by omega) with ⟨a1, a2⟩ | ⟨a1, a2⟩ | a1
      case' inl =>
        have hm := m_less B o v wr r.cell
        have hL := qless_any (j + 1) j wr r (by omega) (by omega) (by omega) (by omega)
        rw [show decide (atL R' (j + 1).toNat < atL R' j.toNat) = true by simp [a2]] at hL
        go_upto_region 8 with (first
    | (go_at_call 109; refine Calls.mono (hL) ?_; rintro e w' ⟨rfl, hb⟩; obtain ⟨hc, hf, hb, hz⟩ := bstep hb (w := wr) (by go_grown); try simp only [World.size_alloc, World.size_setCell, World.size_drew] at hc hf hz)
        )
        have hmin : ∀ k, 0 < k → k < n.toNat → (k - 1) / 2 = i.toNat → atL R' (j + 1).toNat ≤ atL R' k := fun k k0 k1 k2 => by
          rcases hpar k k0 k2 with rfl | rfl
          · omega
          · exact Int.le_refl _
        have hq : Hid (((j + 1).toNat - 1) / 2 = i.toNat) := (by have := jh.out; omega : ((j + 1).toNat - 1) / 2 = i.toNat)
        have q0 : 0 < j + 1 := by omega
        have q1 : i < j + 1 := by omega
        have r8 := r.below hb
        have hA8 := hA.trans (Aside.of hb)
        clear hm hL hb hc hf hz hpar jh r hA a2 j0 j1 hii dn
        generalize w' = w8 at *
        generalize j + 1 = jj at *
      case' inr.inl =>
        have hm := m_less B o v wr r.cell
        have hL := qless_any (j + 1) j wr r (by omega) (by omega) (by omega) (by omega)
        rw [show decide (atL R' (j + 1).toNat < atL R' j.toNat) = false by simp; omega] at hL
        go_upto_region 8 with (first
    | (go_at_call 109; refine Calls.mono (hL) ?_; rintro e w' ⟨rfl, hb⟩; obtain ⟨hc, hf, hb, hz⟩ := bstep hb (w := wr) (by go_grown); try simp only [World.size_alloc, World.size_setCell, World.size_drew] at hc hf hz)
        )
        have hmin : ∀ k, 0 < k → k < n.toNat → (k - 1) / 2 = i.toNat → atL R' j.toNat ≤ atL R' k := fun k k0 k1 k2 => by
          rcases hpar k k0 k2 with rfl | rfl
          · exact Int.le_refl _
          · omega
        have hq : Hid ((j.toNat - 1) / 2 = i.toNat) := (by have := jh.out; omega : (j.toNat - 1) / 2 = i.toNat)
        have q0 : 0 < j := by omega
        have r8 := r.below hb
        have hA8 := hA.trans (Aside.of hb)
        clear hm hL hb hc hf hz hpar jh r hA a2 a1 j0 dn
        generalize w' = w8 at *
        obtain ⟨jj, hjj⟩ : ∃ jj, jj = j := ⟨_, rfl⟩
        subst hjj
        have a1 := j1
        have q1 := hii
      case' inr.inr =>
        go_upto_region 8 with fail
        have hmin : ∀ k, 0 < k → k < n.toNat → (k - 1) / 2 = i.toNat → atL R' j.toNat ≤ atL R' k := fun k k0 k1 k2 => by
          rcases hpar k k0 k2 with rfl | rfl
          · exact Int.le_refl _
          · omega
        have hq : Hid ((j.toNat - 1) / 2 = i.toNat) := (by have := jh.out; omega : (j.toNat - 1) / 2 = i.toNat)
        have q0 : 0 < j := by omega
        have r8 := r
        have hA8 := hA
        clear hz hpar jh r hA a1 j0 dn
        obtain ⟨w8, hw8⟩ : ∃ w8, w8 = wr := ⟨_, rfl⟩
        subst hw8
        obtain ⟨jj, hjj⟩ : ∃ jj, jj = j := ⟨_, rfl⟩
        subst hjj
        have a1 := j1
        have q1 := hii
      all_goals
        have hm := m_less B o v w8 r8.cell
        have hL := qless_any jj i w8 r8 (by omega) (by omega) (by omega) (by omega)
        by_cases hx : atL R' jj.toNat < atL R' i.toNat
        · have hdx : decide (atL R' jj.toNat < atL R' i.toNat) = true := by simp [hx]
          rw [hdx] at hL
          have hd2 := hd.step (j := jj.toNat) (by omega) (by omega) (by omega) hq.out hmin hx
          have hS := fun (W : World) (hW : Below w8.heap.size w8 W) => qswap_any i jj W (r8.below hW) (by omega) (by omega) (by omega) (by omega)
          have hms := fun (W : World) (hW : Below w8.heap.size w8 W) => m_swap B o v W (r8.below hW).cell
          go_upto_region 9 with (first
    | (go_at_call 109; refine Calls.mono (hL) ?_; rintro e w' ⟨rfl, hb⟩; obtain ⟨hc, hf, hb, hz⟩ := bstep hb (w := w8) (by go_grown); try simp only [World.size_alloc, World.size_setCell, World.size_drew] at hc hf hz)
          )
          have hm2 := hms w' hb
          have hS2 := hS w' hb
          clear hm hL hS hms
          go_wp2_with (first
            | (go_at_call 110; refine Calls.mono hS2 ?_; rintro e w2 ⟨rfl, r2, hA2⟩)
          )
          go_roundg (n - jj).toNat
          case measure => omega
          case rel => exact ⟨jj, _, by omega, by omega, rfl, rfl, hd2, (swap_perm (by omega) (by omega)).trans hp, fun k h => by rw [at_swap (by omega) (by omega), if_neg (by omega), if_neg (by omega)]; exact hk k h, r2, (hA8.trans (Aside.of hb)).trans hA2⟩
        · have hdx : decide (atL R' jj.toNat < atL R' i.toNat) = false := by simp; omega
          rw [hdx] at hL
          have ht := hd.fits (j := jj.toNat) hmin (by omega)
          clear hd hmin
          go_wp2_with (first
    | (go_at_call 109; refine Calls.mono (hL) ?_; rintro e w' ⟨rfl, hb⟩; obtain ⟨hc, hf, hb, hz⟩ := bstep hb (w := w8) (by go_grown); try simp only [World.size_alloc, World.size_setCell, World.size_drew] at hc hf hz)
          )
          go_returns
          exact ⟨⟨_, rfl⟩, R', r8.below hb, hp, hk, ht, hA8.trans (Aside.of hb)⟩
set_option maxHeartbeats 4000000 in
theorem init_any {base B o : Nat} {R : List Int} {v : Value} (w : World) (r : Rw base B o R v w) :
    Calls Tryd.prog 71 #[.iface 102 (.pointer (some ⟨B, o, none⟩))] w fun e w' => e = .returned (.tuple #[]) ∧ ∃ R', Rw base B o R' v w' ∧ R'.Perm R ∧ HeapL R' ∧ Aside (fun k => v.ownBlock = some k) w w' := by
  have hlen := r.len
  have hm := m_len B o v w r.cell
  have hL := qlen_any w r
  have hst := HeapFrom.start R R.length
  go_enter Tryd.func71, Tryd.ntmps71
  go_upto_region 2 with (first
    | (go_at_call 87; refine Calls.mono (hL) ?_; rintro e w' ⟨rfl, hb⟩; obtain ⟨hc, hf, hb, hz⟩ := bstep hb (w := w) (by go_grown); try simp only [World.size_alloc, World.size_setCell, World.size_drew] at hc hf hz)
  )
  have r0 := r.below hb
  have hA0 : Aside (fun k => v.ownBlock = some k) w w' := Aside.of hb
  clear hm hL hb hc hf hz
  generalize w' = w2 at *
  go_loopg [3] (R.length / 2) (fun g jv wr => ∃ (i : Int) (R' : List Int), -1 ≤ i ∧ i < R.length ∧ g = (i + 1).toNat ∧ jv = .int .i64 i ∧ HeapFrom R' (i + 1).toNat R.length ∧ R'.Perm R ∧ Rw base B o R' v wr ∧ Aside (fun k => v.ownBlock = some k) w wr)
  case atStart => exact ⟨(R.length : Int) / 2 - 1, R, by omega, by omega, by omega, rfl, by rw [show ((R.length : Int) / 2 - 1 + 1).toNat = R.length / 2 by omega]; exact hst, List.Perm.refl _, r0, hA0⟩
  case round =>
    clear r r0 hA0 hst
    obtain ⟨i, R', i0, i1, rfl, rfl, hh, hp, r, hA⟩ := hrel
    have hl := hp.length_eq
    by_cases hz : 0 ≤ i
    · rw [show (i + 1).toNat = i.toNat + 1 by omega] at hh
      have hd := down_any i R.length wr r hz (by omega) (by omega) (by rw [Int.toNat_natCast]; exact hh.down) (by omega)
      clear hh
      go_wp2_with (first
        | (go_at_call 85; refine Calls.mono hd ?_; rintro e w2 ⟨⟨bb, rfl⟩, R2, r2, hp2, -, hh2, hA2⟩)
      )
      rw [Int.toNat_natCast] at hh2
      go_roundg i.toNat
      case measure => omega
      case rel => exact ⟨i - 1, R2, by omega, by omega, by omega, by go_num, by rw [show (i - 1 + 1).toNat = i.toNat by omega]; exact hh2, hp2.trans hp, r2, hA.trans hA2⟩
    · have hh' : HeapL R' := by
        rw [show (i + 1).toNat = 0 by omega, ← hl] at hh
        exact hh
      clear hh
      go_wp2
      go_returns
      exact ⟨rfl, R', r, hp, hh', hA⟩
end Go.Proofs.YtneanbagdkeoiaaDoor
