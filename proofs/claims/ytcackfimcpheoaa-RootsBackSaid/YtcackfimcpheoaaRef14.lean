/- Contracts of the reference's roots (chapter 14), and of its comparisons of values and numbers. -/
import Derived.Test.YtcackfimcpheoaaVals
import Derived.Test.YtcackfimcpheoaaSoftS
import Derived.Test.YtcackfimcpheoaaSameI
import Derived.Deep.Cut
namespace Go.Proofs.Ytcackfimcpheoaa
set_option linter.unusedSimpArgs false
set_option linter.unusedVariables false
open Go.ChangeShapes Go.WideShapes Go.ChangeAt Go.RowKit Go.Joins

theorem val_info : (Try.prog.info? 24).map (fun i => (i.zero, i.size, i.bytes)) = some (some (.agg #[.int .i64 0, .int .i64 0]), 2, 16) := by kernel_rfl
/-- A value at the end. -/
def pvZ (z : Nat → Vl) (n : Nat) (v : Vl) : Nat → Vl := fun i => if i = n then v else z i
theorem pv_vals (z : Nat → Vl) (n : Nat) (v : Vl) : vlVals n z ++ v.vals = vlVals (n + 1) (pvZ z n v) := by
  rw [← vlVals_snoc]
  congr 1
  · exact vlVals_congr fun i hi => by unfold pvZ; rw [if_neg (by omega)]
  · unfold pvZ; rw [if_pos rfl]
theorem pv_wf {z : Nat → Vl} {n : Nat} {v : Vl} (hz : ∀ i, i < n → (z i).wf) (hv : v.wf) : ∀ i, i < n + 1 → (pvZ z n v i).wf := fun i hi => by
  unfold pvZ
  split
  · exact hv
  · exact hz i (by omega)
/-- Push: is there room? The stack then, and the error. -/
def vpB (n : Nat) (r : Int) : Bool := decide ((n : Int) < r)
def vpN (n : Nat) (r : Int) : Nat := if vpB n r = true then n + 1 else n
def vpZ (n : Nat) (r : Int) (z : Nat → Vl) (v : Vl) : Nat → Vl := if vpB n r = true then pvZ z n v else z
def vpE (n : Nat) (r : Int) : Int := if vpB n r = true then 0 else 5
/-- Pop: the value, the error. -/
def vqX (n : Nat) (z : Nat → Vl) : Vl := if n = 0 then ⟨0, 0⟩ else z (n - 1)
def vqE (n : Nat) : Int := if n = 0 then 3 else 0
/-- Slot: the value, the error. -/
def vsX (n : Nat) (z : Nat → Vl) (i : Int) : Vl := if 0 ≤ i ∧ i < n then z i.toNat else ⟨0, 0⟩
def vsE (n : Nat) (i : Int) : Int := if 0 ≤ i ∧ i < n then 0 else 3
/-- Object. -/
def voE (n : Nat) (z : Nat → Vl) (i : Int) : Int := if 0 ≤ i ∧ i < n then (if (z i.toNat).k = 0 then 2 else if (z i.toNat).k = 2 then 0 else 7) else 3
def voX (n : Nat) (z : Nat → Vl) (i : Int) : Int := if voE n z i = 0 then (z i.toNat).n else 0
/-- Refs: the numbers of the first n that refer to something. -/
def vrL (z : Nat → Vl) : Nat → List Int
  | 0 => []
  | n + 1 => if (z n).k = 2 then vrL z n ++ [(z n).n] else vrL z n
def sameV (n : Nat) (z : Nat → Vl) (m : Nat) (y : Nat → Vl) : Bool := decide (n = m ∧ ∀ i, i < n → (z i).k = (y i).k ∧ (z i).n = (y i).n)
theorem sameV_self (n : Nat) (z : Nat → Vl) : sameV n z n z = true := by simp [sameV]
set_option maxHeartbeats 2000000 in
theorem rvpush_any (r : Int) (v : Vl) (p : Option Addr) (n c : Nat) (z : Nat → Vl) (w : World) (hz : VAt w p c n z) (hr : n ≤ 1000000) (hv : v.wf) :
    Calls Try.prog 9 #[.slice p n c, .int .i64 r, v.agg] w fun e w' => ∃ p' c', e = .returned (.tuple #[.slice p' (vpN n r) c', .int .i64 (vpE n r)]) ∧ VAt w' p' c' (vpN n r) (vpZ n r z v) ∧ Below w.heap.size w w' := by
  obtain ⟨k, x⟩ := v
  obtain ⟨w0, hw0⟩ : ∃ w0, w0 = w.alloc (.cells #[.int .i64 k, .int .i64 x] 24) := ⟨_, rfl⟩
  have hb0 : Below w.heap.size w w0 := by rw [hw0]; exact (Below.refl _ _).alloc (Nat.le_refl _) _
  have gV : TBox 24 w.heap.size #[.int .i64 k, .int .i64 x] w0 := by rw [hw0]; exact TBox.new _ _ _
  have hz0 := hz.below hb0
  cases e : vpB n r with
  | false =>
    have eN : vpN n r = n := by unfold vpN; rw [if_neg (by simp [e])]
    have eZ : vpZ n r z ⟨k, x⟩ = z := by unfold vpZ; rw [if_neg (by simp [e])]
    have eE : vpE n r = 5 := by unfold vpE; rw [if_neg (by simp [e])]
    rw [eN, eZ, eE]
    have h1 : r ≤ n := by simp [vpB] at e; omega
    clear e eN eZ eE
    unfold Vl.agg
    go_enter Try.func9, Try.ntmps9
    go_upto_region 1 with fail
    rw [← hw0]
    clear hw0
    go_wp2
    go_returns
    exact ⟨p, c, rfl, hz0, hb0⟩
  | true =>
    have eN : vpN n r = n + 1 := by unfold vpN; rw [if_pos e]
    have eZ : vpZ n r z ⟨k, x⟩ = pvZ z n ⟨k, x⟩ := by unfold vpZ; rw [if_pos e]
    have eE : vpE n r = 0 := by unfold vpE; rw [if_pos e]
    rw [eN, eZ, eE]
    have h1 : (n : Int) < r := by simpa [vpB] using e
    clear e eN eZ eE
    unfold Vl.agg
    have x0 : w0.cell? ⟨w.heap.size, 0, none⟩ = some (.int .i64 k) := gV.cell 0
    have x1 : w0.cell? ⟨w.heap.size, 1, none⟩ = some (.int .i64 x) := gV.cell 1
    have l0 := gV.lt
    go_enter Try.func9, Try.ntmps9
    go_upto_region 1 with fail
    rw [← hw0]
    clear hw0
    go_upto_region 3 with fail
    have hPBx : allP (fun p => ∀ v w w', p v w → Below w.heap.size w w' → p v w') ([(NilB (w0.heap.size) 24), (fun v _ => v = .slice p n c), (CopyB (w0.heap.size) 24 2 (n) (vlVals n z)), (fun v _ => v = .agg #[.int .i64 k, .int .i64 x]), (OneB (w0.heap.size) 24 [.int .i64 k, .int .i64 x]), (OwnV (w0.heap.size) 24 2 (n + 1) (vlVals n z ++ [.int .i64 k, .int .i64 x]))] : List (Value → World → Prop)) := ⟨fun _ _ _ h hb => h.below hb, fun _ _ _ h _ => h, fun _ _ _ h hb => h.below hb, fun _ _ _ h _ => h, fun _ _ _ h hb => h.below hb, fun _ _ _ h hb => h.below hb, trivial⟩
    have hSBx : ∀ s1 s2 : World, (fun _ : World => True) s1 → Below s1.heap.size s1 s2 → (fun _ : World => True) s2 := fun _ _ _ _ => trivial
    refine wp_toldhead_pv 6 [13, 14, 15, 16, 17, 18] ([(NilB (w0.heap.size) 24), (fun v _ => v = .slice p n c), (CopyB (w0.heap.size) 24 2 (n) (vlVals n z)), (fun v _ => v = .agg #[.int .i64 k, .int .i64 x]), (OneB (w0.heap.size) 24 [.int .i64 k, .int .i64 x]), (OwnV (w0.heap.size) 24 2 (n + 1) (vlVals n z ++ [.int .i64 k, .int .i64 x]))] : List (Value → World → Prop)) (by kernel_rfl) (by kernel_rfl) (by kernel_rfl) (by decide) (by kernel_rfl) (by kernel_rfl) rfl rfl (by decide) (by simp) ?_ ?_
    · refine ⟨?_, ?_, ?_, ?_, ?_, ?_, trivial⟩
      · intro a' w' hb' hsz hsh hs hd Kc hK
        clear hs hd
        have x0' := (hb'.cell (p := ⟨w.heap.size, 0, none⟩) l0).trans x0
        have x1' := (hb'.cell (p := ⟨w.heap.size, 1, none⟩) l0).trans x1
        unfold Oper.wp
        go_simp
        exact hK _ _ (toldS_below hSBx hPBx hsz ((Below.refl _ _).alloc (Nat.le_refl _) _)) (nilB_new _ _ hsz)
      · intro a' w' hb' hsz hsh hs hd Kc hK
        have f0 : a'.tmps[0]?.getD undef = .slice p n c := (hs 0 (by decide)).trans rfl
        clear hs hd
        have x0' := (hb'.cell (p := ⟨w.heap.size, 0, none⟩) l0).trans x0
        have x1' := (hb'.cell (p := ⟨w.heap.size, 1, none⟩) l0).trans x1
        unfold Oper.wp
        go_simp
        exact hK _ _ (toldS_below hSBx hPBx hsz (Below.refl _ _)) (by first | rfl | (show Value.int _ _ = Value.int _ _; go_num; done) | (simp [valOf, *]; done) | (simp [valOf]; omega))
      · intro a' w' hb' hsz hsh hs hd Kc hK
        have f13 : NilB (w0.heap.size) 24 (a'.tmps[13]?.getD undef) w' := hd 0 13 (by first | rfl | decide | simp [Region.binds]) rfl
        have f14 : a'.tmps[14]?.getD undef = .slice p n c := hd 1 14 (by first | rfl | decide | simp [Region.binds]) rfl
        clear hs hd
        have x0' := (hb'.cell (p := ⟨w.heap.size, 0, none⟩) l0).trans x0
        have x1' := (hb'.cell (p := ⟨w.heap.size, 1, none⟩) l0).trans x1
        obtain ⟨i0, hj0, hj1, hj2, hj3⟩ := info_parts val_info
        refine step_copy rfl (.tmp 13) (.tmp 14) 22 rfl 24 i0 (.agg #[.int .i64 0, .int .i64 0]) 2 16 Try.underlying22 hj0 hj1 hj2 hj3 rfl (by decide) (w0.heap.size) (a'.tmps[13]?.getD undef) (by simp [Act.eval]) (f13.owns 2) (p) (n) (c) (vlVals n z) (by rw [← f14]; simp [Act.eval]) (by simp [vlVals_length, vals_length]) ((fun e => (hz.pnil e).1)) ((hz0.row.below hb').cells) (vlVals_one _ _) (by simp only [maxLen]; omega) (by omega) hsz fun v' w2 ho hbo => ?_
        exact hK _ _ (toldS_below hSBx hPBx hsz hbo) ho
      · intro a' w' hb' hsz hsh hs hd Kc hK
        have f5 : a'.tmps[5]?.getD undef = .pointer (some ⟨w.heap.size, 0, none⟩) := (hs 5 (by decide)).trans rfl
        clear hs hd
        have x0' := (hb'.cell (p := ⟨w.heap.size, 0, none⟩) l0).trans x0
        have x1' := (hb'.cell (p := ⟨w.heap.size, 1, none⟩) l0).trans x1
        unfold Oper.wp
        go_simp
        exact hK _ _ (toldS_below hSBx hPBx hsz (Below.refl _ _)) (by first | rfl | (show Value.int _ _ = Value.int _ _; go_num; done) | (simp [valOf, *]; done) | (simp [valOf]; omega))
      · intro a' w' hb' hsz hsh hs hd Kc hK
        have f16 : a'.tmps[16]?.getD undef = .agg #[.int .i64 k, .int .i64 x] := hd 3 16 (by first | rfl | decide | simp [Region.binds]) rfl
        clear hs hd
        have x0' := (hb'.cell (p := ⟨w.heap.size, 0, none⟩) l0).trans x0
        have x1' := (hb'.cell (p := ⟨w.heap.size, 1, none⟩) l0).trans x1
        unfold Oper.wp
        go_simp
        exact hK _ _ (toldS_below hSBx hPBx hsz ((Below.refl _ _).alloc (Nat.le_refl _) _)) (oneB_new _ _ [.int .i64 k, .int .i64 x] hsz)
      · intro a' w' hb' hsz hsh hs hd Kc hK
        have f15 : CopyB (w0.heap.size) 24 2 (n) (vlVals n z) (a'.tmps[15]?.getD undef) w' := hd 2 15 (by first | rfl | decide | simp [Region.binds]) rfl
        have f17 : OneB (w0.heap.size) 24 [.int .i64 k, .int .i64 x] (a'.tmps[17]?.getD undef) w' := hd 4 17 (by first | rfl | decide | simp [Region.binds]) rfl
        clear hs hd
        have x0' := (hb'.cell (p := ⟨w.heap.size, 0, none⟩) l0).trans x0
        have x1' := (hb'.cell (p := ⟨w.heap.size, 1, none⟩) l0).trans x1
        obtain ⟨i0, hj0, hj1, hj2, hj3⟩ := info_parts val_info
        refine step_more rfl (.tmp 15) (.tmp 17) 22 rfl 24 i0 (.agg #[.int .i64 0, .int .i64 0]) 2 16 Try.underlying22 hj0 hj1 hj2 hj3 rfl (by decide) (w0.heap.size) (a'.tmps[15]?.getD undef) (n) (vlVals n z) (by simp [Act.eval]) f15 (a'.tmps[17]?.getD undef) [.int .i64 k, .int .i64 x] (by simp [Act.eval]) f17 rfl (by simp [Value.oneCell']) (by simp only [maxLen]; omega) (by omega) hsz fun v' w2 ho hch => ?_
        refine hK _ _ ?_ ho
        rcases hch with hch | hch
        · exact (toldS_below hSBx hPBx hsz hch)
        · refine ⟨hch.lower, fun h => trivial, fun i v => ?_⟩
          match i with
          | 0 => show NilB (w0.heap.size) 24 v w' → NilB (w0.heap.size) 24 v _; intro h; exact h.inPl hch (by decide)
          | 1 => exact fun h => h
          | 2 => show CopyB (w0.heap.size) 24 2 (n) (vlVals n z) v w' → CopyB (w0.heap.size) 24 2 (n) (vlVals n z) v _; intro h; exact h.inPl hch (by simp [vlVals_length, vals_length])
          | 3 => exact fun h => h
          | 4 => show OneB (w0.heap.size) 24 [.int .i64 k, .int .i64 x] v w' → OneB (w0.heap.size) 24 [.int .i64 k, .int .i64 x] v _; intro h; exact h.inPl hch (by decide) rfl
          | 5 => show OwnV (w0.heap.size) 24 2 (n + 1) (vlVals n z ++ [.int .i64 k, .int .i64 x]) v w' → OwnV (w0.heap.size) 24 2 (n + 1) (vlVals n z ++ [.int .i64 k, .int .i64 x]) v _; intro h; exact own_inPl h hch (by simp [vlVals_length, vals_length]) (.inr ⟨_, rfl, rfl⟩)
          | _ + 6 => exact fun _ => trivial
    intro Xf w' hb hv
    have o5 : OwnV (w0.heap.size) 24 2 (n + 1) (vlVals n z ++ [.int .i64 k, .int .i64 x]) (Xf 18) w' := hv 5 18 rfl
    clear hv hPBx hSBx
    simp only [List.map_cons, List.map_nil, puts, Act.put, Nat.reduceAdd, List.setIfInBounds_toArray, List.set_cons_succ, List.set_cons_zero, List.drop_succ_cons, List.drop_zero]
    obtain ⟨pp, cc, ff, -⟩ := owned_new o5
    unfold OwnV at o5
    rw [ff] at o5
    rw [ff]
    rw [show [Value.int .i64 k, .int .i64 x] = Vl.vals ⟨k, x⟩ from rfl, pv_vals] at o5
    have hA : VAt w' pp cc (n + 1) (pvZ z n ⟨k, x⟩) := va_owned o5 (by simp only [maxLen]; omega) (pv_wf hz.row.wf hv)
    have hbb := bjoin hb hb0
    clear ff o5
    go_wp2
    go_returns
    exact ⟨pp, cc, rfl, hA, hbb⟩
set_option maxHeartbeats 2000000 in
theorem rvpop_any (p : Option Addr) (n c : Nat) (z : Nat → Vl) (w : World) (hz : VAt w p c n z) (hr : n ≤ 1000000) :
    Calls Try.prog 11 #[.slice p n c] w fun e w' => ∃ p' c', e = .returned (.tuple #[.slice p' (n - 1 : Nat) c', (vqX n z).agg, .int .i64 (vqE n)]) ∧ VAt w' p' c' (n - 1) z ∧ Below w.heap.size w w' := by
  obtain ⟨w0, hw0⟩ : ∃ w0, w0 = w.alloc (.cells #[.int .i64 0, .int .i64 0] 24) := ⟨_, rfl⟩
  have hb0 : Below w.heap.size w w0 := by rw [hw0]; exact (Below.refl _ _).alloc (Nat.le_refl _) _
  have gV : TBox 24 w.heap.size #[.int .i64 0, .int .i64 0] w0 := by rw [hw0]; exact TBox.new _ _ _
  have hz0 := hz.below hb0
  have l0 := gV.lt
  have x0 : w0.cell? ⟨w.heap.size, 0, none⟩ = some (.int .i64 0) := gV.cell 0
  have x1 : w0.cell? ⟨w.heap.size, 1, none⟩ = some (.int .i64 0) := gV.cell 1
  have f0 := gV.frozen 0
  have f1 := gV.frozen 1
  by_cases h0 : n = 0
  · subst h0
    have hbb : Below w.heap.size w ((w0.setCell ⟨w.heap.size, 0, none⟩ (.int .i64 0)).setCell ⟨w.heap.size, 1, none⟩ (.int .i64 0)) := (hb0.setCell (Nat.le_refl _) _).setCell (Nat.le_refl _) _
    go_enter Try.func11, Try.ntmps11
    go_upto_region 1 with fail
    rw [← hw0]
    clear hw0
    go_wp2
    refine bodyPost_ret (by simp [results, Try.results11, go_sem, *]; try rfl) rfl ?_
    exact ⟨p, c, rfl, hz.below hbb, hbb⟩
  · obtain ⟨m, rfl⟩ : ∃ m, n = m + 1 := ⟨n - 1, by omega⟩
    have eX : vqX (m + 1) z = z m := by unfold vqX; rw [if_neg (by omega)]; rfl
    have eE : vqE (m + 1) = 0 := by unfold vqE; rw [if_neg (by omega)]
    rw [eX, eE, show m + 1 - 1 = m from rfl]
    obtain ⟨⟨b, off, rfl, hltw, vw0, vw1⟩, hwm⟩ := hz.row m (by omega)
    have v0 : w0.cell? ⟨b, off + m * 2, none⟩ = some (.int .i64 (z m).k) := (hb0.cell (p := ⟨b, off + m * 2, none⟩) hltw).trans vw0
    have v1 : w0.cell? ⟨b, off + m * 2 + 1, none⟩ = some (.int .i64 (z m).n) := (hb0.cell (p := ⟨b, off + m * 2 + 1, none⟩) hltw).trans vw1
    have hcap := hz.ncap
    obtain ⟨hc1, hc2⟩ := hcap
    have hwf := hz.row.wf
    have hrow := hz.row.less (m := m) (by omega)
    unfold Vl.agg
    clear eX eE h0
    generalize hX : z m = X at *
    obtain ⟨X0, X1⟩ := X
    dsimp only at *
    have hmc : m ≤ c := by omega
    have hm1 : (m : Int) < m + 1 := by omega
    have hsh0 : ShapeN w.heap.size 2 w0 := shape_2 l0 x0 x1 f0 f1
    go_enter Try.func11, Try.ntmps11
    go_upto_region 1 with fail
    rw [← hw0]
    clear hw0
    go_upto_region 3 with fail
    have hPBx : allP (fun p => ∀ v w w', p v w → Below w.heap.size w w' → p v w') ([(NilB (w0.heap.size) 24), (fun v _ => v = .slice (some ⟨b, off, none⟩) (m + 1) c), (fun v _ => v = .slice (some ⟨b, off, none⟩) (m + 1) c), (fun v _ => v = .int .i64 ((m : Int) + 1)), (fun v _ => v = .int .i64 (m : Int)), (fun v _ => v = .slice (some ⟨b, off, none⟩) m c), (CopyB (w0.heap.size) 24 2 (m) (vlVals m z)), (fun v _ => v = .slice (some ⟨b, off, none⟩) (m + 1) c), (fun v _ => v = .slice (some ⟨b, off, none⟩) (m + 1) c), (fun v _ => v = .int .i64 ((m : Int) + 1)), (fun v _ => v = .int .i64 (m : Int)), (fun v _ => v = .pointer (some ⟨b, off + m * 2, none⟩)), (fun v _ => v = .agg #[.int .i64 X0, .int .i64 X1]), (CopyB (w0.heap.size) 24 2 (m) (vlVals m z)), (CellsV (w.heap.size) [.int .i64 X0, .int .i64 X1]), (fun v _ => v = .int .i64 0)] : List (Value → World → Prop)) := ⟨fun _ _ _ h hb => h.below hb, fun _ _ _ h _ => h, fun _ _ _ h _ => h, fun _ _ _ h _ => h, fun _ _ _ h _ => h, fun _ _ _ h _ => h, fun _ _ _ h hb => h.below hb, fun _ _ _ h _ => h, fun _ _ _ h _ => h, fun _ _ _ h _ => h, fun _ _ _ h _ => h, fun _ _ _ h _ => h, fun _ _ _ h _ => h, fun _ _ _ h hb => h.below hb, fun _ _ _ h hb => h.below hb, fun _ _ _ h _ => h, trivial⟩
    have hSBx : ∀ s1 s2 : World, (ShapeN (w.heap.size) 2) s1 → Below s1.heap.size s1 s2 → (ShapeN (w.heap.size) 2) s2 := fun _ _ h hb => h.below hb
    refine wp_told_pv (w.heap.size) (ShapeN (w.heap.size) 2) [some 10, some 11, some 12, some 13, some 14, some 15, some 16, some 17, some 18, some 19, some 20, some 21, some 22, some 2, none, some 4] [10, 11, 12, 13, 14, 15, 16, 17, 18, 19, 20, 21, 22, 2, 4] ([(NilB (w0.heap.size) 24), (fun v _ => v = .slice (some ⟨b, off, none⟩) (m + 1) c), (fun v _ => v = .slice (some ⟨b, off, none⟩) (m + 1) c), (fun v _ => v = .int .i64 ((m : Int) + 1)), (fun v _ => v = .int .i64 (m : Int)), (fun v _ => v = .slice (some ⟨b, off, none⟩) m c), (CopyB (w0.heap.size) 24 2 (m) (vlVals m z)), (fun v _ => v = .slice (some ⟨b, off, none⟩) (m + 1) c), (fun v _ => v = .slice (some ⟨b, off, none⟩) (m + 1) c), (fun v _ => v = .int .i64 ((m : Int) + 1)), (fun v _ => v = .int .i64 (m : Int)), (fun v _ => v = .pointer (some ⟨b, off + m * 2, none⟩)), (fun v _ => v = .agg #[.int .i64 X0, .int .i64 X1]), (CopyB (w0.heap.size) 24 2 (m) (vlVals m z)), (CellsV (w.heap.size) [.int .i64 X0, .int .i64 X1]), (fun v _ => v = .int .i64 0)] : List (Value → World → Prop)) 23 (by kernel_rfl) (by kernel_rfl) rfl rfl (by decide) (by decide) (by simp) (show (ShapeN (w.heap.size) 2) _ from hSBx _ _ (hsh0) (Below.refl _ _).drew) ?_ ?_
    · refine ⟨?_, ?_, ?_, ?_, ?_, ?_, ?_, ?_, ?_, ?_, ?_, ?_, ?_, ?_, ?_, ?_, trivial⟩
      · intro a' w' hb' hsz hsh hs hd Kc hK
        clear hs hd
        have v0' := (hb'.cell (p := ⟨b, off + m * 2, none⟩) hltw).trans v0
        have v1' := (hb'.cell (p := ⟨b, off + m * 2 + 1, none⟩) hltw).trans v1
        have ew : IntKind.i64.wrap (m : Int) = m := by rw [IntKind.wrap_i64]; omega
        unfold Oper.wp
        go_simp
        exact hK _ _ (toldS_below hSBx hPBx (Nat.le_of_lt hsh.1) ((Below.refl _ _).alloc (Nat.le_refl _) _)) (nilB_new _ _ hsz)
      · intro a' w' hb' hsz hsh hs hd Kc hK
        have f0 : a'.tmps[0]?.getD undef = .slice (some ⟨b, off, none⟩) (m + 1) c := (hs 0 (by decide)).trans rfl
        clear hs hd
        have v0' := (hb'.cell (p := ⟨b, off + m * 2, none⟩) hltw).trans v0
        have v1' := (hb'.cell (p := ⟨b, off + m * 2 + 1, none⟩) hltw).trans v1
        have ew : IntKind.i64.wrap (m : Int) = m := by rw [IntKind.wrap_i64]; omega
        unfold Oper.wp
        go_simp
        exact hK _ _ (toldS_below hSBx hPBx (Nat.le_of_lt hsh.1) (Below.refl _ _)) (by first | rfl | (show Value.int _ _ = Value.int _ _; go_num; done) | (simp [valOf, *]; done) | (simp [valOf]; omega))
      · intro a' w' hb' hsz hsh hs hd Kc hK
        have f0 : a'.tmps[0]?.getD undef = .slice (some ⟨b, off, none⟩) (m + 1) c := (hs 0 (by decide)).trans rfl
        clear hs hd
        have v0' := (hb'.cell (p := ⟨b, off + m * 2, none⟩) hltw).trans v0
        have v1' := (hb'.cell (p := ⟨b, off + m * 2 + 1, none⟩) hltw).trans v1
        have ew : IntKind.i64.wrap (m : Int) = m := by rw [IntKind.wrap_i64]; omega
        unfold Oper.wp
        go_simp
        exact hK _ _ (toldS_below hSBx hPBx (Nat.le_of_lt hsh.1) (Below.refl _ _)) (by first | rfl | (show Value.int _ _ = Value.int _ _; go_num; done) | (simp [valOf, *]; done) | (simp [valOf]; omega))
      · intro a' w' hb' hsz hsh hs hd Kc hK
        have f12 : a'.tmps[12]?.getD undef = .slice (some ⟨b, off, none⟩) (m + 1) c := hd 2 12 (by first | rfl | decide | simp [Region.binds]) rfl
        clear hs hd
        have v0' := (hb'.cell (p := ⟨b, off + m * 2, none⟩) hltw).trans v0
        have v1' := (hb'.cell (p := ⟨b, off + m * 2 + 1, none⟩) hltw).trans v1
        have ew : IntKind.i64.wrap (m : Int) = m := by rw [IntKind.wrap_i64]; omega
        unfold Oper.wp
        go_simp
        exact hK _ _ (toldS_below hSBx hPBx (Nat.le_of_lt hsh.1) (Below.refl _ _)) (by first | rfl | (show Value.int _ _ = Value.int _ _; go_num; done) | (simp [valOf, *]; done) | (simp [valOf]; omega))
      · intro a' w' hb' hsz hsh hs hd Kc hK
        have f13 : a'.tmps[13]?.getD undef = .int .i64 ((m : Int) + 1) := hd 3 13 (by first | rfl | decide | simp [Region.binds]) rfl
        clear hs hd
        have v0' := (hb'.cell (p := ⟨b, off + m * 2, none⟩) hltw).trans v0
        have v1' := (hb'.cell (p := ⟨b, off + m * 2 + 1, none⟩) hltw).trans v1
        have ew : IntKind.i64.wrap (m : Int) = m := by rw [IntKind.wrap_i64]; omega
        unfold Oper.wp
        go_simp
        exact hK _ _ (toldS_below hSBx hPBx (Nat.le_of_lt hsh.1) (Below.refl _ _)) (by first | rfl | (show Value.int _ _ = Value.int _ _; go_num; done) | (simp [valOf, *]; done) | (simp [valOf]; omega))
      · intro a' w' hb' hsz hsh hs hd Kc hK
        have f11 : a'.tmps[11]?.getD undef = .slice (some ⟨b, off, none⟩) (m + 1) c := hd 1 11 (by first | rfl | decide | simp [Region.binds]) rfl
        have f14 : a'.tmps[14]?.getD undef = .int .i64 (m : Int) := hd 4 14 (by first | rfl | decide | simp [Region.binds]) rfl
        clear hs hd
        have v0' := (hb'.cell (p := ⟨b, off + m * 2, none⟩) hltw).trans v0
        have v1' := (hb'.cell (p := ⟨b, off + m * 2 + 1, none⟩) hltw).trans v1
        have ew : IntKind.i64.wrap (m : Int) = m := by rw [IntKind.wrap_i64]; omega
        unfold Oper.wp
        go_simp
        exact hK _ _ (toldS_below hSBx hPBx (Nat.le_of_lt hsh.1) (Below.refl _ _)) (by first | rfl | (show Value.int _ _ = Value.int _ _; go_num; done) | (simp [valOf, *]; done) | (simp [valOf]; omega))
      · intro a' w' hb' hsz hsh hs hd Kc hK
        have f10 : NilB (w0.heap.size) 24 (a'.tmps[10]?.getD undef) w' := hd 0 10 (by first | rfl | decide | simp [Region.binds]) rfl
        have f15 : a'.tmps[15]?.getD undef = .slice (some ⟨b, off, none⟩) m c := hd 5 15 (by first | rfl | decide | simp [Region.binds]) rfl
        clear hs hd
        have v0' := (hb'.cell (p := ⟨b, off + m * 2, none⟩) hltw).trans v0
        have v1' := (hb'.cell (p := ⟨b, off + m * 2 + 1, none⟩) hltw).trans v1
        have ew : IntKind.i64.wrap (m : Int) = m := by rw [IntKind.wrap_i64]; omega
        obtain ⟨i0, hj0, hj1, hj2, hj3⟩ := info_parts val_info
        refine step_copy rfl (.tmp 10) (.tmp 15) 22 rfl 24 i0 (.agg #[.int .i64 0, .int .i64 0]) 2 16 Try.underlying22 hj0 hj1 hj2 hj3 rfl (by decide) (w0.heap.size) (a'.tmps[10]?.getD undef) (by simp [Act.eval]) (f10.owns 2) ((some ⟨b, off, none⟩)) (m) (c) (vlVals m z) (by rw [← f15]; simp [Act.eval]) (by simp [vlVals_length, vals_length]) ((fun e => by cases e)) ((hrow.below (hb0.trans hb')).cells) (vlVals_one _ _) (by simp only [maxLen]; omega) (by omega) hsz fun v' w2 ho hbo => ?_
        exact hK _ _ (toldS_below hSBx hPBx (Nat.le_of_lt hsh.1) hbo) ho
      · intro a' w' hb' hsz hsh hs hd Kc hK
        have f0 : a'.tmps[0]?.getD undef = .slice (some ⟨b, off, none⟩) (m + 1) c := (hs 0 (by decide)).trans rfl
        clear hs hd
        have v0' := (hb'.cell (p := ⟨b, off + m * 2, none⟩) hltw).trans v0
        have v1' := (hb'.cell (p := ⟨b, off + m * 2 + 1, none⟩) hltw).trans v1
        have ew : IntKind.i64.wrap (m : Int) = m := by rw [IntKind.wrap_i64]; omega
        unfold Oper.wp
        go_simp
        exact hK _ _ (toldS_below hSBx hPBx (Nat.le_of_lt hsh.1) (Below.refl _ _)) (by first | rfl | (show Value.int _ _ = Value.int _ _; go_num; done) | (simp [valOf, *]; done) | (simp [valOf]; omega))
      · intro a' w' hb' hsz hsh hs hd Kc hK
        have f0 : a'.tmps[0]?.getD undef = .slice (some ⟨b, off, none⟩) (m + 1) c := (hs 0 (by decide)).trans rfl
        clear hs hd
        have v0' := (hb'.cell (p := ⟨b, off + m * 2, none⟩) hltw).trans v0
        have v1' := (hb'.cell (p := ⟨b, off + m * 2 + 1, none⟩) hltw).trans v1
        have ew : IntKind.i64.wrap (m : Int) = m := by rw [IntKind.wrap_i64]; omega
        unfold Oper.wp
        go_simp
        exact hK _ _ (toldS_below hSBx hPBx (Nat.le_of_lt hsh.1) (Below.refl _ _)) (by first | rfl | (show Value.int _ _ = Value.int _ _; go_num; done) | (simp [valOf, *]; done) | (simp [valOf]; omega))
      · intro a' w' hb' hsz hsh hs hd Kc hK
        have f18 : a'.tmps[18]?.getD undef = .slice (some ⟨b, off, none⟩) (m + 1) c := hd 8 18 (by first | rfl | decide | simp [Region.binds]) rfl
        clear hs hd
        have v0' := (hb'.cell (p := ⟨b, off + m * 2, none⟩) hltw).trans v0
        have v1' := (hb'.cell (p := ⟨b, off + m * 2 + 1, none⟩) hltw).trans v1
        have ew : IntKind.i64.wrap (m : Int) = m := by rw [IntKind.wrap_i64]; omega
        unfold Oper.wp
        go_simp
        exact hK _ _ (toldS_below hSBx hPBx (Nat.le_of_lt hsh.1) (Below.refl _ _)) (by first | rfl | (show Value.int _ _ = Value.int _ _; go_num; done) | (simp [valOf, *]; done) | (simp [valOf]; omega))
      · intro a' w' hb' hsz hsh hs hd Kc hK
        have f19 : a'.tmps[19]?.getD undef = .int .i64 ((m : Int) + 1) := hd 9 19 (by first | rfl | decide | simp [Region.binds]) rfl
        clear hs hd
        have v0' := (hb'.cell (p := ⟨b, off + m * 2, none⟩) hltw).trans v0
        have v1' := (hb'.cell (p := ⟨b, off + m * 2 + 1, none⟩) hltw).trans v1
        have ew : IntKind.i64.wrap (m : Int) = m := by rw [IntKind.wrap_i64]; omega
        unfold Oper.wp
        go_simp
        exact hK _ _ (toldS_below hSBx hPBx (Nat.le_of_lt hsh.1) (Below.refl _ _)) (by first | rfl | (show Value.int _ _ = Value.int _ _; go_num; done) | (simp [valOf, *]; done) | (simp [valOf]; omega))
      · intro a' w' hb' hsz hsh hs hd Kc hK
        have f17 : a'.tmps[17]?.getD undef = .slice (some ⟨b, off, none⟩) (m + 1) c := hd 7 17 (by first | rfl | decide | simp [Region.binds]) rfl
        have f20 : a'.tmps[20]?.getD undef = .int .i64 (m : Int) := hd 10 20 (by first | rfl | decide | simp [Region.binds]) rfl
        clear hs hd
        have v0' := (hb'.cell (p := ⟨b, off + m * 2, none⟩) hltw).trans v0
        have v1' := (hb'.cell (p := ⟨b, off + m * 2 + 1, none⟩) hltw).trans v1
        have ew : IntKind.i64.wrap (m : Int) = m := by rw [IntKind.wrap_i64]; omega
        unfold Oper.wp
        go_simp
        exact hK _ _ (toldS_below hSBx hPBx (Nat.le_of_lt hsh.1) (Below.refl _ _)) (by first | rfl | (show Value.int _ _ = Value.int _ _; go_num; done) | (simp [valOf, *]; done) | (simp [valOf]; omega))
      · intro a' w' hb' hsz hsh hs hd Kc hK
        have f21 : a'.tmps[21]?.getD undef = .pointer (some ⟨b, off + m * 2, none⟩) := hd 11 21 (by first | rfl | decide | simp [Region.binds]) rfl
        clear hs hd
        have v0' := (hb'.cell (p := ⟨b, off + m * 2, none⟩) hltw).trans v0
        have v1' := (hb'.cell (p := ⟨b, off + m * 2 + 1, none⟩) hltw).trans v1
        have ew : IntKind.i64.wrap (m : Int) = m := by rw [IntKind.wrap_i64]; omega
        unfold Oper.wp
        go_simp
        exact hK _ _ (toldS_below hSBx hPBx (Nat.le_of_lt hsh.1) (Below.refl _ _)) (by first | rfl | (show Value.int _ _ = Value.int _ _; go_num; done) | (simp [valOf, *]; done) | (simp [valOf]; omega))
      · intro a' w' hb' hsz hsh hs hd Kc hK
        have f16 : CopyB (w0.heap.size) 24 2 (m) (vlVals m z) (a'.tmps[16]?.getD undef) w' := hd 6 16 (by first | rfl | decide | simp [Region.binds]) rfl
        clear hs hd
        have v0' := (hb'.cell (p := ⟨b, off + m * 2, none⟩) hltw).trans v0
        have v1' := (hb'.cell (p := ⟨b, off + m * 2 + 1, none⟩) hltw).trans v1
        have ew : IntKind.i64.wrap (m : Int) = m := by rw [IntKind.wrap_i64]; omega
        unfold Oper.wp
        go_simp
        exact hK _ _ (toldS_below hSBx hPBx (Nat.le_of_lt hsh.1) (Below.refl _ _)) f16
      · intro a' w' hb' hsz hsh hs hd Kc hK
        have f3 : a'.tmps[3]?.getD undef = .pointer (some ⟨w.heap.size, 0, none⟩) := (hs 3 (by decide)).trans rfl
        have f22 : a'.tmps[22]?.getD undef = .agg #[.int .i64 X0, .int .i64 X1] := hd 12 22 (by first | rfl | decide | simp [Region.binds]) rfl
        clear hs hd
        have v0' := (hb'.cell (p := ⟨b, off + m * 2, none⟩) hltw).trans v0
        have v1' := (hb'.cell (p := ⟨b, off + m * 2 + 1, none⟩) hltw).trans v1
        have ew : IntKind.i64.wrap (m : Int) = m := by rw [IntKind.wrap_i64]; omega
        obtain ⟨⟨y0, s0⟩, t0⟩ := hsh.2 0 (by decide)
        obtain ⟨⟨y1, s1⟩, t1⟩ := hsh.2 1 (by decide)
        have hG := hsh.1
        unfold Oper.wp
        go_simp
        refine hK (.tuple #[]) _ ⟨((Below.refl _ _).setCell (p := ⟨w.heap.size, 0, none⟩) (Nat.le_refl _) _).setCell (p := ⟨w.heap.size, 1, none⟩) (Nat.le_refl _) _, fun h => ((h).set _ _ _).set _ _ _, fun i v => ?_⟩ (cellsV_2 hsh _ _ undef)
        match i with
        | 0 => show NilB (w0.heap.size) 24 v w' → NilB (w0.heap.size) 24 v _; intro h; exact ((h).under (l0) _ _).under (l0) _ _
        | 1 => exact fun h => h
        | 2 => exact fun h => h
        | 3 => exact fun h => h
        | 4 => exact fun h => h
        | 5 => exact fun h => h
        | 6 => show CopyB (w0.heap.size) 24 2 (m) (vlVals m z) v w' → CopyB (w0.heap.size) 24 2 (m) (vlVals m z) v _; intro h; exact ((h).under (l0) _ _).under (l0) _ _
        | 7 => exact fun h => h
        | 8 => exact fun h => h
        | 9 => exact fun h => h
        | 10 => exact fun h => h
        | 11 => exact fun h => h
        | 12 => exact fun h => h
        | 13 => show CopyB (w0.heap.size) 24 2 (m) (vlVals m z) v w' → CopyB (w0.heap.size) 24 2 (m) (vlVals m z) v _; intro h; exact ((h).under (l0) _ _).under (l0) _ _
        | 14 => show CellsV (w.heap.size) [.int .i64 X0, .int .i64 X1] v w' → CellsV (w.heap.size) [.int .i64 X0, .int .i64 X1] v _; intro _; exact (cellsV_2 hsh _ _ undef)
        | 15 => exact fun h => h
        | _ + 16 => exact fun _ => trivial
      · intro a' w' hb' hsz hsh hs hd Kc hK
        clear hs hd
        have v0' := (hb'.cell (p := ⟨b, off + m * 2, none⟩) hltw).trans v0
        have v1' := (hb'.cell (p := ⟨b, off + m * 2 + 1, none⟩) hltw).trans v1
        have ew : IntKind.i64.wrap (m : Int) = m := by rw [IntKind.wrap_i64]; omega
        unfold Oper.wp
        go_simp
        exact hK _ _ (toldS_below hSBx hPBx (Nat.le_of_lt hsh.1) (Below.refl _ _)) (by first | rfl | (show Value.int _ _ = Value.int _ _; go_num; done) | (simp [valOf, *]; done) | (simp [valOf]; omega))
    intro Xf w' hb hsz hv hn
    have o13 : CopyB (w0.heap.size) 24 2 (m) (vlVals m z) (Xf 2) w' := hv 13 2 rfl
    have o14 : CellsV (w.heap.size) [.int .i64 X0, .int .i64 X1] undef w' := hn 14 rfl
    have q4 : Xf 4 = .int .i64 0 := hv 15 4 rfl
    clear hv hn hPBx hSBx
    simp only [List.map_cons, List.map_nil, q4, puts, Act.put, Nat.reduceAdd, List.setIfInBounds_toArray, List.set_cons_succ, List.set_cons_zero]
    obtain ⟨hown, -⟩ := o13
    obtain ⟨pp, cc, ff, -⟩ := owned_new hown
    rw [ff] at hown
    rw [ff]
    have hA : VAt w' pp cc m z := va_owned hown (by simp only [maxLen]; omega) (fun i hi => hwf i (by omega))
    have z0' : w'.cell? ⟨w.heap.size, 0, none⟩ = some (.int .i64 X0) := o14.2 0 _ rfl
    have z1' : w'.cell? ⟨w.heap.size, 1, none⟩ = some (.int .i64 X1) := o14.2 1 _ rfl
    have hbb := hb0.trans hb
    clear ff hown o14
    go_wp2
    refine bodyPost_ret (by simp [results, Try.results11, go_sem, *]; try rfl) rfl ?_
    exact ⟨pp, cc, rfl, hA, hbb⟩
set_option maxHeartbeats 1000000 in
theorem rvslot_any (p : Option Addr) (n c : Nat) (z : Nat → Vl) (i : Int) (w : World) (hz : VAt w p c n z) :
    Calls Try.prog 13 #[.slice p n c, .int .i64 i] w fun e w' => e = .returned (.tuple #[(vsX n z i).agg, .int .i64 (vsE n i)]) ∧ Below w.heap.size w w' := by
  have hn := hz.nle
  simp only [maxLen] at hn
  by_cases h0 : 0 ≤ i
  · by_cases h1 : i < n
    · have eX : vsX n z i = z i.toNat := by unfold vsX; rw [if_pos ⟨h0, h1⟩]
      have eE : vsE n i = 0 := by unfold vsE; rw [if_pos ⟨h0, h1⟩]
      rw [eX, eE]
      clear eX eE
      obtain ⟨⟨b, off, rfl, hlt, v0, v1⟩, -⟩ := hz.row i.toNat (by omega)
      unfold Vl.agg
      generalize z i.toNat = X at *
      obtain ⟨X0, X1⟩ := X
      dsimp only at *
      go_enter Try.func13, Try.ntmps13
      go_wp2
      refine bodyPost_ret (by simp [results, Try.results13, go_sem, *]; try rfl) rfl ?_
      exact ⟨rfl, by go_grown⟩
    · have eX : vsX n z i = ⟨0, 0⟩ := by unfold vsX; rw [if_neg (by omega)]
      have eE : vsE n i = 3 := by unfold vsE; rw [if_neg (by omega)]
      rw [eX, eE]
      clear eX eE
      unfold Vl.agg
      go_enter Try.func13, Try.ntmps13
      go_wp2
      refine bodyPost_ret (by simp [results, Try.results13, go_sem, *]; try rfl) rfl ?_
      exact ⟨rfl, by go_grown⟩
  · have eX : vsX n z i = ⟨0, 0⟩ := by unfold vsX; rw [if_neg (by omega)]
    have eE : vsE n i = 3 := by unfold vsE; rw [if_neg (by omega)]
    rw [eX, eE]
    clear eX eE
    unfold Vl.agg
    go_enter Try.func13, Try.ntmps13
    go_wp2
    refine bodyPost_ret (by simp [results, Try.results13, go_sem, *]; try rfl) rfl ?_
    exact ⟨rfl, by go_grown⟩
theorem rvobj_any (p : Option Addr) (n c : Nat) (z : Nat → Vl) (i : Int) (w : World) (hz : VAt w p c n z) :
    Calls Try.prog 15 #[.slice p n c, .int .i64 i] w fun e w' => e = .returned (.tuple #[.int .i64 (voX n z i), .int .i64 (voE n z i)]) ∧ Below w.heap.size w w' := by
  have hS := fun W (hW : Below w.heap.size w W) => rvslot_any p n c z i W (hz.below hW)
  by_cases h0 : 0 ≤ i ∧ i < n
  · have eE : voE n z i = if (z i.toNat).k = 0 then 2 else if (z i.toNat).k = 2 then 0 else 7 := by unfold voE; rw [if_pos h0]
    have eS : vsX n z i = z i.toNat := by unfold vsX; rw [if_pos h0]
    have eT : vsE n i = 0 := by unfold vsE; rw [if_pos h0]
    have eX : voX n z i = if (z i.toNat).k = 2 then (z i.toNat).n else 0 := by
      unfold voX; rw [eE]
      by_cases k0 : (z i.toNat).k = 0
      · rw [if_pos k0, if_neg (by decide), if_neg (by omega)]
      · rw [if_neg k0]
        by_cases k2 : (z i.toNat).k = 2
        · rw [if_pos k2, if_pos rfl, if_pos k2]
        · rw [if_neg k2, if_neg (by decide), if_neg k2]
    rw [eE, eX]
    simp only [eS, eT, Vl.agg] at hS
    clear eS eT eE eX
    generalize z i.toNat = X at *
    obtain ⟨X0, X1⟩ := X
    dsimp only at *
    by_cases k0 : X0 = 0
    · subst k0
      rw [if_pos rfl, if_neg (by decide)]
      go_enter Try.func15, Try.ntmps15
      go_wp2_with (first
    | (go_at_call 13; refine Calls.mono (hS _ (by go_grown)) ?_; rintro e w' ⟨rfl, hb⟩; obtain ⟨hc, hf, hb, hz⟩ := bstep hb (w := w) (by go_grown); try simp only [World.size_alloc, World.size_setCell, World.size_drew] at hc hf hz)
      )
      go_returns
      exact ⟨rfl, by go_grown⟩
    · rw [if_neg k0]
      by_cases k2 : X0 = 2
      · subst k2
        rw [if_pos rfl, if_pos rfl]
        go_enter Try.func15, Try.ntmps15
        go_wp2_with (first
    | (go_at_call 13; refine Calls.mono (hS _ (by go_grown)) ?_; rintro e w' ⟨rfl, hb⟩; obtain ⟨hc, hf, hb, hz⟩ := bstep hb (w := w) (by go_grown); try simp only [World.size_alloc, World.size_setCell, World.size_drew] at hc hf hz)
        )
        go_returns
        exact ⟨rfl, by go_grown⟩
      · rw [if_neg k2, if_neg k2]
        go_enter Try.func15, Try.ntmps15
        go_wp2_with (first
    | (go_at_call 13; refine Calls.mono (hS _ (by go_grown)) ?_; rintro e w' ⟨rfl, hb⟩; obtain ⟨hc, hf, hb, hz⟩ := bstep hb (w := w) (by go_grown); try simp only [World.size_alloc, World.size_setCell, World.size_drew] at hc hf hz)
        )
        go_returns
        exact ⟨rfl, by go_grown⟩
  · have eE : voE n z i = 3 := by unfold voE; rw [if_neg h0]
    have eS : vsX n z i = ⟨0, 0⟩ := by unfold vsX; rw [if_neg h0]
    have eT : vsE n i = 3 := by unfold vsE; rw [if_neg h0]
    have eX : voX n z i = 0 := by unfold voX; rw [eE, if_neg (by decide)]
    rw [eE, eX]
    simp only [eS, eT, Vl.agg] at hS
    clear eS eT eE eX
    go_enter Try.func15, Try.ntmps15
    go_wp2_with (first
    | (go_at_call 13; refine Calls.mono (hS _ (by go_grown)) ?_; rintro e w' ⟨rfl, hb⟩; obtain ⟨hc, hf, hb, hz⟩ := bstep hb (w := w) (by go_grown); try simp only [World.size_alloc, World.size_setCell, World.size_drew] at hc hf hz)
    )
    go_returns
    exact ⟨rfl, by go_grown⟩
theorem vrL_len (z : Nat → Vl) : ∀ n, (vrL z n).length ≤ n
  | 0 => Nat.le_refl _
  | n + 1 => by
    have ih := vrL_len z n
    unfold vrL
    split
    · rw [List.length_append, List.length_singleton]; omega
    · omega
theorem vrL_wf {z : Nat → Vl} : ∀ {n : Nat}, (∀ i, i < n → (z i).wf) → ∀ x ∈ vrL z n, (Lit.int .i64 x).wf = true
  | 0, _, x, hx => by cases hx
  | n + 1, h, x, hx => by
    have ih := vrL_wf (n := n) fun i hi => h i (by omega)
    unfold vrL at hx
    split at hx
    · rcases List.mem_append.1 hx with hx | hx
      · exact ih x hx
      · rw [List.mem_singleton.1 hx]; exact (h n (by omega)).2
    · exact ih x hx
set_option maxHeartbeats 2000000 in
theorem rvrefs_any (p : Option Addr) (n c : Nat) (z : Nat → Vl) (w : World) (hz : VAt w p c n z) (hn : n ≤ 1000000) :
    Calls Try.prog 19 #[.slice p n c] w fun e w' => ∃ p' c', e = .returned (.slice p' (vrL z n).length c') ∧ Ints .i64 w' p' (vrL z n).length (liI (vrL z n)) ∧ Below w.heap.size w w' := by
  obtain ⟨i0, hi, hz0, hz1, hz2⟩ := info_parts int_infoL
  have hwf := vrL_wf hz.row.wf
  have hrow := hz.row
  go_enter Try.func19, Try.ntmps19
  go_wp2
  go_loopg [3, 4] n (fun g ov iv wr => ∃ j : Nat, j ≤ n ∧ g = n - j ∧ iv = .int .i64 j ∧ wr.ownsRow w.heap.size 3 1 ov (vrL z j).length ((vrL z j).map (Value.int .i64)) ∧ Below w.heap.size w wr)
  case atStart => exact ⟨0, by omega, by omega, rfl, World.ownsRow_nil _ _ _ _, Below.refl _ _⟩
  case round =>
    obtain ⟨j, jh, rfl, rfl, hown, hbw⟩ := hrel
    have hsz : w.heap.size ≤ wr.heap.size := hbw.size
    by_cases hj : j < n
    · obtain ⟨⟨b, off, rfl, hlt, v0, v1⟩, -⟩ := (hrow.below hbw) j hj
      have hql := vrL_len z j
      by_cases hk : (z j).k = 2
      · have hL : vrL z (j + 1) = vrL z j ++ [(z j).n] := by show (if (z j).k = 2 then _ else _) = _; rw [if_pos hk]
        rw [hk] at v0
        generalize hE : vrL z (j + 1) = L2 at *
        generalize vrL z j = L at *
        generalize (z j).n = x at *
        clear hk
        go_wp2_with (first
          | (at_builtin; refine wpList_append_own _ rfl (.tmp 17) (.tmp 23) 45 rfl w.heap.size 3 i0 (.int .i64 0) 1 8 Try.underlying45 hi hz0 hz1 hz2 rfl (by decide) _ _ _ rfl (hown.alloc _) ⟨wr.heap.size, 0, none⟩ 1 1 [.int .i64 x] rfl rfl (one_newG _ _ _) (by simp [Value.oneCell']) (by simp only [maxLen]; omega) (by omega) (by simp; omega) ?_; intro ov w1 hown' hgrow _)
        )
        have hown2 : w1.ownsRow w.heap.size 3 1 ov (L ++ [x]).length ((L ++ [x]).map (Value.int .i64)) := by simpa using hown'
        have hb2 := (hbw.alloc hsz (.cells #[.int .i64 x] 3)).grown hgrow (by simp; omega) (fun k hk => (hown.lt k hk).1)
        rw [← hL] at hown2
        go_roundg (n - (j + 1))
        case measure => omega
        case rel => exact ⟨j + 1, by omega, rfl, by go_num, by rw [hE]; assumption, hb2⟩
      · have hL : vrL z (j + 1) = vrL z j := by show (if (z j).k = 2 then _ else _) = _; rw [if_neg hk]
        have hk2 : ((z j).k == 2) = false := by simp [hk]
        rw [← hL] at hown
        generalize hE : vrL z (j + 1) = L at *
        generalize (z j).k = kk at *
        clear hk
        go_wp2
        go_roundg (n - (j + 1))
        case measure => omega
        case rel => exact ⟨j + 1, by omega, rfl, by go_num, by rw [hE]; assumption, hbw⟩
    · obtain rfl : j = n := by omega
      obtain ⟨pp, cc, ff, -⟩ := owned_new hown
      rw [ff] at hown ⊢
      have hI := li_ints hown hwf
      clear hown ff
      go_wp2
      go_returns
      exact ⟨pp, cc, rfl, hI, hbw⟩
set_option maxHeartbeats 1000000 in
theorem rvsame_any (p q : Option Addr) (n c m d : Nat) (z y : Nat → Vl) (w : World) (hz : VAt w p c n z) (hy : VAt w q d m y) :
    Calls Try.prog 16 #[.slice p n c, .slice q m d] w fun e w' => e = .returned (.bool (sameV n z m y)) ∧ Below w.heap.size w w' := by
  have hn := hz.nle
  have hm := hy.nle
  simp only [maxLen] at hn hm
  by_cases hnm : n = m
  · subst hnm
    go_enter Try.func16, Try.ntmps16
    go_wp2
    go_loopg [5] n (fun g jv wr => ∃ j : Int, 0 ≤ j ∧ j ≤ n ∧ g = (n - j).toNat ∧ jv = .int .i64 j ∧ (∀ t : Nat, t < j → (z t).k = (y t).k ∧ (z t).n = (y t).n) ∧ Below w.heap.size w wr)
    case atStart => exact ⟨0, by omega, by omega, by omega, rfl, fun t ht => by omega, Below.refl _ _⟩
    case round =>
      obtain ⟨j, jl, jh, rfl, rfl, hall, hbw⟩ := hrel
      by_cases hj : j < n
      · obtain ⟨⟨b, off, rfl, hlt, u0, u1⟩, -⟩ := (hz.row.below hbw) j.toNat (by omega)
        obtain ⟨⟨b', off', rfl, hlt', v0, v1⟩, -⟩ := (hy.row.below hbw) j.toNat (by omega)
        by_cases e : (z j.toNat).k = (y j.toNat).k ∧ (z j.toNat).n = (y j.toNat).n
        · have hall2 : Hid (∀ t : Nat, t < j + 1 → (z t).k = (y t).k ∧ (z t).n = (y t).n) := fun t ht => by
            by_cases ht' : (t : Int) < j
            · exact hall t ht'
            · obtain rfl : t = j.toNat := by omega
              exact e
          rw [← e.1] at v0
          rw [← e.2] at v1
          clear e hall
          generalize z j.toNat = Z at *
          obtain ⟨Z0, Z1⟩ := Z
          dsimp only at *
          go_upto_region 6 with fail
          go_region
          all_goals
            go_wp2
            go_roundg ((n : Int) - (j + 1)).toNat
            case measure => omega
            case rel => exact ⟨j + 1, by omega, by omega, rfl, rfl, hall2.out, by go_grown⟩
        · have e' : Hid (sameV n z n y = false) := by
            show sameV n z n y = false
            simp only [sameV, decide_eq_false_iff_not]
            exact fun h => e (h.2 _ (by omega))
          have hne : Hid (¬ ((z j.toNat).k = (y j.toNat).k ∧ (z j.toNat).n = (y j.toNat).n)) := e
          clear e hall
          generalize z j.toNat = Z at *
          generalize y j.toNat = Y at *
          obtain ⟨Z0, Z1⟩ := Z
          obtain ⟨Y0, Y1⟩ := Y
          dsimp only at *
          by_cases h0 : Z0 = Y0
          · subst h0
            have h1 : ¬ Z1 = Y1 := fun h => hne.out ⟨rfl, h⟩
            clear hne
            go_upto_region 6 with fail
            go_region
            all_goals
              go_wp2
              go_returns
              exact ⟨ret_bool e'.out.symm, by go_grown⟩
          · clear hne
            go_upto_region 6 with fail
            go_region
            all_goals
              go_wp2
              go_returns
              exact ⟨ret_bool e'.out.symm, by go_grown⟩
      · have e' : Hid (sameV n z n y = true) := by
          show sameV n z n y = true
          simp only [sameV, decide_eq_true_eq]
          exact ⟨trivial, fun t ht => hall t (by omega)⟩
        go_wp2
        go_returns
        exact ⟨ret_bool e'.out.symm, by go_grown⟩
  · have e' : sameV n z m y = false := by simp [sameV, hnm]
    have hnm' : ¬ (n : Int) = m := by omega
    rw [e']
    go_enter Try.func16, Try.ntmps16
    go_wp2
    go_returns
    exact ⟨rfl, by go_grown⟩
end Go.Proofs.Ytcackfimcpheoaa
