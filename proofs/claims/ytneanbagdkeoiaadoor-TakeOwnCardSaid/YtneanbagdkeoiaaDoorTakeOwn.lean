/- TakeOwn: whoever takes in whatever order (at most eighty turns, of any mutators and fields, over up to sixteen pages and eight mutators): caches stay right, each object lies in a page that its mutator keeps, of the least class that holds it, and no two lie at one address. No condition; the tables that the code reads are tied to the program's text. -/
import Derived.Test.YtneanbagdkeoiaaDoorRows
import Derived.Test.YtneanbagdkeoiaaDoorCards
import Derived.Test.YtneanbagdkeoiaaDoorTie
import Derived.Test.YtneanbagdkeoiaaDoorTiedBits
import Derived.Test.YtneanbagdkeoiaaDoorAwake11
import Derived.Test.YtneanbagdkeoiaaDoorTakeGot
import Derived.Test.YtneanbagdkeoiaaDoorPairs
import Derived.Test.YtneanbagdkeoiaaDoorLateT
import Derived.Maps.AppendAt
import Derived.SevenTiedAt
namespace Go.Proofs.YtneanbagdkeoiaaDoor
set_option linter.unusedSimpArgs false
set_option linter.unusedVariables false
open Go.ChangeShapes Go.WideShapes Go.ChangeAt Go.RowKit Go.Joins

/-- What TakeOwn's loop carries: a heap in a variable, caches, and the addresses of what was laid, in a row of one's own. -/
structure OwnAt (W : World) (B k N M base : Nat) (H : Hp) (Y : Nat → Int) (L : List (Int × Int)) (p : Option Addr) (c : Nat) (q : Option Addr) (d : Nat) (pc : Option Addr) (cc : Nat) (gv : Value) : Prop where
  box : Box3 B (.slice p N c) (.slice q M d) (.bool false) W
  heap : HpIn W p N c q M d false H
  clr : Clear B p q
  caches : Ints .i64 W pc (k * 4) Y
  cnil : pc = none → k = 0 ∧ cc = 0
  clrC : ∀ b off sp, pc = some ⟨b, off, sp⟩ → b ≠ B
  right : rightY H k Y = true
  laid : Laid H L
  got : W.ownsRow base 3 1 gv L.length (L.map fun x => .int .i64 x.1)
  gotB : B < base
  gotH : ∀ g, gv.ownBlock = some g → Clear g p q ∧ ∀ b off sp, pc = some ⟨b, off, sp⟩ → b ≠ g
theorem OwnAt.below {W W' : World} {B k N M base : Nat} {H : Hp} {Y : Nat → Int} {L : List (Int × Int)} {p : Option Addr} {c : Nat} {q : Option Addr} {d : Nat} {pc : Option Addr} {cc : Nat} {gv : Value} (o : OwnAt W B k N M base H Y L p c q d pc cc gv) (hb : Below W.heap.size W W') : OwnAt W' B k N M base H Y L p c q d pc cc gv :=
  ⟨o.box.below hb, o.heap.below hb, o.clr, o.caches.below hb, o.cnil, o.clrC, o.right, o.laid, owned_below o.got hb, o.gotB, o.gotH⟩
theorem one_newT (w : World) (x : Value) (t : TypeId) : ∀ j u, [x][j]? = some u → (w.alloc (.cells #[x] t)).cell? ((⟨w.heap.size, 0, none⟩ : Addr).add j) = some u := by
  intro j u h
  match j, h with
  | 0, h =>
    obtain rfl : x = u := by simpa using h
    exact cell_of_row _ _ _ _ _ _ (heap_alloc_new w (.cells #[x] t))
/-- No address of those that were laid is the new one. -/
theorem addr_new {H : Hp} {L : List (Int × Int)} {A z : Int} (hl : Laid H (L ++ [(A, z)])) {j : Nat} (hj : j < L.length) : ¬ L[j].1 = A := fun e => by
  have := hl.nodup
  rw [List.map_append, List.nodup_append] at this
  exact this.2.2 L[j].1 (List.mem_map.2 ⟨L[j], List.getElem_mem hj, rfl⟩) A (by simp) e
set_option maxHeartbeats 64000000 in
set_option maxRecDepth 20000 in
theorem own_walk {pl : Option Addr} {n cl : Nat} {s : Nat → Pr} (a b : Int) (w : World) (hl : Pairs w pl n s) (hn : n ≤ maxLen) (hS : Sz w) (hT : Tab w) (a0 : 0 ≤ a) (a1 : a < 256) (b0 : 0 ≤ b) (b1 : b < 256) :
    Calls Tryd.prog 6 #[.int .u8 a, .int .u8 b, .slice pl n cl] w fun e w' => e = .returned (.bool true) ∧ Below w.heap.size w w' := by
  simp only [maxLen] at hn
  by_cases h80 : n ≤ 80
  · have d80 : decide ((80 : Int) < n) = false := by simp; omega
    obtain ⟨k, hk⟩ : ∃ k : Nat, 1 + b % 8 = (k : Int) := ⟨(1 + b % 8).toNat, by omega⟩
    have hk1 : Hid (1 ≤ k ∧ k ≤ 8) := (by omega : 1 ≤ k ∧ k ≤ 8)
    have hP := fun W (_ : Below w.heap.size w W) => rplayed11_any (1 + a % 16) k W (by omega) (by omega) (by omega)
    have hM : Hid (1 ≤ (1 + a % 16).toNat ∧ (1 + a % 16).toNat ≤ 16) := (by omega : 1 ≤ (1 + a % 16).toNat ∧ (1 + a % 16).toNat ≤ 16)
    have hR0 : rightY (newH (1 + a % 16).toNat) k (fun _ => -1) = true := rightY_iff.2 fun j hj => .inl rfl
    have hL0 : Laid (newH (1 + a % 16).toNat) [] := Laid.new hM.out.1 hM.out.2
    rw [← hk] at hP
    clear hk
    generalize (1 + a % 16).toNat = M at *
    go_enter Tryd.func6, Tryd.ntmps6
    go_upto_region 3 with (first
    | (go_at_call 9; refine Calls.mono (awake11_any _ (hS.below (by go_grown)) (hT.below (by go_grown))) ?_; rintro e w' ⟨rfl, hb⟩; obtain ⟨hc, hf, hb, hz⟩ := bstep hb (w := w) (by go_grown); try simp only [World.size_alloc, World.size_setCell, World.size_drew] at hc hf hz)
    )
    go_upto_region 4 with (first
    | (go_at_call 22; refine Calls.mono (hP _ (by go_grown)) ?_; rintro e w' ⟨p0, c0, q0, d0, pc0, cc0, rfl, ho0, hi0, hn0, hb⟩; obtain ⟨hc, hf, hb, hz⟩ := bstep hb (w := w) (by go_grown); try simp only [World.size_alloc, World.size_setCell, World.size_drew] at hc hf hz)
    )
    obtain ⟨w1, hw1⟩ : ∃ W, W = w'.alloc (.cells #[.slice p0 (32 * M) c0, .slice q0 M d0, .bool false] 25) := ⟨_, rfl⟩
    have hB1 : Below w'.heap.size w' w1 := by rw [hw1]; exact (Below.refl _ _).alloc (Nat.le_refl _) _
    have hbW := bjoin hB1 hb
    have hg1 : w'.heap.size < w1.heap.size := by rw [hw1]; simp
    have hO : OwnAt w1 w'.heap.size k (32 * M) M w1.heap.size (newH M) (fun _ => -1) [] p0 c0 q0 d0 pc0 cc0 (.slice none 0 0) := {
      box := by rw [hw1]; exact Box3.new _ _ _ _ _
      heap := ho0.at.in.below hB1
      clr := (ho0.at.in.lower hL0.form).clear (Nat.le_refl _)
      caches := hi0.below hB1
      cnil := hn0
      clrC := fun b off sp e => by
        obtain ⟨b', o', e', hlt⟩ := hi0.lower (by have := hk1.out; omega)
        rw [e] at e'
        injection e' with e'
        injection e' with e'
        omega
      right := hR0
      laid := hL0
      got := World.ownsRow_nil _ _ _ _
      gotB := hg1
      gotH := fun g hg => by cases hg }
    rw [← hw1]
    have hS0 := hS
    have hT0 := hT
    have hl0 := hl
    have hBw : w.heap.size ≤ w'.heap.size := hb.size
    clear hw1 hB1 hb hc hf hz ho0 hi0 hn0 hP hS hT hl hR0 hL0
    generalize w'.heap.size = B at *
    generalize hbase : w1.heap.size = base at *
    obtain ⟨i0, hi0, hz0, hz1, hz2⟩ := info_parts int_info11
    obtain ⟨N, hN⟩ : ∃ N, N = 32 * M := ⟨_, rfl⟩
    rw [← hN] at hO ⊢
    have hNM : Hid (N = 32 * M) := hN
    clear hN
    go_upto_region 6 with fail
    go_loopg [8, 9, 10] n (fun gg cv gv iv wr => ∃ (i : Nat) (p : Option Addr) (c : Nat) (q : Option Addr) (d : Nat) (pc : Option Addr) (cc : Nat) (H : Hp) (Y : Nat → Int) (L : List (Int × Int)), i ≤ n ∧ gg = n - i ∧ iv = .int .i64 i ∧ cv = .slice pc k cc ∧ OwnAt wr B k N M base H Y L p c q d pc cc gv ∧ L.length ≤ i ∧ Below w.heap.size w wr ∧ base ≤ wr.heap.size)
    case atStart => exact ⟨0, _, _, _, _, _, _, _, _, _, by omega, by omega, rfl, rfl, hO, Nat.le_refl _, hbW, by omega⟩
    case round =>
      clear hO
      obtain ⟨i, p, c, q, d, pc, cc, H, Y, L, ih, rfl, rfl, rfl, hO, hLi, hbw, hbs⟩ := hrel
      by_cases hi : i < n
      · obtain ⟨⟨bl, ol, rfl, ll, v0, v1⟩, hw0, hw1⟩ := (hl0.below hbw) i hi
        have lbl : bl < w.heap.size := by
          obtain ⟨⟨b', o', e', lt', -⟩, -⟩ := hl0 i hi
          injection e' with e'
          injection e' with e'
          omega
        have hSr := hS0.below hbw
        have hTr := hT0.below hbw
        by_cases hm : (s i).t < 0
        · have dm : decide ((s i).t < 0) = true := by simp [hm]
          go_wp2
          go_roundg (n - (i + 1))
          case measure => omega
          case rel => exact ⟨i + 1, p, c, q, d, pc, cc, H, Y, L, by omega, rfl, by go_num, rfl, hO, by omega, hbw, hbs⟩
        · have dm : decide ((s i).t < 0) = false := by simp; omega
          obtain ⟨mm, hmm⟩ : ∃ mm : Nat, (s i).t % (k : Int) = mm := ⟨((s i).t % (k : Int)).toNat, by have := hk1.out; have := Int.emod_nonneg (s i).t (show (k : Int) ≠ 0 by omega); omega⟩
          have hmk : Hid (mm < k) := (by have := hk1.out; have := Int.emod_lt_of_pos (s i).t (show (0 : Int) < k by omega); omega : mm < k)
          have hk0 : ¬ k = 0 := by have := hk1.out; omega
          obtain ⟨lB, x0, x1, x2, f0, f1, f2⟩ := id hO.box
          have hC0 := fun W (hW : Below wr.heap.size wr W) => ttake_in (cc := cc) (mm := mm) (f := (s i).x) (hSr.below hW) (hTr.below hW) (hO.heap.below hW) hO.laid.form (hO.caches.below hW) hO.cnil (by have := hk1.out; omega) hmk.out hO.right
          generalize hA0 : takeA H k Y mm (s i).x = A at *
          generalize hok : (takeP H k Y mm (s i).x).isSome = ok at *
          generalize hH1 : takeH H k Y mm (s i).x = H1 at *
          generalize hY1 : takeY H k Y mm (s i).x = Y1 at *
          have hC : ∀ W, Below wr.heap.size wr W → Calls Tryd.prog 18 #[.agg #[.slice p N c, .slice q M d, .bool false], .slice pc k cc, .int .i64 mm, .int .i64 (s i).x] W fun e w' => ∃ p' c' q' d' pc' cc', e = .returned (.tuple #[.agg #[.slice p' N c', .slice q' M d', .bool false], .slice pc' k cc', .int .i64 A, .bool ok]) ∧ HpIn w' p' N c' q' M d' false H1 ∧ Src wr.heap.size ok N M p c q d p' c' q' d' ∧ Ints .i64 w' pc' (k * 4) Y1 ∧ CSrc wr.heap.size ok k pc cc pc' cc' ∧ Below W.heap.size W w' := fun W hW => Calls.mono (hC0 W hW) (by
            rintro e w' ⟨p', c', q', d', pc', cc', rfl, t, hb⟩
            exact ⟨p', c', q', d', pc', cc', rfl, t.heap, t.src.mono hW.size, t.caches, ⟨t.cnil, fun e b hb => Nat.le_trans hW.size (t.new e b hb), t.old⟩, hb⟩)
          have hNM0 : 0 < N ∧ 0 < M := by have := hNM.out; have := hM.out; omega
          obtain ⟨hN0, hM0⟩ := hNM0
          have hk0' : 0 < k := by omega
          clear hC0
          go_upto_region 10 with fail
          rw [hmm]
          clear hmm hk0 x0 x1 x2 f0 f1 f2 lB
          refine wp_late (ds := [some 60, some 61, some 62, some 63, some 64, some 65, some 66, some 67, some 68, some 59, some 69, some 70, some 71, some 72, some 12, none, some 13, some 14, some 15]) (ts := [60, 61, 62, 63, 64, 65, 66, 67, 68, 59, 69, 70, 71, 72, 12, 13, 14, 15]) (pv := [(fun v _ => v = .agg #[.slice p N c, .slice q M d, .bool false]), (fun v _ => v = .slice pc k cc), (fun v _ => v = .int .i64 mm), (fun v _ => v = .slice (some ⟨bl, ol, none⟩) n cl), (fun v _ => v = .int .i64 i), (fun v _ => v = .pointer (some ⟨bl, ol + i * 2, none⟩)), (fun v _ => v = .pointer (some ⟨bl, ol + i * 2 + 1, none⟩)), (fun v _ => v = .int .i64 (s i).x), TookV (N) (M) (false) (H1) (fun p' c' q' d' => Src wr.heap.size ok N M p c q d p' c' q' d') (k) (Y1) (fun pc' cc' => CSrc wr.heap.size ok k pc cc pc' cc') (.int .i64 A) (.bool ok), TookV (N) (M) (false) (H1) (fun p' c' q' d' => Src wr.heap.size ok N M p c q d p' c' q' d') (k) (Y1) (fun pc' cc' => CSrc wr.heap.size ok k pc cc pc' cc') (.int .i64 A) (.bool ok), HpVE (N) (M) (false) (H1) (fun p' c' q' d' => Src wr.heap.size ok N M p c q d p' c' q' d'), RowVE (k) (Y1) (fun pc' cc' => CSrc wr.heap.size ok k pc cc pc' cc'), (fun v _ => v = .int .i64 A), (fun v _ => v = .bool ok), (fun _ _ => True), (fun _ _ => True), RowVE (k) (Y1) (fun pc' cc' => CSrc wr.heap.size ok k pc cc pc' cc'), (fun v _ => v = .int .i64 A), (fun v _ => v = .bool ok)]) (skip := fun i => ([] : List Nat).contains i) (ia := 14) (is := 15) (k := 73) (Shape := ShapeH) (Full := (FullHE (N) (M) (false) (H1) (fun p' c' q' d' => Src wr.heap.size ok N M p c q d p' c' q' d'))) (by kernel_rfl) (by kernel_rfl) rfl rfl (by decide) (by decide) (by simp) ?_ (by decide) shapeH_below fullHE_below ?_ ?_ ?_ ?_
          · exact .inr ⟨⟨_, rfl⟩, rfl, _, rfl, (by first | rfl | decide | simp [Region.binds]), by decide, rfl⟩
          · exact ⟨fun _ _ _ h _ => h, fun _ _ _ h _ => h, fun _ _ _ h _ => h, fun _ _ _ h _ => h, fun _ _ _ h _ => h, fun _ _ _ h _ => h, fun _ _ _ h _ => h, fun _ _ _ h _ => h, fun _ _ _ h hb => h.below hb, fun _ _ _ h hb => h.below hb, fun _ _ _ h hb => h.below hb, fun _ _ _ h hb => h.below hb, fun _ _ _ h _ => h, fun _ _ _ h _ => h, fun _ _ _ h _ => h, fun _ _ _ h _ => h, fun _ _ _ h hb => h.below hb, fun _ _ _ h _ => h, fun _ _ _ h _ => h, trivial⟩
          · exact ⟨rfl, rfl, rfl, rfl, rfl, rfl, rfl, rfl, rfl, rfl, rfl, rfl, rfl, rfl, rfl, rfl, rfl, rfl, rfl, trivial⟩
          · refine ⟨?_, ?_, ?_, ?_, ?_, ?_, ?_, ?_, ?_, ?_, ?_, ?_, ?_, ?_, ?_, ?_, ?_, ?_, ?_, trivial⟩
            · intro _ a' w' hb' hs hd hn Kc hK
              have f7 : a'.tmps[7]?.getD undef = .pointer (some ⟨B, 0, none⟩) := (hs 7 (by decide)).trans rfl
              clear hs hd hn
              rw [if_neg (by decide), if_neg (by decide)] at hK
              have v1' : w'.cell? ⟨bl, ol + i * 2 + 1, none⟩ = some (.int .i64 (s i).x) := (hb'.cell (p := ⟨bl, ol + i * 2 + 1, none⟩) ll).trans v1
              obtain ⟨lB, x0, x1, x2, -, -, -⟩ := hO.box.below hb'
              unfold Oper.wp
              go_simp
              try go_bits
              exact hK _ _ (Below.refl _ _) (by first | rfl | (show Value.int _ _ = Value.int _ _; go_num; done) | (simp [valOf, *]; done) | (simp [valOf]; omega))
            · intro _ a' w' hb' hs hd hn Kc hK
              have f8 : a'.tmps[8]?.getD undef = .slice pc k cc := (hs 8 (by decide)).trans rfl
              clear hs hd hn
              rw [if_neg (by decide), if_neg (by decide)] at hK
              have v1' : w'.cell? ⟨bl, ol + i * 2 + 1, none⟩ = some (.int .i64 (s i).x) := (hb'.cell (p := ⟨bl, ol + i * 2 + 1, none⟩) ll).trans v1
              obtain ⟨lB, x0, x1, x2, -, -, -⟩ := hO.box.below hb'
              unfold Oper.wp
              go_simp
              try go_bits
              exact hK _ _ (Below.refl _ _) (by first | rfl | (show Value.int _ _ = Value.int _ _; go_num; done) | (simp [valOf, *]; done) | (simp [valOf]; omega))
            · intro _ a' w' hb' hs hd hn Kc hK
              have f11 : a'.tmps[11]?.getD undef = .int .i64 mm := (hs 11 (by decide)).trans rfl
              clear hs hd hn
              rw [if_neg (by decide), if_neg (by decide)] at hK
              have v1' : w'.cell? ⟨bl, ol + i * 2 + 1, none⟩ = some (.int .i64 (s i).x) := (hb'.cell (p := ⟨bl, ol + i * 2 + 1, none⟩) ll).trans v1
              obtain ⟨lB, x0, x1, x2, -, -, -⟩ := hO.box.below hb'
              unfold Oper.wp
              go_simp
              try go_bits
              exact hK _ _ (Below.refl _ _) (by first | rfl | (show Value.int _ _ = Value.int _ _; go_num; done) | (simp [valOf, *]; done) | (simp [valOf]; omega))
            · intro _ a' w' hb' hs hd hn Kc hK
              have f2 : a'.tmps[2]?.getD undef = .slice (some ⟨bl, ol, none⟩) n cl := (hs 2 (by decide)).trans rfl
              clear hs hd hn
              rw [if_neg (by decide), if_neg (by decide)] at hK
              have v1' : w'.cell? ⟨bl, ol + i * 2 + 1, none⟩ = some (.int .i64 (s i).x) := (hb'.cell (p := ⟨bl, ol + i * 2 + 1, none⟩) ll).trans v1
              obtain ⟨lB, x0, x1, x2, -, -, -⟩ := hO.box.below hb'
              unfold Oper.wp
              go_simp
              try go_bits
              exact hK _ _ (Below.refl _ _) (by first | rfl | (show Value.int _ _ = Value.int _ _; go_num; done) | (simp [valOf, *]; done) | (simp [valOf]; omega))
            · intro _ a' w' hb' hs hd hn Kc hK
              have f10 : a'.tmps[10]?.getD undef = .int .i64 i := (hs 10 (by decide)).trans rfl
              clear hs hd hn
              rw [if_neg (by decide), if_neg (by decide)] at hK
              have v1' : w'.cell? ⟨bl, ol + i * 2 + 1, none⟩ = some (.int .i64 (s i).x) := (hb'.cell (p := ⟨bl, ol + i * 2 + 1, none⟩) ll).trans v1
              obtain ⟨lB, x0, x1, x2, -, -, -⟩ := hO.box.below hb'
              unfold Oper.wp
              go_simp
              try go_bits
              exact hK _ _ (Below.refl _ _) (by first | rfl | (show Value.int _ _ = Value.int _ _; go_num; done) | (simp [valOf, *]; done) | (simp [valOf]; omega))
            · intro _ a' w' hb' hs hd hn Kc hK
              have f63 : a'.tmps[63]?.getD undef = .slice (some ⟨bl, ol, none⟩) n cl := hd 3 63 (by first | rfl | decide | simp [Region.binds]) rfl (by decide) (by decide) rfl
              have f64 : a'.tmps[64]?.getD undef = .int .i64 i := hd 4 64 (by first | rfl | decide | simp [Region.binds]) rfl (by decide) (by decide) rfl
              clear hs hd hn
              rw [if_neg (by decide), if_neg (by decide)] at hK
              have v1' : w'.cell? ⟨bl, ol + i * 2 + 1, none⟩ = some (.int .i64 (s i).x) := (hb'.cell (p := ⟨bl, ol + i * 2 + 1, none⟩) ll).trans v1
              obtain ⟨lB, x0, x1, x2, -, -, -⟩ := hO.box.below hb'
              unfold Oper.wp
              go_simp
              try go_bits
              exact hK _ _ (Below.refl _ _) (by first | rfl | (show Value.int _ _ = Value.int _ _; go_num; done) | (simp [valOf, *]; done) | (simp [valOf]; omega))
            · intro _ a' w' hb' hs hd hn Kc hK
              have f65 : a'.tmps[65]?.getD undef = .pointer (some ⟨bl, ol + i * 2, none⟩) := hd 5 65 (by first | rfl | decide | simp [Region.binds]) rfl (by decide) (by decide) rfl
              clear hs hd hn
              rw [if_neg (by decide), if_neg (by decide)] at hK
              have v1' : w'.cell? ⟨bl, ol + i * 2 + 1, none⟩ = some (.int .i64 (s i).x) := (hb'.cell (p := ⟨bl, ol + i * 2 + 1, none⟩) ll).trans v1
              obtain ⟨lB, x0, x1, x2, -, -, -⟩ := hO.box.below hb'
              unfold Oper.wp
              go_simp
              try go_bits
              exact hK _ _ (Below.refl _ _) (by first | rfl | (show Value.int _ _ = Value.int _ _; go_num; done) | (simp [valOf, *]; done) | (simp [valOf]; omega))
            · intro _ a' w' hb' hs hd hn Kc hK
              have f66 : a'.tmps[66]?.getD undef = .pointer (some ⟨bl, ol + i * 2 + 1, none⟩) := hd 6 66 (by first | rfl | decide | simp [Region.binds]) rfl (by decide) (by decide) rfl
              clear hs hd hn
              rw [if_neg (by decide), if_neg (by decide)] at hK
              have v1' : w'.cell? ⟨bl, ol + i * 2 + 1, none⟩ = some (.int .i64 (s i).x) := (hb'.cell (p := ⟨bl, ol + i * 2 + 1, none⟩) ll).trans v1
              obtain ⟨lB, x0, x1, x2, -, -, -⟩ := hO.box.below hb'
              unfold Oper.wp
              go_simp
              try go_bits
              exact hK _ _ (Below.refl _ _) (by first | rfl | (show Value.int _ _ = Value.int _ _; go_num; done) | (simp [valOf, *]; done) | (simp [valOf]; omega))
            · intro _ a' w' hb' hs hd hn Kc hK
              have f60 : a'.tmps[60]?.getD undef = .agg #[.slice p N c, .slice q M d, .bool false] := hd 0 60 (by first | rfl | decide | simp [Region.binds]) rfl (by decide) (by decide) rfl
              have f61 : a'.tmps[61]?.getD undef = .slice pc k cc := hd 1 61 (by first | rfl | decide | simp [Region.binds]) rfl (by decide) (by decide) rfl
              have f62 : a'.tmps[62]?.getD undef = .int .i64 mm := hd 2 62 (by first | rfl | decide | simp [Region.binds]) rfl (by decide) (by decide) rfl
              have f67 : a'.tmps[67]?.getD undef = .int .i64 (s i).x := hd 7 67 (by first | rfl | decide | simp [Region.binds]) rfl (by decide) (by decide) rfl
              clear hs hd hn
              rw [if_neg (by decide), if_neg (by decide)] at hK
              have v1' : w'.cell? ⟨bl, ol + i * 2 + 1, none⟩ = some (.int .i64 (s i).x) := (hb'.cell (p := ⟨bl, ol + i * 2 + 1, none⟩) ll).trans v1
              obtain ⟨lB, x0, x1, x2, -, -, -⟩ := hO.box.below hb'
              unfold Oper.wp
              go_simp
              try go_bits
              refine Calls.mono (hC _ hb') ?_
              rintro e w'' ⟨p', c', q', d', pc', cc', rfl, hA, hE, hA2, hE2, hb2⟩
              exact hK _ _ hb2 ⟨_, _, _, _, _, _, rfl, hA, hE, hA2, hE2⟩
            · intro _ a' w' hb' hs hd hn Kc hK
              obtain ⟨p', c', q', d', pc', cc', f68, hA, hE, hA2, hE2⟩ := hd 8 68 (by first | rfl | decide | simp [Region.binds]) rfl (by decide) (by decide) rfl
              clear hs hd hn
              rw [if_neg (by decide), if_neg (by decide)] at hK
              have v1' : w'.cell? ⟨bl, ol + i * 2 + 1, none⟩ = some (.int .i64 (s i).x) := (hb'.cell (p := ⟨bl, ol + i * 2 + 1, none⟩) ll).trans v1
              obtain ⟨lB, x0, x1, x2, -, -, -⟩ := hO.box.below hb'
              unfold Oper.wp
              go_simp
              try go_bits
              exact hK _ _ (Below.refl _ _) ⟨_, _, _, _, _, _, rfl, hA, hE, hA2, hE2⟩
            · intro _ a' w' hb' hs hd hn Kc hK
              obtain ⟨p', c', q', d', pc', cc', f59, hA, hE, hA2, hE2⟩ := hd 9 59 (by first | rfl | decide | simp [Region.binds]) rfl (by decide) (by decide) rfl
              clear hs hd hn
              rw [if_neg (by decide), if_neg (by decide)] at hK
              have v1' : w'.cell? ⟨bl, ol + i * 2 + 1, none⟩ = some (.int .i64 (s i).x) := (hb'.cell (p := ⟨bl, ol + i * 2 + 1, none⟩) ll).trans v1
              obtain ⟨lB, x0, x1, x2, -, -, -⟩ := hO.box.below hb'
              unfold Oper.wp
              go_simp
              try go_bits
              exact hK _ _ (Below.refl _ _) ⟨_, _, _, _, rfl, hA, hE⟩
            · intro _ a' w' hb' hs hd hn Kc hK
              obtain ⟨p', c', q', d', pc', cc', f59, hA, hE, hA2, hE2⟩ := hd 9 59 (by first | rfl | decide | simp [Region.binds]) rfl (by decide) (by decide) rfl
              clear hs hd hn
              rw [if_neg (by decide), if_neg (by decide)] at hK
              have v1' : w'.cell? ⟨bl, ol + i * 2 + 1, none⟩ = some (.int .i64 (s i).x) := (hb'.cell (p := ⟨bl, ol + i * 2 + 1, none⟩) ll).trans v1
              obtain ⟨lB, x0, x1, x2, -, -, -⟩ := hO.box.below hb'
              unfold Oper.wp
              go_simp
              try go_bits
              exact hK _ _ (Below.refl _ _) ⟨_, _, rfl, hA2, hE2⟩
            · intro _ a' w' hb' hs hd hn Kc hK
              obtain ⟨p', c', q', d', pc', cc', f59, hA, hE, hA2, hE2⟩ := hd 9 59 (by first | rfl | decide | simp [Region.binds]) rfl (by decide) (by decide) rfl
              clear hs hd hn
              rw [if_neg (by decide), if_neg (by decide)] at hK
              have v1' : w'.cell? ⟨bl, ol + i * 2 + 1, none⟩ = some (.int .i64 (s i).x) := (hb'.cell (p := ⟨bl, ol + i * 2 + 1, none⟩) ll).trans v1
              obtain ⟨lB, x0, x1, x2, -, -, -⟩ := hO.box.below hb'
              unfold Oper.wp
              go_simp
              try go_bits
              exact hK _ _ (Below.refl _ _) (by first | rfl | (show Value.int _ _ = Value.int _ _; go_num; done) | (simp [valOf, *]; done) | (simp [valOf]; omega))
            · intro _ a' w' hb' hs hd hn Kc hK
              obtain ⟨p', c', q', d', pc', cc', f59, hA, hE, hA2, hE2⟩ := hd 9 59 (by first | rfl | decide | simp [Region.binds]) rfl (by decide) (by decide) rfl
              clear hs hd hn
              rw [if_neg (by decide), if_neg (by decide)] at hK
              have v1' : w'.cell? ⟨bl, ol + i * 2 + 1, none⟩ = some (.int .i64 (s i).x) := (hb'.cell (p := ⟨bl, ol + i * 2 + 1, none⟩) ll).trans v1
              obtain ⟨lB, x0, x1, x2, -, -, -⟩ := hO.box.below hb'
              unfold Oper.wp
              go_simp
              try go_bits
              exact hK _ _ (Below.refl _ _) (by first | rfl | (show Value.int _ _ = Value.int _ _; go_num; done) | (simp [valOf, *]; done) | (simp [valOf]; omega))
            · intro _ a' w' hb' hs hd hn Kc hK
              clear hs hd hn
              rw [if_pos rfl] at hK
              unfold Oper.wp
              go_simp
              exact hK _ _ ((Below.refl _ _).alloc (Nat.le_refl _) _) (Nat.le_refl _) (shapeH_new _ _)
            · intro _ a' w' hb' hs hd hn Kc hK
              obtain ⟨g, f12, hg, hsh⟩ := hn 12 (by first | rfl | decide | simp [Region.binds]) rfl rfl
              obtain ⟨p', c', q', d', f69, hA, hE⟩ := hd 10 69 (by first | rfl | decide | simp [Region.binds]) rfl (by decide) (by decide) rfl
              obtain ⟨⟨_, _, _, _, _, _, _, h3⟩, hk3⟩ := id hsh
              rw [if_neg (by decide), if_pos rfl] at hK
              have hfin := hK g (.tuple #[]) (puts3 g (.slice p' (N) c') (.slice q' (M) d') (.bool (false)) w') (fun d hd => by obtain rfl : 12 = d := Option.some.inj (Option.some.inj hd); exact f12) (puts3_below hg _ _ _ w') hg ⟨p', c', q', d', h3.puts (.slice p' (N) c') (.slice q' (M) d') (.bool (false)), hA.stores (shapeH_clear hsh hA (hN0) (hM0)) _ _ _, hE⟩ (shapeH_puts h3 hk3 _ _ _ _ _ _ _) ⟨fun _ h => h, fun _ h => h, fun _ h => h, fun _ h => h, fun _ h => h, fun _ h => h, fun _ h => h, fun _ h => h, fun _ h => h.puts hsh (hN0) (hM0) (hk0') _ _ _, fun _ h => h.puts hsh (hN0) (hM0) (hk0') _ _ _, fun _ h => h.puts hsh (hN0) (hM0) _ _ _, fun _ h => h.puts hsh (hk0') _ _ _, fun _ h => h, fun _ h => h, fun _ h => h, fun _ h => h, fun _ h => h.puts hsh (hk0') _ _ _, fun _ h => h, fun _ h => h, trivial⟩
              clear hs hd hn hK
              obtain ⟨h0, c0, c1, c2, g0, g1, g2⟩ := h3
              unfold puts3 at hfin
              unfold Oper.wp
              go_simp
              exact hfin
            · intro _ a' w' hb' hs hd hn Kc hK
              obtain ⟨pc', cc', f70, hA2, hE2⟩ := hd 11 70 (by first | rfl | decide | simp [Region.binds]) rfl (by decide) (by decide) rfl
              clear hs hd hn
              rw [if_neg (by decide), if_neg (by decide)] at hK
              have v1' : w'.cell? ⟨bl, ol + i * 2 + 1, none⟩ = some (.int .i64 (s i).x) := (hb'.cell (p := ⟨bl, ol + i * 2 + 1, none⟩) ll).trans v1
              obtain ⟨lB, x0, x1, x2, -, -, -⟩ := hO.box.below hb'
              unfold Oper.wp
              go_simp
              try go_bits
              exact hK _ _ (Below.refl _ _) ⟨_, _, rfl, hA2, hE2⟩
            · intro _ a' w' hb' hs hd hn Kc hK
              have f71 : a'.tmps[71]?.getD undef = .int .i64 A := hd 12 71 (by first | rfl | decide | simp [Region.binds]) rfl (by decide) (by decide) rfl
              clear hs hd hn
              rw [if_neg (by decide), if_neg (by decide)] at hK
              have v1' : w'.cell? ⟨bl, ol + i * 2 + 1, none⟩ = some (.int .i64 (s i).x) := (hb'.cell (p := ⟨bl, ol + i * 2 + 1, none⟩) ll).trans v1
              obtain ⟨lB, x0, x1, x2, -, -, -⟩ := hO.box.below hb'
              unfold Oper.wp
              go_simp
              try go_bits
              exact hK _ _ (Below.refl _ _) (by first | rfl | (show Value.int _ _ = Value.int _ _; go_num; done) | (simp [valOf, *]; done) | (simp [valOf]; omega))
            · intro _ a' w' hb' hs hd hn Kc hK
              have f72 : a'.tmps[72]?.getD undef = .bool ok := hd 13 72 (by first | rfl | decide | simp [Region.binds]) rfl (by decide) (by decide) rfl
              clear hs hd hn
              rw [if_neg (by decide), if_neg (by decide)] at hK
              have v1' : w'.cell? ⟨bl, ol + i * 2 + 1, none⟩ = some (.int .i64 (s i).x) := (hb'.cell (p := ⟨bl, ol + i * 2 + 1, none⟩) ll).trans v1
              obtain ⟨lB, x0, x1, x2, -, -, -⟩ := hO.box.below hb'
              unfold Oper.wp
              go_simp
              try go_bits
              exact hK _ _ (Below.refl _ _) (by first | rfl | (show Value.int _ _ = Value.int _ _; go_num; done) | (simp [valOf, *]; done) | (simp [valOf]; omega))
          intro Xf g w' hX hb hv
          obtain ⟨hg, gX, hgp⟩ := hX (by decide)
          have q12 : Xf 12 = .pointer (some ⟨g, 0, none⟩) := hgp 12 rfl
          obtain ⟨pc', cc', q13, hJ, hJE⟩ := hv 16 13 rfl rfl (by decide) (by decide)
          have q14 : Xf 14 = .int .i64 A := hv 17 14 rfl rfl (by decide) (by decide)
          have q15 : Xf 15 = .bool ok := hv 18 15 rfl rfl (by decide) (by decide)
          clear hX hv hgp
          simp only [List.map_cons, List.map_nil, q12, q13, q14, q15, puts, Act.put, Nat.reduceAdd, List.setIfInBounds_toArray, List.set_cons_succ, List.set_cons_zero]
          obtain ⟨p1, c1, q1, d1, gG, hh1, hsrc⟩ := gX
          obtain ⟨hJ0, hJ1, hJ2⟩ := hJE
          have hO' := hO.below hb
          have hbw' := bjoin hb hbw
          have hsz := hb.size
          have v1' : w'.cell? ⟨bl, ol + i * 2 + 1, none⟩ = some (.int .i64 (s i).x) := (hb.cell (p := ⟨bl, ol + i * 2 + 1, none⟩) ll).trans v1
          have hBr : B < wr.heap.size := hO.box.1
          have hgr := fun g (hg : u9.ownBlock = some g) => (hO.got.lt g hg).2
          clear hb v0 v1 q12 q13 q14 q15 hC hSr hTr
          cases e : takeP H k Y mm (s i).x with
          | none =>
            rw [e] at hok
            obtain rfl : ok = false := hok.symm
            clear gG hh1 hsrc hJ hJ0 hJ1 hJ2 hH1 hY1 hA0
            go_wp2
            go_roundg (n - (i + 1))
            case measure => omega
            case rel => exact ⟨i + 1, p, c, q, d, pc, cc, H, Y, L, by omega, rfl, by go_num, rfl, hO', by omega, hbw', by omega⟩
          | some gp =>
            rw [e] at hok
            obtain rfl : ok = true := hok.symm
            have hgt := take_got hO.laid.form hO.laid.wf hO.right hmk.out e
            have hR1 := take_right hO.laid.form hO.laid.wf hO.right hmk.out e
            have hyJ := congrFun (takeP_yes e).2.2 (mm * 4 + (ofC (s i).x).toNat)
            simp only [if_true] at hyJ
            have hL1 := hgt.laid L hO.laid
            obtain ⟨k0, k1⟩ := ofC_at (s i).x
            have hmay : hmayB true H.b (ofC (s i).x) (s i).x = true := may_of k0 k1 hgt.f0 (sz_of hgt.f0 hgt.f1)
            have hword := congrFun hgt.words (takeA H k Y mm (s i).x).toNat
            have hput : putZ (zerZ H.z (takeA H k Y mm (s i).x) (szW (ofC (s i).x))) (takeA H k Y mm (s i).x) (hputW true H.b (ofC (s i).x) (s i).x) (takeA H k Y mm (s i).x).toNat = hputW true H.b (ofC (s i).x) (s i).x := if_pos (by have := hgt.at1; omega)
            rw [hput] at hword
            obtain ⟨gu, gc, gk, gn⟩ := got_of hmay
            have hA1 := hgt.at1
            have hA2 := hgt.at2
            have hA3 := hgt.inn
            have hF0 := hgt.f0
            have hF1 := hgt.f1
            have hszp : 0 < szW (ofC (s i).x) := by have := sz_of hgt.f0 hgt.f1; omega
            rw [hY1] at hyJ
            rw [hA0, hH1] at hL1
            rw [hH1, hY1] at hR1
            rw [hA0, hH1] at hword
            rw [hA0] at hA1 hA2 hA3
            rw [← hO.heap.n_eq] at hA3
            have hclrB := hsrc.keep hO.clr hBr
            have hclrC : ∀ b off sp, pc' = some ⟨b, off, sp⟩ → b ≠ B := fun b off sp eb => by have := hJ1 rfl b (by rw [eb]; rfl); omega
            have hG : ∀ g, u9.ownBlock = some g → Clear g p1 q1 ∧ ∀ b off sp, pc' = some ⟨b, off, sp⟩ → b ≠ g := fun g hg => ⟨hsrc.keep (hO.gotH g hg).1 (hgr g hg), fun b off sp eb => by have := hJ1 rfl b (by rw [eb]; rfl); have := hgr g hg; omega⟩
            clear hsrc hJ1 hJ2 hgt hmay hput hok hO hgr
            obtain ⟨lB, x0, x1, x2, f0, f1, f2⟩ := id hO'.box
            obtain ⟨lG, z0, z1, z2, -, -, -⟩ := id gG
            go_upto_region 14 with fail
            obtain ⟨wS, hwS⟩ : ∃ W, W = ((w'.setCell ⟨B, 0, none⟩ (.slice p1 N c1)).setCell ⟨B, 1, none⟩ (.slice q1 M d1)).setCell ⟨B, 2, none⟩ (.bool false) := ⟨_, rfl⟩
            have gS : Box3 B (.slice p1 N c1) (.slice q1 M d1) (.bool false) wS := by rw [hwS]; exact hO'.box.stores _ _ _
            have hhS : HpIn wS p1 N c1 q1 M d1 false H1 := by rw [hwS]; exact hh1.stores hclrB _ _ _
            have hiS : Ints .i64 wS pc' (k * 4) Y1 := by rw [hwS]; exact hJ.stores hclrC (.slice p1 N c1) (.slice q1 M d1) (.bool false)
            have hgB : u9.ownBlock ≠ some B := fun h => by have := (hO'.got.lt B h).1; have := hO'.gotB; omega
            have hgS : wS.ownsRow base 3 1 u9 L.length (L.map fun x => .int .i64 x.1) := by rw [hwS]; exact owned_setCell (owned_setCell (owned_setCell hO'.got hgB _ _) hgB _ _) hgB _ _
            have v1S : wS.cell? ⟨bl, ol + i * 2 + 1, none⟩ = some (.int .i64 (s i).x) := by
              rw [hwS]
              rw [World.cell?_setCell_other _ _ _ _ (by intro h; injection h with h; omega), World.cell?_setCell_other _ _ _ _ (by intro h; injection h with h; omega), World.cell?_setCell_other _ _ _ _ (by intro h; injection h with h; omega)]
              exact v1'
            have hbS : Below w.heap.size w wS := by rw [hwS]; exact below_stores hbw' hBw _ _ _
            have hszS : base ≤ wS.heap.size := by rw [hwS]; simp [World.setCell]; omega
            have hgotB := hO'.gotB
            rw [← hwS]
            clear hwS hO' gG hh1 hJ v1' hbw' x0 x1 x2 f0 f1 f2 lB z0 z1 z2 lG hsz hBr hg hgB
            obtain ⟨lB, x0, x1, x2, -, -, -⟩ := id gS
            have hFo := hL1.form
            have dA0 : decide (A < 0) = false := by simp; omega
            have dA1 : decide ((N : Int) ≤ A) = false := by simp; omega
            have dk : decide ((k : Int) ≤ (mm : Int)) = false := by have := hmk.out; simp; omega
            have r1 := fun W (hW : Below wS.heap.size wS W) => rform_in (hhS.below hW)
            have r2 := fun W (hW : Below wS.heap.size wS W) => rright_in (cc := cc') (hhS.below hW) (hiS.below hW) (by have := hk1.out; omega)
            rw [hFo] at r1
            rw [hR1] at r2
            go_upto_region 16 with (first
    | (go_at_call 10; refine Calls.mono (r1 _ (by go_grown)) ?_; rintro e w' ⟨rfl, hb⟩; obtain ⟨hc, hf, hb, hz⟩ := bstep hb (w := wS) (by go_grown); try simp only [World.size_alloc, World.size_setCell, World.size_drew] at hc hf hz)
    | (go_at_call 12; refine Calls.mono (r2 _ (by go_grown)) ?_; rintro e w' ⟨rfl, hb⟩; obtain ⟨hc, hf, hb, hz⟩ := bstep hb (w := wS) (by go_grown); try simp only [World.size_alloc, World.size_setCell, World.size_drew] at hc hf hz)
            )
            replace hhS := hhS.below hb
            replace hiS := hiS.below hb
            replace hgS := owned_below hgS hb
            replace gS := gS.below hb
            replace v1S : w'.cell? ⟨bl, ol + i * 2 + 1, none⟩ = some (.int .i64 (s i).x) := (hb.cell (p := ⟨bl, ol + i * 2 + 1, none⟩) (by have := hbS.size; show bl < wS.heap.size; omega)).trans v1S
            replace hszS : base ≤ w'.heap.size := by have := hb.size; omega
            replace hbS := bjoin hb hbS
            clear hb hc hf hz x0 x1 x2 lB r1 r2 dA0 dA1 dk
            generalize w' = w6 at *
            obtain ⟨gq, oq, rfl, lq, vq⟩ := hhS.word hN0
            have vA := vq A hA1 (by omega)
            rw [hword] at vA
            have hpl := hput_lt (may_of (c := H.b) k0 k1 hF0 (sz_of hF0 hF1))
            have hG2 := fun W => rhget_any (hputW true H.b (ofC (s i).x) (s i).x) W hpl.1 (by omega)
            rw [gu, gc, gk, gn] at hG2
            obtain ⟨lB, x0, x1, x2, -, -, -⟩ := id gS
            clear vq hword gu gc gk gn
            generalize hputW true H.b (ofC (s i).x) (s i).x = X at *
            go_upto_region 17 with (first
    | (go_at_call 23; refine Calls.mono (hG2 _) ?_; rintro e w' ⟨rfl, hb⟩; obtain ⟨hc, hf, hb, hz⟩ := bstep hb (w := w6) (by go_grown); try simp only [World.size_alloc, World.size_setCell, World.size_drew] at hc hf hz)
            )
            obtain ⟨w7, hw7⟩ : ∃ W, W = w'.alloc (.cells #[.bool true, .bool H.b, .int .i64 (ofC (s i).x), .int .i64 (s i).x] 47) := ⟨_, rfl⟩
            have hB7 : Below w'.heap.size w' w7 := by rw [hw7]; exact (Below.refl _ _).alloc (Nat.le_refl _) _
            have gX : Box4 w'.heap.size (.bool true) (.bool H.b) (.int .i64 (ofC (s i).x)) (.int .i64 (s i).x) w7 := by rw [hw7]; exact Box4.new _ _ _ _ _ _
            have hb7 := bjoin hB7 hb
            replace hhS := hhS.below hb7
            replace hiS := hiS.below hb7
            replace hgS := owned_below hgS hb7
            replace gS := gS.below hb7
            have v1T : w7.cell? ⟨bl, ol + i * 2 + 1, none⟩ = some (.int .i64 (s i).x) := (hb7.cell (p := ⟨bl, ol + i * 2 + 1, none⟩) (by have := hbS.size; show bl < w6.heap.size; omega)).trans v1S
            replace hszS : base ≤ w7.heap.size := by have := hb7.size; omega
            replace hbS := bjoin hb7 hbS
            rw [← hw7]
            clear hw7 hB7 hb7 hb hc hf hz x0 x1 x2 lB vA hG2 v1S hpl
            generalize w'.heap.size = B16 at *
            generalize hK : ofC (s i).x = K at *
            generalize (s i).x = F at *
            have hKF : K = 0 ∨ (0 < K ∧ szW (K - 1) ≤ F) := by
              rw [← hK]
              unfold ofC
              repeat' split
              all_goals first | (left; omega) | (right; refine ⟨by omega, ?_⟩; first | (show (2 : Int) ≤ F; omega) | (show (4 : Int) ≤ F; omega) | (show (8 : Int) ≤ F; omega))
            obtain ⟨bq, oq2, rfl, lbq⟩ := hiS.lower (by omega)
            have vC := caches_cell hiS (i := mm) (j := K.toNat) hmk.out (by omega)
            rw [hyJ] at vC
            obtain ⟨lX, t0, t1, t2, t3, -, -, -, -⟩ := id gX
            have dF : (F != F) = false := by simp
            have dP : ((gp : Int) != (gp : Int)) = false := by simp
            have hNb : N ≤ 512 := by have := hNM.out; have := hM.out; omega
            have dq : IntKind.i64.wrap (A.tdiv 32) = gp := by rw [Int.tdiv_eq_ediv_of_nonneg hA1, IntKind.wrap_i64]; omega
            have hmk2 := hmk.out
            clear t0 t1 t2 t3 lX
            rcases hKF with hK0 | ⟨hK0, hKs⟩
            case' inl =>
              have d5 : decide (0 < K) = false := by simp; omega
              clear hK0
              refine wp_late (ds := [some 112, some 113, some 114, some 115, some 116, some 117, some 118, some 119, some 120, some 121, some 122, some 123, some 124, some 125, some 126, some 127, some 128, some 129, some 130, some 131, some 132, some 133, some 134, some 135, some 136, some 137, some 138, some 139, some 140, some 141, some 142, some 143, some 144, some 145, some 146, some 147, some 148, some 149, some 150, some 151, some 152, some 153, some 154, some 155, some 156, some 157, some 158]) (ts := [112, 113, 114, 115, 116, 117, 118, 119, 120, 121, 122, 123, 124, 125, 126, 127, 128, 129, 130, 131, 132, 133, 134, 135, 136, 137, 138, 139, 140, 141, 142, 143, 144, 145, 146, 147, 148, 149, 150, 151, 152, 153, 154, 155, 156, 157, 158]) (pv := [(fun v _ => v = .bool true), (fun v _ => v = .bool false), (fun v _ => v = .bool false), (fun v _ => v = .pointer (some ⟨B16, 0, none⟩)), (fun v _ => v = .bool true), (fun v _ => v = .bool false), (fun v _ => v = .bool false), (fun v _ => v = .bool false), (fun v _ => v = .pointer (some ⟨B16, 3, none⟩)), (fun v _ => v = .int .i64 F), (fun v _ => v = .slice (some ⟨bl, ol, none⟩) n cl), (fun v _ => v = .int .i64 i), (fun v _ => v = .pointer (some ⟨bl, ol + i * 2, none⟩)), (fun v _ => v = .pointer (some ⟨bl, ol + i * 2 + 1, none⟩)), (fun v _ => v = .int .i64 F), (fun v _ => v = .bool false), (fun v _ => v = .bool false), (fun v _ => v = .bool false), (fun v _ => v = .slice (some ⟨bq, oq2, none⟩) k cc'), (fun v _ => v = .int .i64 mm), (fun v _ => v = .pointer (some ⟨B16, 2, none⟩)), (fun v _ => v = .int .i64 K), (fun v _ => v = .pointer (some ⟨bq, oq2 + mm * 4, none⟩)), (fun v _ => v = .pointer (some ⟨bq, oq2 + mm * 4 + K.toNat, none⟩)), (fun v _ => v = .int .i64 gp), (fun v _ => v = .int .i64 A), (fun v _ => v = .int .i64 gp), (fun v _ => v = .bool false), (fun v _ => v = .bool false), (fun v _ => v = .bool false), (fun v _ => v = .pointer (some ⟨B16, 2, none⟩)), (fun v _ => v = .int .i64 K), (fun v _ => v = .bool false), (fun v _ => v = .bool false), (fun _ _ => True), (fun _ _ => True), (fun _ _ => True), (fun _ _ => True), (fun _ _ => True), (fun _ _ => True), (fun _ _ => True), (fun _ _ => True), (fun _ _ => True), (fun _ _ => True), (fun _ _ => True), (fun v _ => v = .bool false), (fun v _ => v = .bool false)]) (skip := fun i => ([34, 35, 36, 37, 38, 39, 40, 41, 42, 43, 44] : List Nat).contains i) (ia := 1000) (is := 1000) (k := 159) (Shape := (fun _ _ => True)) (Full := (fun _ _ => True)) (by kernel_rfl) (by kernel_rfl) rfl rfl (by decide) (by decide) (by simp) ?_ (by decide) (fun _ _ _ _ _ => trivial) (fun _ _ _ _ _ => trivial) ?_ ?_ ?_ ?_
              · exact .inl rfl
              · exact ⟨fun _ _ _ h _ => h, fun _ _ _ h _ => h, fun _ _ _ h _ => h, fun _ _ _ h _ => h, fun _ _ _ h _ => h, fun _ _ _ h _ => h, fun _ _ _ h _ => h, fun _ _ _ h _ => h, fun _ _ _ h _ => h, fun _ _ _ h _ => h, fun _ _ _ h _ => h, fun _ _ _ h _ => h, fun _ _ _ h _ => h, fun _ _ _ h _ => h, fun _ _ _ h _ => h, fun _ _ _ h _ => h, fun _ _ _ h _ => h, fun _ _ _ h _ => h, fun _ _ _ h _ => h, fun _ _ _ h _ => h, fun _ _ _ h _ => h, fun _ _ _ h _ => h, fun _ _ _ h _ => h, fun _ _ _ h _ => h, fun _ _ _ h _ => h, fun _ _ _ h _ => h, fun _ _ _ h _ => h, fun _ _ _ h _ => h, fun _ _ _ h _ => h, fun _ _ _ h _ => h, fun _ _ _ h _ => h, fun _ _ _ h _ => h, fun _ _ _ h _ => h, fun _ _ _ h _ => h, fun _ _ _ h _ => h, fun _ _ _ h _ => h, fun _ _ _ h _ => h, fun _ _ _ h _ => h, fun _ _ _ h _ => h, fun _ _ _ h _ => h, fun _ _ _ h _ => h, fun _ _ _ h _ => h, fun _ _ _ h _ => h, fun _ _ _ h _ => h, fun _ _ _ h _ => h, fun _ _ _ h _ => h, fun _ _ _ h _ => h, trivial⟩
              · exact ⟨rfl, rfl, rfl, ⟨rfl, ⟨_, rfl⟩, by decide, by decide, fun _ _ h => h⟩, ⟨rfl, ⟨_, rfl⟩, by decide, by decide, fun _ _ h => h⟩, ⟨rfl, ⟨_, rfl⟩, by decide, by decide, fun _ _ h => h⟩, rfl, rfl, ⟨rfl, ⟨_, rfl⟩, by decide, by decide, fun _ _ h => h⟩, ⟨rfl, ⟨_, rfl⟩, by decide, by decide, fun _ _ h => h⟩, ⟨rfl, ⟨_, rfl⟩, by decide, by decide, fun _ _ h => h⟩, ⟨rfl, ⟨_, rfl⟩, by decide, by decide, fun _ _ h => h⟩, ⟨rfl, ⟨_, rfl⟩, by decide, by decide, fun _ _ h => h⟩, ⟨rfl, ⟨_, rfl⟩, by decide, by decide, fun _ _ h => h⟩, ⟨rfl, ⟨_, rfl⟩, by decide, by decide, fun _ _ h => h⟩, ⟨rfl, ⟨_, rfl⟩, by decide, by decide, fun _ _ h => h⟩, rfl, rfl, ⟨rfl, ⟨_, rfl⟩, by decide, by decide, fun _ _ h => h⟩, ⟨rfl, ⟨_, rfl⟩, by decide, by decide, fun _ _ h => h⟩, ⟨rfl, ⟨_, rfl⟩, by decide, by decide, fun _ _ h => h⟩, ⟨rfl, ⟨_, rfl⟩, by decide, by decide, fun _ _ h => h⟩, ⟨rfl, ⟨_, rfl⟩, by decide, by decide, fun _ _ h => h⟩, ⟨rfl, ⟨_, rfl⟩, by decide, by decide, fun _ _ h => h⟩, ⟨rfl, ⟨_, rfl⟩, by decide, by decide, fun _ _ h => h⟩, ⟨rfl, ⟨_, rfl⟩, by decide, by decide, fun _ _ h => h⟩, ⟨rfl, ⟨_, rfl⟩, by decide, by decide, fun _ _ h => h⟩, ⟨rfl, ⟨_, rfl⟩, by decide, by decide, fun _ _ h => h⟩, rfl, rfl, ⟨rfl, ⟨_, rfl⟩, by decide, by decide, fun _ _ h => h⟩, ⟨rfl, ⟨_, rfl⟩, by decide, by decide, fun _ _ h => h⟩, ⟨rfl, ⟨_, rfl⟩, by decide, by decide, fun _ _ h => h⟩, ⟨rfl, ⟨_, rfl⟩, by decide, by decide, fun _ _ h => h⟩, ⟨rfl, ⟨_, rfl⟩, by decide, by decide, fun _ _ h => h⟩, ⟨rfl, ⟨_, rfl⟩, by decide, by decide, fun _ _ h => h⟩, ⟨rfl, ⟨_, rfl⟩, by decide, by decide, fun _ _ h => h⟩, ⟨rfl, ⟨_, rfl⟩, by decide, by decide, fun _ _ h => h⟩, ⟨rfl, ⟨_, rfl⟩, by decide, by decide, fun _ _ h => h⟩, ⟨rfl, ⟨_, rfl⟩, by decide, by decide, fun _ _ h => h⟩, ⟨rfl, ⟨_, rfl⟩, by decide, by decide, fun _ _ h => h⟩, ⟨rfl, ⟨_, rfl⟩, by decide, by decide, fun _ _ h => h⟩, ⟨rfl, ⟨_, rfl⟩, by decide, by decide, fun _ _ h => h⟩, ⟨rfl, ⟨_, rfl⟩, by decide, by decide, fun _ _ h => h⟩, ⟨rfl, ⟨_, rfl⟩, by decide, by decide, fun _ _ h => h⟩, ⟨rfl, ⟨_, rfl⟩, by decide, by decide, fun _ _ h => h⟩, rfl, trivial⟩
              · refine ⟨?_, ?_, ?_, ?_, ?_, ?_, ?_, ?_, ?_, ?_, ?_, ?_, ?_, ?_, ?_, ?_, ?_, ?_, ?_, ?_, ?_, ?_, ?_, ?_, ?_, ?_, ?_, ?_, ?_, ?_, ?_, ?_, ?_, ?_, ?_, ?_, ?_, ?_, ?_, ?_, ?_, ?_, ?_, ?_, ?_, ?_, ?_, trivial⟩
                · intro _ a' w' hb' hs hd hn Kc hK
                  have f17 : a'.tmps[17]?.getD undef = .bool true := (hs 17 (by decide)).trans rfl
                  clear hs hd hn
                  rw [if_neg (by decide), if_neg (by decide)] at hK
                  have u1 : w'.cell? ⟨bl, ol + i * 2 + 1, none⟩ = some (.int .i64 F) := (hb'.cell (p := ⟨bl, ol + i * 2 + 1, none⟩) (by have := hbS.size; show bl < w7.heap.size; omega)).trans v1T
                  have uC : w'.cell? ⟨bq, oq2 + mm * 4 + K.toNat, none⟩ = some (.int .i64 gp) := (hb'.cell (p := ⟨bq, oq2 + mm * 4 + K.toNat, none⟩) lbq).trans vC
                  obtain ⟨lX', t0', t1', t2', t3', -, -, -, -⟩ := gX.below hb'
                  unfold Oper.wp
                  go_simp
                  try go_bits
                  exact hK _ _ (Below.refl _ _) (by first | rfl | (show Value.int _ _ = Value.int _ _; go_num; done) | (simp [valOf, *]; done) | (simp [valOf]; omega))
                · intro _ a' w' hb' hs hd hn Kc hK
                  have f112 : a'.tmps[112]?.getD undef = .bool true := hd 0 112 (by first | rfl | decide | simp [Region.binds]) rfl (by decide) (by decide) rfl
                  clear hs hd hn
                  rw [if_neg (by decide), if_neg (by decide)] at hK
                  have u1 : w'.cell? ⟨bl, ol + i * 2 + 1, none⟩ = some (.int .i64 F) := (hb'.cell (p := ⟨bl, ol + i * 2 + 1, none⟩) (by have := hbS.size; show bl < w7.heap.size; omega)).trans v1T
                  have uC : w'.cell? ⟨bq, oq2 + mm * 4 + K.toNat, none⟩ = some (.int .i64 gp) := (hb'.cell (p := ⟨bq, oq2 + mm * 4 + K.toNat, none⟩) lbq).trans vC
                  obtain ⟨lX', t0', t1', t2', t3', -, -, -, -⟩ := gX.below hb'
                  unfold Oper.wp
                  go_simp
                  try go_bits
                  exact hK _ _ (Below.refl _ _) (by first | rfl | (show Value.int _ _ = Value.int _ _; go_num; done) | (simp [valOf, *]; done) | (simp [valOf]; omega))
                · intro _ a' w' hb' hs hd hn Kc hK
                  have f113 : a'.tmps[113]?.getD undef = .bool false := hd 1 113 (by first | rfl | decide | simp [Region.binds]) rfl (by decide) (by decide) rfl
                  clear hs hd hn
                  rw [if_neg (by decide), if_neg (by decide)] at hK
                  have u1 : w'.cell? ⟨bl, ol + i * 2 + 1, none⟩ = some (.int .i64 F) := (hb'.cell (p := ⟨bl, ol + i * 2 + 1, none⟩) (by have := hbS.size; show bl < w7.heap.size; omega)).trans v1T
                  have uC : w'.cell? ⟨bq, oq2 + mm * 4 + K.toNat, none⟩ = some (.int .i64 gp) := (hb'.cell (p := ⟨bq, oq2 + mm * 4 + K.toNat, none⟩) lbq).trans vC
                  obtain ⟨lX', t0', t1', t2', t3', -, -, -, -⟩ := gX.below hb'
                  unfold Oper.wp
                  go_simp
                  try go_bits
                  exact hK _ _ (Below.refl _ _) (by first | rfl | (show Value.int _ _ = Value.int _ _; go_num; done) | (simp [valOf, *]; done) | (simp [valOf]; omega))
                · intro _ a' w' hb' hs hd hn Kc hK
                  have f16 : a'.tmps[16]?.getD undef = .pointer (some ⟨B16, 0, none⟩) := (hs 16 (by decide)).trans rfl
                  clear hs hd hn
                  rw [if_neg (by decide), if_neg (by decide)] at hK
                  have u1 : w'.cell? ⟨bl, ol + i * 2 + 1, none⟩ = some (.int .i64 F) := (hb'.cell (p := ⟨bl, ol + i * 2 + 1, none⟩) (by have := hbS.size; show bl < w7.heap.size; omega)).trans v1T
                  have uC : w'.cell? ⟨bq, oq2 + mm * 4 + K.toNat, none⟩ = some (.int .i64 gp) := (hb'.cell (p := ⟨bq, oq2 + mm * 4 + K.toNat, none⟩) lbq).trans vC
                  obtain ⟨lX', t0', t1', t2', t3', -, -, -, -⟩ := gX.below hb'
                  unfold Oper.wp
                  go_simp
                  try go_bits
                  exact hK _ _ (Below.refl _ _) (by first | rfl | (show Value.int _ _ = Value.int _ _; go_num; done) | (simp [valOf, *]; done) | (simp [valOf]; omega))
                · intro _ a' w' hb' hs hd hn Kc hK
                  have f115 : a'.tmps[115]?.getD undef = .pointer (some ⟨B16, 0, none⟩) := hd 3 115 (by first | rfl | decide | simp [Region.binds]) rfl (by decide) (by decide) rfl
                  clear hs hd hn
                  rw [if_neg (by decide), if_neg (by decide)] at hK
                  have u1 : w'.cell? ⟨bl, ol + i * 2 + 1, none⟩ = some (.int .i64 F) := (hb'.cell (p := ⟨bl, ol + i * 2 + 1, none⟩) (by have := hbS.size; show bl < w7.heap.size; omega)).trans v1T
                  have uC : w'.cell? ⟨bq, oq2 + mm * 4 + K.toNat, none⟩ = some (.int .i64 gp) := (hb'.cell (p := ⟨bq, oq2 + mm * 4 + K.toNat, none⟩) lbq).trans vC
                  obtain ⟨lX', t0', t1', t2', t3', -, -, -, -⟩ := gX.below hb'
                  unfold Oper.wp
                  go_simp
                  try go_bits
                  exact hK _ _ (Below.refl _ _) (by first | rfl | (show Value.int _ _ = Value.int _ _; go_num; done) | (simp [valOf, *]; done) | (simp [valOf]; omega))
                · intro _ a' w' hb' hs hd hn Kc hK
                  have f116 : a'.tmps[116]?.getD undef = .bool true := hd 4 116 (by first | rfl | decide | simp [Region.binds]) rfl (by decide) (by decide) rfl
                  clear hs hd hn
                  rw [if_neg (by decide), if_neg (by decide)] at hK
                  have u1 : w'.cell? ⟨bl, ol + i * 2 + 1, none⟩ = some (.int .i64 F) := (hb'.cell (p := ⟨bl, ol + i * 2 + 1, none⟩) (by have := hbS.size; show bl < w7.heap.size; omega)).trans v1T
                  have uC : w'.cell? ⟨bq, oq2 + mm * 4 + K.toNat, none⟩ = some (.int .i64 gp) := (hb'.cell (p := ⟨bq, oq2 + mm * 4 + K.toNat, none⟩) lbq).trans vC
                  obtain ⟨lX', t0', t1', t2', t3', -, -, -, -⟩ := gX.below hb'
                  unfold Oper.wp
                  go_simp
                  try go_bits
                  exact hK _ _ (Below.refl _ _) (by first | rfl | (show Value.int _ _ = Value.int _ _; go_num; done) | (simp [valOf, *]; done) | (simp [valOf]; omega))
                · intro _ a' w' hb' hs hd hn Kc hK
                  have f114 : a'.tmps[114]?.getD undef = .bool false := hd 2 114 (by first | rfl | decide | simp [Region.binds]) rfl (by decide) (by decide) rfl
                  have f117 : a'.tmps[117]?.getD undef = .bool false := hd 5 117 (by first | rfl | decide | simp [Region.binds]) rfl (by decide) (by decide) rfl
                  clear hs hd hn
                  rw [if_neg (by decide), if_neg (by decide)] at hK
                  have u1 : w'.cell? ⟨bl, ol + i * 2 + 1, none⟩ = some (.int .i64 F) := (hb'.cell (p := ⟨bl, ol + i * 2 + 1, none⟩) (by have := hbS.size; show bl < w7.heap.size; omega)).trans v1T
                  have uC : w'.cell? ⟨bq, oq2 + mm * 4 + K.toNat, none⟩ = some (.int .i64 gp) := (hb'.cell (p := ⟨bq, oq2 + mm * 4 + K.toNat, none⟩) lbq).trans vC
                  obtain ⟨lX', t0', t1', t2', t3', -, -, -, -⟩ := gX.below hb'
                  unfold Oper.wp
                  go_simp
                  try go_bits
                  exact hK _ _ (Below.refl _ _) (by first | rfl | (show Value.int _ _ = Value.int _ _; go_num; done) | (simp [valOf, *]; done) | (simp [valOf]; omega))
                · intro _ a' w' hb' hs hd hn Kc hK
                  have f118 : a'.tmps[118]?.getD undef = .bool false := hd 6 118 (by first | rfl | decide | simp [Region.binds]) rfl (by decide) (by decide) rfl
                  clear hs hd hn
                  rw [if_neg (by decide), if_neg (by decide)] at hK
                  have u1 : w'.cell? ⟨bl, ol + i * 2 + 1, none⟩ = some (.int .i64 F) := (hb'.cell (p := ⟨bl, ol + i * 2 + 1, none⟩) (by have := hbS.size; show bl < w7.heap.size; omega)).trans v1T
                  have uC : w'.cell? ⟨bq, oq2 + mm * 4 + K.toNat, none⟩ = some (.int .i64 gp) := (hb'.cell (p := ⟨bq, oq2 + mm * 4 + K.toNat, none⟩) lbq).trans vC
                  obtain ⟨lX', t0', t1', t2', t3', -, -, -, -⟩ := gX.below hb'
                  unfold Oper.wp
                  go_simp
                  try go_bits
                  exact hK _ _ (Below.refl _ _) (by first | rfl | (show Value.int _ _ = Value.int _ _; go_num; done) | (simp [valOf, *]; done) | (simp [valOf]; omega))
                · intro _ a' w' hb' hs hd hn Kc hK
                  have f16 : a'.tmps[16]?.getD undef = .pointer (some ⟨B16, 0, none⟩) := (hs 16 (by decide)).trans rfl
                  clear hs hd hn
                  rw [if_neg (by decide), if_neg (by decide)] at hK
                  have u1 : w'.cell? ⟨bl, ol + i * 2 + 1, none⟩ = some (.int .i64 F) := (hb'.cell (p := ⟨bl, ol + i * 2 + 1, none⟩) (by have := hbS.size; show bl < w7.heap.size; omega)).trans v1T
                  have uC : w'.cell? ⟨bq, oq2 + mm * 4 + K.toNat, none⟩ = some (.int .i64 gp) := (hb'.cell (p := ⟨bq, oq2 + mm * 4 + K.toNat, none⟩) lbq).trans vC
                  obtain ⟨lX', t0', t1', t2', t3', -, -, -, -⟩ := gX.below hb'
                  unfold Oper.wp
                  go_simp
                  try go_bits
                  exact hK _ _ (Below.refl _ _) (by first | rfl | (show Value.int _ _ = Value.int _ _; go_num; done) | (simp [valOf, *]; done) | (simp [valOf]; omega))
                · intro _ a' w' hb' hs hd hn Kc hK
                  have f120 : a'.tmps[120]?.getD undef = .pointer (some ⟨B16, 3, none⟩) := hd 8 120 (by first | rfl | decide | simp [Region.binds]) rfl (by decide) (by decide) rfl
                  clear hs hd hn
                  rw [if_neg (by decide), if_neg (by decide)] at hK
                  have u1 : w'.cell? ⟨bl, ol + i * 2 + 1, none⟩ = some (.int .i64 F) := (hb'.cell (p := ⟨bl, ol + i * 2 + 1, none⟩) (by have := hbS.size; show bl < w7.heap.size; omega)).trans v1T
                  have uC : w'.cell? ⟨bq, oq2 + mm * 4 + K.toNat, none⟩ = some (.int .i64 gp) := (hb'.cell (p := ⟨bq, oq2 + mm * 4 + K.toNat, none⟩) lbq).trans vC
                  obtain ⟨lX', t0', t1', t2', t3', -, -, -, -⟩ := gX.below hb'
                  unfold Oper.wp
                  go_simp
                  try go_bits
                  exact hK _ _ (Below.refl _ _) (by first | rfl | (show Value.int _ _ = Value.int _ _; go_num; done) | (simp [valOf, *]; done) | (simp [valOf]; omega))
                · intro _ a' w' hb' hs hd hn Kc hK
                  have f2 : a'.tmps[2]?.getD undef = .slice (some ⟨bl, ol, none⟩) n cl := (hs 2 (by decide)).trans rfl
                  clear hs hd hn
                  rw [if_neg (by decide), if_neg (by decide)] at hK
                  have u1 : w'.cell? ⟨bl, ol + i * 2 + 1, none⟩ = some (.int .i64 F) := (hb'.cell (p := ⟨bl, ol + i * 2 + 1, none⟩) (by have := hbS.size; show bl < w7.heap.size; omega)).trans v1T
                  have uC : w'.cell? ⟨bq, oq2 + mm * 4 + K.toNat, none⟩ = some (.int .i64 gp) := (hb'.cell (p := ⟨bq, oq2 + mm * 4 + K.toNat, none⟩) lbq).trans vC
                  obtain ⟨lX', t0', t1', t2', t3', -, -, -, -⟩ := gX.below hb'
                  unfold Oper.wp
                  go_simp
                  try go_bits
                  exact hK _ _ (Below.refl _ _) (by first | rfl | (show Value.int _ _ = Value.int _ _; go_num; done) | (simp [valOf, *]; done) | (simp [valOf]; omega))
                · intro _ a' w' hb' hs hd hn Kc hK
                  have f10 : a'.tmps[10]?.getD undef = .int .i64 i := (hs 10 (by decide)).trans rfl
                  clear hs hd hn
                  rw [if_neg (by decide), if_neg (by decide)] at hK
                  have u1 : w'.cell? ⟨bl, ol + i * 2 + 1, none⟩ = some (.int .i64 F) := (hb'.cell (p := ⟨bl, ol + i * 2 + 1, none⟩) (by have := hbS.size; show bl < w7.heap.size; omega)).trans v1T
                  have uC : w'.cell? ⟨bq, oq2 + mm * 4 + K.toNat, none⟩ = some (.int .i64 gp) := (hb'.cell (p := ⟨bq, oq2 + mm * 4 + K.toNat, none⟩) lbq).trans vC
                  obtain ⟨lX', t0', t1', t2', t3', -, -, -, -⟩ := gX.below hb'
                  unfold Oper.wp
                  go_simp
                  try go_bits
                  exact hK _ _ (Below.refl _ _) (by first | rfl | (show Value.int _ _ = Value.int _ _; go_num; done) | (simp [valOf, *]; done) | (simp [valOf]; omega))
                · intro _ a' w' hb' hs hd hn Kc hK
                  have f122 : a'.tmps[122]?.getD undef = .slice (some ⟨bl, ol, none⟩) n cl := hd 10 122 (by first | rfl | decide | simp [Region.binds]) rfl (by decide) (by decide) rfl
                  have f123 : a'.tmps[123]?.getD undef = .int .i64 i := hd 11 123 (by first | rfl | decide | simp [Region.binds]) rfl (by decide) (by decide) rfl
                  clear hs hd hn
                  rw [if_neg (by decide), if_neg (by decide)] at hK
                  have u1 : w'.cell? ⟨bl, ol + i * 2 + 1, none⟩ = some (.int .i64 F) := (hb'.cell (p := ⟨bl, ol + i * 2 + 1, none⟩) (by have := hbS.size; show bl < w7.heap.size; omega)).trans v1T
                  have uC : w'.cell? ⟨bq, oq2 + mm * 4 + K.toNat, none⟩ = some (.int .i64 gp) := (hb'.cell (p := ⟨bq, oq2 + mm * 4 + K.toNat, none⟩) lbq).trans vC
                  obtain ⟨lX', t0', t1', t2', t3', -, -, -, -⟩ := gX.below hb'
                  unfold Oper.wp
                  go_simp
                  try go_bits
                  exact hK _ _ (Below.refl _ _) (by first | rfl | (show Value.int _ _ = Value.int _ _; go_num; done) | (simp [valOf, *]; done) | (simp [valOf]; omega))
                · intro _ a' w' hb' hs hd hn Kc hK
                  have f124 : a'.tmps[124]?.getD undef = .pointer (some ⟨bl, ol + i * 2, none⟩) := hd 12 124 (by first | rfl | decide | simp [Region.binds]) rfl (by decide) (by decide) rfl
                  clear hs hd hn
                  rw [if_neg (by decide), if_neg (by decide)] at hK
                  have u1 : w'.cell? ⟨bl, ol + i * 2 + 1, none⟩ = some (.int .i64 F) := (hb'.cell (p := ⟨bl, ol + i * 2 + 1, none⟩) (by have := hbS.size; show bl < w7.heap.size; omega)).trans v1T
                  have uC : w'.cell? ⟨bq, oq2 + mm * 4 + K.toNat, none⟩ = some (.int .i64 gp) := (hb'.cell (p := ⟨bq, oq2 + mm * 4 + K.toNat, none⟩) lbq).trans vC
                  obtain ⟨lX', t0', t1', t2', t3', -, -, -, -⟩ := gX.below hb'
                  unfold Oper.wp
                  go_simp
                  try go_bits
                  exact hK _ _ (Below.refl _ _) (by first | rfl | (show Value.int _ _ = Value.int _ _; go_num; done) | (simp [valOf, *]; done) | (simp [valOf]; omega))
                · intro _ a' w' hb' hs hd hn Kc hK
                  have f125 : a'.tmps[125]?.getD undef = .pointer (some ⟨bl, ol + i * 2 + 1, none⟩) := hd 13 125 (by first | rfl | decide | simp [Region.binds]) rfl (by decide) (by decide) rfl
                  clear hs hd hn
                  rw [if_neg (by decide), if_neg (by decide)] at hK
                  have u1 : w'.cell? ⟨bl, ol + i * 2 + 1, none⟩ = some (.int .i64 F) := (hb'.cell (p := ⟨bl, ol + i * 2 + 1, none⟩) (by have := hbS.size; show bl < w7.heap.size; omega)).trans v1T
                  have uC : w'.cell? ⟨bq, oq2 + mm * 4 + K.toNat, none⟩ = some (.int .i64 gp) := (hb'.cell (p := ⟨bq, oq2 + mm * 4 + K.toNat, none⟩) lbq).trans vC
                  obtain ⟨lX', t0', t1', t2', t3', -, -, -, -⟩ := gX.below hb'
                  unfold Oper.wp
                  go_simp
                  try go_bits
                  exact hK _ _ (Below.refl _ _) (by first | rfl | (show Value.int _ _ = Value.int _ _; go_num; done) | (simp [valOf, *]; done) | (simp [valOf]; omega))
                · intro _ a' w' hb' hs hd hn Kc hK
                  have f121 : a'.tmps[121]?.getD undef = .int .i64 F := hd 9 121 (by first | rfl | decide | simp [Region.binds]) rfl (by decide) (by decide) rfl
                  have f126 : a'.tmps[126]?.getD undef = .int .i64 F := hd 14 126 (by first | rfl | decide | simp [Region.binds]) rfl (by decide) (by decide) rfl
                  clear hs hd hn
                  rw [if_neg (by decide), if_neg (by decide)] at hK
                  have u1 : w'.cell? ⟨bl, ol + i * 2 + 1, none⟩ = some (.int .i64 F) := (hb'.cell (p := ⟨bl, ol + i * 2 + 1, none⟩) (by have := hbS.size; show bl < w7.heap.size; omega)).trans v1T
                  have uC : w'.cell? ⟨bq, oq2 + mm * 4 + K.toNat, none⟩ = some (.int .i64 gp) := (hb'.cell (p := ⟨bq, oq2 + mm * 4 + K.toNat, none⟩) lbq).trans vC
                  obtain ⟨lX', t0', t1', t2', t3', -, -, -, -⟩ := gX.below hb'
                  unfold Oper.wp
                  go_simp
                  try go_bits
                  exact hK _ _ (Below.refl _ _) (by first | rfl | (show Value.int _ _ = Value.int _ _; go_num; done) | (simp [valOf, *]; done) | (simp [valOf]; omega))
                · intro _ a' w' hb' hs hd hn Kc hK
                  have f119 : a'.tmps[119]?.getD undef = .bool false := hd 7 119 (by first | rfl | decide | simp [Region.binds]) rfl (by decide) (by decide) rfl
                  have f127 : a'.tmps[127]?.getD undef = .bool false := hd 15 127 (by first | rfl | decide | simp [Region.binds]) rfl (by decide) (by decide) rfl
                  clear hs hd hn
                  rw [if_neg (by decide), if_neg (by decide)] at hK
                  have u1 : w'.cell? ⟨bl, ol + i * 2 + 1, none⟩ = some (.int .i64 F) := (hb'.cell (p := ⟨bl, ol + i * 2 + 1, none⟩) (by have := hbS.size; show bl < w7.heap.size; omega)).trans v1T
                  have uC : w'.cell? ⟨bq, oq2 + mm * 4 + K.toNat, none⟩ = some (.int .i64 gp) := (hb'.cell (p := ⟨bq, oq2 + mm * 4 + K.toNat, none⟩) lbq).trans vC
                  obtain ⟨lX', t0', t1', t2', t3', -, -, -, -⟩ := gX.below hb'
                  unfold Oper.wp
                  go_simp
                  try go_bits
                  exact hK _ _ (Below.refl _ _) (by first | rfl | (show Value.int _ _ = Value.int _ _; go_num; done) | (simp [valOf, *]; done) | (simp [valOf]; omega))
                · intro _ a' w' hb' hs hd hn Kc hK
                  have f128 : a'.tmps[128]?.getD undef = .bool false := hd 16 128 (by first | rfl | decide | simp [Region.binds]) rfl (by decide) (by decide) rfl
                  clear hs hd hn
                  rw [if_neg (by decide), if_neg (by decide)] at hK
                  have u1 : w'.cell? ⟨bl, ol + i * 2 + 1, none⟩ = some (.int .i64 F) := (hb'.cell (p := ⟨bl, ol + i * 2 + 1, none⟩) (by have := hbS.size; show bl < w7.heap.size; omega)).trans v1T
                  have uC : w'.cell? ⟨bq, oq2 + mm * 4 + K.toNat, none⟩ = some (.int .i64 gp) := (hb'.cell (p := ⟨bq, oq2 + mm * 4 + K.toNat, none⟩) lbq).trans vC
                  obtain ⟨lX', t0', t1', t2', t3', -, -, -, -⟩ := gX.below hb'
                  unfold Oper.wp
                  go_simp
                  try go_bits
                  exact hK _ _ (Below.refl _ _) (by first | rfl | (show Value.int _ _ = Value.int _ _; go_num; done) | (simp [valOf, *]; done) | (simp [valOf]; omega))
                · intro _ a' w' hb' hs hd hn Kc hK
                  have f8 : a'.tmps[8]?.getD undef = .slice (some ⟨bq, oq2, none⟩) k cc' := (hs 8 (by decide)).trans rfl
                  clear hs hd hn
                  rw [if_neg (by decide), if_neg (by decide)] at hK
                  have u1 : w'.cell? ⟨bl, ol + i * 2 + 1, none⟩ = some (.int .i64 F) := (hb'.cell (p := ⟨bl, ol + i * 2 + 1, none⟩) (by have := hbS.size; show bl < w7.heap.size; omega)).trans v1T
                  have uC : w'.cell? ⟨bq, oq2 + mm * 4 + K.toNat, none⟩ = some (.int .i64 gp) := (hb'.cell (p := ⟨bq, oq2 + mm * 4 + K.toNat, none⟩) lbq).trans vC
                  obtain ⟨lX', t0', t1', t2', t3', -, -, -, -⟩ := gX.below hb'
                  unfold Oper.wp
                  go_simp
                  try go_bits
                  exact hK _ _ (Below.refl _ _) (by first | rfl | (show Value.int _ _ = Value.int _ _; go_num; done) | (simp [valOf, *]; done) | (simp [valOf]; omega))
                · intro _ a' w' hb' hs hd hn Kc hK
                  have f11 : a'.tmps[11]?.getD undef = .int .i64 mm := (hs 11 (by decide)).trans rfl
                  clear hs hd hn
                  rw [if_neg (by decide), if_neg (by decide)] at hK
                  have u1 : w'.cell? ⟨bl, ol + i * 2 + 1, none⟩ = some (.int .i64 F) := (hb'.cell (p := ⟨bl, ol + i * 2 + 1, none⟩) (by have := hbS.size; show bl < w7.heap.size; omega)).trans v1T
                  have uC : w'.cell? ⟨bq, oq2 + mm * 4 + K.toNat, none⟩ = some (.int .i64 gp) := (hb'.cell (p := ⟨bq, oq2 + mm * 4 + K.toNat, none⟩) lbq).trans vC
                  obtain ⟨lX', t0', t1', t2', t3', -, -, -, -⟩ := gX.below hb'
                  unfold Oper.wp
                  go_simp
                  try go_bits
                  exact hK _ _ (Below.refl _ _) (by first | rfl | (show Value.int _ _ = Value.int _ _; go_num; done) | (simp [valOf, *]; done) | (simp [valOf]; omega))
                · intro _ a' w' hb' hs hd hn Kc hK
                  have f16 : a'.tmps[16]?.getD undef = .pointer (some ⟨B16, 0, none⟩) := (hs 16 (by decide)).trans rfl
                  clear hs hd hn
                  rw [if_neg (by decide), if_neg (by decide)] at hK
                  have u1 : w'.cell? ⟨bl, ol + i * 2 + 1, none⟩ = some (.int .i64 F) := (hb'.cell (p := ⟨bl, ol + i * 2 + 1, none⟩) (by have := hbS.size; show bl < w7.heap.size; omega)).trans v1T
                  have uC : w'.cell? ⟨bq, oq2 + mm * 4 + K.toNat, none⟩ = some (.int .i64 gp) := (hb'.cell (p := ⟨bq, oq2 + mm * 4 + K.toNat, none⟩) lbq).trans vC
                  obtain ⟨lX', t0', t1', t2', t3', -, -, -, -⟩ := gX.below hb'
                  unfold Oper.wp
                  go_simp
                  try go_bits
                  exact hK _ _ (Below.refl _ _) (by first | rfl | (show Value.int _ _ = Value.int _ _; go_num; done) | (simp [valOf, *]; done) | (simp [valOf]; omega))
                · intro _ a' w' hb' hs hd hn Kc hK
                  have f132 : a'.tmps[132]?.getD undef = .pointer (some ⟨B16, 2, none⟩) := hd 20 132 (by first | rfl | decide | simp [Region.binds]) rfl (by decide) (by decide) rfl
                  clear hs hd hn
                  rw [if_neg (by decide), if_neg (by decide)] at hK
                  have u1 : w'.cell? ⟨bl, ol + i * 2 + 1, none⟩ = some (.int .i64 F) := (hb'.cell (p := ⟨bl, ol + i * 2 + 1, none⟩) (by have := hbS.size; show bl < w7.heap.size; omega)).trans v1T
                  have uC : w'.cell? ⟨bq, oq2 + mm * 4 + K.toNat, none⟩ = some (.int .i64 gp) := (hb'.cell (p := ⟨bq, oq2 + mm * 4 + K.toNat, none⟩) lbq).trans vC
                  obtain ⟨lX', t0', t1', t2', t3', -, -, -, -⟩ := gX.below hb'
                  unfold Oper.wp
                  go_simp
                  try go_bits
                  exact hK _ _ (Below.refl _ _) (by first | rfl | (show Value.int _ _ = Value.int _ _; go_num; done) | (simp [valOf, *]; done) | (simp [valOf]; omega))
                · intro _ a' w' hb' hs hd hn Kc hK
                  have f130 : a'.tmps[130]?.getD undef = .slice (some ⟨bq, oq2, none⟩) k cc' := hd 18 130 (by first | rfl | decide | simp [Region.binds]) rfl (by decide) (by decide) rfl
                  have f131 : a'.tmps[131]?.getD undef = .int .i64 mm := hd 19 131 (by first | rfl | decide | simp [Region.binds]) rfl (by decide) (by decide) rfl
                  clear hs hd hn
                  rw [if_neg (by decide), if_neg (by decide)] at hK
                  have u1 : w'.cell? ⟨bl, ol + i * 2 + 1, none⟩ = some (.int .i64 F) := (hb'.cell (p := ⟨bl, ol + i * 2 + 1, none⟩) (by have := hbS.size; show bl < w7.heap.size; omega)).trans v1T
                  have uC : w'.cell? ⟨bq, oq2 + mm * 4 + K.toNat, none⟩ = some (.int .i64 gp) := (hb'.cell (p := ⟨bq, oq2 + mm * 4 + K.toNat, none⟩) lbq).trans vC
                  obtain ⟨lX', t0', t1', t2', t3', -, -, -, -⟩ := gX.below hb'
                  unfold Oper.wp
                  go_simp
                  try go_bits
                  exact hK _ _ (Below.refl _ _) (by first | rfl | (show Value.int _ _ = Value.int _ _; go_num; done) | (simp [valOf, *]; done) | (simp [valOf]; omega))
                · intro _ a' w' hb' hs hd hn Kc hK
                  have f134 : a'.tmps[134]?.getD undef = .pointer (some ⟨bq, oq2 + mm * 4, none⟩) := hd 22 134 (by first | rfl | decide | simp [Region.binds]) rfl (by decide) (by decide) rfl
                  have f133 : a'.tmps[133]?.getD undef = .int .i64 K := hd 21 133 (by first | rfl | decide | simp [Region.binds]) rfl (by decide) (by decide) rfl
                  clear hs hd hn
                  rw [if_neg (by decide), if_neg (by decide)] at hK
                  have u1 : w'.cell? ⟨bl, ol + i * 2 + 1, none⟩ = some (.int .i64 F) := (hb'.cell (p := ⟨bl, ol + i * 2 + 1, none⟩) (by have := hbS.size; show bl < w7.heap.size; omega)).trans v1T
                  have uC : w'.cell? ⟨bq, oq2 + mm * 4 + K.toNat, none⟩ = some (.int .i64 gp) := (hb'.cell (p := ⟨bq, oq2 + mm * 4 + K.toNat, none⟩) lbq).trans vC
                  obtain ⟨lX', t0', t1', t2', t3', -, -, -, -⟩ := gX.below hb'
                  unfold Oper.wp
                  go_simp
                  try go_bits
                  exact hK _ _ (Below.refl _ _) (by first | rfl | (show Value.int _ _ = Value.int _ _; go_num; done) | (simp [valOf, *]; done) | (simp [valOf]; omega))
                · intro _ a' w' hb' hs hd hn Kc hK
                  have f135 : a'.tmps[135]?.getD undef = .pointer (some ⟨bq, oq2 + mm * 4 + K.toNat, none⟩) := hd 23 135 (by first | rfl | decide | simp [Region.binds]) rfl (by decide) (by decide) rfl
                  clear hs hd hn
                  rw [if_neg (by decide), if_neg (by decide)] at hK
                  have u1 : w'.cell? ⟨bl, ol + i * 2 + 1, none⟩ = some (.int .i64 F) := (hb'.cell (p := ⟨bl, ol + i * 2 + 1, none⟩) (by have := hbS.size; show bl < w7.heap.size; omega)).trans v1T
                  have uC : w'.cell? ⟨bq, oq2 + mm * 4 + K.toNat, none⟩ = some (.int .i64 gp) := (hb'.cell (p := ⟨bq, oq2 + mm * 4 + K.toNat, none⟩) lbq).trans vC
                  obtain ⟨lX', t0', t1', t2', t3', -, -, -, -⟩ := gX.below hb'
                  unfold Oper.wp
                  go_simp
                  try go_bits
                  exact hK _ _ (Below.refl _ _) (by first | rfl | (show Value.int _ _ = Value.int _ _; go_num; done) | (simp [valOf, *]; done) | (simp [valOf]; omega))
                · intro _ a' w' hb' hs hd hn Kc hK
                  have f14 : a'.tmps[14]?.getD undef = .int .i64 A := (hs 14 (by decide)).trans rfl
                  clear hs hd hn
                  rw [if_neg (by decide), if_neg (by decide)] at hK
                  have u1 : w'.cell? ⟨bl, ol + i * 2 + 1, none⟩ = some (.int .i64 F) := (hb'.cell (p := ⟨bl, ol + i * 2 + 1, none⟩) (by have := hbS.size; show bl < w7.heap.size; omega)).trans v1T
                  have uC : w'.cell? ⟨bq, oq2 + mm * 4 + K.toNat, none⟩ = some (.int .i64 gp) := (hb'.cell (p := ⟨bq, oq2 + mm * 4 + K.toNat, none⟩) lbq).trans vC
                  obtain ⟨lX', t0', t1', t2', t3', -, -, -, -⟩ := gX.below hb'
                  unfold Oper.wp
                  go_simp
                  try go_bits
                  exact hK _ _ (Below.refl _ _) (by first | rfl | (show Value.int _ _ = Value.int _ _; go_num; done) | (simp [valOf, *]; done) | (simp [valOf]; omega))
                · intro _ a' w' hb' hs hd hn Kc hK
                  have f137 : a'.tmps[137]?.getD undef = .int .i64 A := hd 25 137 (by first | rfl | decide | simp [Region.binds]) rfl (by decide) (by decide) rfl
                  clear hs hd hn
                  rw [if_neg (by decide), if_neg (by decide)] at hK
                  have u1 : w'.cell? ⟨bl, ol + i * 2 + 1, none⟩ = some (.int .i64 F) := (hb'.cell (p := ⟨bl, ol + i * 2 + 1, none⟩) (by have := hbS.size; show bl < w7.heap.size; omega)).trans v1T
                  have uC : w'.cell? ⟨bq, oq2 + mm * 4 + K.toNat, none⟩ = some (.int .i64 gp) := (hb'.cell (p := ⟨bq, oq2 + mm * 4 + K.toNat, none⟩) lbq).trans vC
                  obtain ⟨lX', t0', t1', t2', t3', -, -, -, -⟩ := gX.below hb'
                  unfold Oper.wp
                  go_simp
                  try go_bits
                  exact hK _ _ (Below.refl _ _) (by first | rfl | (show Value.int _ _ = Value.int _ _; go_num; done) | (simp [valOf, *]; done) | (simp [valOf]; omega))
                · intro _ a' w' hb' hs hd hn Kc hK
                  have f136 : a'.tmps[136]?.getD undef = .int .i64 gp := hd 24 136 (by first | rfl | decide | simp [Region.binds]) rfl (by decide) (by decide) rfl
                  have f138 : a'.tmps[138]?.getD undef = .int .i64 gp := hd 26 138 (by first | rfl | decide | simp [Region.binds]) rfl (by decide) (by decide) rfl
                  clear hs hd hn
                  rw [if_neg (by decide), if_neg (by decide)] at hK
                  have u1 : w'.cell? ⟨bl, ol + i * 2 + 1, none⟩ = some (.int .i64 F) := (hb'.cell (p := ⟨bl, ol + i * 2 + 1, none⟩) (by have := hbS.size; show bl < w7.heap.size; omega)).trans v1T
                  have uC : w'.cell? ⟨bq, oq2 + mm * 4 + K.toNat, none⟩ = some (.int .i64 gp) := (hb'.cell (p := ⟨bq, oq2 + mm * 4 + K.toNat, none⟩) lbq).trans vC
                  obtain ⟨lX', t0', t1', t2', t3', -, -, -, -⟩ := gX.below hb'
                  unfold Oper.wp
                  go_simp
                  try go_bits
                  exact hK _ _ (Below.refl _ _) (by first | rfl | (show Value.int _ _ = Value.int _ _; go_num; done) | (simp [valOf, *]; done) | (simp [valOf]; omega))
                · intro _ a' w' hb' hs hd hn Kc hK
                  have f129 : a'.tmps[129]?.getD undef = .bool false := hd 17 129 (by first | rfl | decide | simp [Region.binds]) rfl (by decide) (by decide) rfl
                  have f139 : a'.tmps[139]?.getD undef = .bool false := hd 27 139 (by first | rfl | decide | simp [Region.binds]) rfl (by decide) (by decide) rfl
                  clear hs hd hn
                  rw [if_neg (by decide), if_neg (by decide)] at hK
                  have u1 : w'.cell? ⟨bl, ol + i * 2 + 1, none⟩ = some (.int .i64 F) := (hb'.cell (p := ⟨bl, ol + i * 2 + 1, none⟩) (by have := hbS.size; show bl < w7.heap.size; omega)).trans v1T
                  have uC : w'.cell? ⟨bq, oq2 + mm * 4 + K.toNat, none⟩ = some (.int .i64 gp) := (hb'.cell (p := ⟨bq, oq2 + mm * 4 + K.toNat, none⟩) lbq).trans vC
                  obtain ⟨lX', t0', t1', t2', t3', -, -, -, -⟩ := gX.below hb'
                  unfold Oper.wp
                  go_simp
                  try go_bits
                  exact hK _ _ (Below.refl _ _) (by first | rfl | (show Value.int _ _ = Value.int _ _; go_num; done) | (simp [valOf, *]; done) | (simp [valOf]; omega))
                · intro _ a' w' hb' hs hd hn Kc hK
                  have f140 : a'.tmps[140]?.getD undef = .bool false := hd 28 140 (by first | rfl | decide | simp [Region.binds]) rfl (by decide) (by decide) rfl
                  clear hs hd hn
                  rw [if_neg (by decide), if_neg (by decide)] at hK
                  have u1 : w'.cell? ⟨bl, ol + i * 2 + 1, none⟩ = some (.int .i64 F) := (hb'.cell (p := ⟨bl, ol + i * 2 + 1, none⟩) (by have := hbS.size; show bl < w7.heap.size; omega)).trans v1T
                  have uC : w'.cell? ⟨bq, oq2 + mm * 4 + K.toNat, none⟩ = some (.int .i64 gp) := (hb'.cell (p := ⟨bq, oq2 + mm * 4 + K.toNat, none⟩) lbq).trans vC
                  obtain ⟨lX', t0', t1', t2', t3', -, -, -, -⟩ := gX.below hb'
                  unfold Oper.wp
                  go_simp
                  try go_bits
                  exact hK _ _ (Below.refl _ _) (by first | rfl | (show Value.int _ _ = Value.int _ _; go_num; done) | (simp [valOf, *]; done) | (simp [valOf]; omega))
                · intro _ a' w' hb' hs hd hn Kc hK
                  have f16 : a'.tmps[16]?.getD undef = .pointer (some ⟨B16, 0, none⟩) := (hs 16 (by decide)).trans rfl
                  clear hs hd hn
                  rw [if_neg (by decide), if_neg (by decide)] at hK
                  have u1 : w'.cell? ⟨bl, ol + i * 2 + 1, none⟩ = some (.int .i64 F) := (hb'.cell (p := ⟨bl, ol + i * 2 + 1, none⟩) (by have := hbS.size; show bl < w7.heap.size; omega)).trans v1T
                  have uC : w'.cell? ⟨bq, oq2 + mm * 4 + K.toNat, none⟩ = some (.int .i64 gp) := (hb'.cell (p := ⟨bq, oq2 + mm * 4 + K.toNat, none⟩) lbq).trans vC
                  obtain ⟨lX', t0', t1', t2', t3', -, -, -, -⟩ := gX.below hb'
                  unfold Oper.wp
                  go_simp
                  try go_bits
                  exact hK _ _ (Below.refl _ _) (by first | rfl | (show Value.int _ _ = Value.int _ _; go_num; done) | (simp [valOf, *]; done) | (simp [valOf]; omega))
                · intro _ a' w' hb' hs hd hn Kc hK
                  have f142 : a'.tmps[142]?.getD undef = .pointer (some ⟨B16, 2, none⟩) := hd 30 142 (by first | rfl | decide | simp [Region.binds]) rfl (by decide) (by decide) rfl
                  clear hs hd hn
                  rw [if_neg (by decide), if_neg (by decide)] at hK
                  have u1 : w'.cell? ⟨bl, ol + i * 2 + 1, none⟩ = some (.int .i64 F) := (hb'.cell (p := ⟨bl, ol + i * 2 + 1, none⟩) (by have := hbS.size; show bl < w7.heap.size; omega)).trans v1T
                  have uC : w'.cell? ⟨bq, oq2 + mm * 4 + K.toNat, none⟩ = some (.int .i64 gp) := (hb'.cell (p := ⟨bq, oq2 + mm * 4 + K.toNat, none⟩) lbq).trans vC
                  obtain ⟨lX', t0', t1', t2', t3', -, -, -, -⟩ := gX.below hb'
                  unfold Oper.wp
                  go_simp
                  try go_bits
                  exact hK _ _ (Below.refl _ _) (by first | rfl | (show Value.int _ _ = Value.int _ _; go_num; done) | (simp [valOf, *]; done) | (simp [valOf]; omega))
                · intro _ a' w' hb' hs hd hn Kc hK
                  have f143 : a'.tmps[143]?.getD undef = .int .i64 K := hd 31 143 (by first | rfl | decide | simp [Region.binds]) rfl (by decide) (by decide) rfl
                  clear hs hd hn
                  rw [if_neg (by decide), if_neg (by decide)] at hK
                  have u1 : w'.cell? ⟨bl, ol + i * 2 + 1, none⟩ = some (.int .i64 F) := (hb'.cell (p := ⟨bl, ol + i * 2 + 1, none⟩) (by have := hbS.size; show bl < w7.heap.size; omega)).trans v1T
                  have uC : w'.cell? ⟨bq, oq2 + mm * 4 + K.toNat, none⟩ = some (.int .i64 gp) := (hb'.cell (p := ⟨bq, oq2 + mm * 4 + K.toNat, none⟩) lbq).trans vC
                  obtain ⟨lX', t0', t1', t2', t3', -, -, -, -⟩ := gX.below hb'
                  unfold Oper.wp
                  go_simp
                  try go_bits
                  exact hK _ _ (Below.refl _ _) (by first | rfl | (show Value.int _ _ = Value.int _ _; go_num; done) | (simp [valOf, *]; done) | (simp [valOf]; omega))
                · intro _ a' w' hb' hs hd hn Kc hK
                  have f144 : a'.tmps[144]?.getD undef = .bool false := hd 32 144 (by first | rfl | decide | simp [Region.binds]) rfl (by decide) (by decide) rfl
                  clear hs hd hn
                  rw [if_neg (by decide), if_neg (by decide)] at hK
                  have u1 : w'.cell? ⟨bl, ol + i * 2 + 1, none⟩ = some (.int .i64 F) := (hb'.cell (p := ⟨bl, ol + i * 2 + 1, none⟩) (by have := hbS.size; show bl < w7.heap.size; omega)).trans v1T
                  have uC : w'.cell? ⟨bq, oq2 + mm * 4 + K.toNat, none⟩ = some (.int .i64 gp) := (hb'.cell (p := ⟨bq, oq2 + mm * 4 + K.toNat, none⟩) lbq).trans vC
                  obtain ⟨lX', t0', t1', t2', t3', -, -, -, -⟩ := gX.below hb'
                  unfold Oper.wp
                  go_simp
                  try go_bits
                  exact hK _ _ (Below.refl _ _) (by first | rfl | (show Value.int _ _ = Value.int _ _; go_num; done) | (simp [valOf, *]; done) | (simp [valOf]; omega))
                · exact fun h => absurd h (by decide)
                · exact fun h => absurd h (by decide)
                · exact fun h => absurd h (by decide)
                · exact fun h => absurd h (by decide)
                · exact fun h => absurd h (by decide)
                · exact fun h => absurd h (by decide)
                · exact fun h => absurd h (by decide)
                · exact fun h => absurd h (by decide)
                · exact fun h => absurd h (by decide)
                · exact fun h => absurd h (by decide)
                · exact fun h => absurd h (by decide)
                · intro _ a' w' hb' hs hd hn Kc hK
                  have f145 : a'.tmps[145]?.getD undef = .bool false := hd 33 145 (by first | rfl | decide | simp [Region.binds]) rfl (by decide) (by decide) rfl
                  clear hs hd hn
                  rw [if_neg (by decide), if_neg (by decide)] at hK
                  have u1 : w'.cell? ⟨bl, ol + i * 2 + 1, none⟩ = some (.int .i64 F) := (hb'.cell (p := ⟨bl, ol + i * 2 + 1, none⟩) (by have := hbS.size; show bl < w7.heap.size; omega)).trans v1T
                  have uC : w'.cell? ⟨bq, oq2 + mm * 4 + K.toNat, none⟩ = some (.int .i64 gp) := (hb'.cell (p := ⟨bq, oq2 + mm * 4 + K.toNat, none⟩) lbq).trans vC
                  obtain ⟨lX', t0', t1', t2', t3', -, -, -, -⟩ := gX.below hb'
                  unfold Oper.wp
                  go_simp
                  try go_bits
                  exact hK _ _ (Below.refl _ _) (by first | rfl | (show Value.int _ _ = Value.int _ _; go_num; done) | (simp [valOf, *]; done) | (simp [valOf]; omega))
                · intro _ a' w' hb' hs hd hn Kc hK
                  have f141 : a'.tmps[141]?.getD undef = .bool false := hd 29 141 (by first | rfl | decide | simp [Region.binds]) rfl (by decide) (by decide) rfl
                  have f157 : a'.tmps[157]?.getD undef = .bool false := hd 45 157 (by first | rfl | decide | simp [Region.binds]) rfl (by decide) (by decide) rfl
                  clear hs hd hn
                  rw [if_neg (by decide), if_neg (by decide)] at hK
                  have u1 : w'.cell? ⟨bl, ol + i * 2 + 1, none⟩ = some (.int .i64 F) := (hb'.cell (p := ⟨bl, ol + i * 2 + 1, none⟩) (by have := hbS.size; show bl < w7.heap.size; omega)).trans v1T
                  have uC : w'.cell? ⟨bq, oq2 + mm * 4 + K.toNat, none⟩ = some (.int .i64 gp) := (hb'.cell (p := ⟨bq, oq2 + mm * 4 + K.toNat, none⟩) lbq).trans vC
                  obtain ⟨lX', t0', t1', t2', t3', -, -, -, -⟩ := gX.below hb'
                  unfold Oper.wp
                  go_simp
                  try go_bits
                  exact hK _ _ (Below.refl _ _) (by first | rfl | (show Value.int _ _ = Value.int _ _; go_num; done) | (simp [valOf, *]; done) | (simp [valOf]; omega))
              intro Xf g w' hX hb hv
              have q158 : Xf 158 = .bool false := hv 46 158 rfl rfl (by decide) (by decide)
              clear hX hv
              simp only [List.map_cons, List.map_nil, q158, puts, Act.put, Nat.reduceAdd, List.setIfInBounds_toArray, List.set_cons_succ, List.set_cons_zero]
            case' inr =>
              have d5 : decide (0 < K) = true := by simp; omega
              have wu : IntKind.u64.wrap (K - 1) = K - 1 := by rw [IntKind.wrap_u64]; omega
              have hsh : wrap64 (2 * 2 ^ (K.toNat - 1)) = szW (K - 1) := by
                have h4 : K = 1 ∨ K = 2 ∨ K = 3 := by omega
                rcases h4 with rfl | rfl | rfl <;> decide +kernel
              have d6 : decide (F < szW (K - 1)) = false := by simp; omega
              refine wp_late (ds := [some 112, some 113, some 114, some 115, some 116, some 117, some 118, some 119, some 120, some 121, some 122, some 123, some 124, some 125, some 126, some 127, some 128, some 129, some 130, some 131, some 132, some 133, some 134, some 135, some 136, some 137, some 138, some 139, some 140, some 141, some 142, some 143, some 144, some 145, some 146, some 147, some 148, some 149, some 150, some 151, some 152, some 153, some 154, some 155, some 156, some 157, some 158]) (ts := [112, 113, 114, 115, 116, 117, 118, 119, 120, 121, 122, 123, 124, 125, 126, 127, 128, 129, 130, 131, 132, 133, 134, 135, 136, 137, 138, 139, 140, 141, 142, 143, 144, 145, 146, 147, 148, 149, 150, 151, 152, 153, 154, 155, 156, 157, 158]) (pv := [(fun v _ => v = .bool true), (fun v _ => v = .bool false), (fun v _ => v = .bool false), (fun v _ => v = .pointer (some ⟨B16, 0, none⟩)), (fun v _ => v = .bool true), (fun v _ => v = .bool false), (fun v _ => v = .bool false), (fun v _ => v = .bool false), (fun v _ => v = .pointer (some ⟨B16, 3, none⟩)), (fun v _ => v = .int .i64 F), (fun v _ => v = .slice (some ⟨bl, ol, none⟩) n cl), (fun v _ => v = .int .i64 i), (fun v _ => v = .pointer (some ⟨bl, ol + i * 2, none⟩)), (fun v _ => v = .pointer (some ⟨bl, ol + i * 2 + 1, none⟩)), (fun v _ => v = .int .i64 F), (fun v _ => v = .bool false), (fun v _ => v = .bool false), (fun v _ => v = .bool false), (fun v _ => v = .slice (some ⟨bq, oq2, none⟩) k cc'), (fun v _ => v = .int .i64 mm), (fun v _ => v = .pointer (some ⟨B16, 2, none⟩)), (fun v _ => v = .int .i64 K), (fun v _ => v = .pointer (some ⟨bq, oq2 + mm * 4, none⟩)), (fun v _ => v = .pointer (some ⟨bq, oq2 + mm * 4 + K.toNat, none⟩)), (fun v _ => v = .int .i64 gp), (fun v _ => v = .int .i64 A), (fun v _ => v = .int .i64 gp), (fun v _ => v = .bool false), (fun v _ => v = .bool false), (fun v _ => v = .bool false), (fun v _ => v = .pointer (some ⟨B16, 2, none⟩)), (fun v _ => v = .int .i64 K), (fun v _ => v = .bool true), (fun v _ => v = .bool true), (fun v _ => v = .slice (some ⟨bl, ol, none⟩) n cl), (fun v _ => v = .int .i64 i), (fun v _ => v = .pointer (some ⟨bl, ol + i * 2, none⟩)), (fun v _ => v = .pointer (some ⟨bl, ol + i * 2 + 1, none⟩)), (fun v _ => v = .int .i64 F), (fun v _ => v = .pointer (some ⟨B16, 2, none⟩)), (fun v _ => v = .int .i64 K), (fun v _ => v = .int .i64 (K - 1)), (fun v _ => v = .int .u64 (K - 1)), (fun v _ => v = .int .i64 (szW (K - 1))), (fun v _ => v = .bool false), (fun v _ => v = .bool false), (fun v _ => v = .bool false)]) (skip := fun i => ([] : List Nat).contains i) (ia := 1000) (is := 1000) (k := 159) (Shape := (fun _ _ => True)) (Full := (fun _ _ => True)) (by kernel_rfl) (by kernel_rfl) rfl rfl (by decide) (by decide) (by simp) ?_ (by decide) (fun _ _ _ _ _ => trivial) (fun _ _ _ _ _ => trivial) ?_ ?_ ?_ ?_
              · exact .inl rfl
              · exact ⟨fun _ _ _ h _ => h, fun _ _ _ h _ => h, fun _ _ _ h _ => h, fun _ _ _ h _ => h, fun _ _ _ h _ => h, fun _ _ _ h _ => h, fun _ _ _ h _ => h, fun _ _ _ h _ => h, fun _ _ _ h _ => h, fun _ _ _ h _ => h, fun _ _ _ h _ => h, fun _ _ _ h _ => h, fun _ _ _ h _ => h, fun _ _ _ h _ => h, fun _ _ _ h _ => h, fun _ _ _ h _ => h, fun _ _ _ h _ => h, fun _ _ _ h _ => h, fun _ _ _ h _ => h, fun _ _ _ h _ => h, fun _ _ _ h _ => h, fun _ _ _ h _ => h, fun _ _ _ h _ => h, fun _ _ _ h _ => h, fun _ _ _ h _ => h, fun _ _ _ h _ => h, fun _ _ _ h _ => h, fun _ _ _ h _ => h, fun _ _ _ h _ => h, fun _ _ _ h _ => h, fun _ _ _ h _ => h, fun _ _ _ h _ => h, fun _ _ _ h _ => h, fun _ _ _ h _ => h, fun _ _ _ h _ => h, fun _ _ _ h _ => h, fun _ _ _ h _ => h, fun _ _ _ h _ => h, fun _ _ _ h _ => h, fun _ _ _ h _ => h, fun _ _ _ h _ => h, fun _ _ _ h _ => h, fun _ _ _ h _ => h, fun _ _ _ h _ => h, fun _ _ _ h _ => h, fun _ _ _ h _ => h, fun _ _ _ h _ => h, trivial⟩
              · exact ⟨rfl, rfl, rfl, ⟨rfl, ⟨_, rfl⟩, by decide, by decide, fun _ _ h => h⟩, ⟨rfl, ⟨_, rfl⟩, by decide, by decide, fun _ _ h => h⟩, ⟨rfl, ⟨_, rfl⟩, by decide, by decide, fun _ _ h => h⟩, rfl, rfl, ⟨rfl, ⟨_, rfl⟩, by decide, by decide, fun _ _ h => h⟩, ⟨rfl, ⟨_, rfl⟩, by decide, by decide, fun _ _ h => h⟩, ⟨rfl, ⟨_, rfl⟩, by decide, by decide, fun _ _ h => h⟩, ⟨rfl, ⟨_, rfl⟩, by decide, by decide, fun _ _ h => h⟩, ⟨rfl, ⟨_, rfl⟩, by decide, by decide, fun _ _ h => h⟩, ⟨rfl, ⟨_, rfl⟩, by decide, by decide, fun _ _ h => h⟩, ⟨rfl, ⟨_, rfl⟩, by decide, by decide, fun _ _ h => h⟩, ⟨rfl, ⟨_, rfl⟩, by decide, by decide, fun _ _ h => h⟩, rfl, rfl, ⟨rfl, ⟨_, rfl⟩, by decide, by decide, fun _ _ h => h⟩, ⟨rfl, ⟨_, rfl⟩, by decide, by decide, fun _ _ h => h⟩, ⟨rfl, ⟨_, rfl⟩, by decide, by decide, fun _ _ h => h⟩, ⟨rfl, ⟨_, rfl⟩, by decide, by decide, fun _ _ h => h⟩, ⟨rfl, ⟨_, rfl⟩, by decide, by decide, fun _ _ h => h⟩, ⟨rfl, ⟨_, rfl⟩, by decide, by decide, fun _ _ h => h⟩, ⟨rfl, ⟨_, rfl⟩, by decide, by decide, fun _ _ h => h⟩, ⟨rfl, ⟨_, rfl⟩, by decide, by decide, fun _ _ h => h⟩, ⟨rfl, ⟨_, rfl⟩, by decide, by decide, fun _ _ h => h⟩, ⟨rfl, ⟨_, rfl⟩, by decide, by decide, fun _ _ h => h⟩, rfl, rfl, ⟨rfl, ⟨_, rfl⟩, by decide, by decide, fun _ _ h => h⟩, ⟨rfl, ⟨_, rfl⟩, by decide, by decide, fun _ _ h => h⟩, ⟨rfl, ⟨_, rfl⟩, by decide, by decide, fun _ _ h => h⟩, ⟨rfl, ⟨_, rfl⟩, by decide, by decide, fun _ _ h => h⟩, ⟨rfl, ⟨_, rfl⟩, by decide, by decide, fun _ _ h => h⟩, ⟨rfl, ⟨_, rfl⟩, by decide, by decide, fun _ _ h => h⟩, ⟨rfl, ⟨_, rfl⟩, by decide, by decide, fun _ _ h => h⟩, ⟨rfl, ⟨_, rfl⟩, by decide, by decide, fun _ _ h => h⟩, ⟨rfl, ⟨_, rfl⟩, by decide, by decide, fun _ _ h => h⟩, ⟨rfl, ⟨_, rfl⟩, by decide, by decide, fun _ _ h => h⟩, ⟨rfl, ⟨_, rfl⟩, by decide, by decide, fun _ _ h => h⟩, ⟨rfl, ⟨_, rfl⟩, by decide, by decide, fun _ _ h => h⟩, ⟨rfl, ⟨_, rfl⟩, by decide, by decide, fun _ _ h => h⟩, ⟨rfl, ⟨_, rfl⟩, by decide, by decide, fun _ _ h => h⟩, ⟨rfl, ⟨_, rfl⟩, by decide, by decide, fun _ _ h => h⟩, ⟨rfl, ⟨_, rfl⟩, by decide, by decide, fun _ _ h => h⟩, rfl, trivial⟩
              · refine ⟨?_, ?_, ?_, ?_, ?_, ?_, ?_, ?_, ?_, ?_, ?_, ?_, ?_, ?_, ?_, ?_, ?_, ?_, ?_, ?_, ?_, ?_, ?_, ?_, ?_, ?_, ?_, ?_, ?_, ?_, ?_, ?_, ?_, ?_, ?_, ?_, ?_, ?_, ?_, ?_, ?_, ?_, ?_, ?_, ?_, ?_, ?_, trivial⟩
                · intro _ a' w' hb' hs hd hn Kc hK
                  have f17 : a'.tmps[17]?.getD undef = .bool true := (hs 17 (by decide)).trans rfl
                  clear hs hd hn
                  rw [if_neg (by decide), if_neg (by decide)] at hK
                  have u1 : w'.cell? ⟨bl, ol + i * 2 + 1, none⟩ = some (.int .i64 F) := (hb'.cell (p := ⟨bl, ol + i * 2 + 1, none⟩) (by have := hbS.size; show bl < w7.heap.size; omega)).trans v1T
                  have uC : w'.cell? ⟨bq, oq2 + mm * 4 + K.toNat, none⟩ = some (.int .i64 gp) := (hb'.cell (p := ⟨bq, oq2 + mm * 4 + K.toNat, none⟩) lbq).trans vC
                  obtain ⟨lX', t0', t1', t2', t3', -, -, -, -⟩ := gX.below hb'
                  unfold Oper.wp
                  go_simp
                  try go_bits
                  exact hK _ _ (Below.refl _ _) (by first | rfl | (show Value.int _ _ = Value.int _ _; go_num; done) | (simp [valOf, *]; done) | (simp [valOf]; omega))
                · intro _ a' w' hb' hs hd hn Kc hK
                  have f112 : a'.tmps[112]?.getD undef = .bool true := hd 0 112 (by first | rfl | decide | simp [Region.binds]) rfl (by decide) (by decide) rfl
                  clear hs hd hn
                  rw [if_neg (by decide), if_neg (by decide)] at hK
                  have u1 : w'.cell? ⟨bl, ol + i * 2 + 1, none⟩ = some (.int .i64 F) := (hb'.cell (p := ⟨bl, ol + i * 2 + 1, none⟩) (by have := hbS.size; show bl < w7.heap.size; omega)).trans v1T
                  have uC : w'.cell? ⟨bq, oq2 + mm * 4 + K.toNat, none⟩ = some (.int .i64 gp) := (hb'.cell (p := ⟨bq, oq2 + mm * 4 + K.toNat, none⟩) lbq).trans vC
                  obtain ⟨lX', t0', t1', t2', t3', -, -, -, -⟩ := gX.below hb'
                  unfold Oper.wp
                  go_simp
                  try go_bits
                  exact hK _ _ (Below.refl _ _) (by first | rfl | (show Value.int _ _ = Value.int _ _; go_num; done) | (simp [valOf, *]; done) | (simp [valOf]; omega))
                · intro _ a' w' hb' hs hd hn Kc hK
                  have f113 : a'.tmps[113]?.getD undef = .bool false := hd 1 113 (by first | rfl | decide | simp [Region.binds]) rfl (by decide) (by decide) rfl
                  clear hs hd hn
                  rw [if_neg (by decide), if_neg (by decide)] at hK
                  have u1 : w'.cell? ⟨bl, ol + i * 2 + 1, none⟩ = some (.int .i64 F) := (hb'.cell (p := ⟨bl, ol + i * 2 + 1, none⟩) (by have := hbS.size; show bl < w7.heap.size; omega)).trans v1T
                  have uC : w'.cell? ⟨bq, oq2 + mm * 4 + K.toNat, none⟩ = some (.int .i64 gp) := (hb'.cell (p := ⟨bq, oq2 + mm * 4 + K.toNat, none⟩) lbq).trans vC
                  obtain ⟨lX', t0', t1', t2', t3', -, -, -, -⟩ := gX.below hb'
                  unfold Oper.wp
                  go_simp
                  try go_bits
                  exact hK _ _ (Below.refl _ _) (by first | rfl | (show Value.int _ _ = Value.int _ _; go_num; done) | (simp [valOf, *]; done) | (simp [valOf]; omega))
                · intro _ a' w' hb' hs hd hn Kc hK
                  have f16 : a'.tmps[16]?.getD undef = .pointer (some ⟨B16, 0, none⟩) := (hs 16 (by decide)).trans rfl
                  clear hs hd hn
                  rw [if_neg (by decide), if_neg (by decide)] at hK
                  have u1 : w'.cell? ⟨bl, ol + i * 2 + 1, none⟩ = some (.int .i64 F) := (hb'.cell (p := ⟨bl, ol + i * 2 + 1, none⟩) (by have := hbS.size; show bl < w7.heap.size; omega)).trans v1T
                  have uC : w'.cell? ⟨bq, oq2 + mm * 4 + K.toNat, none⟩ = some (.int .i64 gp) := (hb'.cell (p := ⟨bq, oq2 + mm * 4 + K.toNat, none⟩) lbq).trans vC
                  obtain ⟨lX', t0', t1', t2', t3', -, -, -, -⟩ := gX.below hb'
                  unfold Oper.wp
                  go_simp
                  try go_bits
                  exact hK _ _ (Below.refl _ _) (by first | rfl | (show Value.int _ _ = Value.int _ _; go_num; done) | (simp [valOf, *]; done) | (simp [valOf]; omega))
                · intro _ a' w' hb' hs hd hn Kc hK
                  have f115 : a'.tmps[115]?.getD undef = .pointer (some ⟨B16, 0, none⟩) := hd 3 115 (by first | rfl | decide | simp [Region.binds]) rfl (by decide) (by decide) rfl
                  clear hs hd hn
                  rw [if_neg (by decide), if_neg (by decide)] at hK
                  have u1 : w'.cell? ⟨bl, ol + i * 2 + 1, none⟩ = some (.int .i64 F) := (hb'.cell (p := ⟨bl, ol + i * 2 + 1, none⟩) (by have := hbS.size; show bl < w7.heap.size; omega)).trans v1T
                  have uC : w'.cell? ⟨bq, oq2 + mm * 4 + K.toNat, none⟩ = some (.int .i64 gp) := (hb'.cell (p := ⟨bq, oq2 + mm * 4 + K.toNat, none⟩) lbq).trans vC
                  obtain ⟨lX', t0', t1', t2', t3', -, -, -, -⟩ := gX.below hb'
                  unfold Oper.wp
                  go_simp
                  try go_bits
                  exact hK _ _ (Below.refl _ _) (by first | rfl | (show Value.int _ _ = Value.int _ _; go_num; done) | (simp [valOf, *]; done) | (simp [valOf]; omega))
                · intro _ a' w' hb' hs hd hn Kc hK
                  have f116 : a'.tmps[116]?.getD undef = .bool true := hd 4 116 (by first | rfl | decide | simp [Region.binds]) rfl (by decide) (by decide) rfl
                  clear hs hd hn
                  rw [if_neg (by decide), if_neg (by decide)] at hK
                  have u1 : w'.cell? ⟨bl, ol + i * 2 + 1, none⟩ = some (.int .i64 F) := (hb'.cell (p := ⟨bl, ol + i * 2 + 1, none⟩) (by have := hbS.size; show bl < w7.heap.size; omega)).trans v1T
                  have uC : w'.cell? ⟨bq, oq2 + mm * 4 + K.toNat, none⟩ = some (.int .i64 gp) := (hb'.cell (p := ⟨bq, oq2 + mm * 4 + K.toNat, none⟩) lbq).trans vC
                  obtain ⟨lX', t0', t1', t2', t3', -, -, -, -⟩ := gX.below hb'
                  unfold Oper.wp
                  go_simp
                  try go_bits
                  exact hK _ _ (Below.refl _ _) (by first | rfl | (show Value.int _ _ = Value.int _ _; go_num; done) | (simp [valOf, *]; done) | (simp [valOf]; omega))
                · intro _ a' w' hb' hs hd hn Kc hK
                  have f114 : a'.tmps[114]?.getD undef = .bool false := hd 2 114 (by first | rfl | decide | simp [Region.binds]) rfl (by decide) (by decide) rfl
                  have f117 : a'.tmps[117]?.getD undef = .bool false := hd 5 117 (by first | rfl | decide | simp [Region.binds]) rfl (by decide) (by decide) rfl
                  clear hs hd hn
                  rw [if_neg (by decide), if_neg (by decide)] at hK
                  have u1 : w'.cell? ⟨bl, ol + i * 2 + 1, none⟩ = some (.int .i64 F) := (hb'.cell (p := ⟨bl, ol + i * 2 + 1, none⟩) (by have := hbS.size; show bl < w7.heap.size; omega)).trans v1T
                  have uC : w'.cell? ⟨bq, oq2 + mm * 4 + K.toNat, none⟩ = some (.int .i64 gp) := (hb'.cell (p := ⟨bq, oq2 + mm * 4 + K.toNat, none⟩) lbq).trans vC
                  obtain ⟨lX', t0', t1', t2', t3', -, -, -, -⟩ := gX.below hb'
                  unfold Oper.wp
                  go_simp
                  try go_bits
                  exact hK _ _ (Below.refl _ _) (by first | rfl | (show Value.int _ _ = Value.int _ _; go_num; done) | (simp [valOf, *]; done) | (simp [valOf]; omega))
                · intro _ a' w' hb' hs hd hn Kc hK
                  have f118 : a'.tmps[118]?.getD undef = .bool false := hd 6 118 (by first | rfl | decide | simp [Region.binds]) rfl (by decide) (by decide) rfl
                  clear hs hd hn
                  rw [if_neg (by decide), if_neg (by decide)] at hK
                  have u1 : w'.cell? ⟨bl, ol + i * 2 + 1, none⟩ = some (.int .i64 F) := (hb'.cell (p := ⟨bl, ol + i * 2 + 1, none⟩) (by have := hbS.size; show bl < w7.heap.size; omega)).trans v1T
                  have uC : w'.cell? ⟨bq, oq2 + mm * 4 + K.toNat, none⟩ = some (.int .i64 gp) := (hb'.cell (p := ⟨bq, oq2 + mm * 4 + K.toNat, none⟩) lbq).trans vC
                  obtain ⟨lX', t0', t1', t2', t3', -, -, -, -⟩ := gX.below hb'
                  unfold Oper.wp
                  go_simp
                  try go_bits
                  exact hK _ _ (Below.refl _ _) (by first | rfl | (show Value.int _ _ = Value.int _ _; go_num; done) | (simp [valOf, *]; done) | (simp [valOf]; omega))
                · intro _ a' w' hb' hs hd hn Kc hK
                  have f16 : a'.tmps[16]?.getD undef = .pointer (some ⟨B16, 0, none⟩) := (hs 16 (by decide)).trans rfl
                  clear hs hd hn
                  rw [if_neg (by decide), if_neg (by decide)] at hK
                  have u1 : w'.cell? ⟨bl, ol + i * 2 + 1, none⟩ = some (.int .i64 F) := (hb'.cell (p := ⟨bl, ol + i * 2 + 1, none⟩) (by have := hbS.size; show bl < w7.heap.size; omega)).trans v1T
                  have uC : w'.cell? ⟨bq, oq2 + mm * 4 + K.toNat, none⟩ = some (.int .i64 gp) := (hb'.cell (p := ⟨bq, oq2 + mm * 4 + K.toNat, none⟩) lbq).trans vC
                  obtain ⟨lX', t0', t1', t2', t3', -, -, -, -⟩ := gX.below hb'
                  unfold Oper.wp
                  go_simp
                  try go_bits
                  exact hK _ _ (Below.refl _ _) (by first | rfl | (show Value.int _ _ = Value.int _ _; go_num; done) | (simp [valOf, *]; done) | (simp [valOf]; omega))
                · intro _ a' w' hb' hs hd hn Kc hK
                  have f120 : a'.tmps[120]?.getD undef = .pointer (some ⟨B16, 3, none⟩) := hd 8 120 (by first | rfl | decide | simp [Region.binds]) rfl (by decide) (by decide) rfl
                  clear hs hd hn
                  rw [if_neg (by decide), if_neg (by decide)] at hK
                  have u1 : w'.cell? ⟨bl, ol + i * 2 + 1, none⟩ = some (.int .i64 F) := (hb'.cell (p := ⟨bl, ol + i * 2 + 1, none⟩) (by have := hbS.size; show bl < w7.heap.size; omega)).trans v1T
                  have uC : w'.cell? ⟨bq, oq2 + mm * 4 + K.toNat, none⟩ = some (.int .i64 gp) := (hb'.cell (p := ⟨bq, oq2 + mm * 4 + K.toNat, none⟩) lbq).trans vC
                  obtain ⟨lX', t0', t1', t2', t3', -, -, -, -⟩ := gX.below hb'
                  unfold Oper.wp
                  go_simp
                  try go_bits
                  exact hK _ _ (Below.refl _ _) (by first | rfl | (show Value.int _ _ = Value.int _ _; go_num; done) | (simp [valOf, *]; done) | (simp [valOf]; omega))
                · intro _ a' w' hb' hs hd hn Kc hK
                  have f2 : a'.tmps[2]?.getD undef = .slice (some ⟨bl, ol, none⟩) n cl := (hs 2 (by decide)).trans rfl
                  clear hs hd hn
                  rw [if_neg (by decide), if_neg (by decide)] at hK
                  have u1 : w'.cell? ⟨bl, ol + i * 2 + 1, none⟩ = some (.int .i64 F) := (hb'.cell (p := ⟨bl, ol + i * 2 + 1, none⟩) (by have := hbS.size; show bl < w7.heap.size; omega)).trans v1T
                  have uC : w'.cell? ⟨bq, oq2 + mm * 4 + K.toNat, none⟩ = some (.int .i64 gp) := (hb'.cell (p := ⟨bq, oq2 + mm * 4 + K.toNat, none⟩) lbq).trans vC
                  obtain ⟨lX', t0', t1', t2', t3', -, -, -, -⟩ := gX.below hb'
                  unfold Oper.wp
                  go_simp
                  try go_bits
                  exact hK _ _ (Below.refl _ _) (by first | rfl | (show Value.int _ _ = Value.int _ _; go_num; done) | (simp [valOf, *]; done) | (simp [valOf]; omega))
                · intro _ a' w' hb' hs hd hn Kc hK
                  have f10 : a'.tmps[10]?.getD undef = .int .i64 i := (hs 10 (by decide)).trans rfl
                  clear hs hd hn
                  rw [if_neg (by decide), if_neg (by decide)] at hK
                  have u1 : w'.cell? ⟨bl, ol + i * 2 + 1, none⟩ = some (.int .i64 F) := (hb'.cell (p := ⟨bl, ol + i * 2 + 1, none⟩) (by have := hbS.size; show bl < w7.heap.size; omega)).trans v1T
                  have uC : w'.cell? ⟨bq, oq2 + mm * 4 + K.toNat, none⟩ = some (.int .i64 gp) := (hb'.cell (p := ⟨bq, oq2 + mm * 4 + K.toNat, none⟩) lbq).trans vC
                  obtain ⟨lX', t0', t1', t2', t3', -, -, -, -⟩ := gX.below hb'
                  unfold Oper.wp
                  go_simp
                  try go_bits
                  exact hK _ _ (Below.refl _ _) (by first | rfl | (show Value.int _ _ = Value.int _ _; go_num; done) | (simp [valOf, *]; done) | (simp [valOf]; omega))
                · intro _ a' w' hb' hs hd hn Kc hK
                  have f122 : a'.tmps[122]?.getD undef = .slice (some ⟨bl, ol, none⟩) n cl := hd 10 122 (by first | rfl | decide | simp [Region.binds]) rfl (by decide) (by decide) rfl
                  have f123 : a'.tmps[123]?.getD undef = .int .i64 i := hd 11 123 (by first | rfl | decide | simp [Region.binds]) rfl (by decide) (by decide) rfl
                  clear hs hd hn
                  rw [if_neg (by decide), if_neg (by decide)] at hK
                  have u1 : w'.cell? ⟨bl, ol + i * 2 + 1, none⟩ = some (.int .i64 F) := (hb'.cell (p := ⟨bl, ol + i * 2 + 1, none⟩) (by have := hbS.size; show bl < w7.heap.size; omega)).trans v1T
                  have uC : w'.cell? ⟨bq, oq2 + mm * 4 + K.toNat, none⟩ = some (.int .i64 gp) := (hb'.cell (p := ⟨bq, oq2 + mm * 4 + K.toNat, none⟩) lbq).trans vC
                  obtain ⟨lX', t0', t1', t2', t3', -, -, -, -⟩ := gX.below hb'
                  unfold Oper.wp
                  go_simp
                  try go_bits
                  exact hK _ _ (Below.refl _ _) (by first | rfl | (show Value.int _ _ = Value.int _ _; go_num; done) | (simp [valOf, *]; done) | (simp [valOf]; omega))
                · intro _ a' w' hb' hs hd hn Kc hK
                  have f124 : a'.tmps[124]?.getD undef = .pointer (some ⟨bl, ol + i * 2, none⟩) := hd 12 124 (by first | rfl | decide | simp [Region.binds]) rfl (by decide) (by decide) rfl
                  clear hs hd hn
                  rw [if_neg (by decide), if_neg (by decide)] at hK
                  have u1 : w'.cell? ⟨bl, ol + i * 2 + 1, none⟩ = some (.int .i64 F) := (hb'.cell (p := ⟨bl, ol + i * 2 + 1, none⟩) (by have := hbS.size; show bl < w7.heap.size; omega)).trans v1T
                  have uC : w'.cell? ⟨bq, oq2 + mm * 4 + K.toNat, none⟩ = some (.int .i64 gp) := (hb'.cell (p := ⟨bq, oq2 + mm * 4 + K.toNat, none⟩) lbq).trans vC
                  obtain ⟨lX', t0', t1', t2', t3', -, -, -, -⟩ := gX.below hb'
                  unfold Oper.wp
                  go_simp
                  try go_bits
                  exact hK _ _ (Below.refl _ _) (by first | rfl | (show Value.int _ _ = Value.int _ _; go_num; done) | (simp [valOf, *]; done) | (simp [valOf]; omega))
                · intro _ a' w' hb' hs hd hn Kc hK
                  have f125 : a'.tmps[125]?.getD undef = .pointer (some ⟨bl, ol + i * 2 + 1, none⟩) := hd 13 125 (by first | rfl | decide | simp [Region.binds]) rfl (by decide) (by decide) rfl
                  clear hs hd hn
                  rw [if_neg (by decide), if_neg (by decide)] at hK
                  have u1 : w'.cell? ⟨bl, ol + i * 2 + 1, none⟩ = some (.int .i64 F) := (hb'.cell (p := ⟨bl, ol + i * 2 + 1, none⟩) (by have := hbS.size; show bl < w7.heap.size; omega)).trans v1T
                  have uC : w'.cell? ⟨bq, oq2 + mm * 4 + K.toNat, none⟩ = some (.int .i64 gp) := (hb'.cell (p := ⟨bq, oq2 + mm * 4 + K.toNat, none⟩) lbq).trans vC
                  obtain ⟨lX', t0', t1', t2', t3', -, -, -, -⟩ := gX.below hb'
                  unfold Oper.wp
                  go_simp
                  try go_bits
                  exact hK _ _ (Below.refl _ _) (by first | rfl | (show Value.int _ _ = Value.int _ _; go_num; done) | (simp [valOf, *]; done) | (simp [valOf]; omega))
                · intro _ a' w' hb' hs hd hn Kc hK
                  have f121 : a'.tmps[121]?.getD undef = .int .i64 F := hd 9 121 (by first | rfl | decide | simp [Region.binds]) rfl (by decide) (by decide) rfl
                  have f126 : a'.tmps[126]?.getD undef = .int .i64 F := hd 14 126 (by first | rfl | decide | simp [Region.binds]) rfl (by decide) (by decide) rfl
                  clear hs hd hn
                  rw [if_neg (by decide), if_neg (by decide)] at hK
                  have u1 : w'.cell? ⟨bl, ol + i * 2 + 1, none⟩ = some (.int .i64 F) := (hb'.cell (p := ⟨bl, ol + i * 2 + 1, none⟩) (by have := hbS.size; show bl < w7.heap.size; omega)).trans v1T
                  have uC : w'.cell? ⟨bq, oq2 + mm * 4 + K.toNat, none⟩ = some (.int .i64 gp) := (hb'.cell (p := ⟨bq, oq2 + mm * 4 + K.toNat, none⟩) lbq).trans vC
                  obtain ⟨lX', t0', t1', t2', t3', -, -, -, -⟩ := gX.below hb'
                  unfold Oper.wp
                  go_simp
                  try go_bits
                  exact hK _ _ (Below.refl _ _) (by first | rfl | (show Value.int _ _ = Value.int _ _; go_num; done) | (simp [valOf, *]; done) | (simp [valOf]; omega))
                · intro _ a' w' hb' hs hd hn Kc hK
                  have f119 : a'.tmps[119]?.getD undef = .bool false := hd 7 119 (by first | rfl | decide | simp [Region.binds]) rfl (by decide) (by decide) rfl
                  have f127 : a'.tmps[127]?.getD undef = .bool false := hd 15 127 (by first | rfl | decide | simp [Region.binds]) rfl (by decide) (by decide) rfl
                  clear hs hd hn
                  rw [if_neg (by decide), if_neg (by decide)] at hK
                  have u1 : w'.cell? ⟨bl, ol + i * 2 + 1, none⟩ = some (.int .i64 F) := (hb'.cell (p := ⟨bl, ol + i * 2 + 1, none⟩) (by have := hbS.size; show bl < w7.heap.size; omega)).trans v1T
                  have uC : w'.cell? ⟨bq, oq2 + mm * 4 + K.toNat, none⟩ = some (.int .i64 gp) := (hb'.cell (p := ⟨bq, oq2 + mm * 4 + K.toNat, none⟩) lbq).trans vC
                  obtain ⟨lX', t0', t1', t2', t3', -, -, -, -⟩ := gX.below hb'
                  unfold Oper.wp
                  go_simp
                  try go_bits
                  exact hK _ _ (Below.refl _ _) (by first | rfl | (show Value.int _ _ = Value.int _ _; go_num; done) | (simp [valOf, *]; done) | (simp [valOf]; omega))
                · intro _ a' w' hb' hs hd hn Kc hK
                  have f128 : a'.tmps[128]?.getD undef = .bool false := hd 16 128 (by first | rfl | decide | simp [Region.binds]) rfl (by decide) (by decide) rfl
                  clear hs hd hn
                  rw [if_neg (by decide), if_neg (by decide)] at hK
                  have u1 : w'.cell? ⟨bl, ol + i * 2 + 1, none⟩ = some (.int .i64 F) := (hb'.cell (p := ⟨bl, ol + i * 2 + 1, none⟩) (by have := hbS.size; show bl < w7.heap.size; omega)).trans v1T
                  have uC : w'.cell? ⟨bq, oq2 + mm * 4 + K.toNat, none⟩ = some (.int .i64 gp) := (hb'.cell (p := ⟨bq, oq2 + mm * 4 + K.toNat, none⟩) lbq).trans vC
                  obtain ⟨lX', t0', t1', t2', t3', -, -, -, -⟩ := gX.below hb'
                  unfold Oper.wp
                  go_simp
                  try go_bits
                  exact hK _ _ (Below.refl _ _) (by first | rfl | (show Value.int _ _ = Value.int _ _; go_num; done) | (simp [valOf, *]; done) | (simp [valOf]; omega))
                · intro _ a' w' hb' hs hd hn Kc hK
                  have f8 : a'.tmps[8]?.getD undef = .slice (some ⟨bq, oq2, none⟩) k cc' := (hs 8 (by decide)).trans rfl
                  clear hs hd hn
                  rw [if_neg (by decide), if_neg (by decide)] at hK
                  have u1 : w'.cell? ⟨bl, ol + i * 2 + 1, none⟩ = some (.int .i64 F) := (hb'.cell (p := ⟨bl, ol + i * 2 + 1, none⟩) (by have := hbS.size; show bl < w7.heap.size; omega)).trans v1T
                  have uC : w'.cell? ⟨bq, oq2 + mm * 4 + K.toNat, none⟩ = some (.int .i64 gp) := (hb'.cell (p := ⟨bq, oq2 + mm * 4 + K.toNat, none⟩) lbq).trans vC
                  obtain ⟨lX', t0', t1', t2', t3', -, -, -, -⟩ := gX.below hb'
                  unfold Oper.wp
                  go_simp
                  try go_bits
                  exact hK _ _ (Below.refl _ _) (by first | rfl | (show Value.int _ _ = Value.int _ _; go_num; done) | (simp [valOf, *]; done) | (simp [valOf]; omega))
                · intro _ a' w' hb' hs hd hn Kc hK
                  have f11 : a'.tmps[11]?.getD undef = .int .i64 mm := (hs 11 (by decide)).trans rfl
                  clear hs hd hn
                  rw [if_neg (by decide), if_neg (by decide)] at hK
                  have u1 : w'.cell? ⟨bl, ol + i * 2 + 1, none⟩ = some (.int .i64 F) := (hb'.cell (p := ⟨bl, ol + i * 2 + 1, none⟩) (by have := hbS.size; show bl < w7.heap.size; omega)).trans v1T
                  have uC : w'.cell? ⟨bq, oq2 + mm * 4 + K.toNat, none⟩ = some (.int .i64 gp) := (hb'.cell (p := ⟨bq, oq2 + mm * 4 + K.toNat, none⟩) lbq).trans vC
                  obtain ⟨lX', t0', t1', t2', t3', -, -, -, -⟩ := gX.below hb'
                  unfold Oper.wp
                  go_simp
                  try go_bits
                  exact hK _ _ (Below.refl _ _) (by first | rfl | (show Value.int _ _ = Value.int _ _; go_num; done) | (simp [valOf, *]; done) | (simp [valOf]; omega))
                · intro _ a' w' hb' hs hd hn Kc hK
                  have f16 : a'.tmps[16]?.getD undef = .pointer (some ⟨B16, 0, none⟩) := (hs 16 (by decide)).trans rfl
                  clear hs hd hn
                  rw [if_neg (by decide), if_neg (by decide)] at hK
                  have u1 : w'.cell? ⟨bl, ol + i * 2 + 1, none⟩ = some (.int .i64 F) := (hb'.cell (p := ⟨bl, ol + i * 2 + 1, none⟩) (by have := hbS.size; show bl < w7.heap.size; omega)).trans v1T
                  have uC : w'.cell? ⟨bq, oq2 + mm * 4 + K.toNat, none⟩ = some (.int .i64 gp) := (hb'.cell (p := ⟨bq, oq2 + mm * 4 + K.toNat, none⟩) lbq).trans vC
                  obtain ⟨lX', t0', t1', t2', t3', -, -, -, -⟩ := gX.below hb'
                  unfold Oper.wp
                  go_simp
                  try go_bits
                  exact hK _ _ (Below.refl _ _) (by first | rfl | (show Value.int _ _ = Value.int _ _; go_num; done) | (simp [valOf, *]; done) | (simp [valOf]; omega))
                · intro _ a' w' hb' hs hd hn Kc hK
                  have f132 : a'.tmps[132]?.getD undef = .pointer (some ⟨B16, 2, none⟩) := hd 20 132 (by first | rfl | decide | simp [Region.binds]) rfl (by decide) (by decide) rfl
                  clear hs hd hn
                  rw [if_neg (by decide), if_neg (by decide)] at hK
                  have u1 : w'.cell? ⟨bl, ol + i * 2 + 1, none⟩ = some (.int .i64 F) := (hb'.cell (p := ⟨bl, ol + i * 2 + 1, none⟩) (by have := hbS.size; show bl < w7.heap.size; omega)).trans v1T
                  have uC : w'.cell? ⟨bq, oq2 + mm * 4 + K.toNat, none⟩ = some (.int .i64 gp) := (hb'.cell (p := ⟨bq, oq2 + mm * 4 + K.toNat, none⟩) lbq).trans vC
                  obtain ⟨lX', t0', t1', t2', t3', -, -, -, -⟩ := gX.below hb'
                  unfold Oper.wp
                  go_simp
                  try go_bits
                  exact hK _ _ (Below.refl _ _) (by first | rfl | (show Value.int _ _ = Value.int _ _; go_num; done) | (simp [valOf, *]; done) | (simp [valOf]; omega))
                · intro _ a' w' hb' hs hd hn Kc hK
                  have f130 : a'.tmps[130]?.getD undef = .slice (some ⟨bq, oq2, none⟩) k cc' := hd 18 130 (by first | rfl | decide | simp [Region.binds]) rfl (by decide) (by decide) rfl
                  have f131 : a'.tmps[131]?.getD undef = .int .i64 mm := hd 19 131 (by first | rfl | decide | simp [Region.binds]) rfl (by decide) (by decide) rfl
                  clear hs hd hn
                  rw [if_neg (by decide), if_neg (by decide)] at hK
                  have u1 : w'.cell? ⟨bl, ol + i * 2 + 1, none⟩ = some (.int .i64 F) := (hb'.cell (p := ⟨bl, ol + i * 2 + 1, none⟩) (by have := hbS.size; show bl < w7.heap.size; omega)).trans v1T
                  have uC : w'.cell? ⟨bq, oq2 + mm * 4 + K.toNat, none⟩ = some (.int .i64 gp) := (hb'.cell (p := ⟨bq, oq2 + mm * 4 + K.toNat, none⟩) lbq).trans vC
                  obtain ⟨lX', t0', t1', t2', t3', -, -, -, -⟩ := gX.below hb'
                  unfold Oper.wp
                  go_simp
                  try go_bits
                  exact hK _ _ (Below.refl _ _) (by first | rfl | (show Value.int _ _ = Value.int _ _; go_num; done) | (simp [valOf, *]; done) | (simp [valOf]; omega))
                · intro _ a' w' hb' hs hd hn Kc hK
                  have f134 : a'.tmps[134]?.getD undef = .pointer (some ⟨bq, oq2 + mm * 4, none⟩) := hd 22 134 (by first | rfl | decide | simp [Region.binds]) rfl (by decide) (by decide) rfl
                  have f133 : a'.tmps[133]?.getD undef = .int .i64 K := hd 21 133 (by first | rfl | decide | simp [Region.binds]) rfl (by decide) (by decide) rfl
                  clear hs hd hn
                  rw [if_neg (by decide), if_neg (by decide)] at hK
                  have u1 : w'.cell? ⟨bl, ol + i * 2 + 1, none⟩ = some (.int .i64 F) := (hb'.cell (p := ⟨bl, ol + i * 2 + 1, none⟩) (by have := hbS.size; show bl < w7.heap.size; omega)).trans v1T
                  have uC : w'.cell? ⟨bq, oq2 + mm * 4 + K.toNat, none⟩ = some (.int .i64 gp) := (hb'.cell (p := ⟨bq, oq2 + mm * 4 + K.toNat, none⟩) lbq).trans vC
                  obtain ⟨lX', t0', t1', t2', t3', -, -, -, -⟩ := gX.below hb'
                  unfold Oper.wp
                  go_simp
                  try go_bits
                  exact hK _ _ (Below.refl _ _) (by first | rfl | (show Value.int _ _ = Value.int _ _; go_num; done) | (simp [valOf, *]; done) | (simp [valOf]; omega))
                · intro _ a' w' hb' hs hd hn Kc hK
                  have f135 : a'.tmps[135]?.getD undef = .pointer (some ⟨bq, oq2 + mm * 4 + K.toNat, none⟩) := hd 23 135 (by first | rfl | decide | simp [Region.binds]) rfl (by decide) (by decide) rfl
                  clear hs hd hn
                  rw [if_neg (by decide), if_neg (by decide)] at hK
                  have u1 : w'.cell? ⟨bl, ol + i * 2 + 1, none⟩ = some (.int .i64 F) := (hb'.cell (p := ⟨bl, ol + i * 2 + 1, none⟩) (by have := hbS.size; show bl < w7.heap.size; omega)).trans v1T
                  have uC : w'.cell? ⟨bq, oq2 + mm * 4 + K.toNat, none⟩ = some (.int .i64 gp) := (hb'.cell (p := ⟨bq, oq2 + mm * 4 + K.toNat, none⟩) lbq).trans vC
                  obtain ⟨lX', t0', t1', t2', t3', -, -, -, -⟩ := gX.below hb'
                  unfold Oper.wp
                  go_simp
                  try go_bits
                  exact hK _ _ (Below.refl _ _) (by first | rfl | (show Value.int _ _ = Value.int _ _; go_num; done) | (simp [valOf, *]; done) | (simp [valOf]; omega))
                · intro _ a' w' hb' hs hd hn Kc hK
                  have f14 : a'.tmps[14]?.getD undef = .int .i64 A := (hs 14 (by decide)).trans rfl
                  clear hs hd hn
                  rw [if_neg (by decide), if_neg (by decide)] at hK
                  have u1 : w'.cell? ⟨bl, ol + i * 2 + 1, none⟩ = some (.int .i64 F) := (hb'.cell (p := ⟨bl, ol + i * 2 + 1, none⟩) (by have := hbS.size; show bl < w7.heap.size; omega)).trans v1T
                  have uC : w'.cell? ⟨bq, oq2 + mm * 4 + K.toNat, none⟩ = some (.int .i64 gp) := (hb'.cell (p := ⟨bq, oq2 + mm * 4 + K.toNat, none⟩) lbq).trans vC
                  obtain ⟨lX', t0', t1', t2', t3', -, -, -, -⟩ := gX.below hb'
                  unfold Oper.wp
                  go_simp
                  try go_bits
                  exact hK _ _ (Below.refl _ _) (by first | rfl | (show Value.int _ _ = Value.int _ _; go_num; done) | (simp [valOf, *]; done) | (simp [valOf]; omega))
                · intro _ a' w' hb' hs hd hn Kc hK
                  have f137 : a'.tmps[137]?.getD undef = .int .i64 A := hd 25 137 (by first | rfl | decide | simp [Region.binds]) rfl (by decide) (by decide) rfl
                  clear hs hd hn
                  rw [if_neg (by decide), if_neg (by decide)] at hK
                  have u1 : w'.cell? ⟨bl, ol + i * 2 + 1, none⟩ = some (.int .i64 F) := (hb'.cell (p := ⟨bl, ol + i * 2 + 1, none⟩) (by have := hbS.size; show bl < w7.heap.size; omega)).trans v1T
                  have uC : w'.cell? ⟨bq, oq2 + mm * 4 + K.toNat, none⟩ = some (.int .i64 gp) := (hb'.cell (p := ⟨bq, oq2 + mm * 4 + K.toNat, none⟩) lbq).trans vC
                  obtain ⟨lX', t0', t1', t2', t3', -, -, -, -⟩ := gX.below hb'
                  unfold Oper.wp
                  go_simp
                  try go_bits
                  exact hK _ _ (Below.refl _ _) (by first | rfl | (show Value.int _ _ = Value.int _ _; go_num; done) | (simp [valOf, *]; done) | (simp [valOf]; omega))
                · intro _ a' w' hb' hs hd hn Kc hK
                  have f136 : a'.tmps[136]?.getD undef = .int .i64 gp := hd 24 136 (by first | rfl | decide | simp [Region.binds]) rfl (by decide) (by decide) rfl
                  have f138 : a'.tmps[138]?.getD undef = .int .i64 gp := hd 26 138 (by first | rfl | decide | simp [Region.binds]) rfl (by decide) (by decide) rfl
                  clear hs hd hn
                  rw [if_neg (by decide), if_neg (by decide)] at hK
                  have u1 : w'.cell? ⟨bl, ol + i * 2 + 1, none⟩ = some (.int .i64 F) := (hb'.cell (p := ⟨bl, ol + i * 2 + 1, none⟩) (by have := hbS.size; show bl < w7.heap.size; omega)).trans v1T
                  have uC : w'.cell? ⟨bq, oq2 + mm * 4 + K.toNat, none⟩ = some (.int .i64 gp) := (hb'.cell (p := ⟨bq, oq2 + mm * 4 + K.toNat, none⟩) lbq).trans vC
                  obtain ⟨lX', t0', t1', t2', t3', -, -, -, -⟩ := gX.below hb'
                  unfold Oper.wp
                  go_simp
                  try go_bits
                  exact hK _ _ (Below.refl _ _) (by first | rfl | (show Value.int _ _ = Value.int _ _; go_num; done) | (simp [valOf, *]; done) | (simp [valOf]; omega))
                · intro _ a' w' hb' hs hd hn Kc hK
                  have f129 : a'.tmps[129]?.getD undef = .bool false := hd 17 129 (by first | rfl | decide | simp [Region.binds]) rfl (by decide) (by decide) rfl
                  have f139 : a'.tmps[139]?.getD undef = .bool false := hd 27 139 (by first | rfl | decide | simp [Region.binds]) rfl (by decide) (by decide) rfl
                  clear hs hd hn
                  rw [if_neg (by decide), if_neg (by decide)] at hK
                  have u1 : w'.cell? ⟨bl, ol + i * 2 + 1, none⟩ = some (.int .i64 F) := (hb'.cell (p := ⟨bl, ol + i * 2 + 1, none⟩) (by have := hbS.size; show bl < w7.heap.size; omega)).trans v1T
                  have uC : w'.cell? ⟨bq, oq2 + mm * 4 + K.toNat, none⟩ = some (.int .i64 gp) := (hb'.cell (p := ⟨bq, oq2 + mm * 4 + K.toNat, none⟩) lbq).trans vC
                  obtain ⟨lX', t0', t1', t2', t3', -, -, -, -⟩ := gX.below hb'
                  unfold Oper.wp
                  go_simp
                  try go_bits
                  exact hK _ _ (Below.refl _ _) (by first | rfl | (show Value.int _ _ = Value.int _ _; go_num; done) | (simp [valOf, *]; done) | (simp [valOf]; omega))
                · intro _ a' w' hb' hs hd hn Kc hK
                  have f140 : a'.tmps[140]?.getD undef = .bool false := hd 28 140 (by first | rfl | decide | simp [Region.binds]) rfl (by decide) (by decide) rfl
                  clear hs hd hn
                  rw [if_neg (by decide), if_neg (by decide)] at hK
                  have u1 : w'.cell? ⟨bl, ol + i * 2 + 1, none⟩ = some (.int .i64 F) := (hb'.cell (p := ⟨bl, ol + i * 2 + 1, none⟩) (by have := hbS.size; show bl < w7.heap.size; omega)).trans v1T
                  have uC : w'.cell? ⟨bq, oq2 + mm * 4 + K.toNat, none⟩ = some (.int .i64 gp) := (hb'.cell (p := ⟨bq, oq2 + mm * 4 + K.toNat, none⟩) lbq).trans vC
                  obtain ⟨lX', t0', t1', t2', t3', -, -, -, -⟩ := gX.below hb'
                  unfold Oper.wp
                  go_simp
                  try go_bits
                  exact hK _ _ (Below.refl _ _) (by first | rfl | (show Value.int _ _ = Value.int _ _; go_num; done) | (simp [valOf, *]; done) | (simp [valOf]; omega))
                · intro _ a' w' hb' hs hd hn Kc hK
                  have f16 : a'.tmps[16]?.getD undef = .pointer (some ⟨B16, 0, none⟩) := (hs 16 (by decide)).trans rfl
                  clear hs hd hn
                  rw [if_neg (by decide), if_neg (by decide)] at hK
                  have u1 : w'.cell? ⟨bl, ol + i * 2 + 1, none⟩ = some (.int .i64 F) := (hb'.cell (p := ⟨bl, ol + i * 2 + 1, none⟩) (by have := hbS.size; show bl < w7.heap.size; omega)).trans v1T
                  have uC : w'.cell? ⟨bq, oq2 + mm * 4 + K.toNat, none⟩ = some (.int .i64 gp) := (hb'.cell (p := ⟨bq, oq2 + mm * 4 + K.toNat, none⟩) lbq).trans vC
                  obtain ⟨lX', t0', t1', t2', t3', -, -, -, -⟩ := gX.below hb'
                  unfold Oper.wp
                  go_simp
                  try go_bits
                  exact hK _ _ (Below.refl _ _) (by first | rfl | (show Value.int _ _ = Value.int _ _; go_num; done) | (simp [valOf, *]; done) | (simp [valOf]; omega))
                · intro _ a' w' hb' hs hd hn Kc hK
                  have f142 : a'.tmps[142]?.getD undef = .pointer (some ⟨B16, 2, none⟩) := hd 30 142 (by first | rfl | decide | simp [Region.binds]) rfl (by decide) (by decide) rfl
                  clear hs hd hn
                  rw [if_neg (by decide), if_neg (by decide)] at hK
                  have u1 : w'.cell? ⟨bl, ol + i * 2 + 1, none⟩ = some (.int .i64 F) := (hb'.cell (p := ⟨bl, ol + i * 2 + 1, none⟩) (by have := hbS.size; show bl < w7.heap.size; omega)).trans v1T
                  have uC : w'.cell? ⟨bq, oq2 + mm * 4 + K.toNat, none⟩ = some (.int .i64 gp) := (hb'.cell (p := ⟨bq, oq2 + mm * 4 + K.toNat, none⟩) lbq).trans vC
                  obtain ⟨lX', t0', t1', t2', t3', -, -, -, -⟩ := gX.below hb'
                  unfold Oper.wp
                  go_simp
                  try go_bits
                  exact hK _ _ (Below.refl _ _) (by first | rfl | (show Value.int _ _ = Value.int _ _; go_num; done) | (simp [valOf, *]; done) | (simp [valOf]; omega))
                · intro _ a' w' hb' hs hd hn Kc hK
                  have f143 : a'.tmps[143]?.getD undef = .int .i64 K := hd 31 143 (by first | rfl | decide | simp [Region.binds]) rfl (by decide) (by decide) rfl
                  clear hs hd hn
                  rw [if_neg (by decide), if_neg (by decide)] at hK
                  have u1 : w'.cell? ⟨bl, ol + i * 2 + 1, none⟩ = some (.int .i64 F) := (hb'.cell (p := ⟨bl, ol + i * 2 + 1, none⟩) (by have := hbS.size; show bl < w7.heap.size; omega)).trans v1T
                  have uC : w'.cell? ⟨bq, oq2 + mm * 4 + K.toNat, none⟩ = some (.int .i64 gp) := (hb'.cell (p := ⟨bq, oq2 + mm * 4 + K.toNat, none⟩) lbq).trans vC
                  obtain ⟨lX', t0', t1', t2', t3', -, -, -, -⟩ := gX.below hb'
                  unfold Oper.wp
                  go_simp
                  try go_bits
                  exact hK _ _ (Below.refl _ _) (by first | rfl | (show Value.int _ _ = Value.int _ _; go_num; done) | (simp [valOf, *]; done) | (simp [valOf]; omega))
                · intro _ a' w' hb' hs hd hn Kc hK
                  have f144 : a'.tmps[144]?.getD undef = .bool true := hd 32 144 (by first | rfl | decide | simp [Region.binds]) rfl (by decide) (by decide) rfl
                  clear hs hd hn
                  rw [if_neg (by decide), if_neg (by decide)] at hK
                  have u1 : w'.cell? ⟨bl, ol + i * 2 + 1, none⟩ = some (.int .i64 F) := (hb'.cell (p := ⟨bl, ol + i * 2 + 1, none⟩) (by have := hbS.size; show bl < w7.heap.size; omega)).trans v1T
                  have uC : w'.cell? ⟨bq, oq2 + mm * 4 + K.toNat, none⟩ = some (.int .i64 gp) := (hb'.cell (p := ⟨bq, oq2 + mm * 4 + K.toNat, none⟩) lbq).trans vC
                  obtain ⟨lX', t0', t1', t2', t3', -, -, -, -⟩ := gX.below hb'
                  unfold Oper.wp
                  go_simp
                  try go_bits
                  exact hK _ _ (Below.refl _ _) (by first | rfl | (show Value.int _ _ = Value.int _ _; go_num; done) | (simp [valOf, *]; done) | (simp [valOf]; omega))
                · intro _ a' w' hb' hs hd hn Kc hK
                  have f2 : a'.tmps[2]?.getD undef = .slice (some ⟨bl, ol, none⟩) n cl := (hs 2 (by decide)).trans rfl
                  clear hs hd hn
                  rw [if_neg (by decide), if_neg (by decide)] at hK
                  have u1 : w'.cell? ⟨bl, ol + i * 2 + 1, none⟩ = some (.int .i64 F) := (hb'.cell (p := ⟨bl, ol + i * 2 + 1, none⟩) (by have := hbS.size; show bl < w7.heap.size; omega)).trans v1T
                  have uC : w'.cell? ⟨bq, oq2 + mm * 4 + K.toNat, none⟩ = some (.int .i64 gp) := (hb'.cell (p := ⟨bq, oq2 + mm * 4 + K.toNat, none⟩) lbq).trans vC
                  obtain ⟨lX', t0', t1', t2', t3', -, -, -, -⟩ := gX.below hb'
                  unfold Oper.wp
                  go_simp
                  try go_bits
                  exact hK _ _ (Below.refl _ _) (by first | rfl | (show Value.int _ _ = Value.int _ _; go_num; done) | (simp [valOf, *]; done) | (simp [valOf]; omega))
                · intro _ a' w' hb' hs hd hn Kc hK
                  have f10 : a'.tmps[10]?.getD undef = .int .i64 i := (hs 10 (by decide)).trans rfl
                  clear hs hd hn
                  rw [if_neg (by decide), if_neg (by decide)] at hK
                  have u1 : w'.cell? ⟨bl, ol + i * 2 + 1, none⟩ = some (.int .i64 F) := (hb'.cell (p := ⟨bl, ol + i * 2 + 1, none⟩) (by have := hbS.size; show bl < w7.heap.size; omega)).trans v1T
                  have uC : w'.cell? ⟨bq, oq2 + mm * 4 + K.toNat, none⟩ = some (.int .i64 gp) := (hb'.cell (p := ⟨bq, oq2 + mm * 4 + K.toNat, none⟩) lbq).trans vC
                  obtain ⟨lX', t0', t1', t2', t3', -, -, -, -⟩ := gX.below hb'
                  unfold Oper.wp
                  go_simp
                  try go_bits
                  exact hK _ _ (Below.refl _ _) (by first | rfl | (show Value.int _ _ = Value.int _ _; go_num; done) | (simp [valOf, *]; done) | (simp [valOf]; omega))
                · intro _ a' w' hb' hs hd hn Kc hK
                  have f146 : a'.tmps[146]?.getD undef = .slice (some ⟨bl, ol, none⟩) n cl := hd 34 146 (by first | rfl | decide | simp [Region.binds]) rfl (by decide) (by decide) rfl
                  have f147 : a'.tmps[147]?.getD undef = .int .i64 i := hd 35 147 (by first | rfl | decide | simp [Region.binds]) rfl (by decide) (by decide) rfl
                  clear hs hd hn
                  rw [if_neg (by decide), if_neg (by decide)] at hK
                  have u1 : w'.cell? ⟨bl, ol + i * 2 + 1, none⟩ = some (.int .i64 F) := (hb'.cell (p := ⟨bl, ol + i * 2 + 1, none⟩) (by have := hbS.size; show bl < w7.heap.size; omega)).trans v1T
                  have uC : w'.cell? ⟨bq, oq2 + mm * 4 + K.toNat, none⟩ = some (.int .i64 gp) := (hb'.cell (p := ⟨bq, oq2 + mm * 4 + K.toNat, none⟩) lbq).trans vC
                  obtain ⟨lX', t0', t1', t2', t3', -, -, -, -⟩ := gX.below hb'
                  unfold Oper.wp
                  go_simp
                  try go_bits
                  exact hK _ _ (Below.refl _ _) (by first | rfl | (show Value.int _ _ = Value.int _ _; go_num; done) | (simp [valOf, *]; done) | (simp [valOf]; omega))
                · intro _ a' w' hb' hs hd hn Kc hK
                  have f148 : a'.tmps[148]?.getD undef = .pointer (some ⟨bl, ol + i * 2, none⟩) := hd 36 148 (by first | rfl | decide | simp [Region.binds]) rfl (by decide) (by decide) rfl
                  clear hs hd hn
                  rw [if_neg (by decide), if_neg (by decide)] at hK
                  have u1 : w'.cell? ⟨bl, ol + i * 2 + 1, none⟩ = some (.int .i64 F) := (hb'.cell (p := ⟨bl, ol + i * 2 + 1, none⟩) (by have := hbS.size; show bl < w7.heap.size; omega)).trans v1T
                  have uC : w'.cell? ⟨bq, oq2 + mm * 4 + K.toNat, none⟩ = some (.int .i64 gp) := (hb'.cell (p := ⟨bq, oq2 + mm * 4 + K.toNat, none⟩) lbq).trans vC
                  obtain ⟨lX', t0', t1', t2', t3', -, -, -, -⟩ := gX.below hb'
                  unfold Oper.wp
                  go_simp
                  try go_bits
                  exact hK _ _ (Below.refl _ _) (by first | rfl | (show Value.int _ _ = Value.int _ _; go_num; done) | (simp [valOf, *]; done) | (simp [valOf]; omega))
                · intro _ a' w' hb' hs hd hn Kc hK
                  have f149 : a'.tmps[149]?.getD undef = .pointer (some ⟨bl, ol + i * 2 + 1, none⟩) := hd 37 149 (by first | rfl | decide | simp [Region.binds]) rfl (by decide) (by decide) rfl
                  clear hs hd hn
                  rw [if_neg (by decide), if_neg (by decide)] at hK
                  have u1 : w'.cell? ⟨bl, ol + i * 2 + 1, none⟩ = some (.int .i64 F) := (hb'.cell (p := ⟨bl, ol + i * 2 + 1, none⟩) (by have := hbS.size; show bl < w7.heap.size; omega)).trans v1T
                  have uC : w'.cell? ⟨bq, oq2 + mm * 4 + K.toNat, none⟩ = some (.int .i64 gp) := (hb'.cell (p := ⟨bq, oq2 + mm * 4 + K.toNat, none⟩) lbq).trans vC
                  obtain ⟨lX', t0', t1', t2', t3', -, -, -, -⟩ := gX.below hb'
                  unfold Oper.wp
                  go_simp
                  try go_bits
                  exact hK _ _ (Below.refl _ _) (by first | rfl | (show Value.int _ _ = Value.int _ _; go_num; done) | (simp [valOf, *]; done) | (simp [valOf]; omega))
                · intro _ a' w' hb' hs hd hn Kc hK
                  have f16 : a'.tmps[16]?.getD undef = .pointer (some ⟨B16, 0, none⟩) := (hs 16 (by decide)).trans rfl
                  clear hs hd hn
                  rw [if_neg (by decide), if_neg (by decide)] at hK
                  have u1 : w'.cell? ⟨bl, ol + i * 2 + 1, none⟩ = some (.int .i64 F) := (hb'.cell (p := ⟨bl, ol + i * 2 + 1, none⟩) (by have := hbS.size; show bl < w7.heap.size; omega)).trans v1T
                  have uC : w'.cell? ⟨bq, oq2 + mm * 4 + K.toNat, none⟩ = some (.int .i64 gp) := (hb'.cell (p := ⟨bq, oq2 + mm * 4 + K.toNat, none⟩) lbq).trans vC
                  obtain ⟨lX', t0', t1', t2', t3', -, -, -, -⟩ := gX.below hb'
                  unfold Oper.wp
                  go_simp
                  try go_bits
                  exact hK _ _ (Below.refl _ _) (by first | rfl | (show Value.int _ _ = Value.int _ _; go_num; done) | (simp [valOf, *]; done) | (simp [valOf]; omega))
                · intro _ a' w' hb' hs hd hn Kc hK
                  have f151 : a'.tmps[151]?.getD undef = .pointer (some ⟨B16, 2, none⟩) := hd 39 151 (by first | rfl | decide | simp [Region.binds]) rfl (by decide) (by decide) rfl
                  clear hs hd hn
                  rw [if_neg (by decide), if_neg (by decide)] at hK
                  have u1 : w'.cell? ⟨bl, ol + i * 2 + 1, none⟩ = some (.int .i64 F) := (hb'.cell (p := ⟨bl, ol + i * 2 + 1, none⟩) (by have := hbS.size; show bl < w7.heap.size; omega)).trans v1T
                  have uC : w'.cell? ⟨bq, oq2 + mm * 4 + K.toNat, none⟩ = some (.int .i64 gp) := (hb'.cell (p := ⟨bq, oq2 + mm * 4 + K.toNat, none⟩) lbq).trans vC
                  obtain ⟨lX', t0', t1', t2', t3', -, -, -, -⟩ := gX.below hb'
                  unfold Oper.wp
                  go_simp
                  try go_bits
                  exact hK _ _ (Below.refl _ _) (by first | rfl | (show Value.int _ _ = Value.int _ _; go_num; done) | (simp [valOf, *]; done) | (simp [valOf]; omega))
                · intro _ a' w' hb' hs hd hn Kc hK
                  have f152 : a'.tmps[152]?.getD undef = .int .i64 K := hd 40 152 (by first | rfl | decide | simp [Region.binds]) rfl (by decide) (by decide) rfl
                  clear hs hd hn
                  rw [if_neg (by decide), if_neg (by decide)] at hK
                  have u1 : w'.cell? ⟨bl, ol + i * 2 + 1, none⟩ = some (.int .i64 F) := (hb'.cell (p := ⟨bl, ol + i * 2 + 1, none⟩) (by have := hbS.size; show bl < w7.heap.size; omega)).trans v1T
                  have uC : w'.cell? ⟨bq, oq2 + mm * 4 + K.toNat, none⟩ = some (.int .i64 gp) := (hb'.cell (p := ⟨bq, oq2 + mm * 4 + K.toNat, none⟩) lbq).trans vC
                  obtain ⟨lX', t0', t1', t2', t3', -, -, -, -⟩ := gX.below hb'
                  unfold Oper.wp
                  go_simp
                  try go_bits
                  exact hK _ _ (Below.refl _ _) (by first | rfl | (show Value.int _ _ = Value.int _ _; go_num; done) | (simp [valOf, *]; done) | (simp [valOf]; omega))
                · intro _ a' w' hb' hs hd hn Kc hK
                  have f153 : a'.tmps[153]?.getD undef = .int .i64 (K - 1) := hd 41 153 (by first | rfl | decide | simp [Region.binds]) rfl (by decide) (by decide) rfl
                  clear hs hd hn
                  rw [if_neg (by decide), if_neg (by decide)] at hK
                  have u1 : w'.cell? ⟨bl, ol + i * 2 + 1, none⟩ = some (.int .i64 F) := (hb'.cell (p := ⟨bl, ol + i * 2 + 1, none⟩) (by have := hbS.size; show bl < w7.heap.size; omega)).trans v1T
                  have uC : w'.cell? ⟨bq, oq2 + mm * 4 + K.toNat, none⟩ = some (.int .i64 gp) := (hb'.cell (p := ⟨bq, oq2 + mm * 4 + K.toNat, none⟩) lbq).trans vC
                  obtain ⟨lX', t0', t1', t2', t3', -, -, -, -⟩ := gX.below hb'
                  unfold Oper.wp
                  go_simp
                  try go_bits
                  exact hK _ _ (Below.refl _ _) (by first | rfl | (show Value.int _ _ = Value.int _ _; go_num; done) | (simp [valOf, *]; done) | (simp [valOf]; omega))
                · intro _ a' w' hb' hs hd hn Kc hK
                  have f154 : a'.tmps[154]?.getD undef = .int .u64 (K - 1) := hd 42 154 (by first | rfl | decide | simp [Region.binds]) rfl (by decide) (by decide) rfl
                  clear hs hd hn
                  rw [if_neg (by decide), if_neg (by decide)] at hK
                  have u1 : w'.cell? ⟨bl, ol + i * 2 + 1, none⟩ = some (.int .i64 F) := (hb'.cell (p := ⟨bl, ol + i * 2 + 1, none⟩) (by have := hbS.size; show bl < w7.heap.size; omega)).trans v1T
                  have uC : w'.cell? ⟨bq, oq2 + mm * 4 + K.toNat, none⟩ = some (.int .i64 gp) := (hb'.cell (p := ⟨bq, oq2 + mm * 4 + K.toNat, none⟩) lbq).trans vC
                  obtain ⟨lX', t0', t1', t2', t3', -, -, -, -⟩ := gX.below hb'
                  unfold Oper.wp
                  go_simp
                  try go_bits
                  exact hK _ _ (Below.refl _ _) (by first | rfl | (show Value.int _ _ = Value.int _ _; go_num; done) | (simp [valOf, *]; done) | (simp [valOf]; omega))
                · intro _ a' w' hb' hs hd hn Kc hK
                  have f150 : a'.tmps[150]?.getD undef = .int .i64 F := hd 38 150 (by first | rfl | decide | simp [Region.binds]) rfl (by decide) (by decide) rfl
                  have f155 : a'.tmps[155]?.getD undef = .int .i64 (szW (K - 1)) := hd 43 155 (by first | rfl | decide | simp [Region.binds]) rfl (by decide) (by decide) rfl
                  clear hs hd hn
                  rw [if_neg (by decide), if_neg (by decide)] at hK
                  have u1 : w'.cell? ⟨bl, ol + i * 2 + 1, none⟩ = some (.int .i64 F) := (hb'.cell (p := ⟨bl, ol + i * 2 + 1, none⟩) (by have := hbS.size; show bl < w7.heap.size; omega)).trans v1T
                  have uC : w'.cell? ⟨bq, oq2 + mm * 4 + K.toNat, none⟩ = some (.int .i64 gp) := (hb'.cell (p := ⟨bq, oq2 + mm * 4 + K.toNat, none⟩) lbq).trans vC
                  obtain ⟨lX', t0', t1', t2', t3', -, -, -, -⟩ := gX.below hb'
                  unfold Oper.wp
                  go_simp
                  try go_bits
                  exact hK _ _ (Below.refl _ _) (by first | rfl | (show Value.int _ _ = Value.int _ _; go_num; done) | (simp [valOf, *]; done) | (simp [valOf]; omega))
                · intro _ a' w' hb' hs hd hn Kc hK
                  have f145 : a'.tmps[145]?.getD undef = .bool true := hd 33 145 (by first | rfl | decide | simp [Region.binds]) rfl (by decide) (by decide) rfl
                  have f156 : a'.tmps[156]?.getD undef = .bool false := hd 44 156 (by first | rfl | decide | simp [Region.binds]) rfl (by decide) (by decide) rfl
                  clear hs hd hn
                  rw [if_neg (by decide), if_neg (by decide)] at hK
                  have u1 : w'.cell? ⟨bl, ol + i * 2 + 1, none⟩ = some (.int .i64 F) := (hb'.cell (p := ⟨bl, ol + i * 2 + 1, none⟩) (by have := hbS.size; show bl < w7.heap.size; omega)).trans v1T
                  have uC : w'.cell? ⟨bq, oq2 + mm * 4 + K.toNat, none⟩ = some (.int .i64 gp) := (hb'.cell (p := ⟨bq, oq2 + mm * 4 + K.toNat, none⟩) lbq).trans vC
                  obtain ⟨lX', t0', t1', t2', t3', -, -, -, -⟩ := gX.below hb'
                  unfold Oper.wp
                  go_simp
                  try go_bits
                  exact hK _ _ (Below.refl _ _) (by first | rfl | (show Value.int _ _ = Value.int _ _; go_num; done) | (simp [valOf, *]; done) | (simp [valOf]; omega))
                · intro _ a' w' hb' hs hd hn Kc hK
                  have f141 : a'.tmps[141]?.getD undef = .bool false := hd 29 141 (by first | rfl | decide | simp [Region.binds]) rfl (by decide) (by decide) rfl
                  have f157 : a'.tmps[157]?.getD undef = .bool false := hd 45 157 (by first | rfl | decide | simp [Region.binds]) rfl (by decide) (by decide) rfl
                  clear hs hd hn
                  rw [if_neg (by decide), if_neg (by decide)] at hK
                  have u1 : w'.cell? ⟨bl, ol + i * 2 + 1, none⟩ = some (.int .i64 F) := (hb'.cell (p := ⟨bl, ol + i * 2 + 1, none⟩) (by have := hbS.size; show bl < w7.heap.size; omega)).trans v1T
                  have uC : w'.cell? ⟨bq, oq2 + mm * 4 + K.toNat, none⟩ = some (.int .i64 gp) := (hb'.cell (p := ⟨bq, oq2 + mm * 4 + K.toNat, none⟩) lbq).trans vC
                  obtain ⟨lX', t0', t1', t2', t3', -, -, -, -⟩ := gX.below hb'
                  unfold Oper.wp
                  go_simp
                  try go_bits
                  exact hK _ _ (Below.refl _ _) (by first | rfl | (show Value.int _ _ = Value.int _ _; go_num; done) | (simp [valOf, *]; done) | (simp [valOf]; omega))
              intro Xf g w' hX hb hv
              have q158 : Xf 158 = .bool false := hv 46 158 rfl rfl (by decide) (by decide)
              clear hX hv
              simp only [List.map_cons, List.map_nil, q158, puts, Act.put, Nat.reduceAdd, List.setIfInBounds_toArray, List.set_cons_succ, List.set_cons_zero]
            all_goals
              replace hhS := hhS.below hb
              replace hiS := hiS.below hb
              replace hgS := owned_below hgS hb
              replace gS := gS.below hb
              replace hszS : base ≤ w'.heap.size := by have := hb.size; omega
              replace hbS := bjoin hb hbS
              clear hb v1T gX vC dF dP dq d5 q158
              generalize w' = w8 at *
              obtain ⟨pg, cg, rfl, -⟩ := owned_new hgS
              go_upto_region 20 with fail
              go_loopg [18] L.length (fun gg kv wq => ∃ j : Nat, j ≤ L.length ∧ gg = L.length - j ∧ kv = .int .i64 j ∧ Below w8.heap.size w8 wq)
              case atStart => exact ⟨0, by omega, by omega, rfl, Below.refl _ _⟩
              case round =>
                obtain ⟨j, jh, rfl, rfl, hbq⟩ := hrel
                have hgQ := owned_below hgS hbq
                by_cases hj : j < L.length
                · have hne := addr_new hL1 hj
                  have vj : (L.map fun x => Value.int .i64 x.1)[j]? = some (.int .i64 L[j].1) := by simp [hj]
                  generalize L[j].1 = xj at *
                  have vc : ∃ gb, pg = some ⟨gb, 0, none⟩ ∧ gb < wr.heap.size ∧ wr.cell? ⟨gb, j, none⟩ = some (.int .i64 xj) := by
                    rcases hgQ.2 with ⟨h1, h2⟩ | ⟨gb, cap', cur, h1, h2, h3, -⟩
                    · omega
                    · injection h1 with h1 h4 h5
                      subst h1
                      exact ⟨gb, rfl, (hgQ.lt gb rfl).2, by rw [hgQ.cellAt j (by omega)]; exact vj⟩
                  obtain ⟨gb, rfl, lgb, vcell⟩ := vc
                  have d7 : (xj == A) = false := by simp [hne]
                  clear vj hne
                  go_wp2
                  go_roundg (L.length - (j + 1))
                  case measure => omega
                  case rel => exact ⟨j + 1, by omega, rfl, by go_num, hbq⟩
                · obtain rfl : j = L.length := by omega
                  have hhQ := hhS.below hbq
                  have hiQ := hiS.below hbq
                  have gQ := gS.below hbq
                  have hbQ := bjoin hbq hbS
                  have hszQ : base ≤ wr.heap.size := by have := hbq.size; omega
                  clear hhS hiS hgS gS hbS hszS hbq jh hj
                  go_wp2_with (first
                    | (at_builtin; (refine wpList_append_own_at _ rfl (.tmp 171) (.tmp 173) 43 rfl base 3 i0 (.int .i64 0) 1 8 Tryd.underlying43 hi0 hz0 hz1 hz2 rfl (by decide) _ _ _ rfl (hgQ.alloc _) ⟨wr.heap.size, 0, none⟩ 1 1 [.int .i64 A] rfl rfl (one_newT _ _ _) (by simp [Value.oneCell']) (by simp only [maxLen]; omega) (by omega) (by simp; omega) ?_); intro gv2 w9 hown' hgrow _ hat)
                  )
                  have hst : Below wr.heap.size wr (wr.alloc (.cells #[.int .i64 A] 3)) := (Below.refl _ _).alloc (Nat.le_refl _) _
                  have hA : Aside (fun g => (Value.slice pg L.length cg).ownBlock = some g) wr w9 := (Aside.of hst).trans ⟨hgrow.os, hgrow.tape, hgrow.output, hgrow.size, fun k hk ht => hgrow.block k hk (fun e => ht e.symm)⟩
                  have hB9 : Below w.heap.size w w9 := (hbQ.alloc hbQ.size (.cells #[.int .i64 A] 3)).grown hgrow (by have := hbQ.size; simp; omega) (fun k hk => by have := (hgQ.lt k hk).1; omega)
                  have hlo := hhQ.lower hL1.form
                  have hO9 : OwnAt w9 B k N M base H1 Y1 (L ++ [(A, szW K)]) (some ⟨gq, oq, none⟩) c1 q1 d1 (some ⟨bq, oq2, none⟩) cc' gv2 := {
                    box := gQ.aside hA (fun h => by have := (hgQ.lt B h).1; omega)
                    heap := hhQ.aside hA (fun g hg => (hG g hg).1)
                    clr := hclrB
                    caches := hiQ.aside hA (fun g hg => (hG g hg).2)
                    cnil := hJ0
                    clrC := hclrC
                    right := hR1
                    laid := hL1
                    got := by simpa using hown'
                    gotB := hgotB
                    gotH := fun g hg => by
                      rcases hat with h | h
                      · exact hG g (h.symm.trans hg)
                      · rw [h] at hg
                        simp at hg
                        refine ⟨hlo.clear (by omega), fun b off sp e => ?_⟩
                        obtain ⟨b', o', e', hlt⟩ := hiQ.lower (by omega)
                        rw [e] at e'
                        injection e' with e'
                        injection e' with e'
                        omega }
                  go_roundg (n - (i + 1))
                  case measure => omega
                  case rel => exact ⟨i + 1, _, _, _, _, _, _, _, _, _, by omega, rfl, by go_num, rfl, hO9, by simp; omega, hB9, by have := hgrow.size; simp at this; omega⟩
      · go_wp2
        go_returns
        exact ⟨rfl, hbw⟩
  · have d80 : decide ((80 : Int) < n) = true := by simp; omega
    go_enter Tryd.func6, Tryd.ntmps6
    go_wp2_with (first
    | (go_at_call 9; refine Calls.mono (awake11_any _ (hS.below (by go_grown)) (hT.below (by go_grown))) ?_; rintro e w' ⟨rfl, hb⟩; obtain ⟨hc, hf, hb, hz⟩ := bstep hb (w := w) (by go_grown); try simp only [World.size_alloc, World.size_setCell, World.size_drew] at hc hf hz)
    )
    go_returns
    exact ⟨rfl, by go_grown⟩

namespace TakeOwn
/-- What the row lists. -/
def lists : List (String × DataW Unit) := [("flotsam/class.sizes", Rows.laid_flotsam_class_sizes), ("math/bits.deBruijn32tab", Rows.laid_math_bits_deBruijn32tab)]
set_option maxRecDepth 100000 in
theorem lifted (os : Os) (started : os.Started) (H : Type) (enc : TypeId × Value → H) :
    ReturnsInHanded {} Tryd.checked os 6 .any (fun w args => (Rows.takeOwnSpec.pre enc Tryd.prog Tryd.f6 Rows.takeOwnRow.domain false w args ∧ laidMetH Tryd.prog lists w) ∧ sizedMet enc Tryd.prog Tryd.f6 (OpenSpec.ofChange Rows.takeOwnSpec) false w args) (Rows.takeOwnSpec.post enc Tryd.prog Tryd.f6 false true false false) := by
  refine law_lifted_laid (C := Tryd.checked) seat_own started (by kernel_rfl) Tryd.func6 (by kernel_rfl) (of_decide_eq_true (by kernel_rfl)) rfl
    (fun ds hd => by have hd' : ds.length = 3 := hd; match ds, hd' with | [d0, d1, d2], _ => rfl) rfl Tryd.underlying4
    (ChangeSpec.witness_shaped (enc := enc) (C := Tryd.checked) (os := os) (X := fun w _ => laidMetH Tryd.prog lists w) false (World.laidAll Tryd.prog os lists) #[.int .u8 0, .int .u8 0, .slice none 0 0] 8 (World.laidAll_os _ _ _)
      (World.shaped_of_ZipB (by kernel_rfl) (by kernel_rfl)) (by kernel_rfl) (by kernel_rfl) (by kernel_rfl)
      (by rw [MakeChecks.laidMetH_plain _ _ _ (by kernel_rfl)]; exact laidMet_laidAll _ (by kernel_rfl) (by kernel_rfl))) ?_
  intro W base args ds p hval hA hlt hL
  have hS : Sz W := sizes_of hL (by kernel_rfl) rfl
  have hT : Tab W := tab_of hL (by kernel_rfl) rfl
  rw [Tryd.params6] at hA hval
  obtain ⟨v0, v1, v2, d0, d1, d2, p0, p1, p2, rfl, rfl, rfl, h0, h1, h2⟩ := trodAll_three hA
  obtain ⟨a0, rfl, ha0⟩ := open_u8 Tryd.underlying5 (hval 0 5 v0 rfl rfl) h0
  obtain ⟨a1, rfl, ha1⟩ := open_u8 Tryd.underlying5 (hval 1 5 v1 rfl rfl) h1
  obtain ⟨q2, n2, cap2, f2, rfl, hn2, hz2, hq2⟩ := open_pairs Tryd.underlying40 Tryd.underlying45 (by kernel_rfl) (by kernel_rfl) (by kernel_rfl) (by kernel_rfl) (hval 2 40 v2 rfl rfl) h2
  exact own_walk a0 a1 W hz2 hn2 hS hT ha0.1 ha0.2 ha1.1 ha1.2

theorem row_holds : Rows.TakeOwnSaid :=
  OpenClaim.holds_of_wide 6 Tryd.f6 rfl rfl rfl rfl rfl rfl rfl ⟨rfl, rfl, rfl, rfl, rfl⟩ rfl rfl rfl rfl rfl (by kernel_rfl) Tryd.func6 (by kernel_rfl)
    (of_decide_eq_true (by kernel_rfl)) (by unfold Func.isWrapper; first | (rw [if_pos (by decide +kernel)]; kernel_rfl) | (rw [if_neg (by decide +kernel)]; exact ⟨rfl, rfl⟩))
    (fun os started H enc _ => lifted os started H enc)
/-- The tied card. -/
theorem holds : Rows.TakeOwnCardSaid :=
  Claim7.holds_tied_plain_at .later [] [.data, .data] true (true, "90ecb932aa180f2768b6f7eeb0d14302187bc6bdcc666950daeb3c04fa096778") true row_holds (fun _ h => by cases h) (by kernel_rfl) (fun _ h => by cases h) takeOwn_row_tie rfl ⟨rfl, rfl⟩ (by kernel_rfl) rfl
    (fun f fn hf hfn => by
      obtain rfl : f = 6 := Option.some.inj ((show Tryd.prog.funcNamed "flotsam/flotsamlaw11.TakeOwn" = some 6 by kernel_rfl).symm.trans hf) |>.symm
      obtain rfl : fn = Tryd.f6 := (Option.some.inj (Tryd.func6.symm.trans hfn)).symm
      exact ⟨by kernel_rfl, fun j t ht => by
        rw [Tryd.params6] at ht
        have hm : t ∈ [5, 5, 40] := by simpa using Array.mem_of_getElem? ht
        have hall : ([5, 5, 40].all fun u => !Tryd.prog.wantsStandIn u) = true := by kernel_rfl
        exact (show Tryd.prog.wantsStandIn t = false by simpa using List.all_eq_true.1 hall t hm)⟩)
    (by kernel_rfl)
#print axioms holds
end TakeOwn
end Go.Proofs.YtneanbagdkeoiaaDoor
