/- Contracts of the row's Push and Pop, and of container/heap's (chapter 10). -/
import Derived.Test.YtneanbagdkeoiaaDoorQueueH
import Derived.Deep.AppendLies
namespace Go.Proofs.YtneanbagdkeoiaaDoor
set_option linter.unusedSimpArgs false
set_option linter.unusedVariables false
open Go.ChangeShapes Go.WideShapes Go.ChangeAt Go.RowKit Go.Joins

theorem one_new1 (w : World) (x : Value) (t : TypeId) : ∀ j u, [x][j]? = some u → (w.alloc (.cells #[x] t)).cell? ((⟨w.heap.size, 0, none⟩ : Addr).add j) = some u := by
  intro j u h
  match j, h with
  | 0, h =>
    obtain rfl : x = u := by simpa using h
    exact cell_of_row _ _ _ _ _ _ (heap_alloc_new w (.cells #[x] t))
theorem int_infoQ : (Tryd.prog.info? 3).map (fun i => (i.zero, i.size, i.bytes)) = some (some (.int .i64 0), 1, 8) := by kernel_rfl
set_option maxHeartbeats 4000000 in
theorem qpush_any {base B o : Nat} {R : List Int} {v : Value} (x : Int) (w : World) (r : Rw base B o R v w) (hl : R.length < 1000000) :
    Calls Tryd.prog 111 #[.pointer (some ⟨B, o, none⟩), .iface 3 (.int .i64 x)] w fun e w' => e = .returned (.tuple #[]) ∧ ∃ v', Rw base B o (R ++ [x]) v' w' ∧ (v'.ownBlock = v.ownBlock ∨ ∃ g, v'.ownBlock = some g ∧ w.heap.size ≤ g) ∧ Aside (fun k => k = B ∨ v.ownBlock = some k) w w' := by
  obtain ⟨p, cap, rfl, -⟩ := owned_new r.own
  obtain ⟨i0, hi0, hz0, hz1, hz2⟩ := info_parts int_infoQ
  have hc0 := r.cell
  have hf0 := r.frz
  have hB := r.lt
  have hge := r.ge
  have hta : ∀ w, (Instr.typeAssert (.iface 3 (.int .i64 x)) 20 3 true).run Tryd.prog w = .ok (.tuple #[.int .i64 x, .bool true]) w := fun _ => by kernel_rfl
  go_enter Tryd.func111, Tryd.ntmps111
  go_upto_region 1 with fail
  go_wp2_with (first
    | (at_builtin; refine wpList_append_lies _ rfl (.tmp 15) (.tmp 17) 98 rfl base 3 i0 (.int .i64 0) 1 8 Tryd.underlying98 hi0 hz0 hz1 hz2 rfl (by decide) (.slice p R.length cap) R.length (R.map (Value.int .i64)) rfl (r.own.alloc _) ⟨w.heap.size, 0, none⟩ 1 1 [.int .i64 x] rfl rfl (one_new1 _ _ _) (by simp [Value.oneCell']) (by decide) (by simp only [maxLen]; omega) (by omega) (by simp; omega) _ rfl ?_; intro g1 cap1 w6 hown hgrow hat hlt; have hBk : w6.heap[B]? = w.heap[B]? := (hgrow.block B (by simp; omega) (fun e => r.ne e.symm)).trans (Below.heap_alloc w _ B hB); have hc6 : w6.cell? ⟨B, o, none⟩ = some (.slice p R.length cap) := (World.cell?_of_block (w := w) (a := ⟨B, o, none⟩) hBk).trans hc0; have hf6 : w6.frozen? ⟨B, o, none⟩ = false := (World.frozen?_of_block (w := w) (a := ⟨B, o, none⟩) hBk).trans hf0)
  )
  have hg1 : g1 ≠ B := fun e => by
    subst e
    rcases hat with h | h
    · exact r.ne h
    · simp at h; omega
  have hsz := hgrow.size
  simp only [World.size_alloc] at hsz hat
  go_returns
  refine ⟨rfl, .slice (some ⟨g1, 0, none⟩) (R.length + 1) cap1, ⟨?_, ?_, ?_, ?_, hge, ?_, ?_⟩, ?_, ?_⟩
  · have := owned_setCell hown (g := B) (fun e => hg1 (by simpa [Value.ownBlock] using e)) o (.slice (some ⟨g1, 0, none⟩) (R.length + 1) cap1)
    rw [List.length_append, List.map_append]
    exact this
  · exact World.cell?_setCell_same _ _ _ hc6
  · rw [World.frozen?_setCell]; exact hf6
  · simp [World.setCell]; omega
  · exact fun e => hg1 (by simpa [Value.ownBlock] using e)
  · simp; omega
  · rcases hat with h | h
    · exact .inl h.symm
    · exact .inr ⟨g1, rfl, by omega⟩
  · have hA : Aside (fun k => k = B ∨ (Value.slice p R.length cap).ownBlock = some k) w w6 := ⟨hgrow.os, hgrow.tape, hgrow.output, by omega, fun k hk hne => (hgrow.block k (by simp; omega) (fun e => hne (.inr e.symm))).trans (Below.heap_alloc w _ k hk)⟩
    exact hA.setCell (.inl rfl) _ _
/-- Its first n numbers. -/
theorem owned_take {w : World} {base g cap n : Nat} {e : TypeId} {R : List Int} (h : w.ownsRow base e 1 (.slice (some ⟨g, 0, none⟩) R.length cap) R.length (R.map (Value.int .i64))) (hn : n ≤ R.length) : w.ownsRow base e 1 (.slice (some ⟨g, 0, none⟩) n cap) n ((R.take n).map (Value.int .i64)) := by
  refine ⟨by simp; omega, ?_⟩
  rcases h.2 with ⟨h1, h2⟩ | ⟨g', cap', cur, hv, hb, hh, hc, hm, hs, ht⟩
  · cases h1
  · injection hv with e1 e2 e3
    injection e1 with e1
    injection e1 with e1
    subst e1 e3
    refine .inr ⟨g, cap, cur, rfl, hb, hh, by omega, hm, hs, ?_⟩
    rw [List.map_take, ← ht, List.take_take]
    congr 1
    omega
/-! container/heap's Push and Pop. -/
set_option maxHeartbeats 4000000 in
theorem hpush_any {base B o : Nat} {R : List Int} {v : Value} (x : Int) (w : World) (r : Rw base B o R v w) (hl : R.length < 1000000) (hh : HeapL R) :
    Calls Tryd.prog 72 #[.iface 102 (.pointer (some ⟨B, o, none⟩)), .iface 3 (.int .i64 x)] w fun e w' => e = .returned (.tuple #[]) ∧ ∃ R' v', Rw base B o R' v' w' ∧ R'.Perm (x :: R) ∧ HeapL R' ∧ (v'.ownBlock = v.ownBlock ∨ ∃ g, v'.ownBlock = some g ∧ w.heap.size ≤ g) ∧ Aside (fun k => k = B ∨ v.ownBlock = some k) w w' := by
  have hP := qpush_any x w r hl
  have hm := m_push B o w
  have hus := up_start (x := x) hh
  have hpm : (R ++ [x]).Perm (x :: R) := List.perm_append_comm (l₁ := R) (l₂ := [x])
  go_enter Tryd.func72, Tryd.ntmps72
  go_upto_region 1 with (first
    | (go_at_call 111; refine Calls.mono hP ?_; rintro e w1 ⟨rfl, v', r', hv', hA'⟩)
  )
  have hlen : (R ++ [x]).length = R.length + 1 := by simp
  have hm2 := m_len B o v' w1 r'.cell
  have hL := qlen_any w1 r'
  have hU := fun (W : World) (hW : Below w1.heap.size w1 W) => up_any R.length W (r'.below hW) (by omega) (by omega) (by rw [Int.toNat_natCast]; exact hus)
  rw [hlen] at hL
  clear hm hP hus
  go_wp2_with (first
    | (go_at_call 87; refine Calls.mono (hL) ?_; rintro e w' ⟨rfl, hb⟩; obtain ⟨hc, hf, hb, hz⟩ := bstep hb (w := w1) (by go_grown); try simp only [World.size_alloc, World.size_setCell, World.size_drew] at hc hf hz)
    | (go_at_call 86; refine Calls.mono (hU _ (by assumption)) ?_; rintro e w2 ⟨rfl, R2, r2, hp2, hh2, hA2⟩)
  )
  go_returns
  refine ⟨rfl, R2, v', r2, hp2.trans hpm, hh2, hv', ?_⟩
  have hA3 := (Aside.of (T := fun k => v'.ownBlock = some k) hb).trans hA2
  refine ⟨hA3.os.trans hA'.os, hA3.tape.trans hA'.tape, hA3.output.trans hA'.output, Nat.le_trans hA'.size hA3.size, fun k hk ht => ?_⟩
  refine (hA3.block k (Nat.lt_of_lt_of_le hk hA'.size) fun e => ?_).trans (hA'.block k hk ht)
  rcases hv' with h | ⟨g, h, hg⟩
  · exact ht (.inr (h ▸ e))
  · rw [h] at e
    injection e with e
    omega
end Go.Proofs.YtneanbagdkeoiaaDoor
