/- ObjectLists' test of a round: one region that draws its order: tests with guards, reads, a call of object.Refs. -/
import Derived.Test.YtkjbefaaejlknaaDoorTold
import Derived.Test.YtkjbefaaejlknaaDoorObjGot
namespace Go.Proofs.YtkjbefaaejlknaaDoor
set_option linter.unusedSimpArgs false
set_option linter.unusedVariables false
open Go.ChangeShapes Go.WideShapes Go.ChangeAt Go.RowKit Go.Joins

def rdOps : List Oper :=
  [{ dst := some 36, op := .move (.tmp 8), type := 4, pos := "law.go:105", after := #[], guard := none },
   { dst := some 37, op := .unOp .not 4 (.tmp 36), type := 4, pos := "law.go:105", after := #[{ on := 0, ground := .data }], guard := none },
   { dst := some 38, op := .move (.tmp 37), type := 4, pos := "law.go:105", after := #[{ on := 1, ground := .data }], guard := none },
   { dst := some 39, op := .move (.tmp 6), type := 3, pos := "law.go:105", after := #[{ on := 2, ground := .guard }], guard := some (2, false) },
   { dst := some 40, op := .binOp .gtr 3 (.tmp 39) (.const (Value.int IntKind.i64 0)) 3, type := 4, pos := "law.go:105", after := #[{ on := 3, ground := .data }, { on := 2, ground := .guard }], guard := some (2, false) },
   { dst := some 41, op := .move (.tmp 40), type := 4, pos := "law.go:105", after := #[{ on := 4, ground := .data }, { on := 2, ground := .chain }, { on := 2, ground := .guard }], guard := some (2, false) },
   { dst := some 42, op := .move (.tmp 5), type := 43, pos := "law.go:105", after := #[{ on := 5, ground := .guard }], guard := some (5, true) },
   { dst := some 43, op := .move (.tmp 6), type := 3, pos := "law.go:105", after := #[{ on := 5, ground := .guard }], guard := some (5, true) },
   { dst := some 44, op := .binOp .sub 3 (.tmp 43) (.const (Value.int IntKind.i64 1)) 3, type := 3, pos := "law.go:105", after := #[{ on := 7, ground := .data }, { on := 5, ground := .guard }], guard := some (5, true) },
   { dst := some 45, op := .indexAddr 43 (.tmp 42) (.tmp 44), type := 0, pos := "law.go:105", after := #[{ on := 6, ground := .data }, { on := 8, ground := .data }, { on := 5, ground := .guard }], guard := some (5, true) },
   { dst := some 46, op := .load 3 (.tmp 45), type := 3, pos := "law.go:105", after := #[{ on := 9, ground := .data }, { on := 5, ground := .guard }], guard := some (5, true) },
   { dst := some 47, op := .move (.tmp 5), type := 43, pos := "law.go:105", after := #[{ on := 5, ground := .guard }], guard := some (5, true) },
   { dst := some 48, op := .move (.tmp 6), type := 3, pos := "law.go:105", after := #[{ on := 5, ground := .guard }], guard := some (5, true) },
   { dst := some 49, op := .indexAddr 43 (.tmp 47) (.tmp 48), type := 0, pos := "law.go:105", after := #[{ on := 11, ground := .data }, { on := 12, ground := .data }, { on := 5, ground := .guard }], guard := some (5, true) },
   { dst := some 50, op := .load 3 (.tmp 49), type := 3, pos := "law.go:105", after := #[{ on := 13, ground := .data }, { on := 5, ground := .guard }], guard := some (5, true) },
   { dst := some 51, op := .binOp .geq 3 (.tmp 46) (.tmp 50) 3, type := 4, pos := "law.go:105", after := #[{ on := 10, ground := .data }, { on := 14, ground := .data }, { on := 5, ground := .guard }], guard := some (5, true) },
   { dst := some 52, op := .pick (.tmp 41) (.tmp 51) (.const (Value.bool false)), type := 4, pos := "law.go:105", after := #[{ on := 5, ground := .data }, { on := 15, ground := .data }, { on := 2, ground := .guard }], guard := some (2, false) },
   { dst := some 53, op := .pick (.tmp 38) (.const (Value.bool true)) (.tmp 52), type := 4, pos := "law.go:105", after := #[{ on := 2, ground := .data }, { on := 16, ground := .data }], guard := none },
   { dst := some 54, op := .move (.tmp 53), type := 4, pos := "law.go:105", after := #[{ on := 17, ground := .data }, { on := 5, ground := .chain }], guard := none },
   { dst := some 55, op := .load 25 (.tmp 2), type := 25, pos := "law.go:105", after := #[{ on := 18, ground := .guard }], guard := some (18, false) },
   { dst := some 56, op := .move (.tmp 5), type := 43, pos := "law.go:105", after := #[{ on := 18, ground := .guard }], guard := some (18, false) },
   { dst := some 57, op := .move (.tmp 6), type := 3, pos := "law.go:105", after := #[{ on := 18, ground := .guard }], guard := some (18, false) },
   { dst := some 58, op := .indexAddr 43 (.tmp 56) (.tmp 57), type := 0, pos := "law.go:105", after := #[{ on := 20, ground := .data }, { on := 21, ground := .data }, { on := 18, ground := .guard }], guard := some (18, false) },
   { dst := some 59, op := .load 3 (.tmp 58), type := 3, pos := "law.go:105", after := #[{ on := 22, ground := .data }, { on := 18, ground := .guard }], guard := some (18, false) },
   { dst := some 60, op := .call { callee := .value (.func 14), args := #[.tmp 55, .tmp 59], argTypes := #[25, 3] }, type := 43, pos := "law.go:105", after := #[{ on := 19, ground := .data }, { on := 23, ground := .data }, { on := 18, ground := .chain }, { on := 18, ground := .guard }], guard := some (18, false) },
   { dst := some 61, op := .call { callee := .builtin .len, args := #[.tmp 60], argTypes := #[43] }, type := 3, pos := "law.go:105", after := #[{ on := 24, ground := .data }, { on := 18, ground := .guard }], guard := some (18, false) },
   { dst := some 62, op := .fieldAddr 46 (.tmp 7) 3, type := 0, pos := "law.go:105", after := #[{ on := 18, ground := .guard }], guard := some (18, false) },
   { dst := some 63, op := .load 3 (.tmp 62), type := 3, pos := "law.go:105", after := #[{ on := 26, ground := .data }, { on := 18, ground := .guard }], guard := some (18, false) },
   { dst := some 64, op := .binOp .gtr 3 (.tmp 61) (.tmp 63) 3, type := 4, pos := "law.go:105", after := #[{ on := 25, ground := .data }, { on := 27, ground := .data }, { on := 18, ground := .guard }], guard := some (18, false) },
   { dst := some 65, op := .pick (.tmp 54) (.const (Value.bool true)) (.tmp 64), type := 4, pos := "law.go:105", after := #[{ on := 18, ground := .data }, { on := 28, ground := .data }], guard := none }]
def rdSlots : List (Option Nat) := [some 36, some 37, some 38, some 39, some 40, some 41, some 42, some 43, some 44, some 45, some 46, some 47, some 48, some 49, some 50, some 51, some 52, some 53, some 54, some 55, some 56, some 57, some 58, some 59, some 60, some 61, some 62, some 63, some 64, some 65]
theorem rd_nodup : ∀ (j k d : Nat), rdSlots[j]? = some (some d) → rdSlots[k]? = some (some d) → j = k := by
  intro j k d hj hk
  have dec : ∀ (j : Nat), rdSlots[j]? = some (some d) → d = 36 + j := fun j hj => by
    match j, hj with
    | 0, hj => exact (by simpa [rdSlots] using hj : 36 = d).symm
    | 1, hj => exact (by simpa [rdSlots] using hj : 37 = d).symm
    | 2, hj => exact (by simpa [rdSlots] using hj : 38 = d).symm
    | 3, hj => exact (by simpa [rdSlots] using hj : 39 = d).symm
    | 4, hj => exact (by simpa [rdSlots] using hj : 40 = d).symm
    | 5, hj => exact (by simpa [rdSlots] using hj : 41 = d).symm
    | 6, hj => exact (by simpa [rdSlots] using hj : 42 = d).symm
    | 7, hj => exact (by simpa [rdSlots] using hj : 43 = d).symm
    | 8, hj => exact (by simpa [rdSlots] using hj : 44 = d).symm
    | 9, hj => exact (by simpa [rdSlots] using hj : 45 = d).symm
    | 10, hj => exact (by simpa [rdSlots] using hj : 46 = d).symm
    | 11, hj => exact (by simpa [rdSlots] using hj : 47 = d).symm
    | 12, hj => exact (by simpa [rdSlots] using hj : 48 = d).symm
    | 13, hj => exact (by simpa [rdSlots] using hj : 49 = d).symm
    | 14, hj => exact (by simpa [rdSlots] using hj : 50 = d).symm
    | 15, hj => exact (by simpa [rdSlots] using hj : 51 = d).symm
    | 16, hj => exact (by simpa [rdSlots] using hj : 52 = d).symm
    | 17, hj => exact (by simpa [rdSlots] using hj : 53 = d).symm
    | 18, hj => exact (by simpa [rdSlots] using hj : 54 = d).symm
    | 19, hj => exact (by simpa [rdSlots] using hj : 55 = d).symm
    | 20, hj => exact (by simpa [rdSlots] using hj : 56 = d).symm
    | 21, hj => exact (by simpa [rdSlots] using hj : 57 = d).symm
    | 22, hj => exact (by simpa [rdSlots] using hj : 58 = d).symm
    | 23, hj => exact (by simpa [rdSlots] using hj : 59 = d).symm
    | 24, hj => exact (by simpa [rdSlots] using hj : 60 = d).symm
    | 25, hj => exact (by simpa [rdSlots] using hj : 61 = d).symm
    | 26, hj => exact (by simpa [rdSlots] using hj : 62 = d).symm
    | 27, hj => exact (by simpa [rdSlots] using hj : 63 = d).symm
    | 28, hj => exact (by simpa [rdSlots] using hj : 64 = d).symm
    | 29, hj => exact (by simpa [rdSlots] using hj : 65 = d).symm
    | _ + 30, hj => exact absurd hj (by simp [rdSlots])
  have := dec j hj
  have := dec k hk
  omega
def rdSkip (G : Bool) (k : Nat) : Bool := !G && (decide (6 ≤ k) && decide (k ≤ 15))
/-- What each yields. -/
def rdPhi (bl off M cl : Nat) (t X0 X1 : Int) (vH : Value) (g Rl : Nat) (N : Int) (G : Bool) : Nat → Value → Prop
  | 0, v => v = .bool true
  | 1, v => v = .bool false
  | 2, v => v = .bool false
  | 3, v => v = .int .i64 t
  | 4, v => v = .bool G
  | 5, v => v = .bool G
  | 6, v => v = .slice (some ⟨bl, off, none⟩) M cl
  | 7, v => v = .int .i64 t
  | 8, v => v = .int .i64 (t - 1)
  | 9, v => v = .pointer (some ⟨bl, off + (t.toNat - 1), none⟩)
  | 10, v => v = .int .i64 X0
  | 11, v => v = .slice (some ⟨bl, off, none⟩) M cl
  | 12, v => v = .int .i64 t
  | 13, v => v = .pointer (some ⟨bl, off + t.toNat, none⟩)
  | 14, v => v = .int .i64 X1
  | 15, v => v = .bool false
  | 16, v => v = .bool false
  | 17, v => v = .bool false
  | 18, v => v = .bool false
  | 19, v => v = vH
  | 20, v => v = .slice (some ⟨bl, off, none⟩) M cl
  | 21, v => v = .int .i64 t
  | 22, v => v = .pointer (some ⟨bl, off + t.toNat, none⟩)
  | 23, v => v = .int .i64 X1
  | 24, v => ∃ pm cm, v = .slice pm Rl cm
  | 25, v => v = .int .i64 (Rl : Int)
  | 26, v => v = .pointer (some ⟨g, 3, none⟩)
  | 27, v => v = .int .i64 N
  | 28, v => v = .bool false
  | 29, v => v = .bool false
  | _, _ => True
theorem rd_guard {bl off M cl : Nat} {t X0 X1 : Int} {vH : Value} {g Rl : Nat} {N : Int} {G : Bool} : ∀ i o k bb, rdOps.toArray[i]? = some o → o.guard = some (k, bb) → rdSkip G k = false ∧ (∃ d, rdSlots[k]? = some (some d)) ∧ ∀ v, rdPhi bl off M cl t X0 X1 vH g Rl N G k v → v = .bool (if rdSkip G i = true then !bb else bb) := by
  intro i o k bb ho hg
  match i, ho with
  | 0, ho =>
    simp only [rdOps, List.getElem?_toArray, List.getElem?_cons_zero, List.getElem?_cons_succ, Option.some.injEq] at ho
    subst ho
    cases hg
  | 1, ho =>
    simp only [rdOps, List.getElem?_toArray, List.getElem?_cons_zero, List.getElem?_cons_succ, Option.some.injEq] at ho
    subst ho
    cases hg
  | 2, ho =>
    simp only [rdOps, List.getElem?_toArray, List.getElem?_cons_zero, List.getElem?_cons_succ, Option.some.injEq] at ho
    subst ho
    cases hg
  | 3, ho =>
    simp only [rdOps, List.getElem?_toArray, List.getElem?_cons_zero, List.getElem?_cons_succ, Option.some.injEq] at ho
    subst ho
    cases hg
    exact ⟨by simp [rdSkip], ⟨_, rfl⟩, fun v hv => hv.trans (by simp [rdSkip])⟩
  | 4, ho =>
    simp only [rdOps, List.getElem?_toArray, List.getElem?_cons_zero, List.getElem?_cons_succ, Option.some.injEq] at ho
    subst ho
    cases hg
    exact ⟨by simp [rdSkip], ⟨_, rfl⟩, fun v hv => hv.trans (by simp [rdSkip])⟩
  | 5, ho =>
    simp only [rdOps, List.getElem?_toArray, List.getElem?_cons_zero, List.getElem?_cons_succ, Option.some.injEq] at ho
    subst ho
    cases hg
    exact ⟨by simp [rdSkip], ⟨_, rfl⟩, fun v hv => hv.trans (by simp [rdSkip])⟩
  | 6, ho =>
    simp only [rdOps, List.getElem?_toArray, List.getElem?_cons_zero, List.getElem?_cons_succ, Option.some.injEq] at ho
    subst ho
    cases hg
    exact ⟨by simp [rdSkip], ⟨_, rfl⟩, fun v hv => hv.trans (by cases G <;> simp [rdSkip])⟩
  | 7, ho =>
    simp only [rdOps, List.getElem?_toArray, List.getElem?_cons_zero, List.getElem?_cons_succ, Option.some.injEq] at ho
    subst ho
    cases hg
    exact ⟨by simp [rdSkip], ⟨_, rfl⟩, fun v hv => hv.trans (by cases G <;> simp [rdSkip])⟩
  | 8, ho =>
    simp only [rdOps, List.getElem?_toArray, List.getElem?_cons_zero, List.getElem?_cons_succ, Option.some.injEq] at ho
    subst ho
    cases hg
    exact ⟨by simp [rdSkip], ⟨_, rfl⟩, fun v hv => hv.trans (by cases G <;> simp [rdSkip])⟩
  | 9, ho =>
    simp only [rdOps, List.getElem?_toArray, List.getElem?_cons_zero, List.getElem?_cons_succ, Option.some.injEq] at ho
    subst ho
    cases hg
    exact ⟨by simp [rdSkip], ⟨_, rfl⟩, fun v hv => hv.trans (by cases G <;> simp [rdSkip])⟩
  | 10, ho =>
    simp only [rdOps, List.getElem?_toArray, List.getElem?_cons_zero, List.getElem?_cons_succ, Option.some.injEq] at ho
    subst ho
    cases hg
    exact ⟨by simp [rdSkip], ⟨_, rfl⟩, fun v hv => hv.trans (by cases G <;> simp [rdSkip])⟩
  | 11, ho =>
    simp only [rdOps, List.getElem?_toArray, List.getElem?_cons_zero, List.getElem?_cons_succ, Option.some.injEq] at ho
    subst ho
    cases hg
    exact ⟨by simp [rdSkip], ⟨_, rfl⟩, fun v hv => hv.trans (by cases G <;> simp [rdSkip])⟩
  | 12, ho =>
    simp only [rdOps, List.getElem?_toArray, List.getElem?_cons_zero, List.getElem?_cons_succ, Option.some.injEq] at ho
    subst ho
    cases hg
    exact ⟨by simp [rdSkip], ⟨_, rfl⟩, fun v hv => hv.trans (by cases G <;> simp [rdSkip])⟩
  | 13, ho =>
    simp only [rdOps, List.getElem?_toArray, List.getElem?_cons_zero, List.getElem?_cons_succ, Option.some.injEq] at ho
    subst ho
    cases hg
    exact ⟨by simp [rdSkip], ⟨_, rfl⟩, fun v hv => hv.trans (by cases G <;> simp [rdSkip])⟩
  | 14, ho =>
    simp only [rdOps, List.getElem?_toArray, List.getElem?_cons_zero, List.getElem?_cons_succ, Option.some.injEq] at ho
    subst ho
    cases hg
    exact ⟨by simp [rdSkip], ⟨_, rfl⟩, fun v hv => hv.trans (by cases G <;> simp [rdSkip])⟩
  | 15, ho =>
    simp only [rdOps, List.getElem?_toArray, List.getElem?_cons_zero, List.getElem?_cons_succ, Option.some.injEq] at ho
    subst ho
    cases hg
    exact ⟨by simp [rdSkip], ⟨_, rfl⟩, fun v hv => hv.trans (by cases G <;> simp [rdSkip])⟩
  | 16, ho =>
    simp only [rdOps, List.getElem?_toArray, List.getElem?_cons_zero, List.getElem?_cons_succ, Option.some.injEq] at ho
    subst ho
    cases hg
    exact ⟨by simp [rdSkip], ⟨_, rfl⟩, fun v hv => hv.trans (by simp [rdSkip])⟩
  | 17, ho =>
    simp only [rdOps, List.getElem?_toArray, List.getElem?_cons_zero, List.getElem?_cons_succ, Option.some.injEq] at ho
    subst ho
    cases hg
  | 18, ho =>
    simp only [rdOps, List.getElem?_toArray, List.getElem?_cons_zero, List.getElem?_cons_succ, Option.some.injEq] at ho
    subst ho
    cases hg
  | 19, ho =>
    simp only [rdOps, List.getElem?_toArray, List.getElem?_cons_zero, List.getElem?_cons_succ, Option.some.injEq] at ho
    subst ho
    cases hg
    exact ⟨by simp [rdSkip], ⟨_, rfl⟩, fun v hv => hv.trans (by simp [rdSkip])⟩
  | 20, ho =>
    simp only [rdOps, List.getElem?_toArray, List.getElem?_cons_zero, List.getElem?_cons_succ, Option.some.injEq] at ho
    subst ho
    cases hg
    exact ⟨by simp [rdSkip], ⟨_, rfl⟩, fun v hv => hv.trans (by simp [rdSkip])⟩
  | 21, ho =>
    simp only [rdOps, List.getElem?_toArray, List.getElem?_cons_zero, List.getElem?_cons_succ, Option.some.injEq] at ho
    subst ho
    cases hg
    exact ⟨by simp [rdSkip], ⟨_, rfl⟩, fun v hv => hv.trans (by simp [rdSkip])⟩
  | 22, ho =>
    simp only [rdOps, List.getElem?_toArray, List.getElem?_cons_zero, List.getElem?_cons_succ, Option.some.injEq] at ho
    subst ho
    cases hg
    exact ⟨by simp [rdSkip], ⟨_, rfl⟩, fun v hv => hv.trans (by simp [rdSkip])⟩
  | 23, ho =>
    simp only [rdOps, List.getElem?_toArray, List.getElem?_cons_zero, List.getElem?_cons_succ, Option.some.injEq] at ho
    subst ho
    cases hg
    exact ⟨by simp [rdSkip], ⟨_, rfl⟩, fun v hv => hv.trans (by simp [rdSkip])⟩
  | 24, ho =>
    simp only [rdOps, List.getElem?_toArray, List.getElem?_cons_zero, List.getElem?_cons_succ, Option.some.injEq] at ho
    subst ho
    cases hg
    exact ⟨by simp [rdSkip], ⟨_, rfl⟩, fun v hv => hv.trans (by simp [rdSkip])⟩
  | 25, ho =>
    simp only [rdOps, List.getElem?_toArray, List.getElem?_cons_zero, List.getElem?_cons_succ, Option.some.injEq] at ho
    subst ho
    cases hg
    exact ⟨by simp [rdSkip], ⟨_, rfl⟩, fun v hv => hv.trans (by simp [rdSkip])⟩
  | 26, ho =>
    simp only [rdOps, List.getElem?_toArray, List.getElem?_cons_zero, List.getElem?_cons_succ, Option.some.injEq] at ho
    subst ho
    cases hg
    exact ⟨by simp [rdSkip], ⟨_, rfl⟩, fun v hv => hv.trans (by simp [rdSkip])⟩
  | 27, ho =>
    simp only [rdOps, List.getElem?_toArray, List.getElem?_cons_zero, List.getElem?_cons_succ, Option.some.injEq] at ho
    subst ho
    cases hg
    exact ⟨by simp [rdSkip], ⟨_, rfl⟩, fun v hv => hv.trans (by simp [rdSkip])⟩
  | 28, ho =>
    simp only [rdOps, List.getElem?_toArray, List.getElem?_cons_zero, List.getElem?_cons_succ, Option.some.injEq] at ho
    subst ho
    cases hg
    exact ⟨by simp [rdSkip], ⟨_, rfl⟩, fun v hv => hv.trans (by simp [rdSkip])⟩
  | 29, ho =>
    simp only [rdOps, List.getElem?_toArray, List.getElem?_cons_zero, List.getElem?_cons_succ, Option.some.injEq] at ho
    subst ho
    cases hg
  | _ + 30, ho => exact absurd ho (by simp [rdOps])
theorem rd_skip {G : Bool} : ∀ i o, rdOps.toArray[i]? = some o → o.guard = none → rdSkip G i = false := by
  intro i o ho hg
  match i, ho with
  | 0, ho =>
    simp [rdSkip]
  | 1, ho =>
    simp [rdSkip]
  | 2, ho =>
    simp [rdSkip]
  | 3, ho =>
    simp only [rdOps, List.getElem?_toArray, List.getElem?_cons_zero, List.getElem?_cons_succ, Option.some.injEq] at ho
    subst ho
    cases hg
  | 4, ho =>
    simp only [rdOps, List.getElem?_toArray, List.getElem?_cons_zero, List.getElem?_cons_succ, Option.some.injEq] at ho
    subst ho
    cases hg
  | 5, ho =>
    simp only [rdOps, List.getElem?_toArray, List.getElem?_cons_zero, List.getElem?_cons_succ, Option.some.injEq] at ho
    subst ho
    cases hg
  | 6, ho =>
    simp only [rdOps, List.getElem?_toArray, List.getElem?_cons_zero, List.getElem?_cons_succ, Option.some.injEq] at ho
    subst ho
    cases hg
  | 7, ho =>
    simp only [rdOps, List.getElem?_toArray, List.getElem?_cons_zero, List.getElem?_cons_succ, Option.some.injEq] at ho
    subst ho
    cases hg
  | 8, ho =>
    simp only [rdOps, List.getElem?_toArray, List.getElem?_cons_zero, List.getElem?_cons_succ, Option.some.injEq] at ho
    subst ho
    cases hg
  | 9, ho =>
    simp only [rdOps, List.getElem?_toArray, List.getElem?_cons_zero, List.getElem?_cons_succ, Option.some.injEq] at ho
    subst ho
    cases hg
  | 10, ho =>
    simp only [rdOps, List.getElem?_toArray, List.getElem?_cons_zero, List.getElem?_cons_succ, Option.some.injEq] at ho
    subst ho
    cases hg
  | 11, ho =>
    simp only [rdOps, List.getElem?_toArray, List.getElem?_cons_zero, List.getElem?_cons_succ, Option.some.injEq] at ho
    subst ho
    cases hg
  | 12, ho =>
    simp only [rdOps, List.getElem?_toArray, List.getElem?_cons_zero, List.getElem?_cons_succ, Option.some.injEq] at ho
    subst ho
    cases hg
  | 13, ho =>
    simp only [rdOps, List.getElem?_toArray, List.getElem?_cons_zero, List.getElem?_cons_succ, Option.some.injEq] at ho
    subst ho
    cases hg
  | 14, ho =>
    simp only [rdOps, List.getElem?_toArray, List.getElem?_cons_zero, List.getElem?_cons_succ, Option.some.injEq] at ho
    subst ho
    cases hg
  | 15, ho =>
    simp only [rdOps, List.getElem?_toArray, List.getElem?_cons_zero, List.getElem?_cons_succ, Option.some.injEq] at ho
    subst ho
    cases hg
  | 16, ho =>
    simp only [rdOps, List.getElem?_toArray, List.getElem?_cons_zero, List.getElem?_cons_succ, Option.some.injEq] at ho
    subst ho
    cases hg
  | 17, ho =>
    simp [rdSkip]
  | 18, ho =>
    simp [rdSkip]
  | 19, ho =>
    simp only [rdOps, List.getElem?_toArray, List.getElem?_cons_zero, List.getElem?_cons_succ, Option.some.injEq] at ho
    subst ho
    cases hg
  | 20, ho =>
    simp only [rdOps, List.getElem?_toArray, List.getElem?_cons_zero, List.getElem?_cons_succ, Option.some.injEq] at ho
    subst ho
    cases hg
  | 21, ho =>
    simp only [rdOps, List.getElem?_toArray, List.getElem?_cons_zero, List.getElem?_cons_succ, Option.some.injEq] at ho
    subst ho
    cases hg
  | 22, ho =>
    simp only [rdOps, List.getElem?_toArray, List.getElem?_cons_zero, List.getElem?_cons_succ, Option.some.injEq] at ho
    subst ho
    cases hg
  | 23, ho =>
    simp only [rdOps, List.getElem?_toArray, List.getElem?_cons_zero, List.getElem?_cons_succ, Option.some.injEq] at ho
    subst ho
    cases hg
  | 24, ho =>
    simp only [rdOps, List.getElem?_toArray, List.getElem?_cons_zero, List.getElem?_cons_succ, Option.some.injEq] at ho
    subst ho
    cases hg
  | 25, ho =>
    simp only [rdOps, List.getElem?_toArray, List.getElem?_cons_zero, List.getElem?_cons_succ, Option.some.injEq] at ho
    subst ho
    cases hg
  | 26, ho =>
    simp only [rdOps, List.getElem?_toArray, List.getElem?_cons_zero, List.getElem?_cons_succ, Option.some.injEq] at ho
    subst ho
    cases hg
  | 27, ho =>
    simp only [rdOps, List.getElem?_toArray, List.getElem?_cons_zero, List.getElem?_cons_succ, Option.some.injEq] at ho
    subst ho
    cases hg
  | 28, ho =>
    simp only [rdOps, List.getElem?_toArray, List.getElem?_cons_zero, List.getElem?_cons_succ, Option.some.injEq] at ho
    subst ho
    cases hg
  | 29, ho =>
    simp [rdSkip]
  | _ + 30, ho => exact absurd ho (by simp [rdOps])
set_option maxHeartbeats 2000000 in
set_option maxRecDepth 20000 in
theorem rd_step {B bl off M cl g Rl : Nat} {t X0 X1 N : Int} {p : Option Addr} {n c : Nat} {q : Option Addr} {m d : Nat} {b G : Bool} {W : World} {A : Act} {Q : Exit → Act → World → Prop}
    (hB : Box3 B (.slice p n c) (.slice q m d) (.bool b) W) (t0 : 0 ≤ t) (t1 : t < M) (hM : M ≤ 512) (hGt : decide (0 < t) = G) (v1 : W.cell? ⟨bl, off + t.toNat, none⟩ = some (.int .i64 X1)) (v0 : G = true → W.cell? ⟨bl, off + (t.toNat - 1), none⟩ = some (.int .i64 X0)) (lX : bl < W.heap.size)
    (dX : G = true → decide (X1 ≤ X0) = false) (gN : W.cell? ⟨g, 3, none⟩ = some (.int .i64 N)) (lg : g < W.heap.size) (dN : decide (N < (Rl : Int)) = false) (hRl : Rl ≤ 15)
    (hR : ∀ W', Below W.heap.size W W' → Calls Tryd.prog 14 #[.agg #[.slice p n c, .slice q m d, .bool b], .int .i64 X1] W' fun e w' => ∃ pm cm, e = .returned (.slice pm Rl cm) ∧ Below W'.heap.size W' w')
    (e2 : A.tmps.getD 2 undef = .pointer (some ⟨B, 0, none⟩)) (e5 : A.tmps.getD 5 undef = .slice (some ⟨bl, off, none⟩) M cl) (e6 : A.tmps.getD 6 undef = .int .i64 t) (e7 : A.tmps.getD 7 undef = .pointer (some ⟨g, 0, none⟩)) (e8 : A.tmps.getD 8 undef = .bool true) :
    ∀ i o, rdOps.toArray[i]? = some o → rdSkip G i = false → ∀ (a' : Act) (w' : World), Below W.heap.size W w' → (∀ t, some t ∉ rdSlots → a'.tmps.getD t undef = A.tmps.getD t undef) →
      (∀ j, (o.after.any fun e => Region.binds .any e && e.on == j) = true → rdSkip G j = false → rdPhi bl off M cl t X0 X1 (.agg #[.slice p n c, .slice q m d, .bool b]) g Rl N G j (slotVals a' rdSlots j)) →
      ∀ K : Act → World → Prop, (∀ v w'', Below W.heap.size W w'' → rdPhi bl off M cl t X0 X1 (.agg #[.slice p n c, .slice q m d, .bool b]) g Rl N G i (valOf o v) → K (a'.put o.dst v) w'') → o.wp Tryd.prog a' w' K Q := by
  intro i o ho hsk a' w' hb' hsame hdep K' hK
  have s2 : a'.tmps[2]?.getD undef = .pointer (some ⟨B, 0, none⟩) := by rw [← Array.getD_eq_getD_getElem?]; exact (hsame 2 (by decide)).trans e2
  have s5 : a'.tmps[5]?.getD undef = .slice (some ⟨bl, off, none⟩) M cl := by rw [← Array.getD_eq_getD_getElem?]; exact (hsame 5 (by decide)).trans e5
  have s6 : a'.tmps[6]?.getD undef = .int .i64 t := by rw [← Array.getD_eq_getD_getElem?]; exact (hsame 6 (by decide)).trans e6
  have s7 : a'.tmps[7]?.getD undef = .pointer (some ⟨g, 0, none⟩) := by rw [← Array.getD_eq_getD_getElem?]; exact (hsame 7 (by decide)).trans e7
  have s8 : a'.tmps[8]?.getD undef = .bool true := by rw [← Array.getD_eq_getD_getElem?]; exact (hsame 8 (by decide)).trans e8
  have hRw := hR w' hb'
  obtain ⟨lB, k0, k1, k2, -, -, -⟩ := hB.below hb'
  have v1' : w'.cell? ⟨bl, off + t.toNat, none⟩ = some (.int .i64 X1) := by rw [hb'.cell (p := ⟨bl, off + t.toNat, none⟩) lX]; exact v1
  have v0' : G = true → w'.cell? ⟨bl, off + (t.toNat - 1), none⟩ = some (.int .i64 X0) := fun e => by rw [hb'.cell (p := ⟨bl, off + (t.toNat - 1), none⟩) lX]; exact v0 e
  have gN' : w'.cell? ⟨g, 3, none⟩ = some (.int .i64 N) := by rw [hb'.cell (p := ⟨g, 3, none⟩) lg]; exact gN
  have hin : i < 30 := by
    rcases Nat.lt_or_ge i 30 with h | h
    · exact h
    · have : rdOps.toArray[i]? = none := by simp [rdOps]; omega
      rw [this] at ho; cases ho
  clear hsame e2 e5 e6 e7 e8 hB v1 v0 hR gN
  match i, hin with
  | 0, _ =>
    simp only [rdOps, List.getElem?_toArray, List.getElem?_cons_zero, List.getElem?_cons_succ, Option.some.injEq] at ho
    subst ho
    clear hdep
    unfold Oper.wp
    go_simp
    exact hK _ _ hb' rfl
  | 1, _ =>
    simp only [rdOps, List.getElem?_toArray, List.getElem?_cons_zero, List.getElem?_cons_succ, Option.some.injEq] at ho
    subst ho
    have f0 : a'.tmps[36]?.getD undef = .bool true := by
      have := hdep 0 (by simp [Region.binds]) (by simp [rdSkip])
      rw [← Array.getD_eq_getD_getElem?]; exact this
    clear hdep
    unfold Oper.wp
    go_simp
    exact hK _ _ hb' rfl
  | 2, _ =>
    simp only [rdOps, List.getElem?_toArray, List.getElem?_cons_zero, List.getElem?_cons_succ, Option.some.injEq] at ho
    subst ho
    have f1 : a'.tmps[37]?.getD undef = .bool false := by
      have := hdep 1 (by simp [Region.binds]) (by simp [rdSkip])
      rw [← Array.getD_eq_getD_getElem?]; exact this
    clear hdep
    unfold Oper.wp
    go_simp
    exact hK _ _ hb' rfl
  | 3, _ =>
    simp only [rdOps, List.getElem?_toArray, List.getElem?_cons_zero, List.getElem?_cons_succ, Option.some.injEq] at ho
    subst ho
    clear hdep
    unfold Oper.wp
    go_simp
    exact hK _ _ hb' rfl
  | 4, _ =>
    simp only [rdOps, List.getElem?_toArray, List.getElem?_cons_zero, List.getElem?_cons_succ, Option.some.injEq] at ho
    subst ho
    have f3 : a'.tmps[39]?.getD undef = .int .i64 t := by
      have := hdep 3 (by simp [Region.binds]) (by simp [rdSkip])
      rw [← Array.getD_eq_getD_getElem?]; exact this
    clear hdep
    unfold Oper.wp
    go_simp
    exact hK _ _ hb' rfl
  | 5, _ =>
    simp only [rdOps, List.getElem?_toArray, List.getElem?_cons_zero, List.getElem?_cons_succ, Option.some.injEq] at ho
    subst ho
    have f4 : a'.tmps[40]?.getD undef = .bool G := by
      have := hdep 4 (by simp [Region.binds]) (by simp [rdSkip])
      rw [← Array.getD_eq_getD_getElem?]; exact this
    clear hdep
    unfold Oper.wp
    go_simp
    exact hK _ _ hb' rfl
  | 6, _ =>
    simp only [rdOps, List.getElem?_toArray, List.getElem?_cons_zero, List.getElem?_cons_succ, Option.some.injEq] at ho
    subst ho
    obtain rfl : G = true := by simpa [rdSkip] using hsk
    have v0' := v0' rfl
    have dX := dX rfl
    have t2 : 0 < t := by simpa using hGt
    clear hdep
    unfold Oper.wp
    go_simp
    exact hK _ _ hb' rfl
  | 7, _ =>
    simp only [rdOps, List.getElem?_toArray, List.getElem?_cons_zero, List.getElem?_cons_succ, Option.some.injEq] at ho
    subst ho
    obtain rfl : G = true := by simpa [rdSkip] using hsk
    have v0' := v0' rfl
    have dX := dX rfl
    have t2 : 0 < t := by simpa using hGt
    clear hdep
    unfold Oper.wp
    go_simp
    exact hK _ _ hb' rfl
  | 8, _ =>
    simp only [rdOps, List.getElem?_toArray, List.getElem?_cons_zero, List.getElem?_cons_succ, Option.some.injEq] at ho
    subst ho
    obtain rfl : G = true := by simpa [rdSkip] using hsk
    have v0' := v0' rfl
    have dX := dX rfl
    have t2 : 0 < t := by simpa using hGt
    have f7 : a'.tmps[43]?.getD undef = .int .i64 t := by
      have := hdep 7 (by simp [Region.binds]) (by simp [rdSkip])
      rw [← Array.getD_eq_getD_getElem?]; exact this
    clear hdep
    unfold Oper.wp
    go_simp
    have ew : IntKind.i64.wrap (t - 1) = t - 1 := by rw [IntKind.wrap_i64]; omega
    exact hK _ _ hb' (by show Value.int .i64 (IntKind.i64.wrap (t - 1)) = _; rw [ew])
  | 9, _ =>
    simp only [rdOps, List.getElem?_toArray, List.getElem?_cons_zero, List.getElem?_cons_succ, Option.some.injEq] at ho
    subst ho
    obtain rfl : G = true := by simpa [rdSkip] using hsk
    have v0' := v0' rfl
    have dX := dX rfl
    have t2 : 0 < t := by simpa using hGt
    have f6 : a'.tmps[42]?.getD undef = .slice (some ⟨bl, off, none⟩) M cl := by
      have := hdep 6 (by simp [Region.binds]) (by simp [rdSkip])
      rw [← Array.getD_eq_getD_getElem?]; exact this
    have f8 : a'.tmps[44]?.getD undef = .int .i64 (t - 1) := by
      have := hdep 8 (by simp [Region.binds]) (by simp [rdSkip])
      rw [← Array.getD_eq_getD_getElem?]; exact this
    clear hdep
    have c1 : 1 ≤ t := by omega
    have c2 : t - 1 < (M : Int) := by omega
    unfold Oper.wp
    go_simp
    exact hK _ _ hb' rfl
  | 10, _ =>
    simp only [rdOps, List.getElem?_toArray, List.getElem?_cons_zero, List.getElem?_cons_succ, Option.some.injEq] at ho
    subst ho
    obtain rfl : G = true := by simpa [rdSkip] using hsk
    have v0' := v0' rfl
    have dX := dX rfl
    have t2 : 0 < t := by simpa using hGt
    have f9 : a'.tmps[45]?.getD undef = .pointer (some ⟨bl, off + (t.toNat - 1), none⟩) := by
      have := hdep 9 (by simp [Region.binds]) (by simp [rdSkip])
      rw [← Array.getD_eq_getD_getElem?]; exact this
    clear hdep
    unfold Oper.wp
    go_simp
    exact hK _ _ hb' rfl
  | 11, _ =>
    simp only [rdOps, List.getElem?_toArray, List.getElem?_cons_zero, List.getElem?_cons_succ, Option.some.injEq] at ho
    subst ho
    obtain rfl : G = true := by simpa [rdSkip] using hsk
    have v0' := v0' rfl
    have dX := dX rfl
    have t2 : 0 < t := by simpa using hGt
    clear hdep
    unfold Oper.wp
    go_simp
    exact hK _ _ hb' rfl
  | 12, _ =>
    simp only [rdOps, List.getElem?_toArray, List.getElem?_cons_zero, List.getElem?_cons_succ, Option.some.injEq] at ho
    subst ho
    obtain rfl : G = true := by simpa [rdSkip] using hsk
    have v0' := v0' rfl
    have dX := dX rfl
    have t2 : 0 < t := by simpa using hGt
    clear hdep
    unfold Oper.wp
    go_simp
    exact hK _ _ hb' rfl
  | 13, _ =>
    simp only [rdOps, List.getElem?_toArray, List.getElem?_cons_zero, List.getElem?_cons_succ, Option.some.injEq] at ho
    subst ho
    obtain rfl : G = true := by simpa [rdSkip] using hsk
    have v0' := v0' rfl
    have dX := dX rfl
    have t2 : 0 < t := by simpa using hGt
    have f11 : a'.tmps[47]?.getD undef = .slice (some ⟨bl, off, none⟩) M cl := by
      have := hdep 11 (by simp [Region.binds]) (by simp [rdSkip])
      rw [← Array.getD_eq_getD_getElem?]; exact this
    have f12 : a'.tmps[48]?.getD undef = .int .i64 t := by
      have := hdep 12 (by simp [Region.binds]) (by simp [rdSkip])
      rw [← Array.getD_eq_getD_getElem?]; exact this
    clear hdep
    unfold Oper.wp
    go_simp
    exact hK _ _ hb' rfl
  | 14, _ =>
    simp only [rdOps, List.getElem?_toArray, List.getElem?_cons_zero, List.getElem?_cons_succ, Option.some.injEq] at ho
    subst ho
    obtain rfl : G = true := by simpa [rdSkip] using hsk
    have v0' := v0' rfl
    have dX := dX rfl
    have t2 : 0 < t := by simpa using hGt
    have f13 : a'.tmps[49]?.getD undef = .pointer (some ⟨bl, off + t.toNat, none⟩) := by
      have := hdep 13 (by simp [Region.binds]) (by simp [rdSkip])
      rw [← Array.getD_eq_getD_getElem?]; exact this
    clear hdep
    unfold Oper.wp
    go_simp
    exact hK _ _ hb' rfl
  | 15, _ =>
    simp only [rdOps, List.getElem?_toArray, List.getElem?_cons_zero, List.getElem?_cons_succ, Option.some.injEq] at ho
    subst ho
    obtain rfl : G = true := by simpa [rdSkip] using hsk
    have v0' := v0' rfl
    have dX := dX rfl
    have t2 : 0 < t := by simpa using hGt
    have f10 : a'.tmps[46]?.getD undef = .int .i64 X0 := by
      have := hdep 10 (by simp [Region.binds]) (by simp [rdSkip])
      rw [← Array.getD_eq_getD_getElem?]; exact this
    have f14 : a'.tmps[50]?.getD undef = .int .i64 X1 := by
      have := hdep 14 (by simp [Region.binds]) (by simp [rdSkip])
      rw [← Array.getD_eq_getD_getElem?]; exact this
    clear hdep
    unfold Oper.wp
    go_simp
    exact hK _ _ hb' rfl
  | 16, _ =>
    simp only [rdOps, List.getElem?_toArray, List.getElem?_cons_zero, List.getElem?_cons_succ, Option.some.injEq] at ho
    subst ho
    cases G with
    | false =>
      have f5 : a'.tmps[41]?.getD undef = .bool false := by
        have := hdep 5 (by simp [Region.binds]) (by simp [rdSkip])
        rw [← Array.getD_eq_getD_getElem?]; exact this
      clear hdep
      unfold Oper.wp
      go_simp
      exact hK _ _ hb' rfl
    | true =>
      have f5 : a'.tmps[41]?.getD undef = .bool true := by
        have := hdep 5 (by simp [Region.binds]) (by simp [rdSkip])
        rw [← Array.getD_eq_getD_getElem?]; exact this
      have f15 : a'.tmps[51]?.getD undef = .bool false := by
        have := hdep 15 (by simp [Region.binds]) (by simp [rdSkip])
        rw [← Array.getD_eq_getD_getElem?]; exact this
      clear hdep
      unfold Oper.wp
      go_simp
      exact hK _ _ hb' rfl
  | 17, _ =>
    simp only [rdOps, List.getElem?_toArray, List.getElem?_cons_zero, List.getElem?_cons_succ, Option.some.injEq] at ho
    subst ho
    have f2 : a'.tmps[38]?.getD undef = .bool false := by
      have := hdep 2 (by simp [Region.binds]) (by simp [rdSkip])
      rw [← Array.getD_eq_getD_getElem?]; exact this
    have f16 : a'.tmps[52]?.getD undef = .bool false := by
      have := hdep 16 (by simp [Region.binds]) (by simp [rdSkip])
      rw [← Array.getD_eq_getD_getElem?]; exact this
    clear hdep
    unfold Oper.wp
    go_simp
    exact hK _ _ hb' rfl
  | 18, _ =>
    simp only [rdOps, List.getElem?_toArray, List.getElem?_cons_zero, List.getElem?_cons_succ, Option.some.injEq] at ho
    subst ho
    have f17 : a'.tmps[53]?.getD undef = .bool false := by
      have := hdep 17 (by simp [Region.binds]) (by simp [rdSkip])
      rw [← Array.getD_eq_getD_getElem?]; exact this
    clear hdep
    unfold Oper.wp
    go_simp
    exact hK _ _ hb' rfl
  | 19, _ =>
    simp only [rdOps, List.getElem?_toArray, List.getElem?_cons_zero, List.getElem?_cons_succ, Option.some.injEq] at ho
    subst ho
    clear hdep
    unfold Oper.wp
    go_simp
    exact hK _ _ hb' rfl
  | 20, _ =>
    simp only [rdOps, List.getElem?_toArray, List.getElem?_cons_zero, List.getElem?_cons_succ, Option.some.injEq] at ho
    subst ho
    clear hdep
    unfold Oper.wp
    go_simp
    exact hK _ _ hb' rfl
  | 21, _ =>
    simp only [rdOps, List.getElem?_toArray, List.getElem?_cons_zero, List.getElem?_cons_succ, Option.some.injEq] at ho
    subst ho
    clear hdep
    unfold Oper.wp
    go_simp
    exact hK _ _ hb' rfl
  | 22, _ =>
    simp only [rdOps, List.getElem?_toArray, List.getElem?_cons_zero, List.getElem?_cons_succ, Option.some.injEq] at ho
    subst ho
    have f20 : a'.tmps[56]?.getD undef = .slice (some ⟨bl, off, none⟩) M cl := by
      have := hdep 20 (by simp [Region.binds]) (by simp [rdSkip])
      rw [← Array.getD_eq_getD_getElem?]; exact this
    have f21 : a'.tmps[57]?.getD undef = .int .i64 t := by
      have := hdep 21 (by simp [Region.binds]) (by simp [rdSkip])
      rw [← Array.getD_eq_getD_getElem?]; exact this
    clear hdep
    unfold Oper.wp
    go_simp
    exact hK _ _ hb' rfl
  | 23, _ =>
    simp only [rdOps, List.getElem?_toArray, List.getElem?_cons_zero, List.getElem?_cons_succ, Option.some.injEq] at ho
    subst ho
    have f22 : a'.tmps[58]?.getD undef = .pointer (some ⟨bl, off + t.toNat, none⟩) := by
      have := hdep 22 (by simp [Region.binds]) (by simp [rdSkip])
      rw [← Array.getD_eq_getD_getElem?]; exact this
    clear hdep
    unfold Oper.wp
    go_simp
    exact hK _ _ hb' rfl
  | 24, _ =>
    simp only [rdOps, List.getElem?_toArray, List.getElem?_cons_zero, List.getElem?_cons_succ, Option.some.injEq] at ho
    subst ho
    have f19 : a'.tmps[55]?.getD undef = .agg #[.slice p n c, .slice q m d, .bool b] := by
      have := hdep 19 (by simp [Region.binds]) (by simp [rdSkip])
      rw [← Array.getD_eq_getD_getElem?]; exact this
    have f23 : a'.tmps[59]?.getD undef = .int .i64 X1 := by
      have := hdep 23 (by simp [Region.binds]) (by simp [rdSkip])
      rw [← Array.getD_eq_getD_getElem?]; exact this
    clear hdep
    unfold Oper.wp
    go_simp
    refine Calls.mono hRw ?_
    rintro e w'' ⟨pm, cm, rfl, hb2⟩
    exact hK _ _ (bjoin hb2 hb') ⟨pm, cm, rfl⟩
  | 25, _ =>
    simp only [rdOps, List.getElem?_toArray, List.getElem?_cons_zero, List.getElem?_cons_succ, Option.some.injEq] at ho
    subst ho
    obtain ⟨pm, cm, f24'⟩ := hdep 24 (by simp [Region.binds]) (by simp [rdSkip])
    have f24 : a'.tmps[60]?.getD undef = .slice pm Rl cm := by rw [← Array.getD_eq_getD_getElem?]; exact f24'
    clear hdep
    unfold Oper.wp
    go_simp
    exact hK _ _ hb' rfl
  | 26, _ =>
    simp only [rdOps, List.getElem?_toArray, List.getElem?_cons_zero, List.getElem?_cons_succ, Option.some.injEq] at ho
    subst ho
    clear hdep
    unfold Oper.wp
    go_simp
    exact hK _ _ hb' rfl
  | 27, _ =>
    simp only [rdOps, List.getElem?_toArray, List.getElem?_cons_zero, List.getElem?_cons_succ, Option.some.injEq] at ho
    subst ho
    have f26 : a'.tmps[62]?.getD undef = .pointer (some ⟨g, 3, none⟩) := by
      have := hdep 26 (by simp [Region.binds]) (by simp [rdSkip])
      rw [← Array.getD_eq_getD_getElem?]; exact this
    clear hdep
    unfold Oper.wp
    go_simp
    exact hK _ _ hb' rfl
  | 28, _ =>
    simp only [rdOps, List.getElem?_toArray, List.getElem?_cons_zero, List.getElem?_cons_succ, Option.some.injEq] at ho
    subst ho
    have f25 : a'.tmps[61]?.getD undef = .int .i64 (Rl : Int) := by
      have := hdep 25 (by simp [Region.binds]) (by simp [rdSkip])
      rw [← Array.getD_eq_getD_getElem?]; exact this
    have f27 : a'.tmps[63]?.getD undef = .int .i64 N := by
      have := hdep 27 (by simp [Region.binds]) (by simp [rdSkip])
      rw [← Array.getD_eq_getD_getElem?]; exact this
    clear hdep
    unfold Oper.wp
    go_simp
    exact hK _ _ hb' rfl
  | 29, _ =>
    simp only [rdOps, List.getElem?_toArray, List.getElem?_cons_zero, List.getElem?_cons_succ, Option.some.injEq] at ho
    subst ho
    have f18 : a'.tmps[54]?.getD undef = .bool false := by
      have := hdep 18 (by simp [Region.binds]) (by simp [rdSkip])
      rw [← Array.getD_eq_getD_getElem?]; exact this
    have f28 : a'.tmps[64]?.getD undef = .bool false := by
      have := hdep 28 (by simp [Region.binds]) (by simp [rdSkip])
      rw [← Array.getD_eq_getD_getElem?]; exact this
    clear hdep
    unfold Oper.wp
    go_simp
    exact hK _ _ hb' rfl
set_option maxHeartbeats 1000000 in
theorem wp_rd {id : Nat} {B bl off M cl g Rl : Nat} {t X0 X1 N : Int} {p : Option Addr} {n c : Nat} {q : Option Addr} {m d : Nat} {b G : Bool} {W : World} {A : Act} {Q : Exit → Act → World → Prop} (hm : Tryd.prog.follows .mixedOrders = true) (hsz : 65 < A.tmps.size)
    (hB : Box3 B (.slice p n c) (.slice q m d) (.bool b) W) (t0 : 0 ≤ t) (t1 : t < M) (hM : M ≤ 512) (hGt : decide (0 < t) = G) (v1 : W.cell? ⟨bl, off + t.toNat, none⟩ = some (.int .i64 X1)) (v0 : G = true → W.cell? ⟨bl, off + (t.toNat - 1), none⟩ = some (.int .i64 X0)) (lX : bl < W.heap.size)
    (dX : G = true → decide (X1 ≤ X0) = false) (gN : W.cell? ⟨g, 3, none⟩ = some (.int .i64 N)) (lg : g < W.heap.size) (dN : decide (N < (Rl : Int)) = false) (hRl : Rl ≤ 15)
    (hR : ∀ W', Below W.heap.size W W' → Calls Tryd.prog 14 #[.agg #[.slice p n c, .slice q m d, .bool b], .int .i64 X1] W' fun e w' => ∃ pm cm, e = .returned (.slice pm Rl cm) ∧ Below W'.heap.size W' w')
    (e2 : A.tmps.getD 2 undef = .pointer (some ⟨B, 0, none⟩)) (e5 : A.tmps.getD 5 undef = .slice (some ⟨bl, off, none⟩) M cl) (e6 : A.tmps.getD 6 undef = .int .i64 t) (e7 : A.tmps.getD 7 undef = .pointer (some ⟨g, 0, none⟩)) (e8 : A.tmps.getD 8 undef = .bool true)
    (hK : ∀ x0 x1 x2 x3 x4 x5 x6 x7 x8 x9 x10 x11 x12 x13 x14 x15 x16 x17 x18 x19 x20 x21 x22 x23 x24 x25 x26 x27 x28 w', Below W.heap.size W w' → Q .normal (puts [36, 37, 38, 39, 40, 41, 42, 43, 44, 45, 46, 47, 48, 49, 50, 51, 52, 53, 54, 55, 56, 57, 58, 59, 60, 61, 62, 63, 64, 65] [x0, x1, x2, x3, x4, x5, x6, x7, x8, x9, x10, x11, x12, x13, x14, x15, x16, x17, x18, x19, x20, x21, x22, x23, x24, x25, x26, x27, x28, .bool false] A) w') :
    (Code.region id rdOps.toArray true).wp Tryd.prog Q A W := by
  refine wp_region_told (Φ := rdPhi bl off M cl t X0 X1 (.agg #[.slice p n c, .slice q m d, .bool b]) g Rl N G) (skip := rdSkip G) rdSlots hm (by kernel_rfl) rfl rd_nodup (fun d hd => ?_) rd_guard rd_skip
    (rd_step hB t0 t1 hM hGt v1 v0 lX dX gN lg dN hRl hR e2 e5 e6 e7 e8) ?_
  · have : d ≤ 65 := by
      simp only [rdSlots, List.mem_cons, Option.some.injEq, List.not_mem_nil, or_false] at hd
      omega
    omega
  intro a' w' hb' hdf hsz' hsame hf
  have e1 : a'.tmps.getD 65 undef = .bool false := hf 29 (by simp [rdOps]) (by simp [rdSkip])
  have hputs := puts_of [36, 37, 38, 39, 40, 41, 42, 43, 44, 45, 46, 47, 48, 49, 50, 51, 52, 53, 54, 55, 56, 57, 58, 59, 60, 61, 62, 63, 64, 65] A hdf hsz' (by simp; omega) (fun t ht => hsame t (by simpa [rdSlots] using ht))
  simp only [List.map_cons, List.map_nil, e1] at hputs
  have hQ := hK (a'.tmps.getD 36 undef) (a'.tmps.getD 37 undef) (a'.tmps.getD 38 undef) (a'.tmps.getD 39 undef) (a'.tmps.getD 40 undef) (a'.tmps.getD 41 undef) (a'.tmps.getD 42 undef) (a'.tmps.getD 43 undef) (a'.tmps.getD 44 undef) (a'.tmps.getD 45 undef) (a'.tmps.getD 46 undef) (a'.tmps.getD 47 undef) (a'.tmps.getD 48 undef) (a'.tmps.getD 49 undef) (a'.tmps.getD 50 undef) (a'.tmps.getD 51 undef) (a'.tmps.getD 52 undef) (a'.tmps.getD 53 undef) (a'.tmps.getD 54 undef) (a'.tmps.getD 55 undef) (a'.tmps.getD 56 undef) (a'.tmps.getD 57 undef) (a'.tmps.getD 58 undef) (a'.tmps.getD 59 undef) (a'.tmps.getD 60 undef) (a'.tmps.getD 61 undef) (a'.tmps.getD 62 undef) (a'.tmps.getD 63 undef) (a'.tmps.getD 64 undef) w' hb'
  rw [← hputs] at hQ
  exact hQ
end Go.Proofs.YtkjbefaaejlknaaDoor
