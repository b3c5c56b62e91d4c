/-
  The small functions of package plans: a number of bytes; how wide operands are; what an instruction takes and pushes.
-/
import Derived.Test.YtjelacjggijmfaaSB
namespace Go.Proofs.Ytjelacjggijmfaa
open Go.RowKit

/-- how wide its two operands are -/
def wd1 (op : Nat) : Nat := if op = 1 ∨ op = 4 ∨ op = 8 then 1 else if op = 2 ∨ op = 6 ∨ op = 7 ∨ op = 3 then 2 else 0
def wd2 (op : Nat) : Nat := if op = 3 then 2 else 0
def isOp (op : Nat) : Bool := decide (1 ≤ op ∧ op ≤ 8)
set_option maxHeartbeats 400000 in
theorem widths_any (op : Nat) (hc : op < 256) (w : World) :
    Calls Try.prog 66 #[.int .u8 op] w fun e w' => e = .returned (.tuple #[.int .i64 (wd1 op), .int .i64 (wd2 op), .bool (isOp op)]) ∧ w = w' := by
  by_cases h9 : op = 0 ∨ 9 ≤ op
  · have b1 : ((op : Int) == 1) = false := by rw [beq_eq_false_iff_ne]; omega
    have b2 : ((op : Int) == 2) = false := by rw [beq_eq_false_iff_ne]; omega
    have b3 : ((op : Int) == 3) = false := by rw [beq_eq_false_iff_ne]; omega
    have b4 : ((op : Int) == 4) = false := by rw [beq_eq_false_iff_ne]; omega
    have b5 : ((op : Int) == 5) = false := by rw [beq_eq_false_iff_ne]; omega
    have b6 : ((op : Int) == 6) = false := by rw [beq_eq_false_iff_ne]; omega
    have b7 : ((op : Int) == 7) = false := by rw [beq_eq_false_iff_ne]; omega
    have b8 : ((op : Int) == 8) = false := by rw [beq_eq_false_iff_ne]; omega
    have H9 := hide h9
    clear h9
    go_enter Try.func66, Try.ntmps66
    go_wp2
    all_goals go_ret3
    have h9 := unhide H9
    have e1 : wd1 op = 0 := by unfold wd1; rw [if_neg (by omega), if_neg (by omega)]
    have e2 : wd2 op = 0 := by unfold wd2; rw [if_neg (by omega)]
    have e3 : isOp op = false := by unfold isOp; simp only [decide_eq_false_iff_not]; omega
    rw [e1, e2, e3]
    exact ⟨rfl, rfl⟩
  · have : op = 1 ∨ op = 2 ∨ op = 3 ∨ op = 4 ∨ op = 5 ∨ op = 6 ∨ op = 7 ∨ op = 8 := by omega
    rcases this with rfl | rfl | rfl | rfl | rfl | rfl | rfl | rfl
    all_goals go_enter Try.func66, Try.ntmps66
    all_goals go_wp2
    all_goals go_ret3
    all_goals exact ⟨rfl, rfl⟩
set_option maxHeartbeats 400000 in
theorem uses_any (op : Nat) (h1 : 1 ≤ op) (h8 : op ≤ 8) (w : World) :
    Calls Try.prog 55 #[.int .u8 op] w fun e w' => e = .returned (.tuple #[.int .i64 (Pl.taken op), .int .i64 (Pl.pushed op)]) ∧ w = w' := by
  have : op = 1 ∨ op = 2 ∨ op = 3 ∨ op = 4 ∨ op = 5 ∨ op = 6 ∨ op = 7 ∨ op = 8 := by omega
  rcases this with rfl | rfl | rfl | rfl | rfl | rfl | rfl | rfl
  all_goals go_enter Try.func55, Try.ntmps55
  all_goals go_wp2
  all_goals go_ret2
  all_goals exact ⟨rfl, rfl⟩
end Go.Proofs.Ytjelacjggijmfaa
