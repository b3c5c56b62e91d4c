/-
  Words for the walks over plans: bytes of a text, boxes in memory.
  The document's own answer: two bytes as a number.
  The small functions of package plans: a number of bytes; how wide operands are; what an instruction takes and pushes.
-/
import Derived.Test.YtjelacjggijmfaaChecked
import Derived.WalkKit
import Derived.WalkSpells
import Derived.WalkLawsBesides
import Derived.Lib.Strings
import Derived.Lib.OthersKept
import Derived.Test.YtjelacjggijmfaaGSPure
import Derived.Test.YtjelacjggijmfaaGRf
namespace Go.Proofs.Ytjelacjggijmfaa
open Go.RowKit

theorem hide {p : Prop} (h : p) : Hid p := h
theorem unhide {p : Prop} (h : Hid p) : p := h
theorem ret_bool {a b : Bool} (h : a = b) : Ending.returned (.bool a) = .returned (.bool b) := by rw [h]
theorem ret_int {k : IntKind} {a b : Int} (h : a = b) : Ending.returned (.int k a) = .returned (.int k b) := by rw [h]
theorem ret_str {a b : ByteArray} (h : a = b) : Ending.returned (.string a) = .returned (.string b) := by rw [h]
theorem size_mk (l : List UInt8) : (⟨l.toArray⟩ : ByteArray).size = l.length := by show l.toArray.size = _; simp
theorem mk_eq {t : ByteArray} {l : List UInt8} (h : t.data.toList = l) : t = ⟨l.toArray⟩ := by
  subst h; cases t; simp
theorem mk_list (l : List UInt8) : (⟨l.toArray⟩ : ByteArray).data.toList = l := by simp
theorem opAt_get (s : ByteArray) (p : Nat) (h : p < s.size) : Pl.opAt s.data.toList p = (s[p]).toNat := by
  unfold Pl.opAt
  rw [List.getD_eq_getElem?_getD, List.getElem?_eq_getElem (by rw [← Lib.size_eq]; exact h)]
  rfl
theorem two_get (s : ByteArray) (p : Nat) (h : p + 1 < s.size) : Pl.two s.data.toList p = 256 * (s[p]).toNat + (s[p + 1]).toNat := by
  have h1 := opAt_get s p (by omega)
  have h2 := opAt_get s (p + 1) h
  unfold Pl.opAt at h1 h2
  unfold Pl.two
  rw [h1, h2]

set_option maxHeartbeats 400000 in
theorem refSize_any (c : Nat) (hc : c < 256) (w : World) :
    Calls Try.prog 24 #[.int .i64 c] w fun e w' => e = .returned (.int .i64 (Pl.isz c)) ∧ Below w.heap.size w w' := by
  by_cases h9 : 9 ≤ c
  · go_enter Try.func24, Try.ntmps24
    go_wp2
    go_ret
    refine ⟨ret_int ?_, (Below.refl _ w).alloc (Nat.le_refl _) _⟩
    have : Pl.isz c = 0 := by unfold Pl.isz; repeat rw [if_neg (by omega)]
    rw [this]; rfl
  · have : c = 0 ∨ c = 1 ∨ c = 2 ∨ c = 3 ∨ c = 4 ∨ c = 5 ∨ c = 6 ∨ c = 7 ∨ c = 8 := by omega
    rcases this with rfl | rfl | rfl | rfl | rfl | rfl | rfl | rfl | rfl
    all_goals go_enter Try.func24, Try.ntmps24
    all_goals go_wp2
    all_goals go_ret
    all_goals exact ⟨rfl, (Below.refl _ w).alloc (Nat.le_refl _) _⟩

end Go.Proofs.Ytjelacjggijmfaa
namespace Go.Proofs.Ytjelacjggijmfaa
open Go.RowKit

set_option maxHeartbeats 400000 in
theorem refTwo_any (s : ByteArray) (p : Nat) (w : World) (hp : p + 2 ≤ s.size) (hs : s.size ≤ 1048576) :
    Calls Try.prog 26 #[.string s, .int .i64 p] w fun e w' => e = .returned (.int .i64 (Pl.two s.data.toList p)) ∧ w.drew = w' := by
  have HT := hide (two_get s p (by omega))
  have h1 : p < s.size := by omega
  have h2 : p + 1 < s.size := by omega
  have h2' : (p : Int) + 1 < s.size := by omega
  have h5 : 0 ≤ (p : Int) + 1 := by omega
  have h6 : ((p : Int) + 1).toNat = p + 1 := by omega
  have h3 := (s[p]).toNat_lt
  have h4 := (s[p + 1]).toNat_lt
  go_enter Try.func26, Try.ntmps26
  go_wp2
  go_region
  go_wp2
  all_goals go_ret
  all_goals refine ⟨ret_int ?_, rfl⟩
  all_goals rw [unhide HT]
  all_goals omega
set_option maxHeartbeats 400000 in
theorem refTwo_not (s : ByteArray) (p : Nat) (w : World) (hp : s.size < p + 2) (hq : p ≤ 1048576) :
    Calls Try.prog 26 #[.string s, .int .i64 p] w fun e w' => e = .returned (.int .i64 (-1)) ∧ w = w' := by
  go_enter Try.func26, Try.ntmps26
  go_wp2
  all_goals go_ret
  all_goals exact ⟨rfl, rfl⟩
end Go.Proofs.Ytjelacjggijmfaa
namespace Go.Proofs.Ytjelacjggijmfaa
open Go.RowKit

/-- how wide its two operands are -/
def wd1 (op : Nat) : Nat := if op = 1 ∨ op = 4 ∨ op = 8 then 1 else if op = 2 ∨ op = 6 ∨ op = 7 ∨ op = 3 then 2 else 0
def wd2 (op : Nat) : Nat := if op = 3 then 2 else 0
def isOp (op : Nat) : Bool := decide (1 ≤ op ∧ op ≤ 8)
set_option maxHeartbeats 400000 in
theorem widths_any (op : Nat) (hc : op < 256) (w : World) :
    Calls Try.prog 66 #[.int .u8 op] w fun e w' => e = .returned (.tuple #[.int .i64 (wd1 op), .int .i64 (wd2 op), .bool (isOp op)]) ∧ w = w' := by
  by_cases h9 : op = 0 ∨ 9 ≤ op
  · have b1 : ((op : Int) == 1) = false := by rw [beq_eq_false_iff_ne]; omega
    have b2 : ((op : Int) == 2) = false := by rw [beq_eq_false_iff_ne]; omega
    have b3 : ((op : Int) == 3) = false := by rw [beq_eq_false_iff_ne]; omega
    have b4 : ((op : Int) == 4) = false := by rw [beq_eq_false_iff_ne]; omega
    have b5 : ((op : Int) == 5) = false := by rw [beq_eq_false_iff_ne]; omega
    have b6 : ((op : Int) == 6) = false := by rw [beq_eq_false_iff_ne]; omega
    have b7 : ((op : Int) == 7) = false := by rw [beq_eq_false_iff_ne]; omega
    have b8 : ((op : Int) == 8) = false := by rw [beq_eq_false_iff_ne]; omega
    have H9 := hide h9
    clear h9
    go_enter Try.func66, Try.ntmps66
    go_wp2
    all_goals go_ret3
    have h9 := unhide H9
    have e1 : wd1 op = 0 := by unfold wd1; rw [if_neg (by omega), if_neg (by omega)]
    have e2 : wd2 op = 0 := by unfold wd2; rw [if_neg (by omega)]
    have e3 : isOp op = false := by unfold isOp; simp only [decide_eq_false_iff_not]; omega
    rw [e1, e2, e3]
    exact ⟨rfl, rfl⟩
  · have : op = 1 ∨ op = 2 ∨ op = 3 ∨ op = 4 ∨ op = 5 ∨ op = 6 ∨ op = 7 ∨ op = 8 := by omega
    rcases this with rfl | rfl | rfl | rfl | rfl | rfl | rfl | rfl
    all_goals go_enter Try.func66, Try.ntmps66
    all_goals go_wp2
    all_goals go_ret3
    all_goals exact ⟨rfl, rfl⟩
set_option maxHeartbeats 400000 in
theorem uses_any (op : Nat) (h1 : 1 ≤ op) (h8 : op ≤ 8) (w : World) :
    Calls Try.prog 55 #[.int .u8 op] w fun e w' => e = .returned (.tuple #[.int .i64 (Pl.taken op), .int .i64 (Pl.pushed op)]) ∧ w = w' := by
  have : op = 1 ∨ op = 2 ∨ op = 3 ∨ op = 4 ∨ op = 5 ∨ op = 6 ∨ op = 7 ∨ op = 8 := by omega
  rcases this with rfl | rfl | rfl | rfl | rfl | rfl | rfl | rfl
  all_goals go_enter Try.func55, Try.ntmps55
  all_goals go_wp2
  all_goals go_ret2
  all_goals exact ⟨rfl, rfl⟩
end Go.Proofs.Ytjelacjggijmfaa
