/-
  Words for the walks over plans: bytes of a text, boxes in memory.
-/
import Derived.Test.YtjelacjggijmfaaChecked
import Derived.WalkKit
import Derived.WalkSpells
import Derived.WalkLawsBesides
import Derived.Lib.Strings
import Derived.Lib.OthersKept
import Derived.Test.YtjelacjggijmfaaSPure
import Derived.Test.YtjelacjggijmfaaRf
namespace Go.Proofs.Ytjelacjggijmfaa
open Go.RowKit

theorem hide {p : Prop} (h : p) : Hid p := h
theorem unhide {p : Prop} (h : Hid p) : p := h
theorem ret_bool {a b : Bool} (h : a = b) : Ending.returned (.bool a) = .returned (.bool b) := by rw [h]
theorem ret_int {k : IntKind} {a b : Int} (h : a = b) : Ending.returned (.int k a) = .returned (.int k b) := by rw [h]
theorem ret_str {a b : ByteArray} (h : a = b) : Ending.returned (.string a) = .returned (.string b) := by rw [h]
theorem size_mk (l : List UInt8) : (⟨l.toArray⟩ : ByteArray).size = l.length := by show l.toArray.size = _; simp
theorem mk_eq {t : ByteArray} {l : List UInt8} (h : t.data.toList = l) : t = ⟨l.toArray⟩ := by
  subst h; cases t; simp
theorem mk_list (l : List UInt8) : (⟨l.toArray⟩ : ByteArray).data.toList = l := by simp
theorem opAt_get (s : ByteArray) (p : Nat) (h : p < s.size) : Pl.opAt s.data.toList p = (s[p]).toNat := by
  unfold Pl.opAt
  rw [List.getD_eq_getElem?_getD, List.getElem?_eq_getElem (by rw [← Lib.size_eq]; exact h)]
  rfl
theorem two_get (s : ByteArray) (p : Nat) (h : p + 1 < s.size) : Pl.two s.data.toList p = 256 * (s[p]).toNat + (s[p + 1]).toNat := by
  have h1 := opAt_get s p (by omega)
  have h2 := opAt_get s (p + 1) h
  unfold Pl.opAt at h1 h2
  unfold Pl.two
  rw [h1, h2]

set_option maxHeartbeats 400000 in
theorem refSize_any (c : Nat) (hc : c < 256) (w : World) :
    Calls Try.prog 24 #[.int .i64 c] w fun e w' => e = .returned (.int .i64 (Pl.isz c)) ∧ Below w.heap.size w w' := by
  by_cases h9 : 9 ≤ c
  · go_enter Try.func24, Try.ntmps24
    go_wp2
    go_ret
    refine ⟨ret_int ?_, (Below.refl _ w).alloc (Nat.le_refl _) _⟩
    have : Pl.isz c = 0 := by unfold Pl.isz; repeat rw [if_neg (by omega)]
    rw [this]; rfl
  · have : c = 0 ∨ c = 1 ∨ c = 2 ∨ c = 3 ∨ c = 4 ∨ c = 5 ∨ c = 6 ∨ c = 7 ∨ c = 8 := by omega
    rcases this with rfl | rfl | rfl | rfl | rfl | rfl | rfl | rfl | rfl
    all_goals go_enter Try.func24, Try.ntmps24
    all_goals go_wp2
    all_goals go_ret
    all_goals exact ⟨rfl, (Below.refl _ w).alloc (Nat.le_refl _) _⟩

end Go.Proofs.Ytjelacjggijmfaa
