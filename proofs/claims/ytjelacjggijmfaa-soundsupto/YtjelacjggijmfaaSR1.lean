/-
  The document's own answer: two bytes as a number.
-/
import Derived.Test.YtjelacjggijmfaaSB
namespace Go.Proofs.Ytjelacjggijmfaa
open Go.RowKit

set_option maxHeartbeats 400000 in
theorem refTwo_any (s : ByteArray) (p : Nat) (w : World) (hp : p + 2 ≤ s.size) (hs : s.size ≤ 1048576) :
    Calls Try.prog 26 #[.string s, .int .i64 p] w fun e w' => e = .returned (.int .i64 (Pl.two s.data.toList p)) ∧ w.drew = w' := by
  have HT := hide (two_get s p (by omega))
  have h1 : p < s.size := by omega
  have h2 : p + 1 < s.size := by omega
  have h2' : (p : Int) + 1 < s.size := by omega
  have h5 : 0 ≤ (p : Int) + 1 := by omega
  have h6 : ((p : Int) + 1).toNat = p + 1 := by omega
  have h3 := (s[p]).toNat_lt
  have h4 := (s[p + 1]).toNat_lt
  go_enter Try.func26, Try.ntmps26
  go_wp2
  go_region
  go_wp2
  all_goals go_ret
  all_goals refine ⟨ret_int ?_, rfl⟩
  all_goals rw [unhide HT]
  all_goals omega
set_option maxHeartbeats 400000 in
theorem refTwo_not (s : ByteArray) (p : Nat) (w : World) (hp : s.size < p + 2) (hq : p ≤ 1048576) :
    Calls Try.prog 26 #[.string s, .int .i64 p] w fun e w' => e = .returned (.int .i64 (-1)) ∧ w = w' := by
  go_enter Try.func26, Try.ntmps26
  go_wp2
  all_goals go_ret
  all_goals exact ⟨rfl, rfl⟩
end Go.Proofs.Ytjelacjggijmfaa
