/-
  The law's own: the mark of a result; is a result full of it?
-/
import Derived.Test.YtjelacjggijmfaaGLG1
import Derived.Lib.BufferRead
namespace Go.Proofs.Ytjelacjggijmfaa
open Go.RowKit

def markB (n : Nat) : Pl.Bs := [107, 101, 112, 116, 32, UInt8.ofNat (97 + n)]
def kept : Pl.Bs := [107, 101, 112, 116]
set_option maxHeartbeats 400000 in
theorem refNumber_any (x : Bool) (w : World) : Calls Try.prog 27 #[.bool x] w fun e w' => e = .returned (.int .i64 (if x then 1 else 0)) ∧ w = w' := by
  cases x
  all_goals go_enter Try.func27, Try.ntmps27
  all_goals go_wp2
  all_goals go_ret
  all_goals exact ⟨rfl, rfl⟩
set_option maxHeartbeats 1000000 in
set_option maxRecDepth 20000 in
theorem mark_any (n : Nat) (hn : n < 3) (w : World) : Calls Try.prog 31 #[.int .i64 n] w fun e w' => e = .returned (strV (markB n)) ∧ Below w.heap.size w w' := by
  have hcv : ∀ x : UInt8, (convert 101 9 (.slice (some ⟨w.heap.size, 0, none⟩) 1 1)).run Try.prog (w.alloc (.cells #[.int .u8 (x.toNat : Int)] 5)) = .ok (.string ⟨[x].toArray⟩) (w.alloc (.cells #[.int .u8 (x.toNat : Int)] 5)) := fun x => by
    refine run_convert_bytes_back _ _ _ 5 _ 1 [x] Try.underlying101 Try.underlying5 Try.underlying9 ?_
    intro j hj
    have hj0 : j = 0 := by simpa using hj
    subst hj0
    simp [Addr.add]
  have h97 : (convert 101 9 (.slice (some ⟨w.heap.size, 0, none⟩) 1 1)).run Try.prog (w.alloc (.cells #[.int .u8 97] 5)) = .ok (.string ⟨#[97]⟩) (w.alloc (.cells #[.int .u8 97] 5)) := hcv 97
  have h98 : (convert 101 9 (.slice (some ⟨w.heap.size, 0, none⟩) 1 1)).run Try.prog (w.alloc (.cells #[.int .u8 98] 5)) = .ok (.string ⟨#[98]⟩) (w.alloc (.cells #[.int .u8 98] 5)) := hcv 98
  have h99 : (convert 101 9 (.slice (some ⟨w.heap.size, 0, none⟩) 1 1)).run Try.prog (w.alloc (.cells #[.int .u8 99] 5)) = .ok (.string ⟨#[99]⟩) (w.alloc (.cells #[.int .u8 99] 5)) := hcv 99
  clear hcv
  have : n = 0 ∨ n = 1 ∨ n = 2 := by omega
  rcases this with rfl | rfl | rfl
  all_goals go_enter Try.func31, Try.ntmps31
  all_goals go_wp2
  all_goals go_ret
  all_goals refine ⟨?_, (Below.refl _ w).alloc (Nat.le_refl _) _⟩
  all_goals rfl
end Go.Proofs.Ytjelacjggijmfaa
