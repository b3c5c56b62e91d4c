/-
  Package plans: may the operands name what they name? the height behind an instruction.
-/
import Derived.Test.YtjelacjggijmfaaSP5
namespace Go.Proofs.Ytjelacjggijmfaa
open Go.RowKit Go.Maps

set_option maxHeartbeats 1000000 in
set_option maxRecDepth 20000 in
theorem mayName_any (b bm m h : Nat) (i : Pl.Ins) (w : World) (hr : Row w b 110 [.int .i64 m, .int .i64 h, .map (some bm)]) (h1 : 1 ≤ i.op) (h8 : i.op ≤ 8) :
    Calls Try.prog 46 #[.pointer (some ⟨b, 0, none⟩), insV i] w fun e w' => (∃ r : Bool, e = .returned (.bool r) ∧ (r = true ↔ Pl.okOps m i)) ∧ Below w.heap.size w w' := by
  obtain ⟨op, p, nx, F, G⟩ := i
  simp only at h1 h8
  unfold insV
  simp only
  have hr1 := fun o => hr.alloc o
  have c0 : ∀ o, (w.alloc o).cell? ⟨b, 0, none⟩ = some (.int .i64 m) := fun o => by
    have := (hr1 o).cell 0 (by simp)
    simpa using this
  have HR := hide hr
  clear hr hr1
  have : op = 1 ∨ (op = 2 ∨ op = 7) ∨ op = 3 ∨ (op = 4 ∨ op = 5 ∨ op = 6 ∨ op = 8) := by omega
  rcases this with rfl | h27 | rfl | h4
  · go_enter Try.func46, Try.ntmps46
    go_wp2_with fail
    all_goals go_ret
    all_goals refine ⟨⟨_, rfl, ?_⟩, (Below.refl _ w).alloc (Nat.le_refl _) _⟩
    all_goals (unfold Pl.okOps; simp; omega)
  · rcases h27 with rfl | rfl
    all_goals go_enter Try.func46, Try.ntmps46
    all_goals go_wp2_with fail
    all_goals go_region
    all_goals go_wp2_with fail
    all_goals go_ret
    all_goals refine ⟨⟨_, rfl, ?_⟩, ((Below.refl _ w).alloc (Nat.le_refl _) _).drew⟩
    all_goals (unfold Pl.okOps; simp)
  · by_cases hF : F < m
    · have d1 : decide ((F : Int) < m) = true := by rw [decide_eq_true_eq]; omega
      go_enter Try.func46, Try.ntmps46
      go_wp2_with fail
      go_region
      all_goals go_wp2_with fail
      all_goals go_ret
      all_goals refine ⟨⟨_, rfl, ?_⟩, ((Below.refl _ w).alloc (Nat.le_refl _) _).drew⟩
      all_goals (unfold Pl.okOps; simp [hF])
    · have d1 : decide ((F : Int) < m) = false := by rw [decide_eq_false_iff_not]; omega
      go_enter Try.func46, Try.ntmps46
      go_wp2_with fail
      go_region
      all_goals go_wp2_with fail
      all_goals go_ret
      all_goals refine ⟨⟨_, rfl, ?_⟩, ((Below.refl _ w).alloc (Nat.le_refl _) _).drew⟩
      all_goals (unfold Pl.okOps; simp [hF])
  · rcases h4 with rfl | rfl | rfl | rfl
    all_goals go_enter Try.func46, Try.ntmps46
    all_goals go_wp2_with fail
    all_goals go_ret
    all_goals refine ⟨⟨_, rfl, ?_⟩, (Below.refl _ w).alloc (Nat.le_refl _) _⟩
    all_goals (unfold Pl.okOps; simp)
end Go.Proofs.Ytjelacjggijmfaa
