/-
  The document's own answer: the operands of an instruction.
-/
import Derived.Test.YtjelacjggijmfaaGSB
import Derived.Test.YtjelacjggijmfaaGSB2
namespace Go.Proofs.Ytjelacjggijmfaa
open Go.RowKit

set_option maxHeartbeats 1000000 in
theorem operands_any (s : ByteArray) (b m cap : Nat) (a : Option Addr) (p : Nat) (w : World) (hp : p < s.size) (hs : s.size ≤ 1048576) (hw : Pl.whole s.data.toList p)
    (hr : Row w b 74 [.slice a m cap, .string s]) :
    Calls Try.prog 35 #[.pointer (some ⟨b, 0, none⟩), .int .i64 p] w fun e w' => (∃ r : Bool, e = .returned (.bool r) ∧ (r = true ↔ Pl.okOps m (Pl.mkIns s.data.toList p))) ∧ Below w.heap.size w w' := by
  have c0 := hr.cell 0 (by simp)
  have c1 := hr.cell 1 (by simp)
  simp only [List.getElem_cons_zero, List.getElem_cons_succ] at c0 c1
  have ho := opAt_get s p hp
  have hlt := Pl.opAt_lt s.data.toList p
  have hw2 := hw.2
  rw [← Lib.size_eq] at hw2
  have hz := hw.1
  generalize hop : Pl.opAt s.data.toList p = op at *
  have hcase : op = 1 ∨ (op = 2 ∨ op = 7) ∨ op = 3 ∨ (op = 4 ∨ op = 5 ∨ op = 6 ∨ op = 8) := by
    have h9 : ¬ (op = 0 ∨ 9 ≤ op) := fun h => hz (by unfold Pl.isz; repeat rw [if_neg (by omega)])
    omega
  have HO := hide ho
  have hi0 : (s[p].toNat : Int) = op := by rw [← ho]
  clear ho
  rcases hcase with rfl | h27 | rfl | h4
  · have h1 : p + 1 < s.size := by have : Pl.isz 1 = 2 := rfl; omega
    have hok : Hid ((decide ((s[p + 1].toNat : Int) ≤ 1)) = true ↔ Pl.okOps m (Pl.mkIns s.data.toList p)) := by
      show _ ↔ _
      have : (Pl.mkIns s.data.toList p).first = (s[p + 1]).toNat := by
        rw [← opAt_get s (p + 1) h1]; unfold Pl.mkIns; rw [hop]; rfl
      have e : (Pl.mkIns s.data.toList p).op = 1 := hop
      unfold Pl.okOps
      rw [this, e]; simp; omega
    clear hw hw2 hz hop hlt
    go_enter Try.func35, Try.ntmps35
    go_wp2_with fail
    all_goals go_ret
    all_goals exact ⟨⟨_, rfl, unhide hok⟩, Below.refl _ _⟩
  · have h2 : p + 3 ≤ s.size := by
      have : Pl.isz op = 3 := by rcases h27 with rfl | rfl <;> rfl
      omega
    obtain ⟨q, hq⟩ : ∃ q, q = p + 1 := ⟨_, rfl⟩
    have C := hide (fun w => refTwo_any s q w (by omega) hs)
    have e1 : IntKind.i64.wrap ((p : Int) + 1) = (q : Int) := by simp [IntKind.wrap, IntKind.signed, IntKind.bits]; omega
    have hok : Hid ((decide (Pl.two s.data.toList q < m)) = true ↔ Pl.okOps m (Pl.mkIns s.data.toList p)) := by
      show _ ↔ _
      have : (Pl.mkIns s.data.toList p).first = Pl.two s.data.toList q := by
        unfold Pl.mkIns; rw [hop, hq]; rcases h27 with rfl | rfl <;> rfl
      have e : (Pl.mkIns s.data.toList p).op = op := hop
      unfold Pl.okOps
      rw [this, e]
      rcases h27 with rfl | rfl <;> simp
    generalize Pl.two s.data.toList q = F at *
    have E1 := hide e1
    clear hw hw2 hz hop hlt e1 hq
    rcases h27 with rfl | rfl
    all_goals go_enter Try.func35, Try.ntmps35
    all_goals go_wp2_with fail
    all_goals have e1 := unhide E1
    all_goals go_quiet (first | (go_at_call_of 26 (q : Int); exact Calls.quiet_of ((unhide C _).mono (fun _ _ h => ⟨h.1, 1, h.2.symm⟩))))
    all_goals go_wp2_with fail
    all_goals go_ret
    all_goals exact ⟨⟨_, rfl, unhide hok⟩, Below.drewN (Below.refl _ _) _⟩
  · have h2 : p + 5 ≤ s.size := by have : Pl.isz 3 = 5 := rfl; omega
    obtain ⟨q, hq⟩ : ∃ q, q = p + 1 := ⟨_, rfl⟩
    obtain ⟨r, hr3⟩ : ∃ r, r = p + 3 := ⟨_, rfl⟩
    have C := hide (fun w => refTwo_any s q w (by omega) hs)
    have C3 := hide (fun w => refTwo_any s r w (by omega) hs)
    have e1 : IntKind.i64.wrap ((p : Int) + 1) = (q : Int) := by simp [IntKind.wrap, IntKind.signed, IntKind.bits]; omega
    have e3 : IntKind.i64.wrap ((p : Int) + 3) = (r : Int) := by simp [IntKind.wrap, IntKind.signed, IntKind.bits]; omega
    have hok : Hid ((Pl.two s.data.toList q < m ∧ Pl.two s.data.toList r < m) ↔ Pl.okOps m (Pl.mkIns s.data.toList p)) := by
      show _ ↔ _
      have h1 : (Pl.mkIns s.data.toList p).first = Pl.two s.data.toList q := by
        unfold Pl.mkIns; rw [hop, hq]; rfl
      have h2 : (Pl.mkIns s.data.toList p).second = Pl.two s.data.toList r := by
        unfold Pl.mkIns; rw [hop, hr3]; rfl
      have e : (Pl.mkIns s.data.toList p).op = 3 := hop
      unfold Pl.okOps
      rw [h1, h2, e]
      simp
    generalize Pl.two s.data.toList q = F at *
    generalize Pl.two s.data.toList r = G at *
    have E1 := hide e1
    have E3 := hide e3
    clear hw hw2 hz hop hlt e1 e3 hq hr3
    by_cases hF : F < m
    · have d1 : decide ((F : Int) < m) = true := by rw [decide_eq_true_eq]; omega
      go_enter Try.func35, Try.ntmps35
      go_wp2_with fail
      have e1 := unhide E1
      have e3 := unhide E3
      go_quiet (first | (go_at_call_of 26 (q : Int); exact Calls.quiet_of ((unhide C _).mono (fun _ _ h => ⟨h.1, 1, h.2.symm⟩))) | (go_at_call_of 26 (r : Int); exact Calls.quiet_of ((unhide C3 _).mono (fun _ _ h => ⟨h.1, 1, h.2.symm⟩))))
      all_goals go_wp2_with fail
      all_goals go_ret
      all_goals refine ⟨⟨_, rfl, ?_⟩, Below.drewN (Below.refl _ _) _⟩
      all_goals (rw [← unhide hok]; simp [hF])
    · have d1 : decide ((F : Int) < m) = false := by rw [decide_eq_false_iff_not]; omega
      go_enter Try.func35, Try.ntmps35
      go_wp2_with fail
      have e1 := unhide E1
      have e3 := unhide E3
      go_quiet (first | (go_at_call_of 26 (q : Int); exact Calls.quiet_of ((unhide C _).mono (fun _ _ h => ⟨h.1, 1, h.2.symm⟩))))
      all_goals go_wp2_with fail
      all_goals go_ret
      all_goals refine ⟨⟨_, rfl, ?_⟩, Below.drewN (Below.refl _ _) _⟩
      all_goals (rw [← unhide hok]; simp [hF])
  · have hok : Hid (Pl.okOps m (Pl.mkIns s.data.toList p)) := by
      show Pl.okOps _ _
      have e : (Pl.mkIns s.data.toList p).op = op := hop
      unfold Pl.okOps
      rw [e]
      refine ⟨fun h => ?_, fun h => ?_, fun h => ?_⟩ <;> omega
    clear hw hw2 hz hop hlt
    rcases h4 with rfl | rfl | rfl | rfl
    all_goals go_enter Try.func35, Try.ntmps35
    all_goals go_wp2_with fail
    all_goals go_ret
    all_goals exact ⟨⟨_, rfl, fun _ => unhide hok, fun _ => rfl⟩, Below.refl _ _⟩
end Go.Proofs.Ytjelacjggijmfaa
