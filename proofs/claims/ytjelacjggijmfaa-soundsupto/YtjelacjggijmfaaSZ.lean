/-
  Sounds: for every text of at most 1048576 letters the law answers true.
-/
import Derived.Test.YtjelacjggijmfaaSR3
import Derived.Test.YtjelacjggijmfaaSR5
import Derived.Test.YtjelacjggijmfaaSP9
namespace Go.Proofs.Ytjelacjggijmfaa
open Go.RowKit

set_option maxHeartbeats 1000000 in
theorem refCheck_any (l : List UInt8) (w : World) (hl : l.length ≤ 1048576) :
    Calls Try.prog 7 #[.string ⟨l.toArray⟩] w fun e w' => (∃ z : Int, e = .returned (.int .i64 z) ∧ ((z = 0 ∧ Pl.checkOf l) ∨ (z = 9 ∧ ¬ Pl.checkOf l))) ∧ Below w.heap.size w w' := by
  have C := hide (fun w => load_any l w hl)
  have HL := hide hl
  clear hl
  go_enter Try.func7, Try.ntmps7
  go_wp2_with fail
  refine (unhide C _).mono ?_
  rintro e w1 ⟨⟨hn, p, rfl⟩ | ⟨ss, c, b, v, hld, rfl, hrow, hst, hle⟩, hb1⟩
  · have HN : Hid (¬ Pl.checkOf l) := by
      rintro ⟨x, hx, _⟩
      rw [hn] at hx; cases hx
    clear hn
    go_wp2_with fail
    go_ret
    exact ⟨⟨_, rfl, .inr ⟨rfl, unhide HN⟩⟩, hb1⟩
  · obtain ⟨a, cap, rfl⟩ := hst.shape
    have hll := load_len hld
    have hsz : (⟨c.toArray⟩ : ByteArray).size ≤ 1048576 := by rw [size_mk]; have := unhide HL; omega
    have CS := hide (refSound_any ⟨c.toArray⟩ b ss.length cap a w1 hsz hrow)
    rw [mk_list] at CS
    have HLD := hide hld
    clear hld hrow hst hle hll hsz
    go_wp2_with fail
    refine (unhide CS).mono ?_
    rintro e w2 ⟨⟨r, rfl, hr⟩, hb2⟩
    have HB := hide (hb1.trans (hb2.mono hb1.size))
    cases r with
    | false =>
      have HN : Hid (¬ Pl.checkOf l) := by
        rintro ⟨x, hx, hsp⟩
        rw [unhide HLD] at hx
        cases hx
        have := hr.2 hsp; cases this
      clear hr hb1 hb2 CS C
      go_wp2_with fail
      go_ret
      exact ⟨⟨_, rfl, .inr ⟨rfl, unhide HN⟩⟩, unhide HB⟩
    | true =>
      have HC : Hid (Pl.checkOf l) := ⟨(ss, c), unhide HLD, hr.1 rfl⟩
      clear hr hb1 hb2 CS C
      go_wp2_with fail
      go_ret
      exact ⟨⟨_, rfl, .inl ⟨rfl, unhide HC⟩⟩, unhide HB⟩
set_option maxHeartbeats 400000 in
theorem num_any (z : Int) (w : World) : Calls Try.prog 6 #[.int .i64 z] w fun e w' => e = .returned (.int .i64 z) ∧ w = w' := by
  go_enter Try.func6, Try.ntmps6
  go_wp2
  all_goals go_ret
  all_goals exact ⟨rfl, rfl⟩
def exPlan : Pl.Bs := [80, 49, 0, 1, 0, 1, 97, 2, 0, 0, 6, 0, 3, 7, 0, 0]
theorem exLoad : Pl.load exPlan = some ([[97]], [2, 0, 0, 6, 0, 3, 7, 0, 0]) := by decide +kernel
theorem exSound : Pl.checkOf exPlan := by
  refine ⟨_, exLoad, ?_⟩
  show Pl.Spec [2, 0, 0, 6, 0, 3, 7, 0, 0] 1 0 0 (fun _ => none)
  rw [Pl.spec_step (by decide)]
  refine ⟨fun q e => (by cases e), (by unfold Pl.whole; decide), (by unfold Pl.okOps; decide), (by decide), (by decide), fun e => absurd e (by decide), ?_⟩
  show Pl.Spec [2, 0, 0, 6, 0, 3, 7, 0, 0] 1 3 1 _
  rw [Pl.spec_step (by decide)]
  refine ⟨fun q e => ?_, (by unfold Pl.whole; decide), (by unfold Pl.okOps; decide), (by decide), (by decide), fun _ q e => ?_, ?_⟩
  · exfalso; revert e; unfold Pl.onward Pl.put Pl.del; simp [Pl.mkIns, Pl.opAt]
  · exfalso; revert e; unfold Pl.onward Pl.put Pl.del; simp [Pl.mkIns, Pl.opAt, Pl.isz, Pl.two]
  show Pl.Spec [2, 0, 0, 6, 0, 3, 7, 0, 0] 1 6 0 _
  rw [Pl.spec_step (by decide)]
  refine ⟨fun q e => ?_, (by unfold Pl.whole; decide), (by unfold Pl.okOps; decide), (by decide), (by decide), fun e => absurd e (by decide), ?_⟩
  · exfalso; revert e; unfold Pl.onward Pl.put Pl.del; simp [Pl.mkIns, Pl.opAt, Pl.isz, Pl.two]
  show Pl.Spec [2, 0, 0, 6, 0, 3, 7, 0, 0] 1 9 0 _
  rw [Pl.spec_end (by decide)]
  refine ⟨fun q e => ?_, rfl, fun q hq => ?_⟩
  · revert e; unfold Pl.onward Pl.put Pl.del; simp [Pl.mkIns, Pl.opAt, Pl.isz, Pl.two, Pl.rise, Pl.taken, Pl.pushed]; omega
  · unfold Pl.onward Pl.put Pl.del; simp [Pl.mkIns, Pl.opAt, Pl.isz, Pl.two]; omega
set_option maxHeartbeats 1000000 in
theorem sounds_any (l : List UInt8) (w : World) (hl : l.length ≤ 1048576) :
    Calls Try.prog 3 #[.string ⟨l.toArray⟩] w fun e w' => e = .returned (.bool true) ∧ Below w.heap.size w w' := by
  have C1 := hide (fun w => check_any exPlan w (by decide))
  have C2 := hide (fun w => check_any l w hl)
  have C3 := hide (fun w => refCheck_any l w hl)
  clear hl
  go_enter Try.func3, Try.ntmps3
  go_wp2_with fail
  refine (unhide C1 _).mono ?_
  rintro e w1 ⟨⟨z1, rfl, ⟨rfl, _⟩ | ⟨rfl, hn⟩⟩, hb1⟩
  · go_wp2_with fail
    refine (unhide C2 _).mono ?_
    rintro e w2 ⟨⟨z2, rfl, h2⟩, hb2⟩
    go_wp2_with fail
    refine (num_any _ _).mono ?_
    rintro e w3 ⟨rfl, rfl⟩
    go_wp2_with fail
    refine (unhide C3 _).mono ?_
    rintro e w4 ⟨⟨z3, rfl, h3⟩, hb4⟩
    have hz : z2 = z3 := by
      rcases h2 with ⟨rfl, h2⟩ | ⟨rfl, h2⟩ <;> rcases h3 with ⟨rfl, h3⟩ | ⟨rfl, h3⟩
      · rfl
      · exact absurd h2 h3
      · exact absurd h3 h2
      · rfl
    subst hz
    clear h2 h3
    go_wp2_with fail
    go_ret
    have hb12 := hb1.trans (hb2.mono hb1.size)
    exact ⟨ret_bool (by simp), hb12.trans (hb4.mono hb12.size)⟩
  · exact absurd exSound hn
end Go.Proofs.Ytjelacjggijmfaa
