/-
  Package plans: a plan is read; Check of package maker.
  Sounds: for every text of at most 1048576 letters the law answers true.
-/
import Derived.Test.YtjelacjggijmfaaGSP8
import Derived.Test.YtjelacjggijmfaaGSR3
import Derived.Test.YtjelacjggijmfaaGSR5
namespace Go.Proofs.Ytjelacjggijmfaa
open Go.RowKit Go.Shelf

theorem sound_any (a : Option Addr) (m cap : Nat) (s : ByteArray) (w : World) (hs : s.size ≤ 1048576) :
    Calls Try.prog 34 #[.agg #[.slice a m cap, .string s]] w fun e w' => (∃ r : Bool, e = .returned (.bool r) ∧ (r = true ↔ Pl.Spec s.data.toList m 0 0 (fun _ => none))) ∧ Below w.heap.size w w' :=
  callsIn_wide.1 (sound_in a m cap s w hs)
theorem load_len {s : Pl.Bs} {ss : List Pl.Bs} {c : Pl.Bs} (h : Pl.load s = some (ss, c)) : c.length ≤ s.length ∧ ss.length ≤ 1000 := by
  unfold Pl.load at h
  split at h
  · rename_i h4
    have := Pl.strs_len _ _ _ h
    simp only [List.length_drop] at this
    omega
  · cases h
/-- What Read leaves. -/
structure ReadPost (s : Pl.Bs) (w : World) (e : Ending) (w' : World) : Prop where
  res : (¬ Pl.checkOf s ∧ e = .returned (.tuple #[.agg #[.slice none 0 0, .string ⟨#[]⟩], .int .i64 9])) ∨
    ∃ ss c b, Pl.load s = some (ss, c) ∧ Pl.Spec c ss.length 0 0 (fun _ => none) ∧ e = .returned (.tuple #[.agg #[.slice (some ⟨b, 0, none⟩) ss.length ss.length, .string ⟨c.toArray⟩], .int .i64 0]) ∧ Row w' b 9 (ss.map strV) ∧ w.heap.size ≤ b
  below : Below w.heap.size w w'
set_option maxHeartbeats 1000000 in
set_option maxRecDepth 20000 in
theorem read_any (l : List UInt8) (w : World) (hl : l.length ≤ 1048576) :
    Calls Try.prog 18 #[.string ⟨l.toArray⟩] w fun e w' => ReadPost l w e w' := by
  have C := hide (fun w => split_any l w hl)
  have HL := hide hl
  clear hl
  go_enter Try.func18, Try.ntmps18
  go_wp2_with fail
  refine (unhide C _).mono ?_
  rintro e w1 ⟨⟨hn, rfl⟩ | ⟨ss, c, b, hld, rfl, hrow, hle⟩, hb1⟩
  · have HN : Hid (¬ Pl.checkOf l) := by
      rintro ⟨x, hx, _⟩
      rw [hn] at hx; cases hx
    have hr0 : Row w1 w.heap.size 54 [.slice none 0 0, .string ⟨#[]⟩] := (Row.new w 54 [.slice none 0 0, .string ⟨#[]⟩]).later hb1
    have hb0 := (Below.refl _ w).alloc (Nat.le_refl _) (.cells #[.slice none 0 0, .string ⟨#[]⟩] 54)
    have HB := hide (hb0.trans (hb1.mono hb0.size))
    have c0 := hr0.cell 0 (by simp)
    have c1 := hr0.cell 1 (by simp)
    have f0 := hr0.frozen 0
    have f1 := hr0.frozen 1
    have hlt := hr0.lt
    simp only [List.getElem_cons_zero, List.getElem_cons_succ] at c0 c1
    have HR := hide hr0
    clear hb0 hb1 hr0 hn C
    go_wp2_with fail
    have hr1 := (((unhide HR).set 0 (.slice none 0 0)).set 1 (.string ⟨#[]⟩)).alloc (.cells #[.slice none 0 0, .string ⟨#[]⟩] 54)
    have p0 := hr1.cell 0 (by simp)
    have p1 := hr1.cell 1 (by simp)
    simp only [List.set_cons_zero, List.set_cons_succ, List.getElem_cons_zero, List.getElem_cons_succ] at p0 p1
    refine bodyPost_ret (v := .tuple #[.agg #[.slice none 0 0, .string ⟨#[]⟩], .int .i64 9]) ?_ rfl ⟨.inl ⟨unhide HN, rfl⟩, (((unhide HB).setCell (p := ⟨w.heap.size, 0, none⟩) (Nat.le_refl _) _).setCell (p := ⟨w.heap.size, 1, none⟩) (Nat.le_refl _) _).alloc (by simp [World.setCell]; omega) _⟩
    simp [results, Try.results18, go_sem, p0, p1]
  · have hll := load_len hld
    have hsz : (⟨c.toArray⟩ : ByteArray).size ≤ 1048576 := by rw [size_mk]; have := unhide HL; omega
    have CS := hide (fun w => sound_any (some ⟨b, 0, none⟩) ss.length ss.length ⟨c.toArray⟩ w hsz)
    rw [mk_list] at CS
    have hr0 : Row w1 w.heap.size 54 [.slice none 0 0, .string ⟨#[]⟩] := (Row.new w 54 [.slice none 0 0, .string ⟨#[]⟩]).later hb1
    have hb0 := (Below.refl _ w).alloc (Nat.le_refl _) (.cells #[.slice none 0 0, .string ⟨#[]⟩] 54)
    have HB := hide (hb0.trans (hb1.mono hb0.size))
    have HR := hide hr0
    have HRow := hide hrow
    have HLD := hide hld
    have hlt := hr0.lt
    clear hb0 hb1 hr0 hrow hld hsz C
    go_wp2_with fail
    refine (unhide CS _).mono ?_
    rintro e w2 ⟨⟨r, rfl, hr⟩, hb2⟩
    have hR1 := ((unhide HR).alloc (.cells #[.slice (some ⟨b, 0, none⟩) ss.length ss.length, .string ⟨c.toArray⟩] 54)).later hb2
    have hP1 := (Row.new w1 54 [.slice (some ⟨b, 0, none⟩) ss.length ss.length, .string ⟨c.toArray⟩]).later hb2
    have hS1 := ((unhide HRow).alloc (.cells #[.slice (some ⟨b, 0, none⟩) ss.length ss.length, .string ⟨c.toArray⟩] 54)).later hb2
    have hB1 := (unhide HB).alloc (by omega) (.cells #[.slice (some ⟨b, 0, none⟩) ss.length ss.length, .string ⟨c.toArray⟩] 54)
    have HB2 := hide (hB1.trans (hb2.mono hB1.size))
    have c0 := hR1.cell 0 (by simp)
    have c1 := hR1.cell 1 (by simp)
    have f0 := hR1.frozen 0
    have f1 := hR1.frozen 1
    have q0 := hP1.cell 0 (by simp)
    have q1 := hP1.cell 1 (by simp)
    simp only [List.getElem_cons_zero, List.getElem_cons_succ] at c0 c1 q0 q1
    have hbn : w.heap.size < b := by rw [World.size_alloc] at hle; omega
    have HR1 := hide hR1
    have HS1 := hide hS1
    clear hR1 hP1 hS1 hB1 hb2 CS hle
    cases r with
    | false =>
      have HN : Hid (¬ Pl.checkOf l) := by
        rintro ⟨x, hx, hsp⟩
        rw [unhide HLD] at hx
        cases hx
        have := hr.2 hsp; cases this
      clear hr
      go_wp2_with fail
      have hr1 := ((unhide HR1).set 0 (.slice none 0 0)).set 1 (.string ⟨#[]⟩)
      have p0 := hr1.cell 0 (by simp)
      have p1 := hr1.cell 1 (by simp)
      simp only [List.set_cons_zero, List.set_cons_succ, List.getElem_cons_zero, List.getElem_cons_succ] at p0 p1
      refine bodyPost_ret (v := .tuple #[.agg #[.slice none 0 0, .string ⟨#[]⟩], .int .i64 9]) ?_ rfl ⟨.inl ⟨unhide HN, rfl⟩, ((unhide HB2).setCell (p := ⟨w.heap.size, 0, none⟩) (Nat.le_refl _) _).setCell (p := ⟨w.heap.size, 1, none⟩) (Nat.le_refl _) _⟩
      simp [results, Try.results18, go_sem, p0, p1]
    | true =>
      have HSP := hide (hr.1 rfl)
      clear hr
      go_wp2_with fail
      have hr1 := ((unhide HR1).set 0 (.slice (some ⟨b, 0, none⟩) ss.length ss.length)).set 1 (.string ⟨c.toArray⟩)
      have p0 := hr1.cell 0 (by simp)
      have p1 := hr1.cell 1 (by simp)
      simp only [List.set_cons_zero, List.set_cons_succ, List.getElem_cons_zero, List.getElem_cons_succ] at p0 p1
      refine bodyPost_ret (v := .tuple #[.agg #[.slice (some ⟨b, 0, none⟩) ss.length ss.length, .string ⟨c.toArray⟩], .int .i64 0]) ?_ rfl
        ⟨.inr ⟨ss, c, b, unhide HLD, unhide HSP, rfl, ((unhide HS1).other (by omega) _ _).other (by omega) _ _, by omega⟩, ((unhide HB2).setCell (p := ⟨w.heap.size, 0, none⟩) (Nat.le_refl _) _).setCell (p := ⟨w.heap.size, 1, none⟩) (Nat.le_refl _) _⟩
      simp [results, Try.results18, go_sem, p0, p1]
set_option maxHeartbeats 1000000 in
theorem check_any (l : List UInt8) (w : World) (hl : l.length ≤ 1048576) :
    Calls Try.prog 5 #[.string ⟨l.toArray⟩] w fun e w' => (∃ z : Int, e = .returned (.int .i64 z) ∧ ((z = 0 ∧ Pl.checkOf l) ∨ (z = 9 ∧ ¬ Pl.checkOf l))) ∧ Below w.heap.size w w' := by
  have C := hide (fun w => read_any l w hl)
  go_enter Try.func5, Try.ntmps5
  go_wp2_with fail
  refine (unhide C _).mono ?_
  rintro e w1 ⟨⟨hn, rfl⟩ | ⟨ss, c, b, hld, hsp, rfl, hrow, hle⟩, hb1⟩
  · have HN := hide hn
    clear hn
    go_wp2_with fail
    go_ret
    exact ⟨⟨_, rfl, .inr ⟨rfl, unhide HN⟩⟩, hb1.alloc hb1.size _⟩
  · have HC : Hid (Pl.checkOf l) := ⟨(ss, c), hld, hsp⟩
    clear hld hsp hrow hle
    go_wp2_with fail
    go_ret
    exact ⟨⟨_, rfl, .inl ⟨rfl, unhide HC⟩⟩, hb1.alloc hb1.size _⟩
end Go.Proofs.Ytjelacjggijmfaa
namespace Go.Proofs.Ytjelacjggijmfaa
open Go.RowKit

set_option maxHeartbeats 1000000 in
theorem refCheck_any (l : List UInt8) (w : World) (hl : l.length ≤ 1048576) :
    Calls Try.prog 7 #[.string ⟨l.toArray⟩] w fun e w' => (∃ z : Int, e = .returned (.int .i64 z) ∧ ((z = 0 ∧ Pl.checkOf l) ∨ (z = 9 ∧ ¬ Pl.checkOf l))) ∧ Below w.heap.size w w' := by
  have C := hide (fun w => load_any l w hl)
  have HL := hide hl
  clear hl
  go_enter Try.func7, Try.ntmps7
  go_wp2_with fail
  refine (unhide C _).mono ?_
  rintro e w1 ⟨⟨hn, p, rfl⟩ | ⟨ss, c, b, v, hld, rfl, hrow, hst, hle⟩, hb1⟩
  · have HN : Hid (¬ Pl.checkOf l) := by
      rintro ⟨x, hx, _⟩
      rw [hn] at hx; cases hx
    clear hn
    go_wp2_with fail
    go_ret
    exact ⟨⟨_, rfl, .inr ⟨rfl, unhide HN⟩⟩, hb1⟩
  · obtain ⟨a, cap, rfl⟩ := hst.shape
    have hll := load_len hld
    have hsz : (⟨c.toArray⟩ : ByteArray).size ≤ 1048576 := by rw [size_mk]; have := unhide HL; omega
    have CS := hide (refSound_any ⟨c.toArray⟩ b ss.length cap a w1 hsz hrow)
    rw [mk_list] at CS
    have HLD := hide hld
    clear hld hrow hst hle hll hsz
    go_wp2_with fail
    refine (unhide CS).mono ?_
    rintro e w2 ⟨⟨r, rfl, hr⟩, hb2⟩
    have HB := hide (hb1.trans (hb2.mono hb1.size))
    cases r with
    | false =>
      have HN : Hid (¬ Pl.checkOf l) := by
        rintro ⟨x, hx, hsp⟩
        rw [unhide HLD] at hx
        cases hx
        have := hr.2 hsp; cases this
      clear hr hb1 hb2 CS C
      go_wp2_with fail
      go_ret
      exact ⟨⟨_, rfl, .inr ⟨rfl, unhide HN⟩⟩, unhide HB⟩
    | true =>
      have HC : Hid (Pl.checkOf l) := ⟨(ss, c), unhide HLD, hr.1 rfl⟩
      clear hr hb1 hb2 CS C
      go_wp2_with fail
      go_ret
      exact ⟨⟨_, rfl, .inl ⟨rfl, unhide HC⟩⟩, unhide HB⟩
set_option maxHeartbeats 400000 in
theorem num_any (z : Int) (w : World) : Calls Try.prog 6 #[.int .i64 z] w fun e w' => e = .returned (.int .i64 z) ∧ w = w' := by
  go_enter Try.func6, Try.ntmps6
  go_wp2
  all_goals go_ret
  all_goals exact ⟨rfl, rfl⟩
def exPlan : Pl.Bs := [80, 49, 0, 1, 0, 1, 97, 2, 0, 0, 6, 0, 3, 7, 0, 0]
theorem exLoad : Pl.load exPlan = some ([[97]], [2, 0, 0, 6, 0, 3, 7, 0, 0]) := by decide +kernel
theorem exSound : Pl.checkOf exPlan := by
  refine ⟨_, exLoad, ?_⟩
  show Pl.Spec [2, 0, 0, 6, 0, 3, 7, 0, 0] 1 0 0 (fun _ => none)
  rw [Pl.spec_step (by decide)]
  refine ⟨fun q e => (by cases e), (by unfold Pl.whole; decide), (by unfold Pl.okOps; decide), (by decide), (by decide), fun e => absurd e (by decide), ?_⟩
  show Pl.Spec [2, 0, 0, 6, 0, 3, 7, 0, 0] 1 3 1 _
  rw [Pl.spec_step (by decide)]
  refine ⟨fun q e => ?_, (by unfold Pl.whole; decide), (by unfold Pl.okOps; decide), (by decide), (by decide), fun _ q e => ?_, ?_⟩
  · exfalso; revert e; unfold Pl.onward Pl.put Pl.del; simp [Pl.mkIns, Pl.opAt]
  · exfalso; revert e; unfold Pl.onward Pl.put Pl.del; simp [Pl.mkIns, Pl.opAt, Pl.isz, Pl.two]
  show Pl.Spec [2, 0, 0, 6, 0, 3, 7, 0, 0] 1 6 0 _
  rw [Pl.spec_step (by decide)]
  refine ⟨fun q e => ?_, (by unfold Pl.whole; decide), (by unfold Pl.okOps; decide), (by decide), (by decide), fun e => absurd e (by decide), ?_⟩
  · exfalso; revert e; unfold Pl.onward Pl.put Pl.del; simp [Pl.mkIns, Pl.opAt, Pl.isz, Pl.two]
  show Pl.Spec [2, 0, 0, 6, 0, 3, 7, 0, 0] 1 9 0 _
  rw [Pl.spec_end (by decide)]
  refine ⟨fun q e => ?_, rfl, fun q hq => ?_⟩
  · revert e; unfold Pl.onward Pl.put Pl.del; simp [Pl.mkIns, Pl.opAt, Pl.isz, Pl.two, Pl.rise, Pl.taken, Pl.pushed]; omega
  · unfold Pl.onward Pl.put Pl.del; simp [Pl.mkIns, Pl.opAt, Pl.isz, Pl.two]; omega
set_option maxHeartbeats 1000000 in
theorem sounds_any (l : List UInt8) (w : World) (hl : l.length ≤ 1048576) :
    Calls Try.prog 3 #[.string ⟨l.toArray⟩] w fun e w' => e = .returned (.bool true) ∧ Below w.heap.size w w' := by
  have C1 := hide (fun w => check_any exPlan w (by decide))
  have C2 := hide (fun w => check_any l w hl)
  have C3 := hide (fun w => refCheck_any l w hl)
  clear hl
  go_enter Try.func3, Try.ntmps3
  go_wp2_with fail
  refine (unhide C1 _).mono ?_
  rintro e w1 ⟨⟨z1, rfl, ⟨rfl, _⟩ | ⟨rfl, hn⟩⟩, hb1⟩
  · go_wp2_with fail
    refine (unhide C2 _).mono ?_
    rintro e w2 ⟨⟨z2, rfl, h2⟩, hb2⟩
    go_wp2_with fail
    refine (num_any _ _).mono ?_
    rintro e w3 ⟨rfl, rfl⟩
    go_wp2_with fail
    refine (unhide C3 _).mono ?_
    rintro e w4 ⟨⟨z3, rfl, h3⟩, hb4⟩
    have hz : z2 = z3 := by
      rcases h2 with ⟨rfl, h2⟩ | ⟨rfl, h2⟩ <;> rcases h3 with ⟨rfl, h3⟩ | ⟨rfl, h3⟩
      · rfl
      · exact absurd h2 h3
      · exact absurd h3 h2
      · rfl
    subst hz
    clear h2 h3
    go_wp2_with fail
    go_ret
    have hb12 := hb1.trans (hb2.mono hb1.size)
    exact ⟨ret_bool (by simp), hb12.trans (hb4.mono hb12.size)⟩
  · exact absurd exSound hn
end Go.Proofs.Ytjelacjggijmfaa
