/-
  Package plans: the instruction at a place.
-/
import Derived.Test.YtjelacjggijmfaaGSB
import Derived.Test.YtjelacjggijmfaaGSP2
import Derived.Test.YtjelacjggijmfaaGSB2
namespace Go.Proofs.Ytjelacjggijmfaa
open Go.RowKit

def insV (i : Pl.Ins) : Value := .agg #[.int .u8 i.op, .int .i64 i.at_, .int .i64 i.next, .int .i64 i.first, .int .i64 i.second]
theorem wd_isz (op : Nat) : (isOp op = true → Pl.isz op = 1 + wd1 op + wd2 op) ∧ (isOp op = false → Pl.isz op = 0) := by
  by_cases h : op ≤ 8
  · have : op = 0 ∨ op = 1 ∨ op = 2 ∨ op = 3 ∨ op = 4 ∨ op = 5 ∨ op = 6 ∨ op = 7 ∨ op = 8 := by omega
    rcases this with rfl | rfl | rfl | rfl | rfl | rfl | rfl | rfl | rfl <;> decide
  · have e : isOp op = false := by unfold isOp; simp only [decide_eq_false_iff_not]; omega
    rw [e]
    refine ⟨fun h => (by cases h), fun _ => ?_⟩
    unfold Pl.isz
    repeat rw [if_neg (by omega)]
theorem wd_le (op : Nat) : wd1 op ≤ 2 ∧ wd2 op ≤ 2 := by
  unfold wd1 wd2
  constructor
  · split
    · omega
    · split <;> omega
  · split <;> omega
theorem mk_parts (c : Pl.Bs) (p : Nat) (h : isOp (Pl.opAt c p) = true) :
    Pl.mkIns c p = ⟨Pl.opAt c p, p, p + 1 + wd1 (Pl.opAt c p) + wd2 (Pl.opAt c p), if wd1 (Pl.opAt c p) = 0 then 0 else if wd1 (Pl.opAt c p) = 1 then Pl.opAt c (p + 1) else Pl.two c (p + 1),
      if wd2 (Pl.opAt c p) = 0 then 0 else if wd2 (Pl.opAt c p) = 1 then Pl.opAt c (p + 1 + wd1 (Pl.opAt c p)) else Pl.two c (p + 1 + wd1 (Pl.opAt c p))⟩ := by
  unfold Pl.mkIns
  have : Pl.opAt c p = 1 ∨ Pl.opAt c p = 2 ∨ Pl.opAt c p = 3 ∨ Pl.opAt c p = 4 ∨ Pl.opAt c p = 5 ∨ Pl.opAt c p = 6 ∨ Pl.opAt c p = 7 ∨ Pl.opAt c p = 8 := by
    unfold isOp at h; simp only [decide_eq_true_eq] at h; omega
  rcases this with h | h | h | h | h | h | h | h <;> rw [h] <;> simp [Pl.isz, wd1, wd2]
set_option maxHeartbeats 1000000 in
theorem insAt_yes (s : ByteArray) (p : Nat) (w : World) (hp : p < s.size) (hs : s.size ≤ 1048576) (hw : Pl.whole s.data.toList p) :
    Calls Try.prog 54 #[.string s, .int .i64 p] w fun e w' => e = .returned (.tuple #[insV (Pl.mkIns s.data.toList p), .bool true]) ∧ Below w.heap.size w w' := by
  have ho := opAt_get s p hp
  have hlt := Pl.opAt_lt s.data.toList p
  have hop : isOp (Pl.opAt s.data.toList p) = true := by
    cases h : isOp (Pl.opAt s.data.toList p) with
    | true => rfl
    | false => exact absurd ((wd_isz _).2 h) hw.1
  have hn := (wd_isz _).1 hop
  have hw2 := hw.2
  rw [hn, ← Lib.size_eq] at hw2
  obtain ⟨hl1, hl2⟩ := wd_le (Pl.opAt s.data.toList p)
  have HM := hide (mk_parts s.data.toList p hop)
  have CW := hide (fun w => widths_any (Pl.opAt s.data.toList p) hlt w)
  have HN1 := hide (numOf_cut s (p + 1) (wd1 (Pl.opAt s.data.toList p)) (by omega) hl1)
  have HN2 := hide (numOf_cut s (p + 1 + wd1 (Pl.opAt s.data.toList p)) (wd2 (Pl.opAt s.data.toList p)) (by omega) hl2)
  rw [hop] at CW
  have HO := hide ho
  clear hw hn ho hlt
  generalize Pl.opAt s.data.toList p = op at *
  generalize wd1 op = a at *
  generalize wd2 op = b at *
  obtain ⟨q, hq⟩ : ∃ q, q = p + 1 := ⟨_, rfl⟩
  obtain ⟨r, hr⟩ : ∃ r, r = p + 1 + a := ⟨_, rfl⟩
  obtain ⟨t, ht⟩ : ∃ t, t = p + 1 + a + b := ⟨_, rfl⟩
  rw [← ht, ← hr, ← hq] at HM
  rw [← hr, ← hq] at HN1
  rw [← ht, ← hr] at HN2
  have e1 : IntKind.i64.wrap ((p : Int) + 1) = (q : Int) := by simp [IntKind.wrap, IntKind.signed, IntKind.bits]; omega
  have e2 : IntKind.i64.wrap ((q : Int) + (a : Int)) = (r : Int) := by simp [IntKind.wrap, IntKind.signed, IntKind.bits]; omega
  have e3 : ((p : Int) + 1 + (a : Int) + (b : Int)) = (t : Int) := by omega
  have E1 := hide e1
  have E2 := hide e2
  have E3 := hide e3
  have i1 : q ≤ r := by omega
  have i2 : r ≤ t := by omega
  have i3 : r ≤ s.size := by omega
  have i6 : t ≤ s.size := by omega
  have i7 : r ≤ q + 2 := by omega
  have i8 : t ≤ r + 2 := by omega
  have HQ := hide hq
  clear e1 e2 e3
  go_enter Try.func54, Try.ntmps54
  go_wp2_with fail
  rw [← unhide HO]
  refine (unhide CW _).mono ?_
  rintro e w1 ⟨rfl, rfl⟩
  go_wp2_with fail
  rw [unhide E3]
  have e1 := unhide E1
  have e2 := unhide E2
  clear hq hr ht
  go_region_with (go_at_call 52; refine (number_all _ _ (by simp [ByteArray.size_extract]; omega)).mono ?_; rintro e w1 ⟨rfl, rfl⟩)
  all_goals go_wp2_with fail
  have HM2 : Hid (insV (Pl.mkIns s.data.toList p) = .agg #[.int .u8 op, .int .i64 p, .int .i64 t, .int .i64 (numOf (s.extract q r) : Nat), .int .i64 (numOf (s.extract r t) : Nat)]) := by
    show _ = _
    rw [unhide HM, unhide HN1, unhide HN2]; rfl
  clear HM HN1 HN2
  rw [unhide HM2]
  refine bodyPost_ret (v := .tuple #[.agg #[.int .u8 op, .int .i64 p, .int .i64 t, .int .i64 (numOf (s.extract q r) : Nat), .int .i64 (numOf (s.extract r t) : Nat)], .bool true]) ?_ rfl ⟨rfl, ((Below.refl _ w).alloc (Nat.le_refl _) _).drew⟩
  simp [results, Try.results54, go_sem]
set_option maxHeartbeats 1000000 in
theorem insAt_no (s : ByteArray) (p : Nat) (w : World) (hp : p < s.size) (hs : s.size ≤ 1048576) (hw : ¬ Pl.whole s.data.toList p) :
    Calls Try.prog 54 #[.string s, .int .i64 p] w fun e w' => e = .returned (.tuple #[insV ⟨0, 0, 0, 0, 0⟩, .bool false]) ∧ Below w.heap.size w w' := by
  have ho := opAt_get s p hp
  have hlt := Pl.opAt_lt s.data.toList p
  have CW := hide (fun w => widths_any (Pl.opAt s.data.toList p) hlt w)
  obtain ⟨hl1, hl2⟩ := wd_le (Pl.opAt s.data.toList p)
  have HO := hide ho
  unfold Pl.whole at hw
  rw [← Lib.size_eq] at hw
  cases hop : isOp (Pl.opAt s.data.toList p) with
  | false =>
    rw [hop] at CW
    clear hw ho hlt hop
    generalize Pl.opAt s.data.toList p = op at *
    generalize wd1 op = a at *
    generalize wd2 op = b at *
    go_enter Try.func54, Try.ntmps54
    go_wp2_with fail
    rw [← unhide HO]
    refine (unhide CW _).mono ?_
    rintro e w1 ⟨rfl, rfl⟩
    go_wp2_with fail
    refine bodyPost_ret (v := .tuple #[insV ⟨0, 0, 0, 0, 0⟩, .bool false]) ?_ rfl ⟨rfl, (Below.refl _ w).alloc (Nat.le_refl _) _⟩
    simp [results, Try.results54, go_sem, insV]
  | true =>
    have hn := (wd_isz _).1 hop
    rw [hop] at CW
    have hw2 : s.size < p + (1 + wd1 (Pl.opAt s.data.toList p) + wd2 (Pl.opAt s.data.toList p)) := by
      rw [hn] at hw
      omega
    clear hw ho hlt hop hn
    generalize Pl.opAt s.data.toList p = op at *
    generalize wd1 op = a at *
    generalize wd2 op = b at *
    go_enter Try.func54, Try.ntmps54
    go_wp2_with fail
    rw [← unhide HO]
    refine (unhide CW _).mono ?_
    rintro e w1 ⟨rfl, rfl⟩
    go_wp2_with fail
    refine bodyPost_ret (v := .tuple #[insV ⟨0, 0, 0, 0, 0⟩, .bool false]) ?_ rfl ⟨rfl, (Below.refl _ w).alloc (Nat.le_refl _) _⟩
    simp [results, Try.results54, go_sem, insV]
end Go.Proofs.Ytjelacjggijmfaa
