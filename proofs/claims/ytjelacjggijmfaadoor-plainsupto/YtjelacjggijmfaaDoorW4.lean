/-
  What stands behind the word include, the sign of a line, what may stand ahead of it.
-/
import Derived.Test.YtjelacjggijmfaaDoorW3
namespace Go.Proofs.YtjelacjggijmfaaDoor
open Go.RowKit

theorem blkI_byte (c : UInt8) : blkI c.toNat = Mk.blk c := by
  rw [Bool.eq_iff_iff]; simp [blkI, Mk.blk, ← UInt8.toNat_inj]; omega
theorem wrap32_byte (c : UInt8) : wrap32 (c.toNat : Int) = c.toNat := by have := c.toNat_lt; unfold wrap32; omega
def inclRes (l : List UInt8) : Value := .tuple #[.string ⟨(if Mk.isIncl l then Mk.cut (l.drop 7) else []).toArray⟩, .bool (Mk.isIncl l)]
theorem isIncl_cons {l : List UInt8} (hp : Mk.incl.isPrefixOf l = true) {c : UInt8} {r : List UInt8} (h : l.drop 7 = c :: r) : Mk.isIncl l = Mk.blk c := by
  unfold Mk.isIncl; rw [hp, h]; rfl
theorem isIncl_nil {l : List UInt8} (hp : Mk.incl.isPrefixOf l = true) (h : l.drop 7 = []) : Mk.isIncl l = true := by
  unfold Mk.isIncl; rw [hp, h]; rfl
set_option maxHeartbeats 1000000 in
theorem afterInclude_any (s : ByteArray) (w : World) (hs : s.size ≤ 4294967296) :
    Calls Tryd.prog 37 #[.string s] w fun e w' => e = .returned (inclRes s.data.toList) ∧ Below w.heap.size w w' := by
  cases hp : Mk.incl.isPrefixOf s.data.toList with
  | false =>
    have HI : Hid (Mk.isIncl s.data.toList = false) := by unfold Mk.isIncl; rw [hp]; rfl
    have HP := hide hp
    clear hp
    go_enter Tryd.func37, Tryd.ntmps37
    go_wp2_with (go_at_call 50; refine (lCutPrefix_no s ⟨#[105, 110, 99, 108, 117, 100, 101]⟩ _ (unhide HP)).mono ?_; rintro e w1 ⟨rfl, rfl⟩)
    go_ret2
    refine ⟨?_, Below.refl _ _⟩
    unfold inclRes
    rw [unhide HI]
    rfl
  | true =>
    obtain ⟨t, ht⟩ : ∃ t : ByteArray, s.data.toList.drop 7 = t.data.toList := ⟨⟨(s.data.toList.drop 7).toArray⟩, by simp⟩
    have hts : t.size ≤ 4294967296 := by
      have h1 := Lib.size_eq t
      have h2 := congrArg List.length ht
      have h3 := Lib.size_eq s
      rw [List.length_drop] at h2
      omega
    have HP := hide hp
    have HT := hide ht
    clear hp ht
    cases h0 : t.toList.isEmpty with
    | true =>
      have HI : Hid (Mk.isIncl s.data.toList = true) := isIncl_nil (unhide HP) (by rw [unhide HT]; exact empty_of h0)
      go_enter Tryd.func37, Tryd.ntmps37
      go_wp2_with (first
        | (go_at_call 50; refine (lCutPrefix_yes s ⟨#[105, 110, 99, 108, 117, 100, 101]⟩ t _ (unhide HP) (unhide HT)).mono ?_; rintro e w1 ⟨rfl, rfl⟩)
        | (go_at_call 36; refine (cut_any t _ hts).mono ?_; rintro e w1 ⟨rfl, hb⟩))
      go_ret2
      refine ⟨?_, hb⟩
      unfold inclRes
      rw [unhide HI, unhide HT]
      rfl
    | false =>
      have hz : 0 < t.size := by
        have := nonempty_of h0
        rw [Lib.size_eq]; exact List.length_pos_iff.2 this
      have HC := hide (data_cons t hz)
      cases hb : Mk.blk (t[0]'hz) with
      | true =>
        have HI : Hid (Mk.isIncl s.data.toList = true) := by
          show _ = _
          rw [isIncl_cons (unhide HP) ((unhide HT).trans (unhide HC))]; exact hb
        have hbi : blkI (wrap32 (t[0]'hz).toNat) = true := by rw [wrap32_byte, blkI_byte]; exact hb
        go_enter Tryd.func37, Tryd.ntmps37
        go_wp2_with (first
          | (go_at_call 50; refine (lCutPrefix_yes s ⟨#[105, 110, 99, 108, 117, 100, 101]⟩ t _ (unhide HP) (unhide HT)).mono ?_; rintro e w1 ⟨rfl, rfl⟩)
          | (go_at_call 51; refine (isBlank_any _ _).mono ?_; rintro e w1 ⟨rfl, rfl⟩)
          | (go_at_call 36; refine (cut_any t _ hts).mono ?_; rintro e w1 ⟨rfl, hb⟩))
        go_ret2
        refine ⟨?_, hb⟩
        unfold inclRes
        rw [unhide HI, unhide HT]
        rfl
      | false =>
        have HI : Hid (Mk.isIncl s.data.toList = false) := by
          show _ = _
          rw [isIncl_cons (unhide HP) ((unhide HT).trans (unhide HC))]; exact hb
        have hbi : blkI (wrap32 (t[0]'hz).toNat) = false := by rw [wrap32_byte, blkI_byte]; exact hb
        go_enter Tryd.func37, Tryd.ntmps37
        go_wp2_with (first
          | (go_at_call 50; refine (lCutPrefix_yes s ⟨#[105, 110, 99, 108, 117, 100, 101]⟩ t _ (unhide HP) (unhide HT)).mono ?_; rintro e w1 ⟨rfl, rfl⟩)
          | (go_at_call 51; refine (isBlank_any _ _).mono ?_; rintro e w1 ⟨rfl, rfl⟩))
        go_ret2
        refine ⟨?_, Below.refl _ _⟩
        unfold inclRes
        rw [unhide HI]
        rfl

def kindRes (l : List UInt8) : Value := .tuple #[.int .i64 (Mk.kindOf l).1, .string ⟨(Mk.kindOf l).2.toArray⟩]
theorem kindOf_fixed {l : List UInt8} (h : List.isPrefixOf [58, 61] l = true) : Mk.kindOf l = (3, l.drop 2) := by
  match l, h with
  | [], h => simp [List.isPrefixOf] at h
  | [_], h => simp [List.isPrefixOf] at h
  | a :: b :: r, h =>
    simp [List.isPrefixOf] at h
    obtain ⟨rfl, rfl⟩ := h
    rfl
theorem kindOf_late {l : List UInt8} (h : List.isPrefixOf [61] l = true) : Mk.kindOf l = (4, l.drop 1) := by
  match l, h with
  | [], h => simp [List.isPrefixOf] at h
  | a :: r, h =>
    simp [List.isPrefixOf] at h
    subst h
    rfl
theorem kindOf_rule {l : List UInt8} (h1 : List.isPrefixOf [58, 61] l = false) (h2 : List.isPrefixOf [61] l = false) : Mk.kindOf l = (5, l.tail) := by
  unfold Mk.kindOf
  split
  · simp [List.isPrefixOf] at h1
  · simp [List.isPrefixOf] at h2
  · rfl
set_option maxHeartbeats 1000000 in
theorem kindOfSign_any (s : ByteArray) (w : World) (hz : 0 < s.size) :
    Calls Tryd.prog 53 #[.string s] w fun e w' => e = .returned (kindRes s.data.toList) ∧ Below w.heap.size w w' := by
  cases h1 : List.isPrefixOf [58, 61] s.data.toList with
  | true =>
    have HK := hide (kindOf_fixed h1)
    have HP := hide h1
    clear h1
    go_enter Tryd.func53, Tryd.ntmps53
    go_wp2_with (go_at_call 50; refine (lCutPrefix_yes s ⟨#[58, 61]⟩ ⟨(s.data.toList.drop 2).toArray⟩ _ (unhide HP) (by simp)).mono ?_; rintro e w1 ⟨rfl, rfl⟩)
    go_ret2
    refine ⟨?_, Below.refl _ _⟩
    unfold kindRes
    rw [unhide HK]
    rfl
  | false =>
    have HP := hide h1
    cases h2 : List.isPrefixOf [61] s.data.toList with
    | true =>
      have HK := hide (kindOf_late h2)
      have HQ := hide h2
      clear h1 h2
      go_enter Tryd.func53, Tryd.ntmps53
      go_wp2_with (first
        | (go_at_call 50; refine (lCutPrefix_no s ⟨#[58, 61]⟩ _ (unhide HP)).mono ?_; rintro e w1 ⟨rfl, rfl⟩; clear HP)
        | (go_at_call 50; refine (lCutPrefix_yes s ⟨#[61]⟩ ⟨(s.data.toList.drop 1).toArray⟩ _ (unhide HQ) (by simp)).mono ?_; rintro e w1 ⟨rfl, rfl⟩))
      go_ret2
      refine ⟨?_, Below.refl _ _⟩
      unfold kindRes
      rw [unhide HK]
      rw [List.drop_one]
      rfl
    | false =>
      have HK := hide (kindOf_rule h1 h2)
      have HQ := hide h2
      clear h1 h2
      go_enter Tryd.func53, Tryd.ntmps53
      go_wp2_with fail
      refine (lCutPrefix_no s ⟨#[58, 61]⟩ _ (unhide HP)).mono ?_
      rintro e w1 ⟨rfl, rfl⟩
      go_wp2_with fail
      refine (lCutPrefix_no s ⟨#[61]⟩ _ (unhide HQ)).mono ?_
      rintro e w1 ⟨rfl, rfl⟩
      go_wp2_with fail
      go_region
      go_wp2
      go_ret2
      refine ⟨?_, (Below.refl _ _).drew⟩
      unfold kindRes
      have ht : s.extract 1 s.size = ⟨s.data.toList.tail.toArray⟩ := mk_eq (by rw [Lib.extract_to_end, List.drop_one])
      rw [unhide HK]
      show Ending.returned (.tuple #[.int .i64 5, .string (s.extract 1 s.size)]) = _
      rw [ht]
      rfl

set_option maxHeartbeats 1000000 in
theorem mayStandAhead_any (n : Int) (k : Nat) (s t : ByteArray) (w : World) :
    Calls Tryd.prog 54 #[.agg #[.int .i64 n, .int .i64 k, .string s, .string t]] w fun e w' => e = .returned (.bool (Mk.mayStand k s.data.toList)) ∧ Below w.heap.size w w' := by
  go_enter Tryd.func54, Tryd.ntmps54
  go_wp2_with (go_at_call 71; refine (isName_any _ _).mono ?_; rintro e w1 ⟨rfl, hb⟩)
  · rename_i h
    go_ret
    refine ⟨ret_bool ?_, (Below.refl _ w).alloc (Nat.le_refl _) _⟩
    rw [Lib.toList_data] at h
    have h' : (s.data.toList == Mk.incl) = true := h
    unfold Mk.mayStand
    rw [h']; rfl
  · rename_i h _ _ hk
    go_ret
    refine ⟨ret_bool ?_, (Below.refl _ w).alloc (Nat.le_refl _) _⟩
    rw [Lib.toList_data] at h
    have h' : (s.data.toList == Mk.incl) = false := h
    have hk' : (k == 5) = true := by rw [beq_iff_eq] at hk ⊢; omega
    unfold Mk.mayStand
    rw [h', hk', Lib.toList_data]; rfl
  · rename_i h hk
    go_ret
    refine ⟨ret_bool ?_, below_new hb⟩
    rw [Lib.toList_data] at h
    have h' : (s.data.toList == Mk.incl) = false := h
    have hk' : (k == 5) = false := by rw [beq_eq_false_iff_ne] at hk ⊢; omega
    unfold Mk.mayStand
    rw [h', hk']; rfl
end Go.Proofs.YtjelacjggijmfaaDoor
