/-
  The small functions of the document's own answer: blanks, cutting, names, two sides with a sign between.
-/
import Derived.Test.YtjelacjggijmfaaGreatDoorQHPure
import Derived.Lib.IndexBytes
namespace Go.Proofs.YtjelacjggijmfaaGreatDoor
open Go.RowKit

set_option maxHeartbeats 400000 in
theorem refBlank_any (c : UInt8) (w : World) :
    Calls Tryz.prog 118 #[.int .u8 c.toNat] w fun e w' => e = .returned (.bool (Mk.blk c)) ∧ w = w' := by
  have hb : Mk.blk c = ((c.toNat : Int) == 32 || (c.toNat : Int) == 9) := by
    rw [Bool.eq_iff_iff]; simp [Mk.blk, ← UInt8.toNat_inj]; omega
  have HB := hide hb
  clear hb
  go_enter Tryz.func118, Tryz.ntmps118
  go_wp2
  all_goals go_ret
  all_goals (refine ⟨ret_bool ?_, rfl⟩; rw [unhide HB])
  all_goals simp [*]

def strLen : Value → Nat
  | .string t => t.size
  | _ => 0
theorem data_cons (t : ByteArray) (h : 0 < t.size) : t.data.toList = t[0] :: (t.extract 1 t.size).data.toList := by
  rw [Lib.extract_to_end]
  have hl : 0 < t.data.toList.length := by rw [← Lib.size_eq]; exact h
  have := List.drop_eq_getElem_cons hl
  rw [List.drop_zero] at this
  exact this
theorem extract_size (t : ByteArray) (h : 0 < t.size) : (t.extract 1 t.size).size < t.size := by simp; omega

set_option maxHeartbeats 1000000 in
theorem refCutLeft_any (s : ByteArray) (w : World) :
    Calls Tryz.prog 117 #[.string s] w fun e w' => e = .returned (.string ⟨(Mk.cutL s.data.toList).toArray⟩) ∧ w = w' := by
  go_enter Tryz.func117, Tryz.ntmps117
  go_wp2
  go_loop [0] (fun v => ∃ t : ByteArray, v = .string t ∧ Mk.cutL t.data.toList = Mk.cutL s.data.toList) (fun v => strLen v)
  case atStart => exact ⟨s, rfl, rfl⟩
  case round =>
    obtain ⟨t, rfl, hc⟩ := hrel
    have HC := hide hc
    clear hc
    by_cases h0 : 0 < t.size
    · have HD := hide (data_cons t h0)
      cases hb : Mk.blk (t[0]'h0) with
      | true =>
        go_wp2_with (go_at_call 118; refine (refBlank_any _ _).mono ?_; rintro e w1 ⟨rfl, rfl⟩)
        refine ⟨⟨_, rfl, ?_⟩, extract_size t h0⟩
        rw [← unhide HC, unhide HD, Mk.cutL_cons, if_pos hb]
      | false =>
        go_wp2_with (go_at_call 118; refine (refBlank_any _ _).mono ?_; rintro e w1 ⟨rfl, rfl⟩)
        go_ret
        refine ⟨ret_str (mk_eq ?_), rfl⟩
        rw [← unhide HC, unhide HD, Mk.cutL_cons, hb]
        rfl
    · go_wp2
      go_ret
      refine ⟨ret_str (mk_eq ?_), rfl⟩
      rw [← unhide HC]
      have : t.data.toList = [] := by rw [List.eq_nil_iff_length_eq_zero, ← Lib.size_eq]; omega
      rw [this]; rfl

theorem data_snoc (t : ByteArray) (h : 0 < t.size) : t.data.toList = (t.extract 0 (t.size - 1)).data.toList ++ [t[t.size - 1]] := by
  rw [Lib.extract_data]
  simp only [List.drop_zero, Nat.sub_zero]
  have := take_snoc t (t.size - 1) (by omega)
  rw [show t.size - 1 + 1 = t.size from by omega, List.take_of_length_le (by rw [← Lib.size_eq]; omega)] at this
  exact this
theorem extract_size' (t : ByteArray) (h : 0 < t.size) : (t.extract 0 (t.size - 1)).size < t.size := by simp; omega

set_option maxHeartbeats 1000000 in
theorem refCut_any (s : ByteArray) (w : World) (hs : s.size ≤ 4294967296) :
    Calls Tryz.prog 73 #[.string s] w fun e w' => e = .returned (.string ⟨(Mk.cut s.data.toList).toArray⟩) ∧ w = w' := by
  have hl := Mk.cutL_le s.data.toList
  rw [← Lib.size_eq] at hl
  have HE := hide (Mk.cut_comm s.data.toList)
  generalize hq : Mk.cutL s.data.toList = q at hl
  have HQ := hide hq
  clear hq
  go_enter Tryz.func73, Tryz.ntmps73
  go_wp2_with (go_at_call 117; refine (refCutLeft_any _ _).mono ?_; rintro e w1 ⟨rfl, rfl⟩; rw [unhide HQ])
  go_loop [0] (fun v => ∃ t : ByteArray, v = .string t ∧ t.size ≤ 4294967296 ∧ Mk.cutR t.data.toList = Mk.cutR q) (fun v => strLen v)
  case atStart => exact ⟨⟨q.toArray⟩, rfl, by rw [size_mk]; omega, by simp⟩
  case round =>
    obtain ⟨t, rfl, hts, hc⟩ := hrel
    have HC := hide hc
    clear hc
    by_cases h0 : 0 < t.size
    · have HD := hide (data_snoc t h0)
      have h1 : t.size - 1 < t.size := by omega
      cases hb : Mk.blk (t[t.size - 1]'h1) with
      | true =>
        go_wp2_with (go_at_call 118; refine (refBlank_any _ _).mono ?_; rintro e w1 ⟨rfl, rfl⟩)
        refine ⟨⟨_, rfl, by have := extract_size' t h0; omega, ?_⟩, extract_size' t h0⟩
        rw [← unhide HC, unhide HD, Mk.cutR_eq, Mk.cutR_eq, Mk.rdrop_snoc, if_pos hb]
      | false =>
        go_wp2_with (go_at_call 118; refine (refBlank_any _ _).mono ?_; rintro e w1 ⟨rfl, rfl⟩)
        go_ret
        refine ⟨ret_str (mk_eq ?_), rfl⟩
        rw [← unhide HE, unhide HQ, ← unhide HC, unhide HD, Mk.cutR_eq, Mk.rdrop_snoc, hb]
        rfl
    · go_wp2
      go_ret
      refine ⟨ret_str (mk_eq ?_), rfl⟩
      rw [← unhide HE, unhide HQ, ← unhide HC]
      have : t.data.toList = [] := by rw [List.eq_nil_iff_length_eq_zero, ← Lib.size_eq]; omega
      rw [this]; rfl

theorem data_app (a b : ByteArray) : (a ++ b).data.toList = a.data.toList ++ b.data.toList := by simp
end Go.Proofs.YtjelacjggijmfaaGreatDoor
