/-
  What the library's functions answer that package lines calls, and its own small functions over them.
-/
import Derived.Test.YtjelacjggijmfaaDoorW2
import Derived.Test.YtjelacjggijmfaaDoorR1
import Derived.Test.YtjelacjggijmfaaDoorPureB
namespace Go.Proofs.YtjelacjggijmfaaDoor
open Go.RowKit

def Glob (w : World) : Prop := ∃ m, w.cell? ⟨0, 0, none⟩ = some (.int .i64 m)
theorem Glob.later {w w' : World} (h : Glob w) (hb : Below w.heap.size w w') : Glob w' := by
  obtain ⟨m, hm⟩ := h
  exact ⟨m, (hb.cell (p := ⟨0, 0, none⟩) (World.block_lt_of_cell? w _ hm)).trans hm⟩
theorem below_drewN (w : World) (n : Nat) : Below w.heap.size w (w.drewN n) := by
  induction n with
  | zero => exact Below.refl _ _
  | succ k ih => exact ih.drew

theorem lCut (c : UInt8) (s : ByteArray) (w : World) (hs : s.size ≤ 4294967200) (hg : Glob w) :
    Calls Tryd.prog 35 #[.string s, .string ⟨#[c]⟩] w fun e w' => e = .returned (.tuple #[.string ⟨(Mk.before c s.data.toList).toArray⟩, .string ⟨(Mk.after c s.data.toList).toArray⟩, .bool (Mk.has c s.data.toList)]) ∧ Below w.heap.size w w' := by
  obtain ⟨m, hm⟩ := hg
  refine (Any.strings_Cut Tryd.lay145 s ⟨#[c]⟩ m w (by omega) hm).mono ?_
  rintro e w' ⟨rfl, n, rfl⟩
  refine ⟨?_, below_drewN w n⟩
  show Ending.returned (.tuple #[.string ⟨(Lib.cut s.data.toList [c]).1.toArray⟩, .string ⟨(Lib.cut s.data.toList [c]).2.1.toArray⟩, .bool (Lib.cut s.data.toList [c]).2.2]) = _
  rw [Mk.cut_one]
theorem lHasSuffix (s : ByteArray) (w : World) (hs : s.size ≤ 4294967296) :
    Calls Tryd.prog 25 #[.string s, .string ⟨#[92]⟩] w fun e w' => e = .returned (.bool (Mk.endsBack s.data.toList)) ∧ w = w' := by
  refine (Any.strings_HasSuffix Tryd.lay100 s ⟨#[92]⟩ w (by omega)).mono ?_
  rintro e w' ⟨rfl, rfl⟩
  exact ⟨ret_bool (Mk.hasSuffix_back _), rfl⟩
theorem lTrimSuffix (s : ByteArray) (w : World) (hs : s.size ≤ 4294967296) (h : Mk.endsBack s.data.toList = true) :
    Calls Tryd.prog 44 #[.string s, .string ⟨#[92]⟩] w fun e w' => e = .returned (.string ⟨s.data.toList.dropLast.toArray⟩) ∧ w = w' := by
  refine (Any.strings_TrimSuffix Tryd.lay102 s ⟨#[92]⟩ w (by omega)).mono ?_
  rintro e w' ⟨rfl, rfl⟩
  refine ⟨ret_str ?_, rfl⟩
  show (⟨(Lib.trimSuffix s.data.toList [92]).toArray⟩ : ByteArray) = _
  rw [Mk.trimSuffix_back _ h]
theorem lTrimRight (s : ByteArray) (w : World) (hs : s.size ≤ 4294967296) :
    Calls Tryd.prog 46 #[.string s, .string ⟨#[92]⟩] w fun e w' => e = .returned (.string ⟨(Mk.noBack s.data.toList).toArray⟩) ∧ Below w.heap.size w w' := by
  refine (Any.strings_TrimRight_laid Tryd.lay162 (by kernel_rfl) s ⟨#[92]⟩ w (by omega) (by decide) (ascii_of_all (by decide))).mono ?_
  rintro e w' ⟨rfl, hb⟩
  refine ⟨ret_str ?_, hb⟩
  show (⟨(Lib.trimRightS s.data.toList [92]).toArray⟩ : ByteArray) = _
  rw [Mk.trimRightS_noBack]
theorem lTrimLeft (s : ByteArray) (w : World) :
    Calls Tryd.prog 58 #[.string s, .string ⟨#[32, 9]⟩] w fun e w' => e = .returned (.string ⟨(Mk.cutL s.data.toList).toArray⟩) ∧ Below w.heap.size w w' := by
  refine (Any.strings_TrimLeft_laid Tryd.lay161 (by kernel_rfl) s ⟨#[32, 9]⟩ w (by decide) (ascii_of_all (by decide))).mono ?_
  rintro e w' ⟨rfl, hb⟩
  refine ⟨ret_str ?_, hb⟩
  show (⟨(Lib.trimLeftS s.data.toList [32, 9]).toArray⟩ : ByteArray) = _
  rw [Mk.trimLeftS_cutL]
theorem lTrim (s : ByteArray) (w : World) (hs : s.size ≤ 4294967296) :
    Calls Tryd.prog 49 #[.string s, .string ⟨#[32, 9]⟩] w fun e w' => e = .returned (.string ⟨(Mk.cut s.data.toList).toArray⟩) ∧ Below w.heap.size w w' := by
  refine (Any.strings_Trim_laid Tryd.lay160 (by kernel_rfl) s ⟨#[32, 9]⟩ w (by omega) (by decide) (ascii_of_all (by decide))).mono ?_
  rintro e w' ⟨rfl, hb⟩
  refine ⟨ret_str ?_, hb⟩
  show (⟨(Lib.trimS s.data.toList [32, 9]).toArray⟩ : ByteArray) = _
  rw [Mk.trimS_cut]
theorem lHasPrefix (s p : ByteArray) (w : World) :
    Calls Tryd.prog 33 #[.string s, .string p] w fun e w' => e = .returned (.bool (p.data.toList.isPrefixOf s.data.toList)) ∧ w = w' := by
  refine (Any.strings_HasPrefix Tryd.lay99 s p w).mono ?_
  rintro e w' ⟨rfl, rfl⟩
  exact ⟨rfl, rfl⟩
theorem lCutPrefix (s p : ByteArray) (w : World) :
    Calls Tryd.prog 50 #[.string s, .string p] w fun e w' => e = .returned (.tuple #[.string ⟨(Lib.trimPrefix s.data.toList p.data.toList).toArray⟩, .bool (p.data.toList.isPrefixOf s.data.toList)]) ∧ w = w' := by
  refine (Any.strings_CutPrefix Tryd.lay103 s p w).mono ?_
  rintro e w' ⟨rfl, rfl⟩
  exact ⟨rfl, rfl⟩
theorem lCutPrefix_yes (s p t : ByteArray) (w : World) (h : p.data.toList.isPrefixOf s.data.toList = true) (ht : s.data.toList.drop p.data.toList.length = t.data.toList) :
    Calls Tryd.prog 50 #[.string s, .string p] w fun e w' => e = .returned (.tuple #[.string t, .bool true]) ∧ w = w' := by
  refine (lCutPrefix s p w).mono ?_
  rintro e w' ⟨rfl, rfl⟩
  refine ⟨?_, rfl⟩
  have : Lib.trimPrefix s.data.toList p.data.toList = t.data.toList := by unfold Lib.trimPrefix Lib.hasPrefix; rw [if_pos h, ht]
  rw [this, h, ← mk_eq (t := t) rfl]
theorem lCutPrefix_no (s p : ByteArray) (w : World) (h : p.data.toList.isPrefixOf s.data.toList = false) :
    Calls Tryd.prog 50 #[.string s, .string p] w fun e w' => e = .returned (.tuple #[.string s, .bool false]) ∧ w = w' := by
  refine (lCutPrefix s p w).mono ?_
  rintro e w' ⟨rfl, rfl⟩
  refine ⟨?_, rfl⟩
  have : Lib.trimPrefix s.data.toList p.data.toList = s.data.toList := by unfold Lib.trimPrefix Lib.hasPrefix; rw [h]; rfl
  rw [this, h, ← mk_eq (t := s) rfl]

set_option maxHeartbeats 400000 in
theorem cut_any (s : ByteArray) (w : World) (hs : s.size ≤ 4294967296) :
    Calls Tryd.prog 36 #[.string s] w fun e w' => e = .returned (.string ⟨(Mk.cut s.data.toList).toArray⟩) ∧ Below w.heap.size w w' := by
  go_enter Tryd.func36, Tryd.ntmps36
  go_wp2_with (go_at_call 49; refine (lTrim _ _ hs).mono ?_; rintro e w1 ⟨rfl, hb⟩)
  go_ret
  exact ⟨rfl, hb⟩
set_option maxHeartbeats 400000 in
theorem cutFront_any (s : ByteArray) (w : World) :
    Calls Tryd.prog 45 #[.string s] w fun e w' => e = .returned (.string ⟨(Mk.cutL s.data.toList).toArray⟩) ∧ Below w.heap.size w w' := by
  go_enter Tryd.func45, Tryd.ntmps45
  go_wp2_with (go_at_call 58; refine (lTrimLeft _ _).mono ?_; rintro e w1 ⟨rfl, hb⟩)
  go_ret
  exact ⟨rfl, hb⟩

def lnV (l : Mk.Ln) : Value := .agg #[.int .i64 l.number, .int .i64 l.kind, .string ⟨l.left.toArray⟩, .string ⟨l.right.toArray⟩]
theorem below4 {B b : Nat} {a w1 : World} (h : Below B a w1) (hB : B ≤ b) (v0 v1 v2 v3 : Value) :
    Below B a ((((w1.setCell ⟨b, 0, none⟩ v0).setCell ⟨b, 1, none⟩ v1).setCell ⟨b, 2, none⟩ v2).setCell ⟨b, 3, none⟩ v3) :=
  (((h.setCell (p := ⟨b, 0, none⟩) hB v0).setCell (p := ⟨b, 1, none⟩) hB v1).setCell (p := ⟨b, 2, none⟩) hB v2).setCell (p := ⟨b, 3, none⟩) hB v3
theorem below_new {w w1 : World} {o : Obj} (hb : Below (w.alloc o).heap.size (w.alloc o) w1) : Below w.heap.size w w1 :=
  ((Below.refl _ w).alloc (Nat.le_refl _) _).trans (hb.mono (by simp))
set_option maxHeartbeats 400000 in
theorem parseCommand_any (s : ByteArray) (w : World) :
    Calls Tryd.prog 34 #[.string s] w fun e w' => e = .returned (lnV (Mk.parseCmd s.data.toList)) ∧ Below w.heap.size w w' := by
  go_enter Tryd.func34, Tryd.ntmps34
  go_wp2_with (go_at_call 45; refine (cutFront_any _ _).mono ?_; rintro e w1 ⟨rfl, hb⟩; obtain ⟨hc, hf⟩ := bcell hb)
  · refine bodyPost_ret (v := lnV (Mk.parseCmd s.data.toList)) ?_ rfl ⟨rfl, ?_⟩
    · rename_i he
      simp [results, Tryd.results34, go_sem, hc, lnV, Mk.parseCmd, he, Mk.Ln.zero]
    · exact below4 (below_new hb) (Nat.le_refl _) _ _ _ _
  · refine bodyPost_ret (v := lnV (Mk.parseCmd s.data.toList)) ?_ rfl ⟨rfl, ?_⟩
    · rename_i he
      simp [results, Tryd.results34, go_sem, hc, lnV, Mk.parseCmd, he]
    · exact below4 (below_new hb) (Nat.le_refl _) _ _ _ _
set_option maxHeartbeats 400000 in
theorem parseInclude_any (s : ByteArray) (w : World) :
    Calls Tryd.prog 38 #[.string s] w fun e w' => e = .returned (.tuple #[lnV (Mk.parseIncl s.data.toList).1, .int .i64 (Mk.parseIncl s.data.toList).2]) ∧ Below w.heap.size w w' := by
  cases h0 : s.toList.isEmpty with
  | true =>
    have he : s.data.toList.isEmpty = true := by rw [← Lib.toList_data]; exact h0
    go_enter Tryd.func38, Tryd.ntmps38
    go_wp2
    refine bodyPost_ret (v := .tuple #[lnV (Mk.parseIncl s.data.toList).1, .int .i64 (Mk.parseIncl s.data.toList).2]) ?_ rfl ⟨rfl, (Below.refl _ w).alloc (Nat.le_refl _) _⟩
    simp [results, Tryd.results38, go_sem, lnV, Mk.parseIncl, he, Mk.Ln.zero]
  | false =>
    have he : s.data.toList.isEmpty = false := by rw [← Lib.toList_data]; exact h0
    go_enter Tryd.func38, Tryd.ntmps38
    go_wp2
    refine bodyPost_ret (v := .tuple #[lnV (Mk.parseIncl s.data.toList).1, .int .i64 (Mk.parseIncl s.data.toList).2]) ?_ rfl ⟨rfl, (Below.refl _ w).alloc (Nat.le_refl _) _⟩
    simp [results, Tryd.results38, go_sem, lnV, Mk.parseIncl, he]
end Go.Proofs.YtjelacjggijmfaaDoor
