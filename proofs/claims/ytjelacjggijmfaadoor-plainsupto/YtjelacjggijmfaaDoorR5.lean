/-
  The document's own answer: what a line is.
-/
import Derived.Test.YtjelacjggijmfaaDoorR2
import Derived.Test.YtjelacjggijmfaaDoorW7
import Derived.Test.YtjelacjggijmfaaDoorPureR
namespace Go.Proofs.YtjelacjggijmfaaDoor
open Go.RowKit

def RLn (n : Nat) (p : Mk.Ln × Nat) (v : Value) : Prop :=
  ∃ L R : ByteArray, v = .agg #[.int .i64 n, .int .u8 (Mk.rk p), .string L, .string R] ∧ (Mk.rk p ≠ 120 → L = ⟨p.1.left.toArray⟩ ∧ R = ⟨p.1.right.toArray⟩)
theorem RLn.of {n : Nat} {p : Mk.Ln × Nat} {kd : Int} {L R : ByteArray} (h1 : (Mk.rk p : Int) = kd) (h2 : kd ≠ 120 → L = ⟨p.1.left.toArray⟩ ∧ R = ⟨p.1.right.toArray⟩) :
    RLn n p (.agg #[.int .i64 n, .int .u8 kd, .string L, .string R]) := ⟨L, R, by rw [h1], fun h => h2 (by omega)⟩
theorem pre9 (s : ByteArray) (h0 : 0 < s.size) : List.isPrefixOf [9] s.data.toList = (s[0] == 9) := by
  rw [data_cons s h0]
  simp [List.isPrefixOf, BEq.comm]
theorem pre9_no (s : ByteArray) (h0 : ¬ 0 < s.size) : List.isPrefixOf [9] s.data.toList = false := by
  have : s.data.toList = [] := by rw [List.eq_nil_iff_length_eq_zero, ← Lib.size_eq]; omega
  rw [this]; rfl
theorem parse_cmd (l : Mk.Bs) (h : List.isPrefixOf [9] l = true) : Mk.parse l = (Mk.parseCmd l, 0) := by unfold Mk.parse; rw [h]; rfl
theorem ofBytes (l : Mk.Bs) : ∃ t : ByteArray, t = ⟨l.toArray⟩ ∧ t.data.toList = l ∧ t.size = l.length := ⟨_, rfl, by simp, size_mk l⟩
theorem isEmpty_data (t : ByteArray) : t.toList.isEmpty = t.data.toList.isEmpty := by rw [Lib.toList_data]

set_option maxHeartbeats 2000000 in
set_option maxRecDepth 1000000 in
theorem refLine_cmd (n : Nat) (s : ByteArray) (w : World) (h0 : 0 < s.size) (h9 : s[0] = 9) :
    Calls Tryd.prog 20 #[.int .i64 n, .string s] w fun e w' => ∃ v, e = .returned v ∧ RLn n (Mk.parse s.data.toList) v ∧ Below w.heap.size w w' := by
  have HP := hide (parse_cmd s.data.toList (by rw [pre9 s h0, h9]; rfl))
  obtain ⟨C, hC, hCd, -⟩ := ofBytes (Mk.cutL s.data.toList)
  have HC := hide hC
  have HD := hide hCd
  clear hC hCd
  go_enter Tryd.func20, Tryd.ntmps20
  go_wp2_with fail
  refine (refCutLeft_any _ _).mono ?_
  rintro e w1 ⟨rfl, rfl⟩
  rw [← unhide HC]
  cases he : C.toList.isEmpty with
  | true =>
    go_wp2_with fail
    have hr : Mk.parse s.data.toList = (Mk.Ln.zero, 0) := by
      rw [unhide HP]; unfold Mk.parseCmd; rw [← unhide HD, ← isEmpty_data, he]; rfl
    refine bodyPost_ret (v := .agg #[.int .i64 n, .int .u8 0, .string ⟨#[]⟩, .string C]) (by simp [results, Tryd.results20, go_sem]) rfl ⟨_, rfl, RLn.of ?_ ?_, ((Below.refl _ w).alloc (Nat.le_refl _) _).alloc (by simp) _⟩
    · rw [hr]; rfl
    · intro _
      rw [hr]
      exact ⟨rfl, mk_eq (empty_of he)⟩
  | false =>
    go_wp2_with fail
    have hr : Mk.parse s.data.toList = (⟨0, 1, [], Mk.cutL s.data.toList⟩, 0) := by
      rw [unhide HP]; unfold Mk.parseCmd; rw [← unhide HD, ← isEmpty_data, he]; rfl
    refine bodyPost_ret (v := .agg #[.int .i64 n, .int .u8 99, .string ⟨#[]⟩, .string C]) (by simp [results, Tryd.results20, go_sem]) rfl ⟨_, rfl, RLn.of ?_ ?_, ((Below.refl _ w).alloc (Nat.le_refl _) _).alloc (by simp) _⟩
    · rw [hr]; rfl
    · intro _
      rw [hr]
      exact ⟨rfl, unhide HC⟩

theorem parse_rest (l T : Mk.Bs) (h : List.isPrefixOf [9] l = false) (hT : T = Mk.cut (Mk.before 35 l)) :
    Mk.parse l = if T.isEmpty then (Mk.Ln.zero, 0) else if Mk.isIncl T then Mk.parseIncl (Mk.cut (T.drop 7)) else Mk.parseSides T := by
  unfold Mk.parse; rw [h, hT]; rfl
/-- How far the text ahead of the first sign 35 has been found. -/
def Ahead (s t : ByteArray) (k : Nat) : Prop :=
  (t = s ∧ k ≤ s.size ∧ (s.data.toList.take k).all (fun x => !(x == 35)) = true) ∨ (k = t.size + 1 ∧ t.size < s.size ∧ t.data.toList = Mk.before 35 s.data.toList)
theorem Ahead.done {s t : ByteArray} {k : Nat} (h : Ahead s t k) (hk : ¬ k < t.size) : t = ⟨(Mk.before 35 s.data.toList).toArray⟩ := by
  have hl := Lib.size_eq s
  rcases h with ⟨rfl, h1, h2⟩ | ⟨h1, h2, h3⟩
  · refine mk_eq ?_
    rw [List.take_of_length_le (by omega)] at h2
    exact (Mk.before_whole _ h2).symm
  · exact mk_eq h3
theorem Ahead.go {s t : ByteArray} {k : Nat} (h : Ahead s t k) (hk : k < t.size) (hc : ¬ t[k] = 35) : Ahead s t (k + 1) := by
  have hl := Lib.size_eq s
  rcases h with ⟨rfl, h1, h2⟩ | ⟨h1, h2, h3⟩
  · refine .inl ⟨rfl, by omega, ?_⟩
    rw [take_snoc t k hk, List.all_append, h2]
    simpa using hc
  · omega
theorem Ahead.cut {s t : ByteArray} {k : Nat} (h : Ahead s t k) (hk : k < t.size) (hc : t[k] = 35) : Ahead s (t.extract 0 k) (k + 1) := by
  have hl := Lib.size_eq s
  rcases h with ⟨rfl, h1, h2⟩ | ⟨h1, h2, h3⟩
  · refine .inr ⟨by simp; omega, by simp; omega, ?_⟩
    rw [Lib.extract_data, List.drop_zero, Nat.sub_zero]
    exact (Mk.before_found _ k (by omega) h2 hc).symm
  · omega
theorem Ahead.le {s t : ByteArray} {k : Nat} (h : Ahead s t k) : t.size ≤ s.size ∧ k ≤ t.size + 1 := by
  rcases h with ⟨rfl, h1, h2⟩ | ⟨h1, h2, h3⟩
  · omega
  · omega

set_option maxHeartbeats 4000000 in
set_option maxRecDepth 1000000 in
theorem refLine_nil (n : Nat) (w : World) :
    Calls Tryd.prog 20 #[.int .i64 n, .string ⟨#[]⟩] w fun e w' => ∃ v, e = .returned v ∧ RLn n (Mk.Ln.zero, 0) v ∧ Below w.heap.size w w' := by
  go_enter Tryd.func20, Tryd.ntmps20
  go_wp2_with fail
  go_loop [1, 6] (fun v i => v = .string ⟨#[]⟩ ∧ i = .int .i64 0) (fun _ _ => 0)
  case atStart => exact ⟨rfl, rfl⟩
  case round =>
    obtain ⟨rfl, rfl⟩ := hrel
    go_wp2_with fail
    refine (refCut_any ⟨#[]⟩ _ (by decide)).mono ?_
    rintro e w1 ⟨rfl, rfl⟩
    rw [show (⟨(Mk.cut (⟨#[]⟩ : ByteArray).data.toList).toArray⟩ : ByteArray) = ⟨#[]⟩ from rfl]
    go_wp2_with fail
    refine bodyPost_ret (v := .agg #[.int .i64 n, .int .u8 0, .string ⟨#[]⟩, .string ⟨#[]⟩]) (by simp [results, Tryd.results20, go_sem]) rfl ⟨_, rfl, RLn.of ?_ ?_, ((Below.refl _ w).alloc (Nat.le_refl _) _).alloc (by simp) _⟩
    · rfl
    · exact fun _ => ⟨rfl, rfl⟩

end Go.Proofs.YtjelacjggijmfaaDoor
