/-
  Small laws of the plain functions: dropping from the end, cutting.
-/
import Derived.Test.YtjelacjggijmfaaDoorPure
namespace Go.Mk

def rdrop (p : UInt8 → Bool) (l : Bs) : Bs := (l.reverse.dropWhile p).reverse
theorem cutR_eq (l : Bs) : cutR l = rdrop blk l := rfl
theorem noBack_eq (l : Bs) : noBack l = rdrop (· == 92) l := rfl
theorem rdrop_nil (p : UInt8 → Bool) : rdrop p [] = [] := rfl
theorem rdrop_snoc (p : UInt8 → Bool) (l : Bs) (c : UInt8) : rdrop p (l ++ [c]) = if p c then rdrop p l else l ++ [c] := by
  unfold rdrop
  rw [List.reverse_append]
  by_cases h : p c
  · simp [h]
  · simp [h]
theorem rdrop_cons (p : UInt8 → Bool) (c : UInt8) (l : Bs) : rdrop p (c :: l) = if (rdrop p l).isEmpty && p c then [] else c :: rdrop p l := by
  unfold rdrop
  rw [List.reverse_cons, List.dropWhile_append]
  by_cases h : (l.reverse.dropWhile p).isEmpty
  · have h2 : (l.reverse.dropWhile p) = [] := by simpa using h
    rw [h2]
    by_cases hc : p c
    · simp [hc]
    · simp [hc]
  · simp [h]
theorem rdrop_le (p : UInt8 → Bool) (l : Bs) : (rdrop p l).length ≤ l.length := by
  induction l with
  | nil => simp [rdrop_nil]
  | cons c r ih => rw [rdrop_cons]; split <;> simp <;> omega
theorem cutL_le (l : Bs) : (cutL l).length ≤ l.length := by
  unfold cutL; exact (List.dropWhile_suffix _).length_le
theorem cut_le (l : Bs) : (cut l).length ≤ l.length := Nat.le_trans (cutL_le _) (rdrop_le _ _)
theorem cutL_cons (c : UInt8) (l : Bs) : cutL (c :: l) = if blk c then cutL l else c :: l := by
  unfold cutL; rw [List.dropWhile_cons]
theorem cut_comm (l : Bs) : cutR (cutL l) = cut l := by
  unfold cut
  induction l with
  | nil => rfl
  | cons c r ih =>
    rw [cutL_cons]
    simp only [cutR_eq] at ih ⊢
    by_cases h : blk c
    · rw [if_pos h, ih, rdrop_cons]
      by_cases he : (rdrop blk r).isEmpty
      · have he2 : rdrop blk r = [] := by simpa using he
        simp [he2, h]
      · simp only [Bool.not_eq_true] at he
        rw [he]
        simp only [Bool.false_and, Bool.false_eq_true, if_false]
        rw [cutL_cons, if_pos h]
    · rw [if_neg h, rdrop_cons]
      simp only [Bool.not_eq_true] at h
      simp [h, cutL_cons]
theorem kindOf_le (l : Bs) : (kindOf l).2.length ≤ l.length := by
  unfold kindOf
  split <;> simp <;> omega
theorem dropWhile_le (p : UInt8 → Bool) (l : Bs) : (l.dropWhile p).length ≤ l.length := (List.dropWhile_suffix _).length_le
theorem inter_cons (x : Bs) (ws : List Bs) : ([32].intercalate (x :: ws)).length ≤ x.length + 1 + ([32].intercalate ws).length := by
  cases ws with
  | nil => simp [List.intercalate]
  | cons y r => simp [List.intercalate, List.intersperse]; omega
theorem joinW_le : ∀ (l cur : Bs), ([32].intercalate (wordsA cur l)).length ≤ cur.length + l.length
  | [], cur => by
    unfold wordsA
    split
    · simp [List.intercalate]
    · simp [List.intercalate]
  | c :: r, cur => by
    unfold wordsA
    have h0 := joinW_le r []
    have h1 := joinW_le r (cur ++ [c])
    have h2 := inter_cons cur (wordsA [] r)
    split
    · split
      · simp only [List.length_nil, List.length_cons] at *; omega
      · simp only [List.length_nil, List.length_cons] at *; omega
    · simp only [List.length_append, List.length_nil, List.length_cons] at *; omega
theorem oneBlank_le (l : Bs) : (oneBlank l).length ≤ l.length := by
  have := joinW_le l []
  simpa [oneBlank, words] using this
theorem wordsA_count : ∀ (l cur : Bs), (wordsA cur l).length ≤ cur.length + l.length
  | [], cur => by
    unfold wordsA
    split
    · simp
    · rename_i h
      have : cur ≠ [] := by simpa using h
      have := List.length_pos_iff.2 this
      simp; omega
  | c :: r, cur => by
    unfold wordsA
    have h0 := wordsA_count r []
    have h1 := wordsA_count r (cur ++ [c])
    split
    · split
      · simp only [List.length_nil, List.length_cons] at *; omega
      · simp only [List.length_nil, List.length_cons] at *; omega
    · simp only [List.length_append, List.length_nil, List.length_cons] at *; omega
theorem words_count (l : Bs) : (words l).length ≤ l.length := by
  have := wordsA_count l []
  simpa [words] using this
end Go.Mk
