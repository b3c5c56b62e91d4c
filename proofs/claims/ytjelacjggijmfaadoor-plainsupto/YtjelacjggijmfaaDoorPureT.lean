/-
  The plain form, told line by line as the document's own answer tells it.
-/
import Derived.Test.YtjelacjggijmfaaDoorPureK
import Derived.Test.YtjelacjggijmfaaDoorPureR
namespace Go.Mk
/-- What comes of the lines from one on. -/
def rp (op : Bool) (acc : Bs) (js : List (Nat × Bs)) : Bs × Nat × Nat := textF op acc (allF js)
theorem rp_nil (op : Bool) (acc : Bs) : rp op acc [] = (acc, 0, 0) := rfl
theorem rk_zero {p : Ln × Nat} (h : rk p = 0) : (p.2 == 0 && p.1.kind == 0) = true := by
  unfold rk at h
  cases h2 : p.2 == 0 with
  | false => rw [h2] at h; simp at h
  | true =>
    rw [h2] at h
    cases h3 : p.1.kind == 0 with
    | true => rfl
    | false => rw [h3] at h; simp only [Bool.false_eq_true, if_false, if_true] at h; repeat' (split at h)
               all_goals omega
theorem rk_err {p : Ln × Nat} (h : rk p = 120) : (p.2 == 0) = false := by
  unfold rk at h
  cases h2 : p.2 == 0 with
  | false => rfl
  | true => rw [h2] at h; simp only [if_true] at h; repeat' (split at h)
            all_goals omega
theorem rk_kind {p : Ln × Nat} (h0 : rk p ≠ 0) (h1 : rk p ≠ 120) : (p.2 == 0) = true ∧ (p.1.kind == 0) = false := by
  unfold rk at h0 h1
  cases h2 : p.2 == 0 with
  | false => rw [h2] at h1; simp at h1
  | true =>
    rw [h2] at h0
    cases h3 : p.1.kind == 0 with
    | true => rw [h3] at h0; simp at h0
    | false => exact ⟨rfl, rfl⟩
theorem rk_is {p : Ln × Nat} {k : Nat} (hk : p.1.kind = k) (h1 : (p.2 == 0) = true) (h5 : k ≤ 5) : rk p = [0, 99, 105, 102, 108, 114].getD k 0 := by
  unfold rk
  rw [h1, hk]
  match k, h5 with
  | 0, _ => rfl
  | 1, _ => rfl
  | 2, _ => rfl
  | 3, _ => rfl
  | 4, _ => rfl
  | 5, _ => rfl
theorem rp_skip (op : Bool) (acc : Bs) (n : Nat) (w : Bs) (r : List (Nat × Bs)) (h : rk (parse w) = 0) : rp op acc ((n, w) :: r) = rp op acc r := by
  unfold rp
  rw [allF, if_pos (rk_zero h)]
theorem rp_err (op : Bool) (acc : Bs) (n : Nat) (w : Bs) (r : List (Nat × Bs)) (h : rk (parse w) = 120) : rp op acc ((n, w) :: r) = ([], 1, n) := by
  have h2 := rk_err h
  have h3 := parse_err w
  have h4 : (parse w).2 = 1 := by
    have : (parse w).2 ≠ 0 := by simpa using h2
    omega
  unfold rp
  rw [allF, h2]
  simp only [Bool.false_and, Bool.false_eq_true, if_false, textF, h4]
  rfl
theorem rp_go (op : Bool) (acc : Bs) (n : Nat) (w : Bs) (r : List (Nat × Bs)) (h0 : rk (parse w) ≠ 0) (h1 : rk (parse w) ≠ 120) :
    rp op acc ((n, w) :: r) = if (parse w).1.kind == 1 && !op then ([], 1, n) else rp (if (parse w).1.kind == 1 then op else (parse w).1.kind == 5) (acc ++ closed (written (parse w).1) ++ [10]) r := by
  obtain ⟨h2, h3⟩ := rk_kind h0 h1
  have hw : written { (parse w).1 with number := n } = written (parse w).1 := rfl
  unfold rp
  rw [allF, h2, h3]
  simp only [Bool.and_false, Bool.false_eq_true, if_false, if_true, textF, h2, hw]
theorem rk_cases (p : Ln × Nat) (h5 : p.1.kind ≤ 5) : rk p = 120 ∨ rk p = 0 ∨ (rk p = 99 ∧ p.1.kind = 1) ∨ (rk p = 105 ∧ p.1.kind = 2) ∨ (rk p = 102 ∧ p.1.kind = 3) ∨ (rk p = 108 ∧ p.1.kind = 4) ∨ (rk p = 114 ∧ p.1.kind = 5) := by
  cases h1 : p.2 == 0 with
  | false => left; unfold rk; rw [h1]; rfl
  | true =>
    right
    generalize hk : p.1.kind = k at h5
    have h2 := rk_is hk h1 h5
    match k, h5 with
    | 0, _ => exact .inl h2
    | 1, _ => exact .inr (.inl ⟨h2, rfl⟩)
    | 2, _ => exact .inr (.inr (.inl ⟨h2, rfl⟩))
    | 3, _ => exact .inr (.inr (.inr (.inl ⟨h2, rfl⟩)))
    | 4, _ => exact .inr (.inr (.inr (.inr (.inl ⟨h2, rfl⟩))))
    | 5, _ => exact .inr (.inr (.inr (.inr (.inr ⟨h2, rfl⟩))))
theorem sides_ne (a b c : Bs) : sides a b c ≠ [] := by unfold sides; split <;> simp
theorem written_ne (l : Ln) : written l ≠ [] := by
  unfold written
  split
  · simp
  · split
    · simp
    · repeat' split
      all_goals exact sides_ne _ _ _
theorem len_total : ∀ l : List (Nat × Bs), l.length ≤ total l
  | [] => by simp
  | x :: r => by rw [total_cons]; have := len_total r; simp; omega
theorem joined_count (t : Bs) : (joined t).length ≤ t.length + 1 := Nat.le_trans (len_total _) (joined_total t)
/-- How long the text may be, and how many lines are to come. -/
def Room (t : Bs) (acc : Bs) (js : List (Nat × Bs)) : Prop := acc.length + 12 * total js ≤ 12 * (t.length + 1)
theorem Room.start (t : Bs) : Room t [] (joined t) := by
  have := joined_total t
  simp [Room]; omega
theorem Room.skip {t acc : Bs} {x : Nat × Bs} {r : List (Nat × Bs)} (h : Room t acc (x :: r)) : Room t acc r := by
  unfold Room at *; rw [total_cons] at h; omega
theorem Room.go {t acc : Bs} {x : Nat × Bs} {r : List (Nat × Bs)} (h : Room t acc (x :: r)) : Room t (acc ++ closed (written (parse x.2).1) ++ [10]) r ∧ acc.length + (written (parse x.2).1).length + 2 ≤ 12 * (t.length + 1) := by
  unfold Room at *
  rw [total_cons] at h
  have h1 := parse_len x.2
  have h2 := written_len (parse x.2).1
  have h3 := closed_len (written (parse x.2).1)
  simp only [List.length_append, List.length_singleton]
  omega
theorem Room.len {t acc : Bs} {x : Nat × Bs} {r : List (Nat × Bs)} (h : Room t acc (x :: r)) : x.2.length ≤ t.length ∧ acc.length ≤ 12 * (t.length + 1) := by
  unfold Room at h
  rw [total_cons] at h
  omega
end Go.Mk
