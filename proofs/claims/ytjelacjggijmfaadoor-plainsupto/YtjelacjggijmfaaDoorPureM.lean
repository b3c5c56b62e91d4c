/-
  How long lines, and the plain form of a text, can be.
-/
import Derived.Test.YtjelacjggijmfaaDoorPureS
namespace Go.Mk

def segTotal (ss : List Bs) : Nat := (ss.map (fun s => s.length + 1)).sum
def total (l : List (Nat × Bs)) : Nat := (l.map (fun x => x.2.length + 1)).sum
theorem segTotal_cons (p : Bs) (ps : List Bs) : segTotal (p :: ps) = p.length + 1 + segTotal ps := by simp [segTotal]
theorem total_cons (x : Nat × Bs) (l : List (Nat × Bs)) : total (x :: l) = x.2.length + 1 + total l := by simp [total]
theorem segTotal_segs (t : Bs) : segTotal (segs t) = t.length + 1 := by
  induction t with
  | nil => rfl
  | cons c r ih =>
    unfold segs
    by_cases h : c = 10
    · subst h
      simp only [beq_self_eq_true, if_true, segTotal_cons, ih, List.length_nil, List.length_cons]
      omega
    · have hb : (c == 10) = false := by simpa using h
      rw [hb]
      simp only [Bool.false_eq_true, if_false]
      have hne := segs_ne r
      cases hs : segs r with
      | nil => exact absurd hs hne
      | cons p ps =>
        rw [hs] at ih
        simp only [segTotal_cons, List.headD_cons, List.tail_cons, List.length_cons] at *
        omega
theorem noBack_le' (l : Bs) : (noBack l).length ≤ l.length := rdrop_le _ l
theorem take1_total : ∀ (ps : List Bs) (acc : Bs) (used : Nat) (p : Bs), (take1 acc used p ps).1.length + 1 + segTotal (take1 acc used p ps).2.2 ≤ acc.length + p.length + 1 + segTotal ps
  | [], acc, used, p => by
    have := noBack_le' p
    simp only [take1, List.length_append]; omega
  | q :: qs, acc, used, p => by
    unfold take1
    cases h : endsBack p with
    | true =>
      simp only [if_true]
      have ih := take1_total qs (acc ++ p.dropLast ++ [32]) (used + 1) (cutL q)
      have h1 := cutL_le q
      have h2 : p.dropLast.length + 1 = p.length := by
        cases p with
        | nil => simp [endsBack] at h
        | cons a r => simp
      simp only [List.length_append, List.length_cons, List.length_nil, segTotal_cons] at *
      omega
    | false =>
      simp only [Bool.false_eq_true, if_false, List.length_append, segTotal_cons]
      omega
theorem joinF_total : ∀ (f n : Nat) (ss : List Bs), total (joinF f n ss) ≤ segTotal ss
  | 0, _, _ => by simp [joinF, total]
  | _ + 1, _, [] => by simp [joinF, total]
  | f + 1, n, p :: ps => by
    have h1 := take1_total ps [] 1 p
    have h2 := joinF_total f (n + (take1 [] 1 p ps).2.1) (take1 [] 1 p ps).2.2
    rw [joinF, total_cons, segTotal_cons]
    simp only [List.length_nil] at *
    omega
theorem joined_total (t : Bs) : total (joined t) ≤ t.length + 1 := by
  rw [← segTotal_segs]; exact joinF_total _ _ _
theorem mem_total : ∀ {l : List (Nat × Bs)} {x : Nat × Bs}, x ∈ l → x.2.length + 1 ≤ total l
  | y :: l, x, h => by
    rw [total_cons]
    rcases List.mem_cons.1 h with rfl | h
    · omega
    · have := mem_total h; omega
theorem joined_len {t : Bs} {x : Nat × Bs} (h : x ∈ joined t) : x.2.length ≤ t.length := by
  have h1 := mem_total h
  have h2 := joined_total t
  omega
theorem before_le' (c : UInt8) (l : Bs) : (before c l).length ≤ l.length := by unfold before; exact (List.takeWhile_prefix _).length_le
theorem parse_len (w : Bs) : (parse w).1.left.length ≤ w.length ∧ (parse w).1.right.length ≤ w.length ∧ (parse w).1.kind ≤ 5 := by
  unfold parse
  split
  · unfold parseCmd
    split
    · simp [Ln.zero]
    · have := cutL_le w
      simp only [List.length_nil]
      omega
  · have h1 := cut_le (before 35 w)
    have h2 := before_le' 35 w
    generalize cut (before 35 w) = T at *
    split
    · simp [Ln.zero]
    · split
      · unfold parseIncl
        split
        · simp [Ln.zero]
        · have h3 := cut_le (T.drop 7)
          simp only [List.length_nil, List.length_drop] at *
          omega
      · unfold parseSides
        split
        · simp [Ln.zero]
        · split
          · have h3 := cut_le (T.takeWhile noSign)
            have h4 := cut_le (kindOf (T.dropWhile noSign)).2
            have h5 := kindOf_le (T.dropWhile noSign)
            have h6 := dropWhile_le noSign T
            have h7 : (T.takeWhile noSign).length ≤ T.length := (List.takeWhile_prefix _).length_le
            have h8 : (kindOf (T.dropWhile noSign)).1 ≤ 5 := by unfold kindOf; split <;> simp
            simp only
            omega
          · simp [Ln.zero]
theorem sides_len (a b c : Bs) : (sides a b c).length ≤ a.length + b.length + c.length + 2 := by
  unfold sides
  split
  · simp; omega
  · simp; omega
theorem written_len (l : Ln) : (written l).length ≤ l.left.length + l.right.length + 8 := by
  have h1 := oneBlank_le l.left
  have h2 := oneBlank_le l.right
  have h3 := sides_len l.left [58, 61] l.right
  have h4 := sides_len l.left [61] l.right
  have h5 := sides_len (oneBlank l.left) [58] (oneBlank l.right)
  unfold written
  simp only [List.length_cons, List.length_nil] at h3 h4 h5
  repeat' split
  all_goals try simp only [List.length_append, List.length_cons, List.length_nil, incl]
  all_goals omega
theorem closed_len (l : Bs) : (closed l).length ≤ l.length + 1 := by
  unfold closed; split <;> simp
def cost (l : List (Ln × Nat)) : Nat := (l.map (fun x => x.1.left.length + x.1.right.length + 12)).sum
theorem cost_cons (x : Ln × Nat) (l : List (Ln × Nat)) : cost (x :: l) = x.1.left.length + x.1.right.length + 12 + cost l := by simp [cost]
theorem cost_append (a b : List (Ln × Nat)) : cost (a ++ b) = cost a + cost b := by simp [cost]
theorem cost_allF : ∀ js : List (Nat × Bs), cost (allF js) ≤ 12 * total js
  | [] => by simp [allF, cost]
  | (n, w) :: r => by
    have ih := cost_allF r
    have h := parse_len w
    rw [total_cons]
    unfold allF
    split
    · omega
    · rw [cost_cons]
      split
      · simp only; omega
      · simp only [cost, List.map_nil, List.sum_nil]; omega
theorem cost_all (t : Bs) : cost (allF (joined t)) ≤ 12 * (t.length + 1) := by
  have h1 := cost_allF (joined t)
  have h2 := joined_total t
  omega
theorem textTo_len : ∀ (l : List (Ln × Nat)) (op : Bool) (acc : Bs) (op' : Bool) (acc' : Bs), textTo op acc l = some (op', acc') → acc'.length ≤ acc.length + cost l
  | [], op, acc, op', acc', h => by
    simp only [textTo, Option.some.injEq, Prod.mk.injEq] at h
    obtain ⟨_, rfl⟩ := h
    omega
  | (l, e) :: r, op, acc, op', acc', h => by
    unfold textTo at h
    split at h
    · have ih := textTo_len r _ _ op' acc' h
      have h1 := closed_len (written l)
      have h2 := written_len l
      rw [cost_cons]
      simp only [List.length_append, List.length_cons, List.length_nil] at *
      omega
    · cases h
theorem textF_len : ∀ (l : List (Ln × Nat)) (op : Bool) (acc : Bs), (textF op acc l).1.length ≤ acc.length + cost l
  | [], op, acc => by simp [textF]
  | (l, e) :: r, op, acc => by
    unfold textF
    split
    · split
      · simp
      · have ih := textF_len r (if l.kind == 1 then op else l.kind == 5) (acc ++ closed (written l) ++ [10])
        have h1 := closed_len (written l)
        have h2 := written_len l
        rw [cost_cons]
        simp only [List.length_append, List.length_cons, List.length_nil] at *
        omega
    · simp
theorem plainOf_len (t : Bs) : (plainOf t).1.length ≤ 12 * (t.length + 1) := by
  have h1 := textF_len (allF (joined t)) false []
  have h2 := cost_all t
  unfold plainOf
  simp only [List.length_nil] at h1
  omega
/-- Every line that is given comes of one that has been put together. -/
theorem allF_mem : ∀ {js : List (Nat × Bs)} {x : Ln × Nat}, x ∈ allF js → ∃ y ∈ js, x = ({ (parse y.2).1 with number := y.1 }, (parse y.2).2)
  | (n, w) :: r, x, h => by
    unfold allF at h
    split at h
    · obtain ⟨y, hy, e⟩ := allF_mem h
      exact ⟨y, List.mem_cons_of_mem _ hy, e⟩
    · rcases List.mem_cons.1 h with rfl | h
      · exact ⟨(n, w), List.mem_cons_self .., rfl⟩
      · split at h
        · obtain ⟨y, hy, e⟩ := allF_mem h
          exact ⟨y, List.mem_cons_of_mem _ hy, e⟩
        · cases h
theorem all_len {t : Bs} {x : Ln × Nat} (h : x ∈ allF (joined t)) : x.1.left.length ≤ t.length ∧ x.1.right.length ≤ t.length ∧ x.1.kind ≤ 5 := by
  obtain ⟨y, hy, rfl⟩ := allF_mem h
  have h1 := joined_len hy
  have h2 := parse_len y.2
  simp only
  omega
theorem textF_from : ∀ (pre rest : List (Ln × Nat)) (op : Bool) (acc : Bs) (op' : Bool) (acc' : Bs), textTo op acc pre = some (op', acc') → textF op acc (pre ++ rest) = textF op' acc' rest
  | [], rest, op, acc, op', acc', h => by
    simp only [textTo, Option.some.injEq, Prod.mk.injEq] at h
    obtain ⟨rfl, rfl⟩ := h
    rfl
  | (l, e) :: r, rest, op, acc, op', acc', h => by
    unfold textTo at h
    split at h
    · rename_i hc
      rw [Bool.and_eq_true] at hc
      have ih := textF_from r rest _ _ op' acc' h
      rw [List.cons_append, textF, hc.1]
      have h2 : (l.kind == 1 && !op) = false := by have := hc.2; rwa [Bool.not_eq_true'] at this
      rw [h2]
      exact ih
    · cases h
theorem textTo_snoc : ∀ (pre : List (Ln × Nat)) (x : Ln × Nat) (op : Bool) (acc : Bs) (op' : Bool) (acc' : Bs), textTo op acc pre = some (op', acc') → textTo op acc (pre ++ [x]) = textTo op' acc' [x]
  | [], x, op, acc, op', acc', h => by
    simp only [textTo, Option.some.injEq, Prod.mk.injEq] at h
    obtain ⟨rfl, rfl⟩ := h
    rfl
  | (l, e) :: r, x, op, acc, op', acc', h => by
    unfold textTo at h
    split at h
    · rename_i hc
      have ih := textTo_snoc r x _ _ op' acc' h
      rw [List.cons_append, textTo, hc]
      exact ih
    · cases h
end Go.Mk
