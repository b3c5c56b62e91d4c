/-
  A plain form is its own plain form; what has none has an error and a line.
-/
import Derived.Test.YtjelacjggijmfaaDoorPureJ
namespace Go.Mk

def out (x : Ln × Nat) : Bs := closed (written x.1)
def catOut : List (Ln × Nat) → Bs
  | [] => []
  | x :: r => out x ++ 10 :: catOut r
theorem textF_ok : ∀ (L : List (Ln × Nat)) (op : Bool) (acc : Bs), (textF op acc L).2.1 = 0 → ∃ op', textTo op acc L = some (op', (textF op acc L).1) ∧ (textF op acc L).2.2 = 0
  | [], op, acc, _ => ⟨op, rfl, rfl⟩
  | (l, e) :: r, op, acc, h => by
    unfold textF at h ⊢
    unfold textTo
    cases he : (e == 0) with
    | false =>
      rw [he] at h
      simp at h he
      exact absurd h he
    | true =>
      rw [he] at h
      simp only [if_true] at h ⊢
      cases hk : (l.kind == 1 && !op) with
      | true => rw [hk] at h; simp at h
      | false =>
        rw [hk] at h
        simp only [Bool.false_eq_true, if_false] at h ⊢
        exact textF_ok r _ _ h
theorem textTo_cat : ∀ (L : List (Ln × Nat)) (op : Bool) (acc : Bs) (op' : Bool) (a : Bs), textTo op acc L = some (op', a) → a = acc ++ catOut L
  | [], op, acc, op', a, h => by
    simp only [textTo, Option.some.injEq, Prod.mk.injEq] at h
    simp [catOut, h.2]
  | (l, e) :: r, op, acc, op', a, h => by
    unfold textTo at h
    split at h
    · rw [textTo_cat r _ _ op' a h]
      simp [catOut, out]
    · cases h
theorem textTo_zero : ∀ (L : List (Ln × Nat)) (op : Bool) (acc : Bs) (r : Bool × Bs), textTo op acc L = some r → ∀ x ∈ L, x.2 = 0
  | [], _, _, _, _, x, hx => by cases hx
  | (l, e) :: t, op, acc, r, h, x, hx => by
    unfold textTo at h
    split at h
    · rename_i hc
      rw [Bool.and_eq_true] at hc
      rcases List.mem_cons.1 hx with rfl | hx
      · simpa using hc.1
      · exact textTo_zero t _ _ r h x hx
    · cases h
theorem segs_cat (o r : Bs) (h : 10 ∉ o) : segs (o ++ 10 :: r) = o :: segs r := by
  induction o with
  | nil => rfl
  | cons c o ih =>
    have hc : (c == 10) = false := by rw [beq_eq_false_iff_ne]; intro e; subst e; simp at h
    have ih := ih (fun hh => h (List.mem_cons_of_mem _ hh))
    rw [List.cons_append, segs, hc, ih]
    rfl
def Sound (x : Ln × Nat) : Prop := x.1.kind ≠ 0 ∧ ∃ l', parse (out x) = (l', 0) ∧ l'.kind = x.1.kind ∧ closed (written l') = out x ∧ 10 ∉ out x
theorem segs_all : ∀ L : List (Ln × Nat), (∀ x ∈ L, Sound x) → segs (catOut L) = L.map out ++ [[]]
  | [], _ => rfl
  | x :: r, h => by
    obtain ⟨_, l', _, _, _, h10⟩ := h x (List.mem_cons_self ..)
    rw [catOut, segs_cat _ _ h10, segs_all r (fun y hy => h y (List.mem_cons_of_mem _ hy))]
    rfl
theorem again_all : ∀ (L : List (Ln × Nat)) (f n : Nat) (op : Bool) (acc : Bs) (op' : Bool) (a : Bs), (∀ x ∈ L, Sound x) → L.length + 1 ≤ f → textTo op acc L = some (op', a) →
    textF op acc (allF (joinF f n (L.map out ++ [[]]))) = (a, 0, 0)
  | [], f, n, op, acc, op', a, _, hf, h => by
    simp only [textTo, Option.some.injEq, Prod.mk.injEq] at h
    obtain ⟨g, rfl⟩ : ∃ g, f = g + 1 := ⟨f - 1, by simp at hf; omega⟩
    rw [← h.2]
    cases g <;> rfl
  | (l, e) :: r, f, n, op, acc, op', a, hs, hf, h => by
    obtain ⟨g, rfl⟩ : ∃ g, f = g + 1 := ⟨f - 1, by simp at hf; omega⟩
    obtain ⟨hk0, l', hp, hk, hc, _⟩ := hs (l, e) (List.mem_cons_self ..)
    have hrest : ∃ q qs, r.map out ++ [[]] = q :: qs := by cases r <;> exact ⟨_, _, rfl⟩
    obtain ⟨q, qs, hq⟩ := hrest
    have ht1 : take1 [] 1 (out (l, e)) (r.map out ++ [[]]) = (out (l, e), 1, r.map out ++ [[]]) := by
      rw [hq, take1, show endsBack (out (l, e)) = false from endsBack_closed _]; rfl
    unfold textTo at h
    split at h
    · rename_i hcond
      rw [Bool.and_eq_true] at hcond
      have hkc : (l.kind == 1 && !op) = false := by have := hcond.2; rwa [Bool.not_eq_true'] at this
      have ih := again_all r g (n + 1) _ _ op' a (fun x hx => hs x (List.mem_cons_of_mem _ hx)) (by simp at hf ⊢; omega) h
      rw [List.map_cons, List.cons_append, joinF, ht1]
      simp only
      rw [allF, hp]
      have hk' : (l'.kind == 0) = false := by rw [beq_eq_false_iff_ne, hk]; exact hk0
      simp only [hk', Bool.and_false, Bool.false_eq_true, if_false, beq_self_eq_true, if_true]
      rw [textF]
      simp only [beq_self_eq_true, if_true]
      have hk2 : l'.kind = l.kind := hk
      rw [hk2, hkc]
      simp only [Bool.false_eq_true, if_false]
      have hw : written { number := n, kind := l.kind, left := l'.left, right := l'.right } = written l' := by rw [← hk2]; rfl
      rw [hw, hc]
      exact ih
    · cases h
/-! ### No line holds the byte 0a; lines have numbers -/
theorem segs_no : ∀ t : Bs, ∀ s ∈ segs t, 10 ∉ s
  | [], s, hs => by simp [segs] at hs; subst hs; simp
  | c :: r, s, hs => by
    have ih := segs_no r
    unfold segs at hs
    split at hs
    · rcases List.mem_cons.1 hs with rfl | hs
      · simp
      · exact ih s hs
    · rename_i hc
      have hne := segs_ne r
      cases hsr : segs r with
      | nil => exact absurd hsr hne
      | cons p ps =>
        rw [hsr] at hs ih
        simp only [List.headD_cons, List.tail_cons] at hs
        rcases List.mem_cons.1 hs with rfl | hs
        · intro h
          rcases List.mem_cons.1 h with h | h
          · subst h; simp at hc
          · exact ih p (List.mem_cons_self ..) h
        · exact ih s (List.mem_cons_of_mem _ hs)
theorem take1_no : ∀ (ps : List Bs) (acc : Bs) (used : Nat) (p : Bs), 10 ∉ acc → 10 ∉ p → (∀ s ∈ ps, 10 ∉ s) → 10 ∉ (take1 acc used p ps).1 ∧ ∀ s ∈ (take1 acc used p ps).2.2, 10 ∉ s
  | [], acc, used, p, h1, h2, _ => by
    simp only [take1]
    refine ⟨fun h => ?_, fun s hs => by cases hs⟩
    rcases List.mem_append.1 h with h | h
    · exact h1 h
    · exact h2 (mem_rdrop h)
  | q :: qs, acc, used, p, h1, h2, h3 => by
    unfold take1
    split
    · refine take1_no qs _ _ _ ?_ (fun h => h3 q (List.mem_cons_self ..) (mem_cutL h)) (fun s hs => h3 s (List.mem_cons_of_mem _ hs))
      intro h
      rcases List.mem_append.1 h with h | h
      · rcases List.mem_append.1 h with h | h
        · exact h1 h
        · exact h2 ((List.dropLast_prefix p).subset h)
      · revert h; decide
    · refine ⟨fun h => ?_, h3⟩
      rcases List.mem_append.1 h with h | h
      · exact h1 h
      · exact h2 h
theorem joinF_no : ∀ (f n : Nat) (ss : List Bs), (∀ s ∈ ss, 10 ∉ s) → ∀ x ∈ joinF f n ss, 10 ∉ x.2 ∧ n ≤ x.1
  | 0, _, _, _, x, hx => by cases hx
  | _ + 1, _, [], _, x, hx => by cases hx
  | f + 1, n, p :: ps, h, x, hx => by
    have ht := take1_no ps [] 1 p (by simp) (h p (List.mem_cons_self ..)) (fun s hs => h s (List.mem_cons_of_mem _ hs))
    rw [joinF] at hx
    rcases List.mem_cons.1 hx with rfl | hx
    · exact ⟨ht.1, Nat.le_refl _⟩
    · have := joinF_no f _ _ ht.2 x hx
      exact ⟨this.1, by omega⟩
theorem joined_no {t : Bs} {x : Nat × Bs} (h : x ∈ joined t) : 10 ∉ x.2 ∧ 1 ≤ x.1 := joinF_no _ _ _ (segs_no t) x h
theorem allF_kind : ∀ {js : List (Nat × Bs)} {x : Ln × Nat}, x ∈ allF js → x.2 = 0 → x.1.kind ≠ 0
  | (n, w) :: r, x, h, h0 => by
    unfold allF at h
    split at h
    · exact allF_kind h h0
    · rename_i hc
      rcases List.mem_cons.1 h with rfl | h
      · intro hk
        simp only at h0 hk
        simp [h0, hk] at hc
      · split at h
        · exact allF_kind h h0
        · cases h
theorem parse_err (w : Bs) : (parse w).2 ≤ 1 := by
  unfold parse
  repeat' split
  all_goals try (simp; done)
  · unfold parseIncl; split <;> simp
  · unfold parseSides
    repeat' split
    all_goals simp
theorem all_sound {t : Bs} {x : Ln × Nat} (h : x ∈ allF (joined t)) (h0 : x.2 = 0) : Sound x := by
  have hk := allF_kind h h0
  obtain ⟨y, hy, rfl⟩ := allF_mem h
  simp only at hk h0
  have hp : parse y.2 = ((parse y.2).1, 0) := by rw [← h0]
  obtain ⟨l', h1, h2, h3, h4⟩ := again (joined_no hy).1 hp hk
  exact ⟨hk, l', h1, h2, h3, h4⟩
theorem textF_err : ∀ (L : List (Ln × Nat)) (op : Bool) (acc : Bs), (∀ x ∈ L, x.2 ≤ 1 ∧ 1 ≤ x.1.number) → (textF op acc L).2.1 ≠ 0 → (textF op acc L).1 = [] ∧ (textF op acc L).2.1 = 1 ∧ 1 ≤ (textF op acc L).2.2
  | [], op, acc, _, h => absurd rfl h
  | (l, e) :: r, op, acc, hx, h => by
    have h1 := hx (l, e) (List.mem_cons_self ..)
    simp only at h1
    unfold textF at h ⊢
    cases he : (e == 0) with
    | false =>
      simp at he
      simp only [Bool.false_eq_true, if_false]
      exact ⟨trivial, by omega, h1.2⟩
    | true =>
      rw [he] at h
      simp only [if_true] at h ⊢
      cases hk : (l.kind == 1 && !op) with
      | true => simp only [if_true]; exact ⟨trivial, trivial, h1.2⟩
      | false =>
        rw [hk] at h
        simp only [Bool.false_eq_true, if_false] at h ⊢
        exact textF_err r _ _ (fun x hx' => hx x (List.mem_cons_of_mem _ hx')) h
/-- What has no plain form has an error, and a line. -/
theorem plain_err (t : Bs) (h : (plainOf t).2.1 ≠ 0) : (plainOf t).1 = [] ∧ (plainOf t).2.1 = 1 ∧ 1 ≤ (plainOf t).2.2 := by
  unfold plainOf at h ⊢
  refine textF_err _ _ _ (fun x hx => ?_) h
  obtain ⟨y, hy, rfl⟩ := allF_mem hx
  exact ⟨parse_err _, (joined_no hy).2⟩
/-- A plain form is its own plain form. -/
theorem plain_again (t : Bs) (h : (plainOf t).2.1 = 0) : (plainOf t).2.2 = 0 ∧ plainOf (plainOf t).1 = ((plainOf t).1, 0, 0) := by
  obtain ⟨op', h1, h2⟩ := textF_ok (allF (joined t)) false [] h
  refine ⟨h2, ?_⟩
  have hz := textTo_zero _ _ _ _ h1
  have hs : ∀ x ∈ allF (joined t), Sound x := fun x hx => all_sound hx (hz x hx)
  have hc := textTo_cat _ _ _ _ _ h1
  rw [List.nil_append] at hc
  have hsg := segs_all _ hs
  rw [← hc] at hsg
  show textF false [] (allF (joined (textF false [] (allF (joined t))).1)) = _
  unfold joined at hsg ⊢
  rw [hsg]
  exact again_all _ _ 1 false [] op' _ hs (by simp) h1
end Go.Mk
