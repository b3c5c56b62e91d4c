/-
  What a line is, told as the document's own answer tells it: byte by byte.
-/
import Derived.Test.YtjelacjggijmfaaDoorPureJ
namespace Go.Mk
theorem dropWhile_nil (p : UInt8 → Bool) : ∀ l : Bs, l.dropWhile p = [] ↔ ∀ c ∈ l, p c = true
  | [] => by simp
  | x :: r => by
    rw [List.dropWhile_cons]
    cases h : p x with
    | true => simp [dropWhile_nil p r, h]
    | false => simp [h]
def rk (p : Ln × Nat) : Nat :=
  if p.2 == 0 then (if p.1.kind == 0 then 0 else if p.1.kind == 1 then 99 else if p.1.kind == 2 then 105 else if p.1.kind == 3 then 102 else if p.1.kind == 4 then 108 else 114) else 120
theorem before_found (l : Bs) (k : Nat) (hk : k < l.length) (ha : (l.take k).all (fun x => !(x == 35)) = true) (hc : l[k] = 35) : before 35 l = l.take k := by
  have h : l = l.take k ++ 35 :: l.drop (k + 1) := by
    rw [← hc, ← List.drop_eq_getElem_cons hk, List.take_append_drop]
  unfold before
  conv => lhs; rw [h]
  rw [List.takeWhile_append_of_pos (by simpa [List.all_eq_true] using ha)]
  simp
theorem before_whole (l : Bs) (ha : l.all (fun x => !(x == 35)) = true) : before 35 l = l := by
  unfold before
  have h := List.takeWhile_append_of_pos (p := fun x : UInt8 => !(x == 35)) (l₁ := l) (l₂ := []) (by simpa [List.all_eq_true] using ha)
  simpa using h
theorem sides_at (T : Bs) (k : Nat) (hk : k < T.length) (ha : (T.take k).all noSign = true) (hs : noSign T[k] = false) : T.takeWhile noSign = T.take k ∧ T.dropWhile noSign = T.drop k := by
  have h : T = T.take k ++ T[k] :: T.drop (k + 1) := by
    rw [← List.drop_eq_getElem_cons hk, List.take_append_drop]
  have ha' : ∀ a ∈ T.take k, noSign a = true := by simpa [List.all_eq_true] using ha
  constructor
  · conv => lhs; rw [h]
    rw [List.takeWhile_append_of_pos ha', List.takeWhile_cons, hs]
    simp
  · conv => lhs; rw [h]
    rw [List.dropWhile_append_of_pos ha', List.dropWhile_cons, hs]
    simp
theorem ps_none (T : Bs) (ha : T.all noSign = true) : rk (parseSides T) = 120 := by
  have : T.dropWhile noSign = [] := by
    rw [dropWhile_nil]; simpa [List.all_eq_true] using ha
  unfold parseSides; rw [this]; rfl
/-- The side ahead of the sign, and what the line is by it. -/
theorem ps_at (T : Bs) (k : Nat) (hk : k < T.length) (ha : (T.take k).all noSign = true) (hs : noSign T[k] = false) :
    parseSides T = if mayStand (kindOf (T.drop k)).1 (cut (T.take k)) then (⟨0, (kindOf (T.drop k)).1, cut (T.take k), cut (kindOf (T.drop k)).2⟩, 0) else (Ln.zero, 1) := by
  obtain ⟨h1, h2⟩ := sides_at T k hk ha hs
  have h3 : (T.drop k).isEmpty = false := by rw [List.drop_eq_getElem_cons hk]; rfl
  unfold parseSides
  rw [h1, h2, h3]
  rfl
theorem kind_late (T : Bs) (k : Nat) (hk : k < T.length) (h : T[k] = 61) : kindOf (T.drop k) = (4, T.drop (k + 1)) := by
  rw [List.drop_eq_getElem_cons hk, h]; rfl
theorem kind_fixed (T : Bs) (k : Nat) (hk : k + 1 < T.length) (h : T[k] = 58) (h2 : T[k + 1] = 61) : kindOf (T.drop k) = (3, T.drop (k + 2)) := by
  rw [List.drop_eq_getElem_cons (by omega), List.drop_eq_getElem_cons hk, h, h2]; rfl
theorem kind_rule_end (T : Bs) (k : Nat) (hk : k + 1 = T.length) (h : T[k] = 58) : kindOf (T.drop k) = (5, T.drop (k + 1)) := by
  have h1 : T.drop (k + 1) = [] := by rw [List.drop_eq_nil_iff]; omega
  rw [List.drop_eq_getElem_cons (by omega), h, h1]; rfl
theorem kind_rule (T : Bs) (k : Nat) (hk : k + 1 < T.length) (h : T[k] = 58) (h2 : T[k + 1] ≠ 61) : kindOf (T.drop k) = (5, T.drop (k + 1)) := by
  rw [List.drop_eq_getElem_cons (by omega), List.drop_eq_getElem_cons hk, h]
  generalize T[k + 1] = c at h2
  unfold kindOf
  split
  · rename_i h3; simp at h3; exact absurd h3.1 h2
  · rename_i h3; simp at h3
  · rfl
theorem rk_of (kd : Nat) (L R : Bs) (hk : kd = 3 ∨ kd = 4 ∨ kd = 5) : rk (if mayStand kd L then (⟨0, kd, L, R⟩, 0) else (Ln.zero, 1)) = if mayStand kd L then (if kd = 3 then 102 else if kd = 4 then 108 else 114) else 120 := by
  cases mayStand kd L
  · rfl
  · rcases hk with rfl | rfl | rfl <;> rfl
theorem incl_off (T : Bs) (h : incl.isPrefixOf T = false) : isIncl T = false := by unfold isIncl; rw [h]; rfl
theorem isPrefix_take (T : Bs) : incl.isPrefixOf T = (T.take 7 == incl) := by
  rw [Bool.eq_iff_iff, List.isPrefixOf_iff_prefix, beq_iff_eq]
  constructor
  · intro h
    have := List.prefix_iff_eq_take.1 h
    exact this.symm
  · intro h
    rw [← h]; exact List.take_prefix 7 T
theorem isIncl_self : isIncl incl = true := rfl
theorem isIncl_long (T : Bs) (hl : 7 < T.length) : isIncl T = ((T.take 7 == incl) && blk T[7]) := by
  unfold isIncl
  rw [isPrefix_take, List.drop_eq_getElem_cons hl]
theorem isIncl_short (T : Bs) (hl : T.length ≤ 7) (hn : T ≠ incl) : isIncl T = false := by
  refine incl_off T ?_
  rw [isPrefix_take, List.take_of_length_le hl]
  simpa using hn
theorem incl_ways (T : Bs) (hn : T ≠ incl) : (∃ h : 7 < T.length, (T.take 7 == incl) = true ∧ blk T[7] = true ∧ isIncl T = true) ∨
    (isIncl T = false ∧ (T.length ≤ 7 ∨ ∃ h : 7 < T.length, (T.take 7 == incl) = false ∨ ((T.take 7 == incl) = true ∧ blk T[7] = false))) := by
  by_cases h : 7 < T.length
  · have h1 := isIncl_long T h
    cases h2 : (T.take 7 == incl) with
    | false => rw [h2] at h1; exact .inr ⟨h1, .inr ⟨h, .inl rfl⟩⟩
    | true =>
      rw [h2] at h1
      cases h3 : blk T[7] with
      | false => rw [h3] at h1; exact .inr ⟨h1, .inr ⟨h, .inr ⟨rfl, h3⟩⟩⟩
      | true => rw [h3] at h1; exact .inl ⟨h, rfl, h3, h1⟩
  · exact .inr ⟨isIncl_short T (by omega) hn, .inl (by omega)⟩
theorem cut_drop_ne (X : Bs) (k : Nat) (hl : k < (cut X).length) : cut ((cut X).drop k) ≠ [] := by
  intro h
  have hd : (cut X).drop k ≠ [] := by rw [Ne, List.drop_eq_nil_iff]; omega
  have hN : NE ((cut X).drop k) := by
    intro c hc
    refine ne_cut X c ?_
    rw [List.getLast?_drop, if_neg (by omega)] at hc
    exact hc
  generalize (cut X).drop k = D at *
  unfold cut cutL at h
  rw [cutR_id hN] at h
  have hall := (dropWhile_nil _ _).1 h
  have hm := List.getLast_mem hd
  have h1 := hN _ (List.getLast?_eq_some_getLast hd)
  rw [hall _ hm] at h1
  cases h1
theorem incl_right (X T : Bs) (hT : T = cut X) (h : 7 < T.length) : parseIncl (cut (T.drop 7)) = (⟨0, 2, [], cut (T.drop 7)⟩, 0) := by
  subst hT
  have := cut_drop_ne X 7 h
  unfold parseIncl
  rw [List.isEmpty_eq_false_iff.2 this]
  rfl
/-- What a line with a sign at k is: by the side ahead of it. -/
structure SignAt (T : Bs) (k kd : Nat) (rest : Bs) : Prop where
  yes : mayStand kd (cut (T.take k)) = true → parseSides T = (⟨0, kd, cut (T.take k), cut rest⟩, 0)
  no : mayStand kd (cut (T.take k)) = false → rk (parseSides T) = 120
theorem SignAt.of {T : Bs} {k kd : Nat} {rest : Bs} (hk : k < T.length) (ha : (T.take k).all noSign = true) (hs : noSign T[k] = false) (h : kindOf (T.drop k) = (kd, rest)) : SignAt T k kd rest := by
  have h1 := ps_at T k hk ha hs
  rw [h] at h1
  constructor
  · intro h2
    rw [h1, if_pos h2]
  · intro h2
    rw [h1, if_neg (by rw [h2]; decide)]; rfl
end Go.Mk
