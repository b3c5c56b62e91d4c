/-
  The lines of a text, told as the document's own answer tells them: byte by byte.
-/
import Derived.Test.YtjelacjggijmfaaDoorPureI
namespace Go.Mk
/-- Which lines are still to come: first: the number of the line that is being put together, n: that of the text's line, s: its bytes so far. -/
def rl : Nat → Nat → Bs → Bool → Bool → Bs → List (Nat × Bs)
  | first, _, s, start, on, [] => [(first, if endsBack s && !(on && start) then noBack s.dropLast else s)]
  | first, n, s, start, on, c :: r =>
    if c == 10 then
      (if endsBack s && !(on && start) then rl first (n + 1) (s.dropLast ++ [32]) true true r else (first, s) :: rl (n + 1) (n + 1) [] true false r)
    else if on && start && blk c then rl first n s start on r
    else rl first n (s ++ [c]) false on r
theorem endsBack_app (a c : Bs) (h : c ≠ []) : endsBack (a ++ c) = endsBack c := by
  unfold endsBack
  rw [List.getLast?_append]
  cases hc : c.getLast? with
  | none => exact absurd (List.getLast?_eq_none_iff.1 hc) h
  | some x => rfl
theorem noBack_app (acc c : Bs) (h : endsBack acc = false) : noBack (acc ++ c) = acc ++ noBack c := by
  unfold noBack
  rw [List.reverse_append, List.dropWhile_append]
  split
  · rename_i h2
    have h3 : c.reverse.dropWhile (· == 92) = [] := by simpa using h2
    rw [h3]
    cases hr : acc.reverse with
    | nil => simp at hr; simp [hr]
    | cons x r =>
      have h4 : acc = r.reverse ++ [x] := by
        have := congrArg List.reverse hr
        simpa using this
      have h5 : (x == 92) = false := by
        rw [h4] at h
        unfold endsBack at h
        simpa using h
      rw [List.dropWhile_cons, h5]
      simp [h4]
  · simp
theorem noBack_last (c : Bs) (h : endsBack c = true) : noBack c.dropLast = noBack c := by
  unfold endsBack at h
  have h1 : c.getLast? = some 92 := by simpa using h
  obtain ⟨l, rfl⟩ : ∃ l, c = l ++ [92] := by
    have hne : c ≠ [] := by intro h0; rw [h0] at h1; simp at h1
    refine ⟨c.dropLast, ?_⟩
    have := List.dropLast_concat_getLast hne
    rw [List.getLast?_eq_some_getLast hne] at h1
    rw [Option.some.inj h1] at this
    exact this.symm
  simp [noBack]
theorem noBack_id (c : Bs) (h : endsBack c = false) : noBack c = c := rdrop_id _ (fun x hx => by
  unfold endsBack at h
  rw [hx] at h
  simpa using h)
/-- acc: what has been put together ahead of the text's line that is being read; cur: what of that line has come. -/
structure Reading (acc cur s : Bs) (start on : Bool) : Prop where
  whole : s = acc ++ cur
  fresh : start = true → cur = []
  more : start = false → cur ≠ []
  alone : on = false → acc = []
  blank : endsBack acc = false
theorem Reading.back {acc cur s : Bs} {start on : Bool} (h : Reading acc cur s start on) : (endsBack s && !(on && start)) = endsBack cur := by
  rw [h.whole]
  cases start with
  | true =>
    rw [h.fresh rfl, List.append_nil]
    rw [h.blank]; rfl
  | false => rw [endsBack_app _ _ (h.more rfl)]; simp
theorem endsBack_nil : endsBack [] = false := rfl
theorem endsBack_blank (l : Bs) : endsBack (l ++ [32]) = false := by simp [endsBack]
theorem segs_nl (r : Bs) : segs (10 :: r) = [] :: segs r := rfl
theorem segs_other (c : UInt8) (r q : Bs) (qs : List Bs) (hc : (c == 10) = false) (h : segs r = q :: qs) : segs (c :: r) = (c :: q) :: qs := by
  simp [segs, hc, h]
theorem segs_some : ∀ r : Bs, ∃ q qs, segs r = q :: qs
  | [] => ⟨_, _, rfl⟩
  | c :: r => by
    obtain ⟨q, qs, h⟩ := segs_some r
    cases hc : c == 10 with
    | true =>
      have : c = 10 := by simpa using hc
      subst this
      exact ⟨_, _, segs_nl r⟩
    | false => exact ⟨_, _, segs_other c r q qs hc h⟩
theorem rl_join : ∀ (r : Bs) (first n : Nat) (acc cur s : Bs) (start on : Bool) (q : Bs) (qs : List Bs) (used f : Nat), segs r = q :: qs → Reading acc cur s start on → n + 1 = first + used → qs.length ≤ f →
    rl first n s start on r = (first, (take1 acc used (if on && start then cutL q else cur ++ q) qs).1) :: joinF f (first + (take1 acc used (if on && start then cutL q else cur ++ q) qs).2.1) (take1 acc used (if on && start then cutL q else cur ++ q) qs).2.2
  | [], first, n, acc, cur, s, start, on, q, qs, used, f, hs, hR, hn, hf => by
    obtain ⟨rfl, rfl⟩ : [] = q ∧ [] = qs := by simpa [segs] using hs
    have hP : (if on && start then cutL [] else cur ++ []) = cur := by
      cases start with
      | true => rw [hR.fresh rfl]; cases on <;> rfl
      | false => simp
    rw [hP, rl, hR.back, take1]
    have hj : ∀ f n, joinF f n [] = [] := by intro f n; cases f <;> rfl
    rw [hj]
    cases hb : endsBack cur with
    | true =>
      have hne : cur ≠ [] := by intro h0; rw [h0] at hb; cases hb
      rw [if_pos rfl, hR.whole, List.dropLast_append_of_ne_nil hne, noBack_app _ _ hR.blank, noBack_last _ hb]
    | false =>
      rw [if_neg (by decide), hR.whole]
      have : noBack cur = cur := rdrop_id _ (fun c hc => by
        unfold endsBack at hb
        rw [hc] at hb
        simpa using hb)
      rw [this]
  | c :: r, first, n, acc, cur, s, start, on, q, qs, used, f, hs, hR, hn, hf => by
    obtain ⟨q', qs', hq⟩ := segs_some r
    cases hc : c == 10 with
    | true =>
      obtain rfl : c = 10 := by simpa using hc
      rw [segs_nl, hq] at hs
      obtain ⟨rfl, rfl⟩ : [] = q ∧ q' :: qs' = qs := by simpa using hs
      have hP : (if on && start then cutL [] else cur ++ []) = cur := by
        cases start with
        | true => rw [hR.fresh rfl]; cases on <;> rfl
        | false => simp
      rw [hP, rl, if_pos hc, hR.back, take1]
      simp only [List.length_cons] at hf
      cases hb : endsBack cur with
      | true =>
        have hne : cur ≠ [] := by intro h0; rw [h0] at hb; cases hb
        rw [if_pos rfl, if_pos rfl, hR.whole, List.dropLast_append_of_ne_nil hne]
        have IH := rl_join r first (n + 1) (acc ++ cur.dropLast ++ [32]) [] (acc ++ cur.dropLast ++ [32]) true true q' qs' (used + 1) f hq
          ⟨(by simp), fun _ => rfl, (fun h => by cases h), (fun h => by cases h), endsBack_blank _⟩ (by omega) (by omega)
        rw [IH]; rfl
      | false =>
        rw [if_neg (by decide), if_neg (by decide), hR.whole]
        obtain ⟨f', rfl⟩ : ∃ f', f = f' + 1 := ⟨f - 1, by omega⟩
        have IH := rl_join r (n + 1) (n + 1) [] [] [] true false q' qs' 1 f' hq ⟨rfl, fun _ => rfl, (fun h => by cases h), fun _ => rfl, rfl⟩ (by omega) (by omega)
        rw [IH]
        simp only [joinF, Bool.false_and, List.nil_append]
        rw [hn]
        rfl
    | false =>
      rw [segs_other c r q' qs' hc hq] at hs
      obtain ⟨rfl, rfl⟩ : c :: q' = q ∧ qs' = qs := by simpa using hs
      rw [rl, hc]
      simp only [Bool.false_eq_true, if_false]
      cases ho : on && start with
      | true =>
        obtain ⟨rfl, rfl⟩ : on = true ∧ start = true := by simpa using ho
        have hcur := hR.fresh rfl
        subst hcur
        cases hb : blk c with
        | true =>
          have IH := rl_join r first n acc [] s true true q' qs' used f hq hR hn hf
          simp only [Bool.and_self, if_true, cutL_cons, hb] at IH ⊢
          exact IH
        | false =>
          have IH := rl_join r first n acc [c] (s ++ [c]) false true q' qs' used f hq ⟨(by rw [hR.whole]; simp), (fun h => by cases h), (fun _ => by simp), (fun h => by cases h), hR.blank⟩ hn hf
          simp only [Bool.and_false, if_true, cutL_cons, hb] at IH ⊢
          exact IH
      | false =>
        have IH := rl_join r first n acc (cur ++ [c]) (s ++ [c]) false on q' qs' used f hq ⟨(by rw [hR.whole]; simp), (fun h => by cases h), (fun _ => by simp), hR.alone, hR.blank⟩ hn hf
        simp only [Bool.and_false, Bool.false_and, List.append_assoc, List.singleton_append] at IH ⊢
        exact IH
/-- What has come when byte k is to be read, and what is being put together. -/
def LinesAt (t : Bs) (k first n : Nat) (s : Bs) (start on : Bool) (outs : List (Nat × Bs)) : Prop :=
  (k ≤ t.length ∧ joined t = outs ++ rl first n s start on (t.drop k)) ∨ (k = t.length + 1 ∧ joined t = outs)
theorem rl_all (t : Bs) : rl 1 1 [] true false t = joined t := by
  obtain ⟨q, qs, h⟩ := segs_some t
  have IH := rl_join t 1 1 [] [] [] true false q qs 1 qs.length h ⟨rfl, fun _ => rfl, (fun h => by cases h), fun _ => rfl, rfl⟩ rfl (Nat.le_refl _)
  rw [IH]
  unfold joined
  rw [h]
  simp only [Bool.false_and, List.nil_append, List.length_cons, joinF]
  rfl
theorem LinesAt.start (t : Bs) : LinesAt t 0 1 1 [] true false [] := .inl ⟨Nat.zero_le _, by rw [List.drop_zero, rl_all]; rfl⟩
section
variable {t s : Bs} {k first n : Nat} {start on : Bool} {outs : List (Nat × Bs)}
theorem LinesAt.eq (h : LinesAt t k first n s start on outs) (hk : k ≤ t.length) : joined t = outs ++ rl first n s start on (t.drop k) := by
  rcases h with ⟨_, h⟩ | ⟨h, _⟩
  · exact h
  · omega
theorem LinesAt.done (h : LinesAt t k first n s start on outs) (hk : ¬ k ≤ t.length) : joined t = outs := by
  rcases h with ⟨h, _⟩ | ⟨_, h⟩
  · omega
  · exact h
theorem LinesAt.skip (h : LinesAt t k first n s start on outs) (hk : k < t.length) (hc : (t[k] == 10) = false) (hb : (on && start && blk t[k]) = true) : LinesAt t (k + 1) first n s start on outs := by
  refine .inl ⟨hk, ?_⟩
  rw [h.eq (by omega), List.drop_eq_getElem_cons hk, rl, hc, hb]; rfl
theorem LinesAt.char (h : LinesAt t k first n s start on outs) (hk : k < t.length) (hc : (t[k] == 10) = false) (hb : (on && start && blk t[k]) = false) : LinesAt t (k + 1) first n (s ++ [t[k]]) false on outs := by
  refine .inl ⟨hk, ?_⟩
  rw [h.eq (by omega), List.drop_eq_getElem_cons hk, rl, hc, hb]; rfl
theorem LinesAt.cont (h : LinesAt t k first n s start on outs) (hk : k < t.length) (hc : (t[k] == 10) = true) (hb : (endsBack s && !(on && start)) = true) : LinesAt t (k + 1) first (n + 1) (s.dropLast ++ [32]) true true outs := by
  refine .inl ⟨hk, ?_⟩
  rw [h.eq (by omega), List.drop_eq_getElem_cons hk, rl, hc, hb]; rfl
theorem LinesAt.line (h : LinesAt t k first n s start on outs) (hk : k < t.length) (hc : (t[k] == 10) = true) (hb : (endsBack s && !(on && start)) = false) : LinesAt t (k + 1) (n + 1) (n + 1) [] true false (outs ++ [(first, s)]) := by
  refine .inl ⟨hk, ?_⟩
  rw [h.eq (by omega), List.drop_eq_getElem_cons hk, rl, hc, hb, List.append_assoc]; rfl
theorem LinesAt.last (h : LinesAt t k first n s start on outs) (hk : k = t.length) (hb : (endsBack s && !(on && start)) = false) : LinesAt t (k + 1) (n + 1) (n + 1) [] true false (outs ++ [(first, s)]) := by
  refine .inr ⟨by omega, ?_⟩
  rw [h.eq (by omega), List.drop_eq_nil_iff.2 (by omega), rl, hb]; rfl
theorem LinesAt.lastBack (h : LinesAt t k first n s start on outs) (hk : k = t.length) (hb : (endsBack s && !(on && start)) = true) : LinesAt t (k + 1) (n + 1) (n + 1) [] true false (outs ++ [(first, noBack s.dropLast)]) := by
  refine .inr ⟨by omega, ?_⟩
  rw [h.eq (by omega), List.drop_eq_nil_iff.2 (by omega), rl, hb]; rfl
end
end Go.Mk
