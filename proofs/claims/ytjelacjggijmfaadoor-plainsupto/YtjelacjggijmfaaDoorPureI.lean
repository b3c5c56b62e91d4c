/-
  Cutting and words once more: what is cut stays, words with one blank between are the same words.
-/
import Derived.Test.YtjelacjggijmfaaDoorPureM
namespace Go.Mk

/-- No blank at the beginning, none at the end. -/
def NB (l : Bs) : Prop := ∀ c, l.head? = some c → blk c = false
def NE (l : Bs) : Prop := ∀ c, l.getLast? = some c → blk c = false
theorem cutL_id {l : Bs} (h : NB l) : cutL l = l := by
  cases l with
  | nil => rfl
  | cons c r => rw [cutL_cons, h c rfl]; rfl
theorem rdrop_id (p : UInt8 → Bool) {l : Bs} (h : ∀ c, l.getLast? = some c → p c = false) : rdrop p l = l := by
  rcases List.eq_nil_or_concat l with rfl | ⟨r, c, rfl⟩
  · rfl
  · rw [List.concat_eq_append] at *
    rw [rdrop_snoc, h c (by simp)]; rfl
theorem cutR_id {l : Bs} (h : NE l) : cutR l = l := rdrop_id blk h
theorem cut_id {l : Bs} (h1 : NB l) (h2 : NE l) : cut l = l := by unfold cut; rw [cutR_id h2, cutL_id h1]
theorem nb_cutL : ∀ l : Bs, NB (cutL l)
  | [] => fun c h => by cases h
  | x :: r => fun c h => by
    rw [cutL_cons] at h
    cases hx : blk x with
    | true => rw [hx] at h; exact nb_cutL r c h
    | false => rw [hx] at h; simp at h; subst h; exact hx
theorem rdrop_last (p : UInt8 → Bool) : ∀ l : Bs, ∀ c, (rdrop p l).getLast? = some c → p c = false
  | [], c, h => by cases h
  | x :: r, c, h => by
    rw [rdrop_cons] at h
    split at h
    · cases h
    · rename_i hc
      cases hr : rdrop p r with
      | nil =>
        rw [hr] at h hc
        simp at h hc
        subst h; exact hc
      | cons y z =>
        rw [hr, List.getLast?_cons_cons, ← hr] at h
        exact rdrop_last p r c h
theorem ne_cutR (l : Bs) : NE (cutR l) := rdrop_last blk l
theorem nb_cut (l : Bs) : NB (cut l) := nb_cutL _
theorem ne_cut (l : Bs) : NE (cut l) := by rw [← cut_comm]; exact ne_cutR _
theorem cut_cut (l : Bs) : cut (cut l) = cut l := cut_id (nb_cut l) (ne_cut l)
theorem cut_front {c : UInt8} (h : blk c = true) (l : Bs) : cut (c :: l) = cut l := by
  rw [← cut_comm, cutL_cons, h, ← cut_comm]; rfl
theorem cut_back {c : UInt8} (h : blk c = true) (l : Bs) : cut (l ++ [c]) = cut l := by
  unfold cut; rw [cutR_eq, rdrop_snoc, h, cutR_eq]; rfl
theorem nb_append {a b : Bs} (h : NB a) (hne : a ≠ []) : NB (a ++ b) := fun c hc => by
  cases a with
  | nil => exact absurd rfl hne
  | cons x r => exact h c hc
theorem ne_append {a b : Bs} (h : NE b) (hne : b ≠ []) : NE (a ++ b) := fun c hc => by
  rw [List.getLast?_append] at hc
  cases hb : b.getLast? with
  | none => exact absurd (List.getLast?_eq_none_iff.1 hb) hne
  | some y =>
    rw [hb] at hc
    simp at hc
    subst hc
    exact h y hb
theorem mem_cutL {c : UInt8} {l : Bs} (h : c ∈ cutL l) : c ∈ l := by unfold cutL at h; exact (List.dropWhile_suffix _).subset h
theorem mem_rdrop {p : UInt8 → Bool} {c : UInt8} {l : Bs} (h : c ∈ rdrop p l) : c ∈ l := by
  unfold rdrop at h
  rw [List.mem_reverse] at h
  have := (List.dropWhile_suffix _).subset h
  rwa [List.mem_reverse] at this
theorem mem_cut {c : UInt8} {l : Bs} (h : c ∈ cut l) : c ∈ l := mem_rdrop (mem_cutL h)

/-! ### Words -/
def Good (ws : List Bs) : Prop := ∀ w ∈ ws, w ≠ [] ∧ ∀ c ∈ w, blk c = false
theorem wordsA_good : ∀ (l cur : Bs), (∀ c ∈ cur, blk c = false) → Good (wordsA cur l)
  | [], cur, hc => by
    unfold wordsA
    split
    · exact fun w h => by cases h
    · rename_i hn
      intro w h
      rw [List.mem_singleton] at h
      subst h
      exact ⟨by simpa using hn, hc⟩
  | x :: r, cur, hc => by
    unfold wordsA
    cases hx : blk x with
    | true =>
      simp only [if_true]
      have ih := wordsA_good r [] (fun c h => by cases h)
      split
      · exact ih
      · rename_i hn
        intro w h
        rcases List.mem_cons.1 h with rfl | h
        · exact ⟨by simpa using hn, hc⟩
        · exact ih w h
    | false =>
      simp only [Bool.false_eq_true, if_false]
      refine wordsA_good r (cur ++ [x]) (fun c h => ?_)
      rcases List.mem_append.1 h with h | h
      · exact hc c h
      · rw [List.mem_singleton] at h; subst h; exact hx
theorem words_good (l : Bs) : Good (words l) := wordsA_good l [] (fun c h => by cases h)
theorem wordsA_mem : ∀ (l cur : Bs) (w : Bs), w ∈ wordsA cur l → ∀ c ∈ w, c ∈ cur ∨ c ∈ l
  | [], cur, w, h, c, hc => by
    unfold wordsA at h
    split at h
    · cases h
    · rw [List.mem_singleton] at h; subst h; exact .inl hc
  | x :: r, cur, w, h, c, hc => by
    unfold wordsA at h
    split at h
    · split at h
      · rcases wordsA_mem r [] w h c hc with h1 | h1
        · cases h1
        · exact .inr (List.mem_cons_of_mem _ h1)
      · rcases List.mem_cons.1 h with rfl | h
        · exact .inl hc
        · rcases wordsA_mem r [] w h c hc with h1 | h1
          · cases h1
          · exact .inr (List.mem_cons_of_mem _ h1)
    · rcases wordsA_mem r (cur ++ [x]) w h c hc with h1 | h1
      · rcases List.mem_append.1 h1 with h1 | h1
        · exact .inl h1
        · rw [List.mem_singleton] at h1; subst h1; exact .inr (List.mem_cons_self ..)
      · exact .inr (List.mem_cons_of_mem _ h1)
theorem inter_two (x y : Bs) (r : List Bs) : [32].intercalate (x :: y :: r) = x ++ 32 :: [32].intercalate (y :: r) := by
  simp [List.intercalate, List.intersperse]
theorem inter_one (x : Bs) : [32].intercalate [x] = x := by simp [List.intercalate, List.intersperse]
theorem inter_nil : [32].intercalate ([] : List Bs) = [] := rfl
theorem wordsA_word (w : Bs) (cur rest : Bs) (h : ∀ c ∈ w, blk c = false) : wordsA cur (w ++ rest) = wordsA (cur ++ w) rest := by
  induction w generalizing cur with
  | nil => simp
  | cons x r ih =>
    rw [List.cons_append, wordsA, h x (List.mem_cons_self ..)]
    simp only [Bool.false_eq_true, if_false]
    rw [ih (cur ++ [x]) (fun c hc => h c (List.mem_cons_of_mem _ hc))]
    simp
theorem words_inter : ∀ ws : List Bs, Good ws → words ([32].intercalate ws) = ws
  | [], _ => rfl
  | [x], h => by
    rw [inter_one]
    have hx := h x (List.mem_cons_self ..)
    have := wordsA_word x [] [] hx.2
    rw [List.append_nil] at this
    unfold words
    rw [this, wordsA]
    simp [hx.1]
  | x :: y :: r, h => by
    rw [inter_two]
    have hx := h x (List.mem_cons_self ..)
    have ih := words_inter (y :: r) (fun w hw => h w (List.mem_cons_of_mem _ hw))
    unfold words at *
    rw [wordsA_word x [] _ hx.2, List.nil_append, wordsA]
    have hb : blk 32 = true := rfl
    have he : x.isEmpty = false := by simpa using hx.1
    rw [hb, he]
    simp only [if_true, Bool.false_eq_true, if_false]
    rw [ih]
theorem oneBlank_idem (l : Bs) : oneBlank (oneBlank l) = oneBlank l := by
  unfold oneBlank; rw [words_inter _ (words_good l)]
theorem mem_inter : ∀ (ws : List Bs) (c : UInt8), c ∈ [32].intercalate ws → c = 32 ∨ ∃ w ∈ ws, c ∈ w
  | [], c, h => by cases h
  | [x], c, h => by rw [inter_one] at h; exact .inr ⟨x, List.mem_cons_self .., h⟩
  | x :: y :: r, c, h => by
    rw [inter_two] at h
    rcases List.mem_append.1 h with h | h
    · exact .inr ⟨x, List.mem_cons_self .., h⟩
    · rcases List.mem_cons.1 h with h | h
      · exact .inl h
      · rcases mem_inter (y :: r) c h with h | ⟨w, hw, hc⟩
        · exact .inl h
        · exact .inr ⟨w, List.mem_cons_of_mem _ hw, hc⟩
theorem mem_oneBlank {c : UInt8} {l : Bs} (h : c ∈ oneBlank l) : c = 32 ∨ c ∈ l := by
  rcases mem_inter _ c h with h | ⟨w, hw, hc⟩
  · exact .inl h
  · rcases wordsA_mem l [] w hw c hc with h | h
    · cases h
    · exact .inr h
theorem inter_ne {x : Bs} {r : List Bs} (hx : x ≠ []) : [32].intercalate (x :: r) ≠ [] := by
  cases r with
  | nil => rw [inter_one]; exact hx
  | cons y z => rw [inter_two]; simp
theorem inter_nb : ∀ ws : List Bs, Good ws → NB ([32].intercalate ws)
  | [], _ => fun c h => by cases h
  | [x], h => by
    rw [inter_one]
    intro c hc
    exact (h x (List.mem_cons_self ..)).2 c (List.mem_of_mem_head? hc)
  | x :: y :: r, h => by
    rw [inter_two]
    have hx := h x (List.mem_cons_self ..)
    exact nb_append (fun c hc => hx.2 c (List.mem_of_mem_head? hc)) hx.1
theorem inter_nE : ∀ ws : List Bs, Good ws → NE ([32].intercalate ws)
  | [], _ => fun c h => by cases h
  | [x], h => by
    rw [inter_one]
    intro c hc
    exact (h x (List.mem_cons_self ..)).2 c (List.mem_of_getLast? hc)
  | x :: y :: r, h => by
    rw [inter_two]
    have ih := inter_nE (y :: r) (fun w hw => h w (List.mem_cons_of_mem _ hw))
    have hy := (h y (by simp)).1
    have : x ++ 32 :: [32].intercalate (y :: r) = (x ++ [32]) ++ [32].intercalate (y :: r) := by simp
    rw [this]
    exact ne_append ih (inter_ne hy)
theorem nb_oneBlank (l : Bs) : NB (oneBlank l) := inter_nb _ (words_good l)
theorem ne_oneBlank (l : Bs) : NE (oneBlank l) := inter_nE _ (words_good l)
theorem wordsA_cur : ∀ (l cur : Bs), cur ≠ [] → ∃ s r, wordsA cur l = (cur ++ s) :: r
  | [], cur, h => ⟨[], [], by unfold wordsA; simp [h]⟩
  | x :: t, cur, h => by
    unfold wordsA
    cases hx : blk x with
    | true =>
      have he : cur.isEmpty = false := by simpa using h
      simp only [if_true, he, Bool.false_eq_true, if_false]
      exact ⟨[], _, by simp; rfl⟩
    | false =>
      simp only [Bool.false_eq_true, if_false]
      obtain ⟨s, r, e⟩ := wordsA_cur t (cur ++ [x]) (by simp)
      exact ⟨x :: s, r, by rw [e]; simp⟩
theorem words_ne {l : Bs} (h : NB l) (hne : l ≠ []) : words l ≠ [] := by
  cases l with
  | nil => exact absurd rfl hne
  | cons x t =>
    unfold words wordsA
    rw [h x rfl]
    simp only [Bool.false_eq_true, if_false]
    obtain ⟨s, r, e⟩ := wordsA_cur t ([] ++ [x]) (by simp)
    rw [e]; simp
theorem oneBlank_ne {l : Bs} (h : NB l) (hne : l ≠ []) : oneBlank l ≠ [] := by
  unfold oneBlank
  cases hw : words l with
  | nil => exact absurd hw (words_ne h hne)
  | cons x r => exact inter_ne ((words_good l) x (by rw [hw]; simp)).1
/-- The first word of a text that begins with none: the text is that word and then nothing, or a blank. -/
theorem wordsA_first : ∀ (l cur : Bs), (∀ c ∈ cur, blk c = false) → cur ≠ [] → ∃ w r rest, wordsA cur l = w :: r ∧ cur ++ l = w ++ rest ∧ (∀ c ∈ w, blk c = false) ∧ (rest = [] ∨ ∃ c s, rest = c :: s ∧ blk c = true)
  | [], cur, hc, hne => ⟨cur, [], [], by unfold wordsA; simp [hne], by simp, hc, .inl rfl⟩
  | x :: t, cur, hc, hne => by
    unfold wordsA
    cases hx : blk x with
    | true =>
      have he : cur.isEmpty = false := by simpa using hne
      simp only [if_true, he, Bool.false_eq_true, if_false]
      exact ⟨cur, _, x :: t, rfl, rfl, hc, .inr ⟨x, t, rfl, hx⟩⟩
    | false =>
      simp only [Bool.false_eq_true, if_false]
      obtain ⟨w, r, rest, e1, e2, e3, e4⟩ := wordsA_first t (cur ++ [x]) (fun c h => by
        rcases List.mem_append.1 h with h | h
        · exact hc c h
        · rw [List.mem_singleton] at h; subst h; exact hx) (by simp)
      exact ⟨w, r, rest, e1, by rw [← e2]; simp, e3, e4⟩
theorem words_first {l : Bs} (h : NB l) (hne : l ≠ []) : ∃ w r rest, words l = w :: r ∧ l = w ++ rest ∧ (∀ c ∈ w, blk c = false) ∧ (rest = [] ∨ ∃ c s, rest = c :: s ∧ blk c = true) := by
  cases l with
  | nil => exact absurd rfl hne
  | cons x t =>
    have hx := h x rfl
    have hw : words (x :: t) = wordsA [x] t := by
      unfold words
      rw [wordsA, hx]; rfl
    rw [hw]
    exact wordsA_first t [x] (fun c hc => by rw [List.mem_singleton] at hc; subst hc; exact hx) (by simp)
/-- A word that stands at the beginning, and is over there, is the first word. -/
theorem prefix_word {p w z : Bs} (hp : ∀ c ∈ p, blk c = false) (hw : ∀ c ∈ w, blk c = false) (h1 : p.isPrefixOf (w ++ 32 :: z) = true) (h2 : match (w ++ 32 :: z).drop p.length with | [] => True | c :: _ => blk c = true) : p = w := by
  induction p generalizing w with
  | nil =>
    cases w with
    | nil => rfl
    | cons x r => simp at h2; rw [hw x (List.mem_cons_self ..)] at h2; cases h2
  | cons a p ih =>
    cases w with
    | nil =>
      simp [List.isPrefixOf] at h1
      have := hp a (List.mem_cons_self ..)
      rw [h1.1] at this; cases this
    | cons x r =>
      simp only [List.cons_append, List.isPrefixOf, Bool.and_eq_true, beq_iff_eq] at h1
      obtain ⟨rfl, h1⟩ := h1
      rw [ih (fun c hc => hp c (List.mem_cons_of_mem _ hc)) (fun c hc => hw c (List.mem_cons_of_mem _ hc)) h1 h2]
end Go.Mk
