/-
  The plain form of a line is a line of the same kind, and its own plain form.
-/
import Derived.Test.YtjelacjggijmfaaDoorPureI
namespace Go.Mk

theorem endsBack_snoc (l : Bs) (c : UInt8) : endsBack (l ++ [c]) = (c == 92) := by
  unfold endsBack
  rw [List.getLast?_append]
  simp
theorem endsBack_closed (l : Bs) : endsBack (closed l) = false := by
  unfold closed
  cases h : endsBack l with
  | true => simp only [if_true]; rw [endsBack_snoc]; rfl
  | false => simpa using h
theorem closed_cases (l : Bs) : (endsBack l = false ∧ closed l = l) ∨ (endsBack l = true ∧ closed l = l ++ [32]) := by
  unfold closed
  cases h : endsBack l with
  | true => exact .inr ⟨rfl, rfl⟩
  | false => exact .inl ⟨rfl, rfl⟩
theorem mem_closed {c : UInt8} {l : Bs} (h : c ∈ closed l) : c = 32 ∨ c ∈ l := by
  rcases closed_cases l with ⟨_, e⟩ | ⟨_, e⟩
  · rw [e] at h; exact .inr h
  · rw [e] at h
    rcases List.mem_append.1 h with h | h
    · exact .inr h
    · rw [List.mem_singleton] at h; exact .inl h
theorem cut_closed (l : Bs) : cut (closed l) = cut l := by
  rcases closed_cases l with ⟨_, e⟩ | ⟨_, e⟩
  · rw [e]
  · rw [e]; exact cut_back rfl l
theorem before_none {c : UInt8} {l : Bs} (h : c ∉ l) : before c l = l := before_all c l (by simpa using h)
theorem takeWhile_all (p : UInt8 → Bool) : ∀ (l : Bs) (c : UInt8), c ∈ l.takeWhile p → p c = true
  | [], c, h => by cases h
  | x :: r, c, h => by
    rw [List.takeWhile_cons] at h
    cases hx : p x with
    | true =>
      rw [hx] at h
      simp only [if_true] at h
      rcases List.mem_cons.1 h with rfl | h
      · exact hx
      · exact takeWhile_all p r c h
    | false => rw [hx] at h; cases h
theorem before_not (c : UInt8) (l : Bs) : c ∉ before c l := by
  unfold before
  intro h
  have := takeWhile_all _ _ _ h
  simp at this
theorem incl_no : ∀ c ∈ incl, blk c = false ∧ c ≠ 10 ∧ c ≠ 35 := by decide
set_option maxRecDepth 100000 in
theorem letter_no (c : UInt8) (h : letter c = true) : blk c = false ∧ c ≠ 10 ∧ c ≠ 35 ∧ noSign c = true := by
  have : ∀ i : Fin 256, letter (UInt8.ofNat i.val) = true → blk (UInt8.ofNat i.val) = false ∧ UInt8.ofNat i.val ≠ 10 ∧ UInt8.ofNat i.val ≠ 35 ∧ noSign (UInt8.ofNat i.val) = true := by decide
  have h2 := this ⟨c.toNat, c.toNat_lt⟩
  simp only [UInt8.ofNat_toNat] at h2
  exact h2 h

/-- What a line is that is neither a command nor nothing. -/
theorem parse_plain {o T : Bs} (h3 : T ≠ []) (h4 : 35 ∉ o) (h5 : cut o = T) (h6 : List.isPrefixOf [9] o = false) :
    parse o = if isIncl T then parseIncl (cut (T.drop 7)) else parseSides T := by
  unfold parse
  rw [h6, before_none h4, h5]
  have : T.isEmpty = false := by simpa using h3
  rw [this]; rfl
theorem tab_no {l : Bs} (h : NB l) : List.isPrefixOf [9] l = false := by
  cases l with
  | nil => rfl
  | cons c r =>
    have := h c rfl
    simp only [List.isPrefixOf, Bool.and_eq_false_imp, beq_iff_eq]
    intro e
    subst e; cases this
theorem nb_closed {l : Bs} (h : NB l) (hne : l ≠ []) : NB (closed l) := by
  rcases closed_cases l with ⟨_, e⟩ | ⟨_, e⟩
  · rw [e]; exact h
  · rw [e]; exact nb_append h hne

/-- The plain form of a command. -/
theorem again_cmd (r : Bs) (h1 : NB r) (h2 : r ≠ []) : ∃ r', parse (closed ([9] ++ r)) = (⟨0, 1, [], r'⟩, 0) ∧ closed ([9] ++ r') = closed ([9] ++ r) := by
  obtain ⟨r', hr', hnb, hne⟩ : ∃ r', closed ([9] ++ r) = [9] ++ r' ∧ NB r' ∧ r' ≠ [] := by
    rcases closed_cases ([9] ++ r) with ⟨_, e⟩ | ⟨_, e⟩
    · exact ⟨r, e, h1, h2⟩
    · exact ⟨r ++ [32], by rw [e]; simp, nb_append h1 h2, by simp⟩
  refine ⟨r', ?_, ?_⟩
  · rw [hr']
    unfold parse parseCmd
    have hc : cutL ([9] ++ r') = r' := by
      show cutL (9 :: r') = r'
      rw [cutL_cons]; exact cutL_id hnb
    have he : r'.isEmpty = false := by simpa using hne
    rw [hc, he]; rfl
  · have : endsBack ([9] ++ r') = false := by rw [← hr']; exact endsBack_closed _
    rw [hr']
    unfold closed
    rw [this]; rfl
/-- The plain form of an include. -/
theorem again_incl (b : Bs) (h1 : NB b) (h2 : b ≠ []) (h3 : 35 ∉ b) : parse (closed (incl ++ [32] ++ oneBlank b)) = (⟨0, 2, [], oneBlank b⟩, 0) := by
  have hq := oneBlank_ne h1 h2
  have hnb : NB (incl ++ [32] ++ oneBlank b) := by
    rw [List.append_assoc]; exact nb_append (by intro c hc; cases hc; rfl) (by simp [incl])
  have hne : NE (incl ++ [32] ++ oneBlank b) := ne_append (ne_oneBlank b) hq
  have hnn : incl ++ [32] ++ oneBlank b ≠ [] := by simp [incl]
  have h35 : 35 ∉ closed (incl ++ [32] ++ oneBlank b) := by
    intro h
    rcases mem_closed h with h | h
    · cases h
    · rcases List.mem_append.1 h with h | h
      · revert h; decide
      · rcases mem_oneBlank h with h | h
        · cases h
        · exact h3 h
  rw [parse_plain hnn h35 (by rw [cut_closed]; exact cut_id hnb hne) (tab_no (nb_closed hnb hnn))]
  have hd : (incl ++ [32] ++ oneBlank b).drop 7 = 32 :: oneBlank b := rfl
  have hi : isIncl (incl ++ [32] ++ oneBlank b) = true := by
    unfold isIncl
    rw [hd]
    have : incl.isPrefixOf (incl ++ [32] ++ oneBlank b) = true := by rw [List.isPrefixOf_iff_prefix]; exact ⟨[32] ++ oneBlank b, by simp⟩
    rw [this]; rfl
  rw [hi, hd, cut_front rfl, cut_id (nb_oneBlank b) (ne_oneBlank b)]
  unfold parseIncl
  have : (oneBlank b).isEmpty = false := by simpa using hq
  simp [this]

/-- Two sides with a sign between, read again. -/
theorem again_sides (L sg R : Bs) (k : Nat) (hL1 : NB L) (hL2 : NE L) (hL3 : L ≠ []) (hR1 : NB R) (hR2 : NE R) (hLs : ∀ c ∈ L, noSign c = true ∧ c ≠ 35) (hRh : 35 ∉ R)
    (hk : ∀ z, (z = [] ∨ ∃ y, z = 32 :: y) → kindOf (sg ++ z) = (k, z)) (hsg : ∃ s0 s1, sg = s0 :: s1 ∧ noSign s0 = false) (hsl : ∀ c ∈ sg, blk c = false ∧ c ≠ 35) (hm : mayStand k L = true)
    (hi : ∀ z, isIncl (L ++ 32 :: z) = false) :
    parse (closed (sides L sg R)) = (⟨0, k, L, R⟩, 0) := by
  obtain ⟨z, hz, hzs, hzc, hzn, hzh⟩ : ∃ z, sides L sg R = L ++ 32 :: (sg ++ z) ∧ (z = [] ∨ ∃ y, z = 32 :: y) ∧ cut z = R ∧ NE (sg ++ z) ∧ 35 ∉ z := by
    unfold sides
    obtain ⟨s0, s1, rfl, _⟩ := hsg
    cases R with
    | nil => exact ⟨[], by simp, .inl rfl, rfl, by rw [List.append_nil]; exact fun c hc => (hsl c (List.mem_of_getLast? hc)).1, by simp⟩
    | cons a r =>
      refine ⟨32 :: (a :: r), by simp, .inr ⟨_, rfl⟩, ?_, ?_, ?_⟩
      · rw [cut_front rfl]; exact cut_id hR1 hR2
      · have : (s0 :: s1) ++ 32 :: (a :: r) = ((s0 :: s1) ++ [32]) ++ (a :: r) := by simp
        rw [this]; exact ne_append hR2 (by simp)
      · intro h; rcases List.mem_cons.1 h with h | h
        · cases h
        · exact hRh h
  have hsgne : sg ++ z ≠ [] := by obtain ⟨s0, s1, rfl, _⟩ := hsg; simp
  rw [hz]
  have hnb : NB (L ++ 32 :: (sg ++ z)) := nb_append hL1 hL3
  have hne : NE (L ++ 32 :: (sg ++ z)) := by
    have : L ++ 32 :: (sg ++ z) = (L ++ [32]) ++ (sg ++ z) := by simp
    rw [this]; exact ne_append hzn hsgne
  have hnn : L ++ 32 :: (sg ++ z) ≠ [] := by simp
  have h35 : 35 ∉ closed (L ++ 32 :: (sg ++ z)) := by
    intro h
    rcases mem_closed h with h | h
    · cases h
    · rcases List.mem_append.1 h with h | h
      · exact (hLs _ h).2 rfl
      · rcases List.mem_cons.1 h with h | h
        · cases h
        · rcases List.mem_append.1 h with h | h
          · exact (hsl _ h).2 rfl
          · exact hzh h
  rw [parse_plain hnn h35 (by rw [cut_closed]; exact cut_id hnb hne) (tab_no (nb_closed hnb hnn)), hi]
  simp only [Bool.false_eq_true, if_false]
  have hsp : ∀ (l : Bs) (rest : Bs), (∀ c ∈ l, noSign c = true) → (∃ s0 s1, rest = s0 :: s1 ∧ noSign s0 = false) → (l ++ rest).takeWhile noSign = l ∧ (l ++ rest).dropWhile noSign = rest := by
    intro l rest hl hr
    obtain ⟨s0, s1, rfl, hs⟩ := hr
    constructor
    · rw [List.takeWhile_append_of_pos (fun c hc => hl c hc), List.takeWhile_cons, hs]; simp
    · rw [List.dropWhile_append_of_pos (fun c hc => hl c hc), List.dropWhile_cons, hs]; rfl
  have hrest : ∃ s0 s1, sg ++ z = s0 :: s1 ∧ noSign s0 = false := by obtain ⟨s0, s1, rfl, hs⟩ := hsg; exact ⟨s0, s1 ++ z, by simp, hs⟩
  have hl2 : ∀ c ∈ L ++ [32], noSign c = true := by
    intro c hc
    rcases List.mem_append.1 hc with hc | hc
    · exact (hLs c hc).1
    · rw [List.mem_singleton] at hc; subst hc; rfl
  obtain ⟨t1, t2⟩ := hsp (L ++ [32]) (sg ++ z) hl2 hrest
  have e1 : L ++ [32] ++ (sg ++ z) = L ++ 32 :: (sg ++ z) := by simp
  rw [e1] at t1 t2
  unfold parseSides
  rw [t1, t2, hk z hzs, cut_back rfl, cut_id hL1 hL2]
  have he : (sg ++ z).isEmpty = false := by simpa using hsgne
  rw [he]
  simp only [Bool.false_eq_true, if_false, hm, if_true, hzc]

theorem mem_sides {c : UInt8} {a b d : Bs} (h : c ∈ sides a b d) : c ∈ a ∨ c ∈ b ∨ c ∈ d ∨ c = 32 := by
  unfold sides at h
  split at h
  · simp only [List.mem_append, List.mem_singleton] at h
    rcases h with (h | h) | h
    · exact .inl h
    · exact .inr (.inr (.inr h))
    · exact .inr (.inl h)
  · simp only [List.mem_append, List.mem_singleton] at h
    rcases h with (((h | h) | h) | h) | h
    · exact .inl h
    · exact .inr (.inr (.inr h))
    · exact .inr (.inl h)
    · exact .inr (.inr (.inr h))
    · exact .inr (.inr (.inl h))
theorem isIncl_word {w z : Bs} (hw : ∀ c ∈ w, blk c = false) (h : isIncl (w ++ 32 :: z) = true) : incl = w := by
  unfold isIncl at h
  rw [Bool.and_eq_true] at h
  refine prefix_word (fun c hc => (incl_no c hc).1) hw h.1 ?_
  have h2 := h.2
  have : incl.length = 7 := rfl
  rw [this]
  cases hd : (w ++ 32 :: z).drop 7 with
  | nil => trivial
  | cons a r => rw [hd] at h2; exact h2
theorem isIncl_of {rest : Bs} (h : rest = [] ∨ ∃ c s, rest = c :: s ∧ blk c = true) : isIncl (incl ++ rest) = true := by
  unfold isIncl
  have hp : incl.isPrefixOf (incl ++ rest) = true := by rw [List.isPrefixOf_iff_prefix]; exact ⟨rest, rfl⟩
  have hd : (incl ++ rest).drop 7 = rest := rfl
  rw [hp, hd]
  rcases h with rfl | ⟨c, s, rfl, hc⟩
  · rfl
  · simpa using hc
theorem dropWhile_head (p : UInt8 → Bool) : ∀ (l : Bs) (c : UInt8), (l.dropWhile p).head? = some c → p c = false
  | [], c, h => by cases h
  | x :: r, c, h => by
    rw [List.dropWhile_cons] at h
    cases hx : p x with
    | true => rw [hx] at h; exact dropWhile_head p r c h
    | false => rw [hx] at h; simp at h; subst h; exact hx
theorem rdrop_split (p : UInt8 → Bool) : ∀ l : Bs, ∃ b, l = rdrop p l ++ b ∧ ∀ c ∈ b, p c = true
  | [] => ⟨[], rfl, fun c h => by cases h⟩
  | x :: r => by
    obtain ⟨b, h1, h2⟩ := rdrop_split p r
    rw [rdrop_cons]
    cases hc : (rdrop p r).isEmpty && p x with
    | true =>
      rw [Bool.and_eq_true] at hc
      have he : rdrop p r = [] := by simpa using hc.1
      rw [he] at h1
      refine ⟨x :: r, by simp, fun c h => ?_⟩
      rcases List.mem_cons.1 h with rfl | h
      · exact hc.2
      · rw [h1] at h; exact h2 c (by simpa using h)
    | false => exact ⟨b, by simp only [Bool.false_eq_true, if_false, List.cons_append]; rw [← h1], h2⟩
/-- The plain form of a line that counts for something. -/
theorem again {w : Bs} {l : Ln} (h10 : 10 ∉ w) (hp : parse w = (l, 0)) (hk : l.kind ≠ 0) :
    ∃ l', parse (closed (written l)) = (l', 0) ∧ l'.kind = l.kind ∧ closed (written l') = closed (written l) ∧ 10 ∉ closed (written l) := by
  have no10 : ∀ x : Bs, 10 ∉ x → 10 ∉ closed x := fun x hx h => by
    rcases mem_closed h with h | h
    · cases h
    · exact hx h
  unfold parse at hp
  split at hp
  · -- a command
    unfold parseCmd at hp
    split at hp
    · cases hp; exact absurd rfl hk
    · rename_i hne
      cases hp
      have hne' : cutL w ≠ [] := by simpa using hne
      obtain ⟨r', h1, h2⟩ := again_cmd (cutL w) (nb_cutL w) hne'
      refine ⟨_, h1, rfl, h2, no10 _ ?_⟩
      intro h
      rcases List.mem_append.1 h with h | h
      · revert h; decide
      · exact h10 (mem_cutL h)
  · have hT35 : 35 ∉ cut (before 35 w) := fun h => before_not 35 w (mem_cut h)
    have hT10 : 10 ∉ cut (before 35 w) := fun h => h10 (by have := mem_cut h; unfold before at this; exact (List.takeWhile_prefix _).subset this)
    have hTb := nb_cut (before 35 w)
    have hTe := ne_cut (before 35 w)
    generalize cut (before 35 w) = T at *
    split at hp
    · cases hp; exact absurd rfl hk
    · split at hp
      · -- an include
        unfold parseIncl at hp
        split at hp
        · cases hp
        · rename_i hne
          cases hp
          have hne' : cut (T.drop 7) ≠ [] := by simpa using hne
          have hsub : ∀ c, c ∈ cut (T.drop 7) → c ∈ T := fun c h => List.mem_of_mem_drop (mem_cut h)
          have h1 := again_incl (cut (T.drop 7)) (nb_cut _) hne' (fun h => hT35 (hsub _ h))
          refine ⟨_, h1, rfl, ?_, no10 _ ?_⟩
          · show closed (incl ++ [32] ++ oneBlank (oneBlank _)) = closed (incl ++ [32] ++ oneBlank _)
            rw [oneBlank_idem]
          · intro h
            rcases List.mem_append.1 h with h | h
            · revert h; decide
            · rcases mem_oneBlank h with h | h
              · cases h
              · exact hT10 (hsub _ h)
      · rename_i hni
        unfold parseSides at hp
        split at hp
        · cases hp
        · rename_i hdne
          split at hp
          · rename_i hm
            cases hp
            have hPsub : ∀ c, c ∈ cut (T.takeWhile noSign) → c ∈ T ∧ noSign c = true := fun c h => ⟨(List.takeWhile_prefix _).subset (mem_cut h), takeWhile_all _ _ _ (mem_cut h)⟩
            have hKsub : ∀ c, c ∈ cut (kindOf (T.dropWhile noSign)).2 → c ∈ T := fun c h => by
              have h1 := mem_cut h
              have h2 : ∀ (x : Bs) (c : UInt8), c ∈ (kindOf x).2 → c ∈ x := by
                intro x c hc
                unfold kindOf at hc
                split at hc
                · exact List.mem_cons_of_mem _ (List.mem_cons_of_mem _ hc)
                · exact List.mem_cons_of_mem _ hc
                · exact List.mem_of_mem_tail hc
              exact (List.dropWhile_suffix _).subset (h2 _ _ h1)
            have hkc : (kindOf (T.dropWhile noSign)).1 = 3 ∨ (kindOf (T.dropWhile noSign)).1 = 4 ∨ (kindOf (T.dropWhile noSign)).1 = 5 := by unfold kindOf; split <;> simp
            have hLb := nb_cut (T.takeWhile noSign)
            have hLe := ne_cut (T.takeWhile noSign)
            have hRb := nb_cut (kindOf (T.dropWhile noSign)).2
            have hRe := ne_cut (kindOf (T.dropWhile noSign)).2
            have hLT : cut (T.takeWhile noSign) ≠ [] → ∃ rest, T = cut (T.takeWhile noSign) ++ rest ∧ (rest = [] ∨ ∃ c s, rest = c :: s ∧ (blk c = true ∨ noSign c = false)) := by
              intro hne
              have hsp := List.takeWhile_append_dropWhile (p := noSign) (l := T)
              have hdd : ∀ c, (T.dropWhile noSign).head? = some c → noSign c = false := dropWhile_head noSign T
              generalize T.takeWhile noSign = P at *
              generalize T.dropWhile noSign = Q at *
              have hPn : P ≠ [] := by intro e; subst e; exact hne rfl
              have hPb : NB P := by
                intro c hc
                apply hTb c
                rw [← hsp]
                cases P with
                | nil => exact absurd rfl hPn
                | cons a r => exact hc
              obtain ⟨b, hb1, hb2⟩ := rdrop_split blk P
              have hcut : cut P = rdrop blk P := by rw [← cut_comm, cutL_id hPb]; rfl
              rw [hcut]
              refine ⟨b ++ Q, by rw [← List.append_assoc, ← hb1, hsp], ?_⟩
              cases b with
              | cons a r => exact .inr ⟨a, r ++ Q, rfl, .inl (hb2 a (List.mem_cons_self ..))⟩
              | nil =>
                cases Q with
                | nil => exact .inl rfl
                | cons a r => exact .inr ⟨a, r, rfl, .inr (hdd a rfl)⟩
            generalize (kindOf (T.dropWhile noSign)).1 = k at *
            generalize cut (kindOf (T.dropWhile noSign)).2 = R at *
            generalize cut (T.takeWhile noSign) = L at *
            have hLi : L ≠ incl := by
              intro e
              unfold mayStand at hm
              rw [e] at hm
              simp at hm
            have hns : ∀ c ∈ L, noSign c = true ∧ c ≠ 35 := fun c hc => ⟨(hPsub c hc).2, fun e => by subst e; exact hT35 (hPsub _ hc).1⟩
            have hR35 : 35 ∉ R := fun h => hT35 (hKsub _ h)
            have hname : k ≠ 5 → isName L = true := by
              intro h5
              unfold mayStand at hm
              have e1 : (L == incl) = false := by simpa using hLi
              have e2 : (k == 5) = false := by simpa using h5
              rw [e1, e2] at hm
              simpa using hm
            have hnm : isName L = true → L ≠ [] ∧ ∀ c ∈ L, blk c = false := by
              intro h
              unfold isName at h
              simp only [Bool.and_eq_true, List.all_eq_true] at h
              exact ⟨by simpa using h.1.1, fun c hc => (letter_no c (h.2 c hc)).1⟩
            have h10s : ∀ (a sg b : Bs), (∀ c ∈ a, c = 32 ∨ c ∈ L) → 10 ∉ sg → (∀ c ∈ b, c = 32 ∨ c ∈ R) → 10 ∉ closed (sides a sg b) := by
              intro a sg b ha hs hb
              refine no10 _ (fun h => ?_)
              rcases mem_sides h with h | h | h | h
              · rcases ha _ h with h | h
                · cases h
                · exact hT10 (hPsub _ h).1
              · exact hs h
              · rcases hb _ h with h | h
                · cases h
                · exact hT10 (hKsub _ h)
              · cases h
            rcases hkc with rfl | rfl | rfl
            · obtain ⟨hn1, hn2⟩ := hnm (hname (by decide))
              refine ⟨_, again_sides L [58, 61] R 3 hLb hLe hn1 hRb hRe hns hR35 (fun z _ => rfl) ⟨58, [61], rfl, rfl⟩ (by decide) hm (fun z => ?_), rfl, rfl, h10s L _ R (fun c h => .inr h) (by decide) (fun c h => .inr h)⟩
              cases h : isIncl (L ++ 32 :: z) with
              | false => rfl
              | true => exact absurd (isIncl_word hn2 h).symm hLi
            · obtain ⟨hn1, hn2⟩ := hnm (hname (by decide))
              refine ⟨_, again_sides L [61] R 4 hLb hLe hn1 hRb hRe hns hR35 (fun z _ => rfl) ⟨61, [], rfl, rfl⟩ (by decide) hm (fun z => ?_), rfl, rfl, h10s L _ R (fun c h => .inr h) (by decide) (fun c h => .inr h)⟩
              cases h : isIncl (L ++ 32 :: z) with
              | false => rfl
              | true => exact absurd (isIncl_word hn2 h).symm hLi
            · have hLn : L ≠ [] := by
                intro e
                subst e
                unfold mayStand at hm
                simp at hm
              obtain ⟨fw, fr, frest, w1, w2, w3, w4⟩ := words_first hLb hLn
              have hfw : incl ≠ fw := by
                intro e
                subst e
                rcases w4 with rfl | ⟨c, s, rfl, hc⟩
                · rw [List.append_nil] at w2; exact hLi w2
                · obtain ⟨rest, hT, _⟩ := hLT hLn
                  have : isIncl T = true := by
                    rw [hT, w2, List.append_assoc]
                    exact isIncl_of (.inr ⟨c, s ++ rest, rfl, hc⟩)
                  exact hni this
              have hob : ∃ y, oneBlank L = fw ++ y ∧ (y = [] ∨ ∃ v, y = 32 :: v) := by
                unfold oneBlank
                rw [w1]
                cases fr with
                | nil => exact ⟨[], by rw [inter_one]; simp, .inl rfl⟩
                | cons a r => exact ⟨_, inter_two fw a r, .inr ⟨_, rfl⟩⟩
              obtain ⟨y, hy1, hy2⟩ := hob
              have hoi : ∀ z, isIncl (oneBlank L ++ 32 :: z) = false := by
                intro z
                cases h : isIncl (oneBlank L ++ 32 :: z) with
                | false => rfl
                | true =>
                  rw [hy1] at h
                  rcases hy2 with rfl | ⟨v, rfl⟩
                  · rw [List.append_nil] at h; exact absurd (isIncl_word w3 h) hfw
                  · rw [List.append_assoc, List.cons_append] at h; exact absurd (isIncl_word w3 h) hfw
              have hom : mayStand 5 (oneBlank L) = true := by
                unfold mayStand
                have e1 : (oneBlank L == incl) = false := by
                  rw [beq_eq_false_iff_ne]
                  intro e
                  have h2 := hoi []
                  rw [e] at h2
                  have := isIncl_of (rest := [32]) (.inr ⟨32, [], rfl, rfl⟩)
                  rw [this] at h2; cases h2
                have e2 : (oneBlank L).isEmpty = false := by simpa using oneBlank_ne hLb hLn
                rw [e1, e2]; rfl
              have hkz : ∀ z : Bs, (z = [] ∨ ∃ y, z = 32 :: y) → kindOf ([58] ++ z) = (5, z) := by
                rintro z (rfl | ⟨y, rfl⟩) <;> rfl
              have hobs : ∀ c ∈ oneBlank L, noSign c = true ∧ c ≠ 35 := by
                intro c hc
                rcases mem_oneBlank hc with rfl | h
                · exact ⟨rfl, by decide⟩
                · exact hns c h
              have hob35 : 35 ∉ oneBlank R := fun h => by
                rcases mem_oneBlank h with h | h
                · cases h
                · exact hR35 h
              refine ⟨_, again_sides (oneBlank L) [58] (oneBlank R) 5 (nb_oneBlank L) (ne_oneBlank L) (oneBlank_ne hLb hLn) (nb_oneBlank R) (ne_oneBlank R) hobs hob35 hkz ⟨58, [], rfl, rfl⟩ (by decide) hom hoi, rfl, ?_, h10s _ _ _ (fun c h => mem_oneBlank h) (by decide) (fun c h => mem_oneBlank h)⟩
              show closed (sides (oneBlank (oneBlank L)) [58] (oneBlank (oneBlank R))) = closed (sides (oneBlank L) [58] (oneBlank R))
              rw [oneBlank_idem, oneBlank_idem]
          · cases hp
end Go.Mk
