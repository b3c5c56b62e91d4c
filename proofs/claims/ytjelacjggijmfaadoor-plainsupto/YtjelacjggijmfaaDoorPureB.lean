/-
  The shelf's words in ours: cutting at a byte, trimming, prefixes and suffixes.
-/
import Derived.Test.YtjelacjggijmfaaDoorPureL
import Derived.Test.YtjelacjggijmfaaDoorLay
namespace Go.Mk
open Go

def after (c : UInt8) (l : Bs) : Bs := (l.dropWhile (fun x => !(x == c))).drop 1
theorem index_one (c : UInt8) (l : Bs) : (l.contains c = true → Lib.index l [c] = (before c l).length) ∧ (l.contains c = false → Lib.index l [c] = -1) := by
  induction l with
  | nil => simp [Lib.index]
  | cons b r ih =>
    by_cases h : b = c
    · subst h
      simp [Lib.index, before]
    · have hn : (c == b) = false := by simpa using fun e => h e.symm
      have hb : (b == c) = false := by simpa using h
      have hp : List.isPrefixOf [c] (b :: r) = false := by simp [List.isPrefixOf, hn]
      have hc : (b :: r).contains c = r.contains c := by rw [List.contains_cons, hn, Bool.false_or]
      rw [hc]
      unfold Lib.index
      rw [hp]
      simp only [Bool.false_eq_true, if_false]
      constructor
      · intro h1
        have := ih.1 h1
        rw [this]
        have hne : (((before c r).length : Int) == -1) = false := by rw [beq_eq_false_iff_ne]; omega
        rw [hne]
        simp [before, hb]
      · intro h1
        rw [ih.2 h1]
        rfl
theorem none_of (c b : UInt8) (r : Bs) (h : (b :: r).contains c = false) : (b == c) = false ∧ r.contains c = false := by
  rw [List.contains_cons, Bool.or_eq_false_iff] at h
  refine ⟨?_, h.2⟩
  have := h.1
  rw [beq_eq_false_iff_ne] at this ⊢
  exact fun e => this e.symm
theorem before_all (c : UInt8) (l : Bs) (h : l.contains c = false) : before c l = l := by
  induction l with
  | nil => rfl
  | cons b r ih =>
    obtain ⟨hb, hr⟩ := none_of c b r h
    have := ih hr
    unfold before at this ⊢
    rw [List.takeWhile_cons, hb, this]; rfl
theorem after_none (c : UInt8) (l : Bs) (h : l.contains c = false) : after c l = [] := by
  induction l with
  | nil => rfl
  | cons b r ih =>
    obtain ⟨hb, hr⟩ := none_of c b r h
    have := ih hr
    unfold after at this ⊢
    rw [List.dropWhile_cons, hb]; exact this
def has (c : UInt8) (l : Bs) : Bool := l.contains c
theorem cut_one (c : UInt8) (l : Bs) : Lib.cut l [c] = (before c l, after c l, has c l) := by
  unfold Lib.cut has
  cases h : l.contains c with
  | true =>
    rw [(index_one c l).1 h, if_pos (by omega)]
    simp only [Int.toNat_natCast, List.length_cons, List.length_nil]
    have hl : before c l ++ l.dropWhile (fun x => !(x == c)) = l := List.takeWhile_append_dropWhile
    have h1 : l.take (before c l).length = before c l := by
      conv => lhs; arg 2; rw [← hl]
      exact List.take_left
    have h2 : l.drop ((before c l).length + (0 + 1)) = after c l := by
      rw [← List.drop_drop]
      conv => lhs; arg 2; arg 2; rw [← hl]
      rw [List.drop_left]; rfl
    rw [h1, h2]
  | false =>
    rw [(index_one c l).2 h, if_neg (by omega), before_all c l h, after_none c l h]
theorem contains_blk (c : UInt8) : [32, 9].contains c = blk c := by simp only [List.contains_cons, List.contains_nil, Bool.or_false, blk]
theorem trimS_cut (l : Bs) : Lib.trimS l [32, 9] = cut l := by
  unfold Lib.trimS Lib.trimLeftS Lib.trimRightS cut cutL cutR
  simp only [contains_blk]
theorem trimLeftS_cutL (l : Bs) : Lib.trimLeftS l [32, 9] = cutL l := by
  unfold Lib.trimLeftS cutL
  simp only [contains_blk]
theorem trimRightS_noBack (l : Bs) : Lib.trimRightS l [92] = noBack l := by
  unfold Lib.trimRightS noBack
  have : ∀ c : UInt8, [92].contains c = (c == 92) := fun c => by simp only [List.contains_cons, List.contains_nil, Bool.or_false]
  simp only [this]
theorem hasSuffix_back (l : Bs) : Lib.hasSuffix l [92] = endsBack l := by
  unfold Lib.hasSuffix endsBack
  rw [Bool.eq_iff_iff]
  simp only [List.isSuffixOf_iff_suffix, beq_iff_eq]
  constructor
  · rintro ⟨t, rfl⟩; simp
  · intro h
    obtain ⟨ys, rfl⟩ := List.getLast?_eq_some_iff.1 h
    exact ⟨ys, rfl⟩
theorem trimSuffix_back (l : Bs) (h : endsBack l = true) : Lib.trimSuffix l [92] = l.dropLast := by
  unfold Lib.trimSuffix
  rw [hasSuffix_back, if_pos h, List.dropLast_eq_take]; rfl
end Go.Mk
