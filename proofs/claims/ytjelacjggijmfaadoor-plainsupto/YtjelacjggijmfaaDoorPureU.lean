/-
  Words by runes are words by bytes, where only ASCII bytes part them; no sign of ASCII stands within a rune of several bytes.
-/
import Derived.Test.YtjelacjggijmfaaDoorPureB
import Derived.Lib.SpaceUEq
import Derived.Lib.FieldsP
import Derived.Laws.RangeAny
namespace Go.Mk
open Go

theorem get_some (s : ByteArray) (i : Nat) (h : i < s.size) : s.data.toList[i]? = some (s.get! i) := by
  have hl : i < s.data.toList.length := by rw [← Lib.size_eq]; exact h
  rw [List.getElem?_eq_getElem hl]
  congr 1
  have := get_at s i h
  rw [Nat.add_zero] at this
  rw [this]; rfl
theorem getElem_get (s : ByteArray) (i : Nat) (h : i < s.size) : s.get! i = s[i]'h := by
  have := get_at s i h
  rwa [Nat.add_zero] at this

/-- The bytes of a rune that is no ASCII are there, and none of them is ASCII. -/
theorem high_bytes (s : ByteArray) (pos : Nat) (h : pos < s.size) (hb : 128 ≤ (s[pos]'h).toNat) (j : Nat) (hj : j < (Utf8.decode s pos).2) :
    pos + j < s.size ∧ 128 ≤ (s.get! (pos + j)).toNat := by
  have hc := Lib.decodeN_conts (s.size - pos) (s.get! pos).toNat (s.get! (pos + 1)).toNat (s.get! (pos + 2)).toNat (s.get! (pos + 3)).toNat
  rw [Lib.decode_at] at hj
  obtain ⟨h1, h2, h3, h4⟩ := hc
  rcases (by omega : j = 0 ∨ j = 1 ∨ j = 2 ∨ j = 3) with rfl | rfl | rfl | rfl
  · rw [Nat.add_zero, getElem_get s pos h]; exact ⟨h, hb⟩
  · have := h1 (by omega); exact ⟨by omega, by omega⟩
  · have := h2 (by omega); exact ⟨by omega, by omega⟩
  · have := h3 (by omega); exact ⟨by omega, by omega⟩

def blkN (n : Nat) : Bool := n == 32 || n == 9
theorem blkN_byte (c : UInt8) : blkN c.toNat = blk c := by
  rw [Bool.eq_iff_iff]; simp [blkN, blk, ← UInt8.toNat_inj]
theorem blk_high (c : UInt8) (h : 128 ≤ c.toNat) : blk c = false := by
  rw [← blkN_byte]; simp [blkN]; omega
theorem wordsA_skip : ∀ (r cur rest : Bs), (∀ c ∈ r, blk c = false) → wordsA cur (r ++ rest) = wordsA (cur ++ r) rest
  | [], cur, rest, _ => by simp
  | c :: r, cur, rest, h => by
    have hc := h c (List.mem_cons_self ..)
    rw [List.cons_append, wordsA, hc]
    simp only [Bool.false_eq_true, if_false]
    rw [wordsA_skip r (cur ++ [c]) rest (fun x hx => h x (List.mem_cons_of_mem _ hx))]
    simp
theorem drop_take_high (s : ByteArray) (pos : Nat) (h : pos < s.size) (hb : 128 ≤ (s[pos]'h).toNat) :
    ∀ c ∈ (s.data.toList.drop pos).take (Utf8.decode s pos).2, blk c = false := by
  intro c hc
  obtain ⟨j, hj, rfl⟩ := List.mem_iff_getElem.1 hc
  have hj2 : j < (Utf8.decode s pos).2 := by rw [List.length_take] at hj; omega
  obtain ⟨h1, h2⟩ := high_bytes s pos h hb j hj2
  have h3 := get_some s (pos + j) h1
  refine blk_high _ ?_
  have h4 : ((s.data.toList.drop pos).take (Utf8.decode s pos).2)[j]? = some (s.get! (pos + j)) := by
    rw [List.getElem?_take, if_pos hj2, List.getElem?_drop, h3]
  rw [List.getElem?_eq_getElem hj] at h4
  rw [Option.some.inj h4]; exact h2

def curOf (l : Bs) (pos : Nat) : Option Nat → Bs
  | none => []
  | some a => (l.drop a).take (pos - a)
theorem spans_words (s : ByteArray) : ∀ (f pos : Nat) (st : Option Nat) (acc : List (Nat × Nat)), s.size ≤ pos + f → pos ≤ s.size → (∀ a, st = some a → a < pos) →
    (Lib.closeSpans s (Lib.spansFromP blkN s f pos st acc)).map (fun x => (s.extract x.1 x.2).data.toList) =
      acc.map (fun x => (s.extract x.1 x.2).data.toList) ++ wordsA (curOf s.data.toList pos st) (s.data.toList.drop pos) := by
  have hsz := Lib.size_eq s
  have hend : ∀ (f pos : Nat) (st : Option Nat) (acc : List (Nat × Nat)), ¬ pos < s.size → pos ≤ s.size → (∀ a, st = some a → a < pos) →
    (Lib.closeSpans s (Lib.spansFromP blkN s f pos st acc)).map (fun x => (s.extract x.1 x.2).data.toList) =
      acc.map (fun x => (s.extract x.1 x.2).data.toList) ++ wordsA (curOf s.data.toList pos st) (s.data.toList.drop pos) := by
    intro f pos st acc hp hle hst
    rw [Lib.spansFromP_end _ _ _ _ _ _ hp]
    have hd : s.data.toList.drop pos = [] := List.drop_eq_nil_of_le (by omega)
    rw [hd]
    have hpe : pos = s.size := by omega
    cases st with
    | none => simp [Lib.closeSpans, curOf, wordsA]
    | some a =>
      have ha := hst a rfl
      have hne : ((s.data.toList.drop a).take (pos - a)).isEmpty = false := by
        rw [List.isEmpty_eq_false_iff]
        intro h0
        have := congrArg List.length h0
        rw [List.length_take, List.length_drop, List.length_nil] at this
        omega
      simp only [Lib.closeSpans, List.map_append, List.map_cons, List.map_nil, curOf, wordsA, hne]
      rw [Lib.extract_data, hpe]
      simp
  intro f
  induction f with
  | zero => exact fun pos st acc h hle hst => hend 0 pos st acc (by omega) hle hst
  | succ f ih =>
    intro pos st acc h hle hst
    by_cases hp : pos < s.size
    · have hdp : s.data.toList.drop pos = (s[pos]'hp) :: s.data.toList.drop (pos + 1) := List.drop_eq_getElem_cons (by rw [← hsz]; exact hp)
      unfold Lib.spansFromP
      rw [if_pos hp]
      by_cases hlow : (s[pos]'hp).toNat < 128
      · rw [decode_ascii s pos hp hlow]
        simp only
        rw [blkN_byte]
        cases hb : blk (s[pos]'hp) with
        | true =>
          rw [hdp, wordsA, hb]
          simp only [if_true]
          cases st with
          | none =>
            simp only
            rw [ih (pos + 1) none acc (by omega) (by omega) (by simp)]
            simp [curOf]
          | some a =>
            have ha := hst a rfl
            have hne : ((s.data.toList.drop a).take (pos - a)).isEmpty = false := by
              rw [List.isEmpty_eq_false_iff]
              intro h0
              have := congrArg List.length h0
              rw [List.length_take, List.length_drop, List.length_nil] at this
              omega
            simp only
            rw [ih (pos + 1) none (acc ++ [(a, pos)]) (by omega) (by omega) (by simp)]
            simp only [List.map_append, List.map_cons, List.map_nil, curOf, hne]
            rw [Lib.extract_data]
            simp
        | false =>
          rw [hdp, wordsA, hb]
          simp only [Bool.false_eq_true, if_false]
          cases st with
          | none =>
            simp only
            rw [ih (pos + 1) (some pos) acc (by omega) (by omega) (by simp)]
            simp only [curOf, List.nil_append]
            rw [hdp, show pos + 1 - pos = 1 from by omega]
            rfl
          | some a =>
            have ha := hst a rfl
            simp only
            rw [ih (pos + 1) (some a) acc (by omega) (by omega) (by intro b hb'; cases hb'; omega)]
            simp only [curOf]
            congr 2
            rw [show pos + 1 - a = (pos - a) + 1 from by omega, List.take_succ_eq_append_getElem (by rw [List.length_drop]; omega)]
            congr 2
            rw [List.getElem_drop]
            show (s.data.toList[a + (pos - a)]'_) = s.data.toList[pos]'_
            congr 1
            omega
      · have hb : 128 ≤ (s[pos]'hp).toNat := by omega
        have hhi := (decode_high s pos hp hb).1
        have hw := (decode_high s pos hp hb).2
        have hbn : blkN (Utf8.decode s pos).1 = false := by simp [blkN]; omega
        have hlast := (high_bytes s pos hp hb ((Utf8.decode s pos).2 - 1) (by omega)).1
        have hle2 : pos + (Utf8.decode s pos).2 ≤ s.size := by omega
        have hskip := wordsA_skip ((s.data.toList.drop pos).take (Utf8.decode s pos).2) (curOf s.data.toList pos st) (s.data.toList.drop (pos + (Utf8.decode s pos).2)) (drop_take_high s pos hp hb)
        rw [← List.drop_drop, List.take_append_drop] at hskip
        rw [hbn, hskip, List.drop_drop]
        simp only [Bool.false_eq_true, if_false]
        cases st with
        | none =>
          simp only
          rw [ih (pos + (Utf8.decode s pos).2) (some pos) acc (by omega) hle2 (by intro b hb'; cases hb'; omega)]
          simp only [curOf, List.nil_append]
          rw [show pos + (Utf8.decode s pos).2 - pos = (Utf8.decode s pos).2 from by omega]
        | some a =>
          have ha := hst a rfl
          simp only
          rw [ih (pos + (Utf8.decode s pos).2) (some a) acc (by omega) hle2 (by intro b hb'; cases hb'; omega)]
          simp only [curOf]
          congr 2
          rw [show pos + (Utf8.decode s pos).2 - a = (pos - a) + (Utf8.decode s pos).2 from by omega, List.take_add, List.drop_drop, show a + (pos - a) = pos from by omega]
    · exact hend (f + 1) pos st acc hp hle hst
theorem goFields_words (s : ByteArray) : (Lib.goFieldsP blkN s).map (·.data.toList) = words s.data.toList := by
  have := spans_words s s.size 0 none [] (by omega) (Nat.zero_le _) (by simp)
  simp only [List.map_nil, List.nil_append, curOf, List.drop_zero] at this
  unfold Lib.goFieldsP Lib.spansOfP words
  rw [List.map_map]
  exact this
end Go.Mk
