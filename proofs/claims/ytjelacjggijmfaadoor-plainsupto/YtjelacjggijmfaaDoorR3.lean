/-
  The document's own answer: the words of a text; words with one blank between.
-/
import Derived.Test.YtjelacjggijmfaaDoorR1
namespace Go.Mk
theorem seg_char (s : Bs) (f k : Nat) (hf : f ≤ k) (hk : k < s.length) (hb : blk s[k] = false) :
    wordsA ((s.take k).drop f) (s.drop k) = wordsA ((s.take (k + 1)).drop f) (s.drop (k + 1)) := by
  rw [List.drop_eq_getElem_cons hk, wordsA, hb, List.take_succ_eq_append_getElem hk, List.drop_append_of_le_length (by simp; omega)]
  rfl
theorem drop_take_self (s : Bs) (k : Nat) : (s.take k).drop k = [] := by
  rw [List.drop_eq_nil_iff]; simp; omega
theorem seg_ne (s : Bs) (f k : Nat) (hf : f < k) (hk : k ≤ s.length) : ((s.take k).drop f).isEmpty = false := by
  rw [List.isEmpty_eq_false_iff, ← List.length_pos_iff]
  simp; omega
theorem seg_word (s : Bs) (f k : Nat) (hf : f < k) (hk : k < s.length) (hb : blk s[k] = true) :
    wordsA ((s.take k).drop f) (s.drop k) = [(s.take k).drop f] ++ wordsA ((s.take (k + 1)).drop (k + 1)) (s.drop (k + 1)) := by
  rw [List.drop_eq_getElem_cons hk, wordsA, hb, if_pos rfl, seg_ne s f k hf (by omega), drop_take_self]
  rfl
theorem seg_blank (s : Bs) (k : Nat) (hk : k < s.length) (hb : blk s[k] = true) :
    wordsA ((s.take k).drop k) (s.drop k) = wordsA ((s.take (k + 1)).drop (k + 1)) (s.drop (k + 1)) := by
  rw [List.drop_eq_getElem_cons hk, wordsA, hb, if_pos rfl, drop_take_self, drop_take_self]
  rfl
theorem seg_last (s : Bs) (f k : Nat) (hf : f < k) (hk : k = s.length) :
    wordsA ((s.take k).drop f) (s.drop k) = [(s.take k).drop f] ++ wordsA ((s.take (k + 1)).drop (k + 1)) (s.drop (k + 1)) := by
  have h1 : s.drop k = [] := by rw [List.drop_eq_nil_iff]; omega
  have h2 : s.drop (k + 1) = [] := by rw [List.drop_eq_nil_iff]; omega
  rw [h1, h2, wordsA, seg_ne s f k hf (by omega), drop_take_self]
  rfl
theorem seg_end (s : Bs) (k : Nat) (hk : s.length ≤ k) : wordsA ((s.take k).drop k) (s.drop k) = [] := by
  have h1 : s.drop k = [] := by rw [List.drop_eq_nil_iff]; omega
  rw [h1, drop_take_self]; rfl
/-- What has been gathered when byte k comes, the next word beginning at f. -/
def WordsAt (s : Bs) (f k : Nat) (xs : List Bs) : Prop := words s = xs ++ wordsA ((s.take k).drop f) (s.drop k)
theorem WordsAt.start (s : Bs) : WordsAt s 0 0 [] := by simp [WordsAt, words]
theorem WordsAt.char {s : Bs} {f k : Nat} {xs : List Bs} (h : WordsAt s f k xs) (hf : f ≤ k) (hk : k < s.length) (hb : blk s[k] = false) : WordsAt s f (k + 1) xs := by
  rw [WordsAt, h, seg_char s f k hf hk hb]
theorem WordsAt.word {s : Bs} {f k : Nat} {xs : List Bs} (h : WordsAt s f k xs) (hf : f < k) (hk : k < s.length) (hb : blk s[k] = true) : WordsAt s (k + 1) (k + 1) (xs ++ [(s.take k).drop f]) := by
  rw [WordsAt, h, seg_word s f k hf hk hb, List.append_assoc]
theorem WordsAt.blank {s : Bs} {k : Nat} {xs : List Bs} (h : WordsAt s k k xs) (hk : k < s.length) (hb : blk s[k] = true) : WordsAt s (k + 1) (k + 1) xs := by
  rw [WordsAt, h, seg_blank s k hk hb]
theorem WordsAt.last {s : Bs} {f k : Nat} {xs : List Bs} (h : WordsAt s f k xs) (hf : f < k) (hk : k = s.length) : WordsAt s (k + 1) (k + 1) (xs ++ [(s.take k).drop f]) := by
  rw [WordsAt, h, seg_last s f k hf hk, List.append_assoc]
theorem WordsAt.none {s : Bs} {k : Nat} {xs : List Bs} (h : WordsAt s k k xs) (hk : k = s.length) : WordsAt s (k + 1) (k + 1) xs := by
  rw [WordsAt, h, seg_end s k (by omega), seg_end s (k + 1) (by omega)]
theorem WordsAt.done {s : Bs} {k : Nat} {xs : List Bs} (h : WordsAt s k k xs) (hk : s.length ≤ k) : words s = xs := by
  rw [h, seg_end s k hk, List.append_nil]
end Go.Mk
namespace Go.Proofs.YtjelacjggijmfaaDoor
open Go.RowKit

def strV (b : Mk.Bs) : Value := .string ⟨b.toArray⟩
theorem Tryd.infoStr : (Tryd.prog.info? 9).map (fun i => (i.zero, i.size, i.bytes)) = some (some (.string ⟨#[]⟩), 1, 16) := by kernel_rfl
theorem extract_str (s : ByteArray) (f k : Nat) : s.extract f k = ⟨((s.data.toList.take k).drop f).toArray⟩ := by
  refine mk_eq ?_
  rw [Lib.extract_data, List.drop_take]

/-- The rows of strings that a call has made: whose they are, what they hold. -/
def Rowed (w : World) (B : Nat) (v : Value) (xs : List Mk.Bs) : Prop := w.ownsRow B 9 1 v xs.length (xs.map strV)
theorem Rowed.snoc {w0 w w' : World} {B : Nat} {v v' : Value} {xs : List Mk.Bs} {b : Mk.Bs} (o : Obj) (hB : w0.heap.size = B) (hr : Rowed w B v xs) (hb : Below B w0 w)
    (h : w'.ownsRow B 9 1 v' (xs.length + 1) (xs.map strV ++ [strV b])) (hg : (w.alloc o).grownBy w' v.ownBlock) : Rowed w' B v' (xs ++ [b]) ∧ Below B w0 w' := by
  refine ⟨by simpa [Rowed] using h, ?_⟩
  have hs := hb.size
  refine (hb.alloc (by omega) o).grown hg (by rw [World.size_alloc]; omega) ?_
  intro k hk
  have := (hr.lt k hk).1
  omega

theorem one_new (w : World) (x : Value) (t : TypeId) : ∀ (j : Nat) (u : Value), [x][j]? = some u → (w.alloc (.cells #[x] t)).cell? ((⟨w.heap.size, 0, none⟩ : Addr).add j) = some u := by
  intro j u hj
  match j, hj with
  | 0, hj => simp at hj; subst hj; simp [Addr.add]
theorem one_one (b : ByteArray) : ∀ u ∈ [Value.string b], u.oneCell' = true := by
  intro u hu; simp at hu; subst hu; rfl

set_option maxHeartbeats 4000000 in
set_option maxRecDepth 1000000 in
theorem refWords_any (s : ByteArray) (w : World) (hs : s.size ≤ 4294967296) :
    Calls Tryd.prog 11 #[.string s] w fun e w' => ∃ v, e = .returned v ∧ Rowed w' w.heap.size v (Mk.words s.data.toList) ∧ Below w.heap.size w w' := by
  obtain ⟨i0, hi, hz0, hz1, hz2⟩ := info_parts Tryd.infoStr
  have HL := hide (Lib.size_eq s)
  go_enter Tryd.func11, Tryd.ntmps11
  go_wp2
  go_loopw [3, 4, 5] (fun v fr i wr => ∃ (k f : Nat) (xs : List Mk.Bs), k ≤ s.size + 1 ∧ f ≤ k ∧ (k = s.size + 1 → f = k) ∧ i = .int .i64 k ∧ fr = .int .i64 f ∧ xs.length ≤ k ∧ Rowed wr w.heap.size v xs ∧ Below w.heap.size w wr ∧ Mk.WordsAt s.data.toList f k xs)
    (fun _ _ i _ => s.size + 1 - (intOf i).toNat)
  case atStart => exact ⟨0, 0, [], Nat.zero_le _, Nat.le_refl _, fun _ => rfl, rfl, rfl, Nat.le_refl _, World.ownsRow_nil _ _ _ _, Below.refl _ _, Mk.WordsAt.start _⟩
  case round =>
    obtain ⟨k, f, xs, hk, hf, hke, rfl, rfl, hxs, hown, hb, hat⟩ := hrel
    have hbs := hb.size
    have HAT := hide hat
    clear hat
    have HE := hide (extract_str s f k)
    by_cases hlt : k < s.size
    · clear hke
      have HKL := hide (show k < s.data.toList.length by have := unhide HL; omega)
      have hg : s.data.toList[k]'(unhide HKL) = s[k] := rfl
      have HG := hide hg
      clear hg
      cases hbk : Mk.blk (s[k]'hlt) with
      | false =>
        have R := (unhide HAT).char hf (unhide HKL) (by rw [unhide HG]; exact hbk)
        have HR := hide R
        clear R
        go_wp2_with (go_at_call 19; refine (refBlank_any _ _).mono ?_; rintro e w1 ⟨rfl, rfl⟩)
        go_roundw
        case rel => exact ⟨k + 1, f, xs, by omega, by omega, by omega, by simp, rfl, by omega, hown, hb, unhide HR⟩
        case measure => simp [intOf]; omega
      | true =>
        by_cases hfk : f < k
        · have R := (unhide HAT).word hfk (unhide HKL) (by rw [unhide HG]; exact hbk)
          have HR := hide R
          clear R
          go_wp2_with (first | (go_at_call 19; refine (refBlank_any _ _).mono ?_; rintro e w1 ⟨rfl, rfl⟩) | (at_builtin; refine wpList_append_own _ rfl (.tmp 26) (.tmp 31) 34 rfl w.heap.size 9 i0 (.string ⟨#[]⟩) 1 16 Tryd.underlying34 hi hz0 hz1 hz2 rfl (by decide) _ _ _ rfl (World.ownsRow.alloc hown _) ⟨wr.heap.size, 0, none⟩ 1 1 [.string (s.extract f k)] rfl rfl (one_new wr _ _) (one_one _) (by unfold maxLen; omega) (by omega) (by rw [World.size_alloc]; omega) ?_))
          intro v' w1 hown' hgrow _
          rw [unhide HE] at hown'
          have R := Rowed.snoc _ rfl hown hb hown' hgrow
          clear hown' hgrow
          go_wp2
          go_roundw
          case rel => exact ⟨k + 1, k + 1, xs ++ [(s.data.toList.take k).drop f], by omega, by omega, by omega, by go_num, by go_num, by simp; omega, R.1, R.2, unhide HR⟩
          case measure => simp [intOf]; omega
        · obtain rfl : f = k := by omega
          have R := (unhide HAT).blank (unhide HKL) (by rw [unhide HG]; exact hbk)
          have HR := hide R
          clear R
          go_wp2_with (go_at_call 19; refine (refBlank_any _ _).mono ?_; rintro e w1 ⟨rfl, rfl⟩)
          go_roundw
          case rel => exact ⟨f + 1, f + 1, xs, by omega, by omega, by omega, by go_num, by go_num, by omega, hown, hb, unhide HR⟩
          case measure => simp [intOf]; omega
    · by_cases hke2 : k = s.size
      · subst hke2
        by_cases hfk : f < s.size
        · clear hke
          have R := (unhide HAT).last hfk (by have := unhide HL; omega)
          have HR := hide R
          clear R
          go_wp2_with (at_builtin; refine wpList_append_own _ rfl (.tmp 26) (.tmp 31) 34 rfl w.heap.size 9 i0 (.string ⟨#[]⟩) 1 16 Tryd.underlying34 hi hz0 hz1 hz2 rfl (by decide) _ _ _ rfl (World.ownsRow.alloc hown _) ⟨wr.heap.size, 0, none⟩ 1 1 [.string (s.extract f s.size)] rfl rfl (one_new wr _ _) (one_one _) (by unfold maxLen; omega) (by omega) (by rw [World.size_alloc]; omega) ?_)
          intro v' w1 hown' hgrow _
          rw [unhide HE] at hown'
          have R := Rowed.snoc _ rfl hown hb hown' hgrow
          clear hown' hgrow
          go_wp2
          go_roundw
          case rel => exact ⟨s.size + 1, s.size + 1, xs ++ [(s.data.toList.take s.size).drop f], by omega, by omega, by omega, by go_num, by go_num, by simp; omega, R.1, R.2, unhide HR⟩
          case measure => simp [intOf]
        · clear hke
          obtain rfl : f = s.size := by omega
          have R := (unhide HAT).none (by have := unhide HL; omega)
          have HR := hide R
          clear R
          go_wp2
          go_roundw
          case rel => exact ⟨s.size + 1, s.size + 1, xs, by omega, by omega, by omega, by go_num, by go_num, by omega, hown, hb, unhide HR⟩
          case measure => simp [intOf]
      · obtain rfl := hke (by omega)
        have R := (unhide HAT).done (by have := unhide HL; omega)
        have HR := hide R
        clear R
        go_wp2
        go_ret
        exact ⟨_, rfl, by rw [unhide HR]; exact hown, hb⟩
end Go.Proofs.YtjelacjggijmfaaDoor
