/-
  The small functions of the document's own answer: blanks, cutting, names, two sides with a sign between.
  Small laws of the plain functions: dropping from the end, cutting.
  IsName of package lines: is a text a name?
-/
import Derived.Test.YtjelacjggijmfaaGreatDoorVHPure
import Derived.Lib.OthersKept
import Derived.Lib.IndexBytes
namespace Go.Proofs.YtjelacjggijmfaaGreatDoor
open Go.RowKit

theorem letterI_byte (c : UInt8) : letterI c.toNat = Mk.letter c := by
  rw [Bool.eq_iff_iff]
  simp [letterI, Mk.letter, UInt8.le_iff_toNat_le, ← UInt8.toNat_inj]
  omega
theorem all_letter_not (l : List UInt8) (i : Nat) (h : i < l.length) (hn : Mk.letter l[i] = false) : l.all Mk.letter = false := by
  rw [List.all_eq_false]
  exact ⟨l[i], List.getElem_mem h, by simp [hn]⟩
theorem isName_long (l : List UInt8) (h : 16 < l.length) : Mk.isName l = false := by simp [Mk.isName]; omega
theorem isName_nil : Mk.isName [] = false := rfl
theorem high_not (c : UInt8) (h : 128 ≤ c.toNat) : Mk.letter c = false := by
  rw [← letterI_byte]; simp [letterI]; omega
theorem highI_not (n : Nat) (h : 128 ≤ n) : letterI n = false := by simp [letterI]; omega
theorem width_pos (s : ByteArray) (pos : Nat) (h : pos < s.size) : 1 ≤ (Utf8.decode s pos).2 := by
  by_cases ha : (s[pos]'h).toNat < 128
  · rw [decode_ascii s pos h ha]
    exact Nat.le_refl _
  · exact (decode_high s pos h (by omega)).2

theorem take_snoc (s : ByteArray) (k : Nat) (h : k < s.size) : s.data.toList.take (k + 1) = s.data.toList.take k ++ [s[k]] := by
  rw [List.take_succ_eq_append_getElem (by simpa using h)]; rfl
theorem empty_of {s : ByteArray} (h : s.toList.isEmpty = true) : s.data.toList = [] := by
  rw [Lib.toList_data] at h; simpa using h
theorem nonempty_of {s : ByteArray} (h : s.toList.isEmpty = false) : s.data.toList ≠ [] := by
  rw [Lib.toList_data] at h; simpa using h
theorem isName_all (s : ByteArray) (h0 : s.data.toList ≠ []) (h16 : s.size ≤ 16) : Mk.isName s.data.toList = s.data.toList.all Mk.letter := by
  have hl := Lib.size_eq s
  have : s.data.toList.isEmpty = false := by simpa using h0
  have h2 : decide (s.data.toList.length ≤ 16) = true := by simp only [decide_eq_true_eq]; omega
  unfold Mk.isName
  rw [this, h2]; simp
theorem isName_at (s : ByteArray) (h0 : s.data.toList ≠ []) (h16 : s.size ≤ 16) (pos : Nat) (h : pos < s.size) (hn : Mk.letter s[pos] = false) : Mk.isName s.data.toList = false := by
  rw [isName_all s h0 h16]
  exact all_letter_not _ pos (by rw [← Lib.size_eq]; exact h) hn
theorem isName_end (s : ByteArray) (h0 : s.data.toList ≠ []) (h16 : s.size ≤ 16) (pos : Nat) (h : ¬ pos < s.size) (ha : (s.data.toList.take pos).all Mk.letter = true) : Mk.isName s.data.toList = true := by
  rw [isName_all s h0 h16]
  rwa [List.take_of_length_le (by rw [← Lib.size_eq]; omega)] at ha

set_option maxHeartbeats 1000000 in
theorem isName_any (s : ByteArray) (w : World) :
    Calls Tryz.prog 244 #[.string s] w fun e w' => e = .returned (.bool (Mk.isName s.data.toList)) ∧ Below w.heap.size w w' := by
  cases h0 : s.toList.isEmpty with
  | true =>
    have HE := hide (empty_of h0)
    go_enter Tryz.func244, Tryz.ntmps244
    go_wp2
    go_ret
    exact ⟨ret_bool (by rw [unhide HE]; rfl), Below.refl _ _⟩
  | false =>
    have HE := hide (nonempty_of h0)
    by_cases h16 : 16 < s.size
    · go_enter Tryz.func244, Tryz.ntmps244
      go_wp2
      all_goals go_ret
      all_goals exact ⟨ret_bool (isName_long _ (by rw [← Lib.size_eq]; exact h16)).symm, Below.refl _ _⟩
    have h16' : s.size ≤ 16 := by omega
    go_enter Tryz.func244, Tryz.ntmps244
    go_wp2
    go_loopw [4] (fun _ wr => ∃ pos : Nat, wr.heap[w.heap.size]? = some (.stringIter s pos) ∧ Below w.heap.size w wr ∧ (s.data.toList.take pos).all Mk.letter = true) (fun _ wr => s.size - wr.iterPos w.heap.size)
    case atStart =>
      exact ⟨0, by simpa using World.iter_heap w s 0, (Below.refl _ w).alloc (Nat.le_refl _) _, by simp⟩
    case round =>
      obtain ⟨pos, hit, hb, hall⟩ := hrel
      have HA := hide hall
      clear hall
      have hsz : w.heap.size < wr.heap.size := (Array.getElem?_eq_some_iff.1 hit).1
      by_cases hp : pos < s.size
      · have hnx : ∀ ty, (Instr.next (.pointer (some ⟨w.heap.size, 0, none⟩)) true ty).run Tryz.prog wr = _ := fun ty => Lib.run_next_any_at wr w.heap.size s pos ty hit hp
        have hwd := width_pos s pos hp
        have hd1 := decode_le s pos
        have hit2 := Lib.iterAt_heap wr w.heap.size s pos (pos + (Utf8.decode s pos).2) hit
        have hb2 := Lib.below_iterAt hb (k := w.heap.size) (Nat.le_refl _) s (pos + (Utf8.decode s pos).2)
        by_cases hl : letterI (Utf8.decode s pos).1 = true
        · have hlow : (s[pos]'hp).toNat < 128 := by
            rcases Nat.lt_or_ge (s[pos]'hp).toNat 128 with h | h
            · exact h
            · rw [highI_not _ (decode_high s pos hp h).1] at hl; cases hl
          have HD := hide (decode_ascii s pos hp hlow)
          have HL := hide hl
          clear hlow
          go_wp2_with (go_at_call 275; refine (isLetter_any _ _).mono ?_; rintro e w1 ⟨rfl, rfl⟩)
          refine ⟨⟨pos + (Utf8.decode s pos).2, hit2, hb2, ?_⟩, ?_⟩
          · have hl2 := unhide HL
            rw [unhide HD] at hl2 ⊢
            rw [take_snoc s pos hp, List.all_append, unhide HA]
            simpa [letterI_byte] using hl2
          · simp only [World.iterPos, hit2, hit]
            omega
        · have HL := hide hl
          go_wp2_with (go_at_call 275; refine (isLetter_any _ _).mono ?_; rintro e w1 ⟨rfl, rfl⟩)
          go_ret
          refine ⟨ret_bool (isName_at s (unhide HE) h16' pos hp ?_).symm, hb2⟩
          rcases Nat.lt_or_ge (s[pos]'hp).toNat 128 with h | h
          · have hl2 := unhide HL
            rw [decode_ascii s pos hp h] at hl2
            simpa [letterI_byte] using hl2
          · exact high_not _ h
      · have hnx : ∀ ty, (Instr.next (.pointer (some ⟨w.heap.size, 0, none⟩)) true ty).run Tryz.prog wr = _ := fun ty => Lib.run_next_end_at wr w.heap.size s pos ty hit hp
        go_wp2
        go_ret
        exact ⟨ret_bool (isName_end s (unhide HE) h16' pos hp (unhide HA)).symm, hb⟩
end Go.Proofs.YtjelacjggijmfaaGreatDoor
namespace Go.Mk

def rdrop (p : UInt8 → Bool) (l : Bs) : Bs := (l.reverse.dropWhile p).reverse
theorem cutR_eq (l : Bs) : cutR l = rdrop blk l := rfl
theorem noBack_eq (l : Bs) : noBack l = rdrop (· == 92) l := rfl
theorem rdrop_nil (p : UInt8 → Bool) : rdrop p [] = [] := rfl
theorem rdrop_snoc (p : UInt8 → Bool) (l : Bs) (c : UInt8) : rdrop p (l ++ [c]) = if p c then rdrop p l else l ++ [c] := by
  unfold rdrop
  rw [List.reverse_append]
  by_cases h : p c
  · simp [h]
  · simp [h]
theorem rdrop_cons (p : UInt8 → Bool) (c : UInt8) (l : Bs) : rdrop p (c :: l) = if (rdrop p l).isEmpty && p c then [] else c :: rdrop p l := by
  unfold rdrop
  rw [List.reverse_cons, List.dropWhile_append]
  by_cases h : (l.reverse.dropWhile p).isEmpty
  · have h2 : (l.reverse.dropWhile p) = [] := by simpa using h
    rw [h2]
    by_cases hc : p c
    · simp [hc]
    · simp [hc]
  · simp [h]
theorem rdrop_le (p : UInt8 → Bool) (l : Bs) : (rdrop p l).length ≤ l.length := by
  induction l with
  | nil => simp [rdrop_nil]
  | cons c r ih => rw [rdrop_cons]; split <;> simp <;> omega
theorem cutL_le (l : Bs) : (cutL l).length ≤ l.length := by
  unfold cutL; exact (List.dropWhile_suffix _).length_le
theorem cut_le (l : Bs) : (cut l).length ≤ l.length := Nat.le_trans (cutL_le _) (rdrop_le _ _)
theorem cutL_cons (c : UInt8) (l : Bs) : cutL (c :: l) = if blk c then cutL l else c :: l := by
  unfold cutL; rw [List.dropWhile_cons]
theorem cut_comm (l : Bs) : cutR (cutL l) = cut l := by
  unfold cut
  induction l with
  | nil => rfl
  | cons c r ih =>
    rw [cutL_cons]
    simp only [cutR_eq] at ih ⊢
    by_cases h : blk c
    · rw [if_pos h, ih, rdrop_cons]
      by_cases he : (rdrop blk r).isEmpty
      · have he2 : rdrop blk r = [] := by simpa using he
        simp [he2, h]
      · simp only [Bool.not_eq_true] at he
        rw [he]
        simp only [Bool.false_and, Bool.false_eq_true, if_false]
        rw [cutL_cons, if_pos h]
    · rw [if_neg h, rdrop_cons]
      simp only [Bool.not_eq_true] at h
      simp [h, cutL_cons]
theorem kindOf_le (l : Bs) : (kindOf l).2.length ≤ l.length := by
  unfold kindOf
  split <;> simp <;> omega
theorem dropWhile_le (p : UInt8 → Bool) (l : Bs) : (l.dropWhile p).length ≤ l.length := (List.dropWhile_suffix _).length_le
theorem inter_cons (x : Bs) (ws : List Bs) : ([32].intercalate (x :: ws)).length ≤ x.length + 1 + ([32].intercalate ws).length := by
  cases ws with
  | nil => simp [List.intercalate]
  | cons y r => simp [List.intercalate, List.intersperse]; omega
theorem joinW_le : ∀ (l cur : Bs), ([32].intercalate (wordsA cur l)).length ≤ cur.length + l.length
  | [], cur => by
    unfold wordsA
    split
    · simp [List.intercalate]
    · simp [List.intercalate]
  | c :: r, cur => by
    unfold wordsA
    have h0 := joinW_le r []
    have h1 := joinW_le r (cur ++ [c])
    have h2 := inter_cons cur (wordsA [] r)
    split
    · split
      · simp only [List.length_nil, List.length_cons] at *; omega
      · simp only [List.length_nil, List.length_cons] at *; omega
    · simp only [List.length_append, List.length_nil, List.length_cons] at *; omega
theorem oneBlank_le (l : Bs) : (oneBlank l).length ≤ l.length := by
  have := joinW_le l []
  simpa [oneBlank, words] using this
theorem wordsA_count : ∀ (l cur : Bs), (wordsA cur l).length ≤ cur.length + l.length
  | [], cur => by
    unfold wordsA
    split
    · simp
    · rename_i h
      have : cur ≠ [] := by simpa using h
      have := List.length_pos_iff.2 this
      simp; omega
  | c :: r, cur => by
    unfold wordsA
    have h0 := wordsA_count r []
    have h1 := wordsA_count r (cur ++ [c])
    split
    · split
      · simp only [List.length_nil, List.length_cons] at *; omega
      · simp only [List.length_nil, List.length_cons] at *; omega
    · simp only [List.length_append, List.length_nil, List.length_cons] at *; omega
theorem words_count (l : Bs) : (words l).length ≤ l.length := by
  have := wordsA_count l []
  simpa [words] using this
end Go.Mk
namespace Go.Proofs.YtjelacjggijmfaaGreatDoor
open Go.RowKit

set_option maxHeartbeats 400000 in
theorem refBlank_any (c : UInt8) (w : World) :
    Calls Tryz.prog 118 #[.int .u8 c.toNat] w fun e w' => e = .returned (.bool (Mk.blk c)) ∧ w = w' := by
  have hb : Mk.blk c = ((c.toNat : Int) == 32 || (c.toNat : Int) == 9) := by
    rw [Bool.eq_iff_iff]; simp [Mk.blk, ← UInt8.toNat_inj]; omega
  have HB := hide hb
  clear hb
  go_enter Tryz.func118, Tryz.ntmps118
  go_wp2
  all_goals go_ret
  all_goals (refine ⟨ret_bool ?_, rfl⟩; rw [unhide HB])
  all_goals simp [*]

def strLen : Value → Nat
  | .string t => t.size
  | _ => 0
theorem data_cons (t : ByteArray) (h : 0 < t.size) : t.data.toList = t[0] :: (t.extract 1 t.size).data.toList := by
  rw [Lib.extract_to_end]
  have hl : 0 < t.data.toList.length := by rw [← Lib.size_eq]; exact h
  have := List.drop_eq_getElem_cons hl
  rw [List.drop_zero] at this
  exact this
theorem extract_size (t : ByteArray) (h : 0 < t.size) : (t.extract 1 t.size).size < t.size := by simp; omega

set_option maxHeartbeats 1000000 in
theorem refCutLeft_any (s : ByteArray) (w : World) :
    Calls Tryz.prog 117 #[.string s] w fun e w' => e = .returned (.string ⟨(Mk.cutL s.data.toList).toArray⟩) ∧ w = w' := by
  go_enter Tryz.func117, Tryz.ntmps117
  go_wp2
  go_loop [0] (fun v => ∃ t : ByteArray, v = .string t ∧ Mk.cutL t.data.toList = Mk.cutL s.data.toList) (fun v => strLen v)
  case atStart => exact ⟨s, rfl, rfl⟩
  case round =>
    obtain ⟨t, rfl, hc⟩ := hrel
    have HC := hide hc
    clear hc
    by_cases h0 : 0 < t.size
    · have HD := hide (data_cons t h0)
      cases hb : Mk.blk (t[0]'h0) with
      | true =>
        go_wp2_with (go_at_call 118; refine (refBlank_any _ _).mono ?_; rintro e w1 ⟨rfl, rfl⟩)
        refine ⟨⟨_, rfl, ?_⟩, extract_size t h0⟩
        rw [← unhide HC, unhide HD, Mk.cutL_cons, if_pos hb]
      | false =>
        go_wp2_with (go_at_call 118; refine (refBlank_any _ _).mono ?_; rintro e w1 ⟨rfl, rfl⟩)
        go_ret
        refine ⟨ret_str (mk_eq ?_), rfl⟩
        rw [← unhide HC, unhide HD, Mk.cutL_cons, hb]
        rfl
    · go_wp2
      go_ret
      refine ⟨ret_str (mk_eq ?_), rfl⟩
      rw [← unhide HC]
      have : t.data.toList = [] := by rw [List.eq_nil_iff_length_eq_zero, ← Lib.size_eq]; omega
      rw [this]; rfl

theorem data_snoc (t : ByteArray) (h : 0 < t.size) : t.data.toList = (t.extract 0 (t.size - 1)).data.toList ++ [t[t.size - 1]] := by
  rw [Lib.extract_data]
  simp only [List.drop_zero, Nat.sub_zero]
  have := take_snoc t (t.size - 1) (by omega)
  rw [show t.size - 1 + 1 = t.size from by omega, List.take_of_length_le (by rw [← Lib.size_eq]; omega)] at this
  exact this
theorem extract_size' (t : ByteArray) (h : 0 < t.size) : (t.extract 0 (t.size - 1)).size < t.size := by simp; omega

set_option maxHeartbeats 1000000 in
theorem refCut_any (s : ByteArray) (w : World) (hs : s.size ≤ 4294967296) :
    Calls Tryz.prog 73 #[.string s] w fun e w' => e = .returned (.string ⟨(Mk.cut s.data.toList).toArray⟩) ∧ w = w' := by
  have hl := Mk.cutL_le s.data.toList
  rw [← Lib.size_eq] at hl
  have HE := hide (Mk.cut_comm s.data.toList)
  generalize hq : Mk.cutL s.data.toList = q at hl
  have HQ := hide hq
  clear hq
  go_enter Tryz.func73, Tryz.ntmps73
  go_wp2_with (go_at_call 117; refine (refCutLeft_any _ _).mono ?_; rintro e w1 ⟨rfl, rfl⟩; rw [unhide HQ])
  go_loop [0] (fun v => ∃ t : ByteArray, v = .string t ∧ t.size ≤ 4294967296 ∧ Mk.cutR t.data.toList = Mk.cutR q) (fun v => strLen v)
  case atStart => exact ⟨⟨q.toArray⟩, rfl, by rw [size_mk]; omega, by simp⟩
  case round =>
    obtain ⟨t, rfl, hts, hc⟩ := hrel
    have HC := hide hc
    clear hc
    by_cases h0 : 0 < t.size
    · have HD := hide (data_snoc t h0)
      have h1 : t.size - 1 < t.size := by omega
      cases hb : Mk.blk (t[t.size - 1]'h1) with
      | true =>
        go_wp2_with (go_at_call 118; refine (refBlank_any _ _).mono ?_; rintro e w1 ⟨rfl, rfl⟩)
        refine ⟨⟨_, rfl, by have := extract_size' t h0; omega, ?_⟩, extract_size' t h0⟩
        rw [← unhide HC, unhide HD, Mk.cutR_eq, Mk.cutR_eq, Mk.rdrop_snoc, if_pos hb]
      | false =>
        go_wp2_with (go_at_call 118; refine (refBlank_any _ _).mono ?_; rintro e w1 ⟨rfl, rfl⟩)
        go_ret
        refine ⟨ret_str (mk_eq ?_), rfl⟩
        rw [← unhide HE, unhide HQ, ← unhide HC, unhide HD, Mk.cutR_eq, Mk.rdrop_snoc, hb]
        rfl
    · go_wp2
      go_ret
      refine ⟨ret_str (mk_eq ?_), rfl⟩
      rw [← unhide HE, unhide HQ, ← unhide HC]
      have : t.data.toList = [] := by rw [List.eq_nil_iff_length_eq_zero, ← Lib.size_eq]; omega
      rw [this]; rfl

theorem data_app (a b : ByteArray) : (a ++ b).data.toList = a.data.toList ++ b.data.toList := by simp
end Go.Proofs.YtjelacjggijmfaaGreatDoor
