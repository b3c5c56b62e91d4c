/-
  IsName of package lines: is a text a name?
-/
import Derived.Test.YtjelacjggijmfaaDoorW1
import Derived.Lib.OthersKept
namespace Go.Proofs.YtjelacjggijmfaaDoor
open Go.RowKit

theorem letterI_byte (c : UInt8) : letterI c.toNat = Mk.letter c := by
  rw [Bool.eq_iff_iff]
  simp [letterI, Mk.letter, UInt8.le_iff_toNat_le, ← UInt8.toNat_inj]
  omega
theorem all_letter_not (l : List UInt8) (i : Nat) (h : i < l.length) (hn : Mk.letter l[i] = false) : l.all Mk.letter = false := by
  rw [List.all_eq_false]
  exact ⟨l[i], List.getElem_mem h, by simp [hn]⟩
theorem isName_long (l : List UInt8) (h : 16 < l.length) : Mk.isName l = false := by simp [Mk.isName]; omega
theorem isName_nil : Mk.isName [] = false := rfl
theorem high_not (c : UInt8) (h : 128 ≤ c.toNat) : Mk.letter c = false := by
  rw [← letterI_byte]; simp [letterI]; omega
theorem highI_not (n : Nat) (h : 128 ≤ n) : letterI n = false := by simp [letterI]; omega
theorem width_pos (s : ByteArray) (pos : Nat) (h : pos < s.size) : 1 ≤ (Utf8.decode s pos).2 := by
  by_cases ha : (s[pos]'h).toNat < 128
  · rw [decode_ascii s pos h ha]
    exact Nat.le_refl _
  · exact (decode_high s pos h (by omega)).2

theorem take_snoc (s : ByteArray) (k : Nat) (h : k < s.size) : s.data.toList.take (k + 1) = s.data.toList.take k ++ [s[k]] := by
  rw [List.take_succ_eq_append_getElem (by simpa using h)]; rfl
theorem empty_of {s : ByteArray} (h : s.toList.isEmpty = true) : s.data.toList = [] := by
  rw [Lib.toList_data] at h; simpa using h
theorem nonempty_of {s : ByteArray} (h : s.toList.isEmpty = false) : s.data.toList ≠ [] := by
  rw [Lib.toList_data] at h; simpa using h
theorem isName_all (s : ByteArray) (h0 : s.data.toList ≠ []) (h16 : s.size ≤ 16) : Mk.isName s.data.toList = s.data.toList.all Mk.letter := by
  have hl := Lib.size_eq s
  have : s.data.toList.isEmpty = false := by simpa using h0
  have h2 : decide (s.data.toList.length ≤ 16) = true := by simp only [decide_eq_true_eq]; omega
  unfold Mk.isName
  rw [this, h2]; simp
theorem isName_at (s : ByteArray) (h0 : s.data.toList ≠ []) (h16 : s.size ≤ 16) (pos : Nat) (h : pos < s.size) (hn : Mk.letter s[pos] = false) : Mk.isName s.data.toList = false := by
  rw [isName_all s h0 h16]
  exact all_letter_not _ pos (by rw [← Lib.size_eq]; exact h) hn
theorem isName_end (s : ByteArray) (h0 : s.data.toList ≠ []) (h16 : s.size ≤ 16) (pos : Nat) (h : ¬ pos < s.size) (ha : (s.data.toList.take pos).all Mk.letter = true) : Mk.isName s.data.toList = true := by
  rw [isName_all s h0 h16]
  rwa [List.take_of_length_le (by rw [← Lib.size_eq]; omega)] at ha

set_option maxHeartbeats 1000000 in
theorem isName_any (s : ByteArray) (w : World) :
    Calls Tryd.prog 71 #[.string s] w fun e w' => e = .returned (.bool (Mk.isName s.data.toList)) ∧ Below w.heap.size w w' := by
  cases h0 : s.toList.isEmpty with
  | true =>
    have HE := hide (empty_of h0)
    go_enter Tryd.func71, Tryd.ntmps71
    go_wp2
    go_ret
    exact ⟨ret_bool (by rw [unhide HE]; rfl), Below.refl _ _⟩
  | false =>
    have HE := hide (nonempty_of h0)
    by_cases h16 : 16 < s.size
    · go_enter Tryd.func71, Tryd.ntmps71
      go_wp2
      all_goals go_ret
      all_goals exact ⟨ret_bool (isName_long _ (by rw [← Lib.size_eq]; exact h16)).symm, Below.refl _ _⟩
    have h16' : s.size ≤ 16 := by omega
    go_enter Tryd.func71, Tryd.ntmps71
    go_wp2
    go_loopw [4] (fun _ wr => ∃ pos : Nat, wr.heap[w.heap.size]? = some (.stringIter s pos) ∧ Below w.heap.size w wr ∧ (s.data.toList.take pos).all Mk.letter = true) (fun _ wr => s.size - wr.iterPos w.heap.size)
    case atStart =>
      exact ⟨0, by simpa using World.iter_heap w s 0, (Below.refl _ w).alloc (Nat.le_refl _) _, by simp⟩
    case round =>
      obtain ⟨pos, hit, hb, hall⟩ := hrel
      have HA := hide hall
      clear hall
      have hsz : w.heap.size < wr.heap.size := (Array.getElem?_eq_some_iff.1 hit).1
      by_cases hp : pos < s.size
      · have hnx : ∀ ty, (Instr.next (.pointer (some ⟨w.heap.size, 0, none⟩)) true ty).run Tryd.prog wr = _ := fun ty => Lib.run_next_any_at wr w.heap.size s pos ty hit hp
        have hwd := width_pos s pos hp
        have hd1 := decode_le s pos
        have hit2 := Lib.iterAt_heap wr w.heap.size s pos (pos + (Utf8.decode s pos).2) hit
        have hb2 := Lib.below_iterAt hb (k := w.heap.size) (Nat.le_refl _) s (pos + (Utf8.decode s pos).2)
        by_cases hl : letterI (Utf8.decode s pos).1 = true
        · have hlow : (s[pos]'hp).toNat < 128 := by
            rcases Nat.lt_or_ge (s[pos]'hp).toNat 128 with h | h
            · exact h
            · rw [highI_not _ (decode_high s pos hp h).1] at hl; cases hl
          have HD := hide (decode_ascii s pos hp hlow)
          have HL := hide hl
          clear hlow
          go_wp2_with (go_at_call 82; refine (isLetter_any _ _).mono ?_; rintro e w1 ⟨rfl, rfl⟩)
          refine ⟨⟨pos + (Utf8.decode s pos).2, hit2, hb2, ?_⟩, ?_⟩
          · have hl2 := unhide HL
            rw [unhide HD] at hl2 ⊢
            rw [take_snoc s pos hp, List.all_append, unhide HA]
            simpa [letterI_byte] using hl2
          · simp only [World.iterPos, hit2, hit]
            omega
        · have HL := hide hl
          go_wp2_with (go_at_call 82; refine (isLetter_any _ _).mono ?_; rintro e w1 ⟨rfl, rfl⟩)
          go_ret
          refine ⟨ret_bool (isName_at s (unhide HE) h16' pos hp ?_).symm, hb2⟩
          rcases Nat.lt_or_ge (s[pos]'hp).toNat 128 with h | h
          · have hl2 := unhide HL
            rw [decode_ascii s pos hp h] at hl2
            simpa [letterI_byte] using hl2
          · exact high_not _ h
      · have hnx : ∀ ty, (Instr.next (.pointer (some ⟨w.heap.size, 0, none⟩)) true ty).run Tryd.prog wr = _ := fun ty => Lib.run_next_end_at wr w.heap.size s pos ty hit hp
        go_wp2
        go_ret
        exact ⟨ret_bool (isName_end s (unhide HE) h16' pos hp (unhide HA)).symm, hb⟩
end Go.Proofs.YtjelacjggijmfaaDoor
