/-
  The document's own answer: is a text a name; the words of a text; words with one blank between.
-/
import Derived.Test.YtjelacjggijmfaaDoorR1
namespace Go.Proofs.YtjelacjggijmfaaDoor
open Go.RowKit

theorem letter_iff (c : UInt8) : (Mk.letter c = true) ↔ ((97 : Int) ≤ (c.toNat : Int) ∧ (c.toNat : Int) ≤ 122) ∨ ((65 : Int) ≤ (c.toNat : Int) ∧ (c.toNat : Int) ≤ 90) ∨ ((48 : Int) ≤ (c.toNat : Int) ∧ (c.toNat : Int) ≤ 57) ∨ (c.toNat : Int) = 95 := by
  rw [← letterI_byte]; simp [letterI]; omega
theorem letter_not (c : UInt8) (h : ¬ (((97 : Int) ≤ (c.toNat : Int) ∧ (c.toNat : Int) ≤ 122) ∨ ((65 : Int) ≤ (c.toNat : Int) ∧ (c.toNat : Int) ≤ 90) ∨ ((48 : Int) ≤ (c.toNat : Int) ∧ (c.toNat : Int) ≤ 57) ∨ (c.toNat : Int) = 95)) : Mk.letter c = false := by
  cases hl : Mk.letter c with
  | false => rfl
  | true => exact absurd ((letter_iff c).1 hl) h
theorem isName_off (l : List UInt8) (h : l.all Mk.letter = false) : Mk.isName l = false := by simp [Mk.isName, h]
theorem isName_by (s : ByteArray) (k : Nat) (hk : ¬ k < s.size) (h : (s.data.toList.take k).all Mk.letter = true) : Mk.isName s.data.toList = (decide ((1 : Int) ≤ (s.size : Int)) && decide ((s.size : Int) ≤ 16)) := by
  rw [List.take_of_length_le (by rw [← Lib.size_eq]; omega)] at h
  have hl := Lib.size_eq s
  simp only [Mk.isName, h, Bool.and_true]
  rw [Bool.eq_iff_iff]
  simp only [Bool.and_eq_true, Bool.not_eq_true', List.isEmpty_eq_false_iff, decide_eq_true_eq]
  rw [← List.length_pos_iff]
  omega

set_option maxHeartbeats 2000000 in
theorem refIsName_any (s : ByteArray) (w : World) (hs : s.size ≤ 4294967296) :
    Calls Tryd.prog 30 #[.string s] w fun e w' => e = .returned (.bool (Mk.isName s.data.toList)) ∧ w = w' := by
  go_enter Tryd.func30, Tryd.ntmps30
  go_wp2
  go_loop [3] (fun i => ∃ k : Nat, k ≤ s.size ∧ i = .int .i64 k ∧ (s.data.toList.take k).all Mk.letter = true) (fun i => s.size - (intOf i).toNat)
  case atStart => exact ⟨0, Nat.zero_le _, rfl, by simp⟩
  case round =>
    obtain ⟨k, hk, rfl, hall⟩ := hrel
    have HA := hide hall
    clear hall
    by_cases hlt : k < s.size
    · have HL := hide (letter_iff (s[k]'hlt))
      have HN := hide (letter_not (s[k]'hlt))
      have HT := hide (take_snoc s k hlt)
      by_cases hc : ((97 : Int) ≤ ((s[k]'hlt).toNat : Int) ∧ ((s[k]'hlt).toNat : Int) ≤ 122) ∨ ((65 : Int) ≤ ((s[k]'hlt).toNat : Int) ∧ ((s[k]'hlt).toNat : Int) ≤ 90) ∨ ((48 : Int) ≤ ((s[k]'hlt).toNat : Int) ∧ ((s[k]'hlt).toNat : Int) ≤ 57) ∨ ((s[k]'hlt).toNat : Int) = 95
      · have HC := hide ((unhide HL).2 hc)
        have R : ∃ k2 : Nat, k2 ≤ s.size ∧ Value.int .i64 ((k : Int) + 1) = .int .i64 k2 ∧ (s.data.toList.take k2).all Mk.letter = true := by
          refine ⟨k + 1, by omega, by simp, ?_⟩
          rw [unhide HT, List.all_append, unhide HA]
          simp [unhide HC]
        have HR := hide R
        clear R
        rcases hc with ⟨h1, h2⟩ | ⟨h1, h2⟩ | ⟨h1, h2⟩ | h1
        all_goals go_wp2
        all_goals exact ⟨unhide HR, by simp [intOf]; omega⟩
      · have HC := hide (isName_off _ (all_letter_not _ k (by rw [← Lib.size_eq]; exact hlt) ((unhide HN) hc)))
        rcases (show ((s[k]'hlt).toNat : Int) < 48 ∨ ((57 : Int) < ((s[k]'hlt).toNat : Int) ∧ ((s[k]'hlt).toNat : Int) < 65) ∨ ((90 : Int) < ((s[k]'hlt).toNat : Int) ∧ ((s[k]'hlt).toNat : Int) < 97 ∧ ¬ ((s[k]'hlt).toNat : Int) = 95) ∨ (122 : Int) < ((s[k]'hlt).toNat : Int) from by omega) with h1 | ⟨h1, h2⟩ | ⟨h1, h2, h3⟩ | h1
        all_goals have h4 : ¬ ((s[k]'hlt).toNat : Int) = 95 := by omega
        all_goals clear hc
        all_goals go_wp2
        all_goals first | (go_ret; exact ⟨ret_bool (unhide HC).symm, rfl⟩) | (exfalso; rename_i hx; simp only [Bool.not_eq_false', decide_eq_true_eq, bne_eq_false_iff_eq] at hx; omega)
    · have HC := hide (isName_by s k hlt (unhide HA))
      go_wp2
      all_goals go_ret
      all_goals (refine ⟨ret_bool ?_, rfl⟩; rw [unhide HC]; simp; try omega)
end Go.Proofs.YtjelacjggijmfaaDoor
