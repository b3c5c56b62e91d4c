/-
  Package plans: what is ahead of a text; a number, a string, taken off a text.
-/
import Derived.Test.YtjelacjggijmfaaGSP2
import Derived.Test.YtjelacjggijmfaaGSB2
import Derived.Lib.IndexBytes
namespace Go.Proofs.Ytjelacjggijmfaa
open Go.RowKit

set_option maxHeartbeats 400000 in
theorem hasPrefix_any (s p : ByteArray) (w : World) :
    Calls Try.prog 65 #[.string s, .string p] w fun e w' => e = .returned (.bool (decide (p.size ≤ s.size) && ((s.extract 0 p.size).toList == p.toList))) ∧ w = w' := by
  by_cases h : p.size ≤ s.size
  · go_enter Try.func65, Try.ntmps65
    go_wp2
    all_goals go_ret
    all_goals exact ⟨ret_bool (by simp [h]), rfl⟩
  · go_enter Try.func65, Try.ntmps65
    go_wp2
    all_goals go_ret
    all_goals exact ⟨ret_bool (by simp [h]), rfl⟩
set_option maxHeartbeats 400000 in
theorem cutPrefix_yes (s p : ByteArray) (w : World) (h : p.size ≤ s.size) (he : ((s.extract 0 p.size).toList == p.toList) = true) :
    Calls Try.prog 41 #[.string s, .string p] w fun e w' => e = .returned (.tuple #[.string (s.extract p.size s.size), .bool true]) ∧ w = w' := by
  have hc : Calls Try.prog 51 #[.string s, .string p] w fun e w' => e = .returned (.tuple #[.string (s.extract p.size s.size), .bool true]) ∧ w = w' := by
    go_enter Try.func51, Try.ntmps51
    go_wp2_with fail
    refine (hasPrefix_any s p w).mono ?_
    rintro e w1 ⟨rfl, rfl⟩
    rw [he, decide_eq_true h]
    go_wp2_with fail
    all_goals go_ret2
    all_goals exact ⟨rfl, rfl⟩
  go_enter Try.func41, Try.ntmps41
  go_wp2_with fail
  refine hc.mono ?_
  rintro e w1 ⟨rfl, rfl⟩
  go_wp2_with fail
  all_goals go_ret2
  all_goals exact ⟨rfl, rfl⟩
set_option maxHeartbeats 400000 in
theorem cutPrefix_no (s p : ByteArray) (w : World) (he : (decide (p.size ≤ s.size) && ((s.extract 0 p.size).toList == p.toList)) = false) :
    Calls Try.prog 41 #[.string s, .string p] w fun e w' => e = .returned (.tuple #[.string s, .bool false]) ∧ w = w' := by
  have hc : Calls Try.prog 51 #[.string s, .string p] w fun e w' => e = .returned (.tuple #[.string s, .bool false]) ∧ w = w' := by
    go_enter Try.func51, Try.ntmps51
    go_wp2_with fail
    refine (hasPrefix_any s p w).mono ?_
    rintro e w1 ⟨rfl, rfl⟩
    rw [he]
    go_wp2_with fail
    all_goals go_ret2
    all_goals exact ⟨rfl, rfl⟩
  go_enter Try.func41, Try.ntmps41
  go_wp2_with fail
  refine hc.mono ?_
  rintro e w1 ⟨rfl, rfl⟩
  go_wp2_with fail
  all_goals go_ret2
  all_goals exact ⟨rfl, rfl⟩
theorem number_ahead (s : ByteArray) (w : World) (h : 2 ≤ s.size) :
    Calls Try.prog 52 #[.string (s.extract 0 2)] w fun e w' => e = .returned (.int .i64 (Pl.two s.data.toList 0 : Nat)) ∧ w = w' := number_cut s 0 2 w (Nat.le_refl _) (by omega)
set_option maxHeartbeats 400000 in
theorem takeNumber_yes (s : ByteArray) (w : World) (h : 2 ≤ s.size) :
    Calls Try.prog 42 #[.string s] w fun e w' => e = .returned (.tuple #[.int .i64 (Pl.two s.data.toList 0 : Nat), .string (s.extract 2 s.size), .bool true]) ∧ Below w.heap.size w w' := by
  have C := hide (fun w => number_ahead s w h)
  go_enter Try.func42, Try.ntmps42
  go_wp2
  go_region_with (go_at_call 52; refine (unhide C _).mono ?_; rintro e w1 ⟨rfl, rfl⟩)
  all_goals go_wp2_with fail
  all_goals go_ret3
  all_goals exact ⟨rfl, (Below.refl _ w).drew⟩
set_option maxHeartbeats 400000 in
theorem takeNumber_no (s : ByteArray) (w : World) (h : s.size < 2) :
    Calls Try.prog 42 #[.string s] w fun e w' => e = .returned (.tuple #[.int .i64 0, .string ⟨#[]⟩, .bool false]) ∧ w = w' := by
  go_enter Try.func42, Try.ntmps42
  go_wp2
  all_goals go_ret3
  all_goals exact ⟨rfl, rfl⟩
theorem piece_is (l : List UInt8) (k : Nat) : (((⟨l.toArray⟩ : ByteArray).extract 2 (⟨l.toArray⟩ : ByteArray).size).extract 0 k) = ⟨((l.drop 2).take k).toArray⟩ := by
  apply mk_eq; rw [Lib.extract_data, Lib.extract_to_end]; simp
theorem tail_is (l : List UInt8) (k : Nat) : (((⟨l.toArray⟩ : ByteArray).extract 2 (⟨l.toArray⟩ : ByteArray).size).extract k ((⟨l.toArray⟩ : ByteArray).extract 2 (⟨l.toArray⟩ : ByteArray).size).size) = ⟨(l.drop (2 + k)).toArray⟩ := by
  apply mk_eq; rw [Lib.extract_to_end, Lib.extract_to_end]; simp
set_option maxHeartbeats 400000 in
theorem takeString_yes (l : List UInt8) (w : World) (h : 2 ≤ l.length ∧ 2 + Pl.two l 0 ≤ l.length) (hl : l.length ≤ 1048576) :
    Calls Try.prog 43 #[.string ⟨l.toArray⟩] w fun e w' => e = .returned (.tuple #[.string ⟨((l.drop 2).take (Pl.two l 0)).toArray⟩, .string ⟨(l.drop (2 + Pl.two l 0)).toArray⟩, .bool true]) ∧ Below w.heap.size w w' := by
  have HP := hide (piece_is l (Pl.two l 0))
  have HT := hide (tail_is l (Pl.two l 0))
  have hz : ((⟨l.toArray⟩ : ByteArray).extract 2 (⟨l.toArray⟩ : ByteArray).size).size = l.length - 2 := by rw [ByteArray.size_extract, size_mk]; omega
  have hsz : 2 ≤ (⟨l.toArray⟩ : ByteArray).size := by rw [size_mk]; exact h.1
  have C := hide (takeNumber_yes ⟨l.toArray⟩ w hsz)
  rw [mk_list] at C
  generalize Pl.two l 0 = k at *
  have C' := unhide C
  generalize hr : ((⟨l.toArray⟩ : ByteArray).extract 2 (⟨l.toArray⟩ : ByteArray).size) = r at *
  have h1 : k ≤ r.size := by omega
  have h2 : r.size ≤ 1048576 := by omega
  have HL := hide hl
  clear hr hsz hl h hz C
  generalize (⟨l.toArray⟩ : ByteArray) = s at *
  have C := hide C'
  clear C'
  go_enter Try.func43, Try.ntmps43
  go_wp2_with fail
  refine (unhide C).mono ?_
  rintro e w1 ⟨rfl, hb1⟩
  go_wp2_with fail
  go_region
  all_goals go_wp2_with fail
  all_goals go_ret3
  all_goals refine ⟨?_, hb1.drew⟩
  all_goals (rw [← unhide HP, ← unhide HT]; rfl)
set_option maxHeartbeats 400000 in
theorem takeString_no (l : List UInt8) (w : World) (h : ¬ (2 ≤ l.length ∧ 2 + Pl.two l 0 ≤ l.length)) (hl : l.length ≤ 1048576) :
    Calls Try.prog 43 #[.string ⟨l.toArray⟩] w fun e w' => e = .returned (.tuple #[.string ⟨#[]⟩, .string ⟨#[]⟩, .bool false]) ∧ Below w.heap.size w w' := by
  by_cases h2 : 2 ≤ l.length
  · have hz : ((⟨l.toArray⟩ : ByteArray).extract 2 (⟨l.toArray⟩ : ByteArray).size).size = l.length - 2 := by rw [ByteArray.size_extract, size_mk]; omega
    have hsz : 2 ≤ (⟨l.toArray⟩ : ByteArray).size := by rw [size_mk]; exact h2
    have C := hide (takeNumber_yes ⟨l.toArray⟩ w hsz)
    rw [mk_list] at C
    have h3 : l.length < 2 + Pl.two l 0 := by omega
    generalize Pl.two l 0 = k at *
    have C' := unhide C
    generalize hr : ((⟨l.toArray⟩ : ByteArray).extract 2 (⟨l.toArray⟩ : ByteArray).size) = r at *
    have h1 : r.size < k := by omega
    have HL := hide hl
    clear hr hsz hl h hz C h3 h2
    generalize (⟨l.toArray⟩ : ByteArray) = s at *
    have C := hide C'
    clear C'
    go_enter Try.func43, Try.ntmps43
    go_wp2_with fail
    refine (unhide C).mono ?_
    rintro e w1 ⟨rfl, hb1⟩
    go_wp2_with fail
    all_goals go_ret3
    all_goals exact ⟨rfl, hb1⟩
  · have hsz : (⟨l.toArray⟩ : ByteArray).size < 2 := by rw [size_mk]; omega
    generalize (⟨l.toArray⟩ : ByteArray) = s at *
    go_enter Try.func43, Try.ntmps43
    go_wp2_with fail
    refine (takeNumber_no s w hsz).mono ?_
    rintro e w1 ⟨rfl, rfl⟩
    go_wp2_with fail
    all_goals go_ret3
    all_goals exact ⟨rfl, Below.refl _ _⟩
end Go.Proofs.Ytjelacjggijmfaa
