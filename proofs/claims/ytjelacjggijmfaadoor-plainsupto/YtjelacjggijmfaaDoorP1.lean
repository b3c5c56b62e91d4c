/-
  Plains: for every text of at most 1048576 letters the law answers true: what the program answers is what the document's own answer is.
-/
import Derived.Test.YtjelacjggijmfaaDoorR6
import Derived.Test.YtjelacjggijmfaaDoorR9
import Derived.Test.YtjelacjggijmfaaDoorA1
namespace Go.Proofs.YtjelacjggijmfaaDoor
open Go.RowKit

theorem refLine_any : LineC := by
  intro n s w hs
  by_cases h0 : 0 < s.size
  · by_cases h9 : s[0] = 9
    · exact refLine_cmd n s w h0 h9
    · refine refLine_rest n s w hs ?_ h0 (byte_ne h9)
      rw [pre9 s h0]; simpa using h9
  · have he : s.data.toList = [] := by rw [List.eq_nil_iff_length_eq_zero, ← Lib.size_eq]; omega
    obtain rfl : s = ⟨#[]⟩ := mk_eq he
    exact refLine_nil n w
theorem refLines_all : LinesC := fun s w hs => refLines_any refLine_any s w hs
theorem refPlain_all (s : ByteArray) (w : World) (hs : s.size ≤ 1048576) :
    Calls Tryd.prog 6 #[.string s] w fun e w' => e = .returned (plRes (Mk.plainOf s.data.toList)) ∧ Below w.heap.size w w' := refPlain_any refLines_all s w hs
set_option maxHeartbeats 400000 in
theorem num_any (z : Int) (w : World) : Calls Tryd.prog 7 #[.int .i64 z] w fun e w' => e = .returned (.int .i64 z) ∧ w = w' := by
  go_enter Tryd.func7, Tryd.ntmps7
  go_wp2
  all_goals go_ret
  all_goals exact ⟨rfl, rfl⟩
def exIn : Mk.Bs := [65, 61, 49, 32, 35, 32, 111, 110, 101, 10, 120, 32, 121, 58, 122, 92, 10, 32, 32, 119, 10, 9, 103, 111]
theorem plain_ex : Mk.plainOf exIn = ([65, 32, 61, 32, 49, 10, 120, 32, 121, 32, 58, 32, 122, 32, 119, 10, 9, 103, 111, 10], 0, 0) := by decide +kernel
set_option maxHeartbeats 1000000 in
theorem plains_any (t : List UInt8) (w : World) (hT : t.length ≤ 1048576) (hg : Glob w) :
    Calls Tryd.prog 3 #[.string ⟨t.toArray⟩] w fun e w' => e = .returned (.bool true) ∧ Below w.heap.size w w' := by
  obtain ⟨⟨s, er, n⟩, hr⟩ : ∃ r, r = Mk.plainOf t := ⟨_, rfl⟩
  have HR := hide hr
  have HEX := hide plain_ex
  clear hr
  go_enter Tryd.func3, Tryd.ntmps3
  go_wp2_with fail
  refine (plain_any exIn w (by decide) hg).mono ?_
  rintro e w1 ⟨rfl, hb1⟩
  rw [unhide HEX]
  unfold plainV
  have hg1 := hg.later hb1
  go_wp2_with fail
  refine (plain_any t w1 (by omega) hg1).mono ?_
  rintro e w2 ⟨rfl, hb2⟩
  rw [← unhide HR]
  unfold plainV
  have hg2 := hg1.later hb2
  go_wp2_with fail
  refine (refPlain_all ⟨t.toArray⟩ w2 (by rw [size_mk]; exact hT)).mono ?_
  rintro e w3 ⟨rfl, hb3⟩
  rw [show (⟨t.toArray⟩ : ByteArray).data.toList = t from by simp, ← unhide HR]
  unfold plRes
  go_wp2_with fail
  refine (num_any _ _).mono ?_
  rintro e w4 ⟨rfl, rfl⟩
  go_wp2_with fail
  go_ret
  have hb12 := hb1.trans (hb2.mono hb1.size)
  exact ⟨rfl, hb12.trans (hb3.mono hb12.size)⟩
end Go.Proofs.YtjelacjggijmfaaDoor
