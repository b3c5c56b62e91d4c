/-
  Again: for every text of at most 1048576 letters the law answers true.
-/
import Derived.Test.YtjelacjggijmfaaDoorI3
import Derived.Test.YtjelacjggijmfaaDoorPureK
namespace Go.Proofs.YtjelacjggijmfaaDoor
open Go.RowKit

set_option maxHeartbeats 400000 in
theorem plain_any (t : List UInt8) (w : World) (hT : t.length ≤ 268435456) (hg : Glob w) :
    Calls Tryd.prog 5 #[.string ⟨t.toArray⟩] w fun e w' => e = .returned (plainV (Mk.plainOf t)) ∧ Below w.heap.size w w' := by
  go_enter Tryd.func5, Tryd.ntmps5
  go_wp2_with fail
  refine (callsIn_wide.1 (text_in t w hT hg)).mono ?_
  rintro e w1 ⟨rfl, hb⟩
  unfold plainV
  go_wp2_with fail
  go_ret3
  exact ⟨rfl, hb⟩
theorem plain_ab : Mk.plainOf [97, 58, 98] = ([97, 32, 58, 32, 98, 10], 0, 0) := by decide
set_option maxHeartbeats 1000000 in
theorem again_any (t : List UInt8) (w : World) (hT : t.length ≤ 1048576) (hg : Glob w) :
    Calls Tryd.prog 4 #[.string ⟨t.toArray⟩] w fun e w' => e = .returned (.bool true) ∧ Below w.heap.size w w' := by
  have hlen := Mk.plainOf_len t
  have herr := Mk.plain_err t
  have hok := Mk.plain_again t
  obtain ⟨⟨s, er, n⟩, hr⟩ : ∃ r, r = Mk.plainOf t := ⟨_, rfl⟩
  rw [← hr] at hlen herr hok
  simp only at hlen herr hok
  have HR := hide hr
  have HAB := hide plain_ab
  clear hr
  by_cases her : er = 0
  · obtain ⟨hn0, hag⟩ := hok her
    have HAG := hide hag
    clear herr hok hag
    subst her hn0
    go_enter Tryd.func4, Tryd.ntmps4
    go_wp2_with fail
    refine (plain_any [97, 58, 98] w (by decide) hg).mono ?_
    rintro e w1 ⟨rfl, hb1⟩
    rw [unhide HAB]
    unfold plainV
    have hg1 := hg.later hb1
    go_wp2_with fail
    refine (plain_any t w1 (by omega) hg1).mono ?_
    rintro e w2 ⟨rfl, hb2⟩
    rw [← unhide HR]
    unfold plainV
    have hg2 := hg1.later hb2
    go_wp2_with fail
    refine (plain_any s w2 (by omega) hg2).mono ?_
    rintro e w3 ⟨rfl, hb3⟩
    rw [unhide HAG]
    unfold plainV
    go_wp2_with fail
    go_ret
    have hb12 := hb1.trans (hb2.mono hb1.size)
    exact ⟨rfl, hb12.trans (hb3.mono hb12.size)⟩
  · obtain ⟨hs0, he1, hn1⟩ := herr her
    clear hok herr
    subst hs0 he1
    have hn1' : (1 : Int) ≤ n := by omega
    go_enter Tryd.func4, Tryd.ntmps4
    go_wp2_with fail
    refine (plain_any [97, 58, 98] w (by decide) hg).mono ?_
    rintro e w1 ⟨rfl, hb1⟩
    rw [unhide HAB]
    unfold plainV
    have hg1 := hg.later hb1
    go_wp2_with fail
    refine (plain_any t w1 (by omega) hg1).mono ?_
    rintro e w2 ⟨rfl, hb2⟩
    rw [← unhide HR]
    unfold plainV
    go_wp2_with fail
    go_ret
    exact ⟨rfl, hb1.trans (hb2.mono hb1.size)⟩
end Go.Proofs.YtjelacjggijmfaaDoor
