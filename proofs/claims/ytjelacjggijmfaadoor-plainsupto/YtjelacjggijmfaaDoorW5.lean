/-
  strings.IndexAny of two signs at every text, also one of few bytes that are no ASCII.
-/
import Derived.Test.YtjelacjggijmfaaDoorW4
import Derived.Laws.Runes
import Derived.WalkMore
import Derived.BigQuiet
import Derived.Deep.QuietTactic
namespace Go.Proofs.YtjelacjggijmfaaDoor
open Go.RowKit

theorem indexByte_nil (s : ByteArray) (c : Int) (w : World) (h : s.size = 0) :
    Calls Tryd.prog 80 #[.string s, .int .u8 c] w fun e w' => e = .returned (.int .i64 (-1)) ∧ w' = w := by
  refine (Any.strings_IndexByte Tryd.lay137 s c w).mono ?_
  rintro e w' ⟨rfl, rfl⟩
  have : s.data.toList = [] := by rw [List.eq_nil_iff_length_eq_zero, ← Lib.size_eq]; exact h
  rw [this]
  exact ⟨rfl, rfl⟩
set_option maxRecDepth 100000 in
set_option maxHeartbeats 1000000 in
theorem indexRune_high (r : Int) (w : World) (h0 : 128 ≤ r) (h1 : r ≤ 1114111) :
    Calls Tryd.prog 68 #[.string ⟨#[61, 58]⟩, .int .i32 r] w fun e w' => e = .returned (.int .i64 (-1)) ∧ Below w.heap.size w w' := by
  by_cases hr : r = 65533
  · subst hr
    go_enter Tryd.func68, Tryd.ntmps68
    go_wp2_with fail
    go_loopw [5, 6] (fun _ _ wr => ∃ pos : Nat, pos ≤ 2 ∧ wr.heap[w.heap.size]? = some (.stringIter ⟨#[61, 58]⟩ pos) ∧ Below w.heap.size w wr) (fun _ _ wr => 2 - wr.iterPos w.heap.size)
    case atStart =>
      exact ⟨0, by omega, by simpa using World.iter_heap w ⟨#[61, 58]⟩ 0, (Below.refl _ w).alloc (Nat.le_refl _) _⟩
    case round =>
      obtain ⟨pos, hp2, hit, hb⟩ := hrel
      by_cases hp : pos < 2
      · have hnx : ∀ ty, (Instr.next (.pointer (some ⟨w.heap.size, 0, none⟩)) true ty).run Tryd.prog wr = _ := fun ty => Lib.run_next_any_at wr w.heap.size ⟨#[61, 58]⟩ pos ty hit hp
        have hdec : (Utf8.decode ⟨#[61, 58]⟩ pos).2 = 1 ∧ (((Utf8.decode ⟨#[61, 58]⟩ pos).1 : Int) == 65533) = false := by
          rcases (by omega : pos = 0 ∨ pos = 1) with rfl | rfl <;> decide
        obtain ⟨hd1, hd2⟩ := hdec
        have hit2 := Lib.iterAt_heap wr w.heap.size ⟨#[61, 58]⟩ pos (pos + 1) hit
        have hb2 := Lib.below_iterAt hb (k := w.heap.size) (Nat.le_refl _) ⟨#[61, 58]⟩ (pos + 1)
        rw [hd1] at hnx
        clear hd1
        go_wp2_with fail
        refine ⟨⟨pos + 1, by omega, hit2, hb2⟩, ?_⟩
        simp only [World.iterPos, hit2, hit]
        omega
      · have hnx : ∀ ty, (Instr.next (.pointer (some ⟨w.heap.size, 0, none⟩)) true ty).run Tryd.prog wr = _ := fun ty => Lib.run_next_end_at wr w.heap.size ⟨#[61, 58]⟩ pos ty hit hp
        go_wp2_with fail
        go_ret
        exact ⟨rfl, hb⟩
  have hr' : (r == 65533) = false := by simpa using hr
  have HR := hide hr
  clear hr
  cases hv : Lib.validRune r with
  | false =>
    go_enter Tryd.func68, Tryd.ntmps68
    go_wp2_with fail
    refine (Any.utf8_ValidRune Tryd.lay119 _ _).mono ?_
    rintro e w1 ⟨rfl, rfl⟩
    go_wp2_with fail
    go_ret
    exact ⟨rfl, Below.refl _ _⟩
  | true =>
    have hv2 : Utf8.valid r = true := by
      rw [validRune_eq]; exact hv
    obtain ⟨e2, e4, elast⟩ := encode_facts r hv2 h0
    have hlt : (Utf8.encode r).size - 1 < (Utf8.encode r).size := by omega
    have hl := elast hlt
    clear elast hv2
    go_enter Tryd.func68, Tryd.ntmps68
    go_wp2_with fail
    refine (Any.utf8_ValidRune Tryd.lay119 _ _).mono ?_
    rintro e w1 ⟨rfl, rfl⟩
    by_cases hz : (Utf8.encode r).size = 2
    · have hne : ((((⟨#[61, 58]⟩ : ByteArray)[1]'(by decide)).toNat : Int) != ((Utf8.encode r)[1]'(by omega)).toNat) = true := by
        have h3 : ((Utf8.encode r)[(Utf8.encode r).size - 1]'hlt) = (Utf8.encode r)[1]'(by omega) := by congr 1; omega
        rw [h3] at hl
        rw [bne_iff_ne]
        show ((58 : Nat) : Int) ≠ _
        omega
      go_wp2_with fail
      go_step3
      go_wp2_with fail
      refine wp_loop_rounds 1 ?_
      rw [rounds_succ]
      go_wp2_with fail
      go_step3
      go_wp2_with fail
      go_region
      go_wp2_with fail
      go_region_with (go_at_call 80; refine (indexByte_nil _ _ _ (by simp)).mono ?_; rintro e w2 ⟨rfl, rfl⟩)
      all_goals go_wp2_with fail
      all_goals rw [Exit.noGoto_ret]
      all_goals simp only [Exit.inBlock, Exit.then]
      all_goals rw [Exit.noGoto_ret]
      all_goals go_ret
      all_goals exact ⟨rfl, by repeat (first | exact Below.refl _ _ | refine Below.drew ?_)⟩
    · go_wp2_with fail
      go_step3
      go_wp2_with fail
      refine wp_loop_rounds 1 ?_
      rw [rounds_succ]
      go_wp2_with fail
      rw [Exit.noGoto_ret]
      go_ret
      exact ⟨rfl, Below.refl _ _⟩
end Go.Proofs.YtjelacjggijmfaaDoor
