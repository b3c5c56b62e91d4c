/-
  The first sign of a text: strings.IndexAny of = and :, at every text.
-/
import Derived.Test.YtjelacjggijmfaaDoorW5
import Derived.Test.YtjelacjggijmfaaDoorPureU
namespace Go.Proofs.YtjelacjggijmfaaDoor
open Go.RowKit

theorem indexByte_signs (r : Nat) (h : r < 128) : (decide (0 ≤ Lib.indexByte [61, 58] r.toUInt8)) = !(Mk.noSign r.toUInt8) := by
  have : ∀ i : Fin 128, (decide (0 ≤ Lib.indexByte [61, 58] i.val.toUInt8)) = !(Mk.noSign i.val.toUInt8) := by decide
  exact this ⟨r, h⟩
theorem toUInt8_toNat (c : UInt8) : c.toNat.toUInt8 = c := by simp
theorem indexRune_low (c : UInt8) (w : World) (h : c.toNat < 128) :
    Calls Tryd.prog 68 #[.string ⟨#[61, 58]⟩, .int .i32 c.toNat] w fun e w' => ∃ q : Int, e = .returned (.int .i64 q) ∧ (decide (0 ≤ q) = !Mk.noSign c) ∧ w = w' := by
  refine (Any.strings_IndexRune_ascii Tryd.lay152 ⟨#[61, 58]⟩ c.toNat w (by omega) (by omega)).mono ?_
  rintro e w' ⟨rfl, rfl⟩
  refine ⟨_, rfl, ?_, rfl⟩
  have := indexByte_signs c.toNat h
  rw [toUInt8_toNat] at this
  rw [← this]
  simp
theorem signs_byte (c : UInt8) : [61, 58].contains c = !(Mk.noSign c) := by
  simp only [Mk.noSign, List.contains_cons, List.contains_nil, Bool.or_false, Bool.not_not]
theorem noSign_high (c : UInt8) (h : 128 ≤ c.toNat) : Mk.noSign c = true := by
  simp only [Mk.noSign, Bool.not_eq_true', Bool.or_eq_false_iff, beq_eq_false_iff_ne]
  exact ⟨fun e => by subst e; simp at h, fun e => by subst e; simp at h⟩
theorem noAny_more (s : ByteArray) (pos : Nat) (hp : pos < s.size) (hb : 128 ≤ (s[pos]'hp).toNat) (h : Lib.NoAny s.data.toList [61, 58] pos) :
    Lib.NoAny s.data.toList [61, 58] (pos + (Utf8.decode s pos).2) := fun j b hj hjb => by
  by_cases hlt : j < pos
  · exact h j b hlt hjb
  · obtain ⟨h1, h2⟩ := Mk.high_bytes s pos hp hb (j - pos) (by omega)
    rw [show pos + (j - pos) = j from by omega] at h1 h2
    rw [Mk.get_some s j h1] at hjb
    cases hjb
    rw [signs_byte, noSign_high _ h2]; rfl
theorem decode_max (s : ByteArray) (pos : Nat) : (Utf8.decode s pos).1 ≤ 1114111 := by
  rw [Lib.decode_at]
  unfold Lib.decodeN
  repeat' split
  all_goals (simp only; omega)
set_option maxRecDepth 100000 in
set_option maxHeartbeats 1000000 in
theorem indexAny_short (s : ByteArray) (w : World) (h8 : s.size ≤ 8) :
    Calls Tryd.prog 52 #[.string s, .string ⟨#[61, 58]⟩] w fun e w' => e = .returned (.int .i64 (Lib.indexAny s.data.toList [61, 58])) ∧ Below w.heap.size w w' := by
  go_enter Tryd.func52, Tryd.ntmps52
  go_wp2_with (go_at_call 69; go_in)
  go_loopw [9, 10] (fun _ _ wr => ∃ pos : Nat, wr.heap[w.heap.size]? = some (.stringIter s pos) ∧ Below w.heap.size w wr ∧ Lib.NoAny s.data.toList [61, 58] pos) (fun _ _ wr => s.size - wr.iterPos w.heap.size)
  case atStart =>
    exact ⟨0, by simpa using World.iter_heap w s 0, (Below.refl _ w).alloc (Nat.le_refl _) _, Lib.NoAny.zero _ _⟩
  case round =>
    obtain ⟨pos, hit, hb, hno⟩ := hrel
    have HN := hide hno
    clear hno
    have hsz : w.heap.size < wr.heap.size := (Array.getElem?_eq_some_iff.1 hit).1
    by_cases hp : pos < s.size
    · have hnx : ∀ ty, (Instr.next (.pointer (some ⟨w.heap.size, 0, none⟩)) true ty).run Tryd.prog wr = _ := fun ty => Lib.run_next_any_at wr w.heap.size s pos ty hit hp
      have hx := Mk.get_some s pos hp
      rw [Mk.getElem_get s pos hp] at hx
      have HX := hide hx
      clear hx
      have hwd := width_pos s pos hp
      have hit2 := Lib.iterAt_heap wr w.heap.size s pos (pos + (Utf8.decode s pos).2) hit
      have hb2 := Lib.below_iterAt hb (k := w.heap.size) (Nat.le_refl _) s (pos + (Utf8.decode s pos).2)
      have hsz2 : w.heap.size < (wr.iterAt w.heap.size s (pos + (Utf8.decode s pos).2)).heap.size := by rw [Lib.iterAt_size]; omega
      by_cases hlow : (s[pos]'hp).toNat < 128
      · have hd := decode_ascii s pos hp hlow
        rw [hd] at hnx hit2 hb2 hsz2 hwd
        simp only at hnx hit2 hb2 hsz2 hwd
        clear hd
        cases hsg : Mk.noSign (s[pos]'hp) with
        | true =>
          go_wp2_with fail
          refine (indexRune_low _ _ hlow).mono ?_
          rintro e w1 ⟨q, rfl, hq, rfl⟩
          have hq' : q < 0 := by rw [hsg] at hq; simpa using hq
          clear hq
          go_wp2_with fail
          refine ⟨⟨pos + 1, hit2, hb2, (unhide HN).succ (unhide HX) (by rw [signs_byte, hsg]; rfl)⟩, ?_⟩
          simp only [World.iterPos, hit2, hit]
          omega
        | false =>
          go_wp2_with fail
          refine (indexRune_low _ _ hlow).mono ?_
          rintro e w1 ⟨q, rfl, hq, rfl⟩
          have hq' : 0 ≤ q := by rw [hsg] at hq; simpa using hq
          clear hq
          go_wp2_with fail
          go_ret
          exact ⟨ret_int (Lib.indexAny_hit (unhide HN) (unhide HX) (by rw [signs_byte, hsg]; rfl)).symm, hb2⟩
      · have hhi : 128 ≤ (s[pos]'hp).toNat := by omega
        have hno2 := hide (noAny_more s pos hp hhi (unhide HN))
        have hd1 := (decode_high s pos hp hhi).1
        have hd2 := decode_max s pos
        go_wp2_with fail
        refine (indexRune_high _ _ (by omega) (by omega)).mono ?_
        rintro e w1 ⟨rfl, hbx⟩
        have hit3 : w1.heap[w.heap.size]? = some (.stringIter s (pos + (Utf8.decode s pos).2)) := (hbx.block _ hsz2).trans hit2
        have hb3 : Below w.heap.size w w1 := hb2.trans (hbx.mono (by omega))
        clear hbx hb2
        go_wp2_with fail
        refine ⟨⟨_, hit3, hb3, unhide hno2⟩, ?_⟩
        simp only [World.iterPos, hit3, hit]
        omega
    · have hnx : ∀ ty, (Instr.next (.pointer (some ⟨w.heap.size, 0, none⟩)) true ty).run Tryd.prog wr = _ := fun ty => Lib.run_next_end_at wr w.heap.size s pos ty hit hp
      go_wp2_with fail
      go_ret
      refine ⟨ret_int (Lib.indexAny_none ?_).symm, hb⟩
      intro j b hj hjb
      exact (unhide HN) j b (by have := Lib.size_eq s; omega) hjb
theorem indexAny_any (s : ByteArray) (w : World) (hs : s.size ≤ 4294967200) :
    Calls Tryd.prog 52 #[.string s, .string ⟨#[61, 58]⟩] w fun e w' => e = .returned (.int .i64 (Lib.indexAny s.data.toList [61, 58])) ∧ Below w.heap.size w w' := by
  by_cases h8 : s.size ≤ 8
  · exact indexAny_short s w h8
  · have hz : (Tryd.prog.info? (Tryd.ren.t 116)).map (fun i => (i.zero, i.size)) = some (some (.agg (Array.replicate 256 (.bool false))), 256) := by kernel_rfl
    refine (Any.strings_IndexAny_long Tryd.lay153 (zero_of_info hz).1 (zero_of_info hz).2 s ⟨#[61, 58]⟩ w (by decide) (by omega) (by omega) (by decide) (ascii_of_all (by decide))).mono ?_
    rintro e w' ⟨rfl, rfl⟩
    exact ⟨rfl, ((Below.refl _ w).alloc (Nat.le_refl _) _).alloc (by simp) _⟩
theorem indexAny_take : ∀ l : List UInt8, (Lib.indexAny l [61, 58] = -1 ∧ (l.dropWhile Mk.noSign) = []) ∨ (Lib.indexAny l [61, 58] = (l.takeWhile Mk.noSign).length ∧ (l.dropWhile Mk.noSign) ≠ [])
  | [] => .inl ⟨rfl, rfl⟩
  | b :: r => by
    rw [Lib.indexAny, signs_byte, List.dropWhile_cons, List.takeWhile_cons]
    cases hb : Mk.noSign b with
    | false => exact .inr (by simp)
    | true =>
      simp only [Bool.not_true, Bool.false_eq_true, if_false, if_true]
      rcases indexAny_take r with ⟨h1, h2⟩ | ⟨h1, h2⟩
      · rw [h1]; exact .inl ⟨rfl, h2⟩
      · rw [h1]
        have hne : (((r.takeWhile Mk.noSign).length : Int) == -1) = false := by rw [beq_eq_false_iff_ne]; omega
        rw [hne]
        exact .inr ⟨by simp, h2⟩
end Go.Proofs.YtjelacjggijmfaaDoor
