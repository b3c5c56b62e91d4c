/-
  Words with one blank between, and the plain form of one line.
-/
import Derived.Test.YtjelacjggijmfaaDoorW7
namespace Go.Proofs.YtjelacjggijmfaaDoor
open Go.RowKit

set_option maxHeartbeats 400000 in
theorem closed_any (s : ByteArray) (w : World) (hs : s.size ≤ 4294967200) :
    Calls Tryd.prog 15 #[.string s] w fun e w' => e = .returned (.string ⟨(Mk.closed s.data.toList).toArray⟩) ∧ w = w' := by
  cases h : Mk.endsBack s.data.toList with
  | true =>
    go_enter Tryd.func15, Tryd.ntmps15
    go_wp2_with (go_at_call 25; refine (lHasSuffix _ _ (by omega)).mono ?_; rintro e w1 ⟨rfl, rfl⟩; rw [h])
    go_ret
    refine ⟨ret_str (mk_eq ?_), rfl⟩
    simp [Mk.closed, h]
  | false =>
    go_enter Tryd.func15, Tryd.ntmps15
    go_wp2_with (go_at_call 25; refine (lHasSuffix _ _ (by omega)).mono ?_; rintro e w1 ⟨rfl, rfl⟩; rw [h])
    go_ret
    refine ⟨ret_str (mk_eq ?_), rfl⟩
    simp [Mk.closed, h]
set_option maxHeartbeats 400000 in
theorem sides_any (a b c : ByteArray) (w : World) (hs : a.size + b.size + c.size ≤ 4294967296) :
    Calls Tryd.prog 27 #[.string a, .string b, .string c] w fun e w' => e = .returned (.string ⟨(Mk.sides a.data.toList b.data.toList c.data.toList).toArray⟩) ∧ w = w' := by
  cases h0 : c.toList.isEmpty with
  | true =>
    have HE := hide (empty_of h0)
    go_enter Tryd.func27, Tryd.ntmps27
    go_wp2
    go_ret
    refine ⟨ret_str (mk_eq ?_), rfl⟩
    rw [unhide HE]
    simp [Mk.sides]
  | false =>
    go_enter Tryd.func27, Tryd.ntmps27
    go_wp2
    go_ret
    refine ⟨ret_str (mk_eq ?_), rfl⟩
    have h1 : c.data.toList.isEmpty = false := by rw [← Lib.toList_data]; exact h0
    simp only [Mk.sides, h1, data_app]
    simp

theorem blkI_nat (n : Nat) : blkI n = Mk.blkN n := by
  rw [Bool.eq_iff_iff]; simp [blkI, Mk.blkN]; omega
theorem isBlank_pred (w : World) : PredAt Tryd.prog 51 #[] encR Mk.blkN w := fun W x _ => by
  refine (isBlank_any x W).mono ?_
  rintro e w' ⟨rfl, rfl⟩
  exact ⟨ret_bool (blkI_nat x), 0, rfl⟩
set_option maxRecDepth 100000 in
theorem words_any (s : ByteArray) (w : World) (hs : s.size ≤ 4294967296) :
    Calls Tryd.prog 43 #[.string s] w fun e w' => ∃ A, e = .returned (.slice (some ⟨A, 0, none⟩) (Lib.goFieldsP Mk.blkN s).length (Lib.goFieldsP Mk.blkN s).length) ∧
      w'.ownsRow w.heap.size 9 1 (.slice (some ⟨A, 0, none⟩) (Lib.goFieldsP Mk.blkN s).length (Lib.goFieldsP Mk.blkN s).length) (Lib.goFieldsP Mk.blkN s).length ((Lib.goFieldsP Mk.blkN s).map Value.string) ∧ Below w.heap.size w w' := by
  have hff := Any.strings_FieldsFunc Tryd.lay229 51 #[] (enters_of Tryd.func51 (by kernel_rfl) rfl) Mk.blkN s w hs (isBlank_pred w) (by kernel_rfl) (by kernel_rfl)
  go_enter Tryd.func43, Tryd.ntmps43
  go_wp2_with (go_at_call 56; refine hff.mono ?_; rintro e w1 ⟨A, rfl, -, h2, h3⟩)
  go_ret
  exact ⟨A, rfl, h2, h3⟩

theorem row_cells {w : World} {base e n A cap : Nat} {xs : List Value} (h : w.ownsRow base e 1 (.slice (some ⟨A, 0, none⟩) n cap) n xs) :
    A < w.heap.size ∧ ∀ (j : Nat) x, xs[j]? = some x → w.cell? ⟨A, 0 + j, none⟩ = some x := by
  obtain ⟨hl, ⟨h1, _⟩ | ⟨g, cap', cur, hv, _, hg, hn, _, hc, ht⟩⟩ := h
  · cases h1
  · cases hv
    refine ⟨(Array.getElem?_eq_some_iff.1 hg).1, fun j x hj => ?_⟩
    have hjl : j < n := by have := (List.getElem?_eq_some_iff.1 hj).1; omega
    rw [← ht, List.getElem?_take, if_pos (by omega)] at hj
    simp only [Array.getElem?_toList] at hj
    simp [World.cell?, hg, hj]
theorem join_words (s : ByteArray) : Lib.join ((Lib.goFieldsP Mk.blkN s).map (·.data.toList)) [32] = Mk.oneBlank s.data.toList := by
  rw [Mk.goFields_words]; rfl
set_option maxRecDepth 100000 in
set_option maxHeartbeats 400000 in
theorem oneBlank_any (s : ByteArray) (w : World) (hs : s.size ≤ 4294967200) :
    Calls Tryd.prog 26 #[.string s] w fun e w' => e = .returned (.string ⟨(Mk.oneBlank s.data.toList).toArray⟩) ∧ Below w.heap.size w w' := by
  have hcount : (Lib.goFieldsP Mk.blkN s).length ≤ 4294967200 := by
    have h1 := Mk.words_count s.data.toList
    rw [← Mk.goFields_words, List.length_map] at h1
    have := Lib.size_eq s
    omega
  have hlen : (Lib.join ((Lib.goFieldsP Mk.blkN s).map (·.data.toList)) [32]).length ≤ 140737488355328 := by
    have h1 := Mk.oneBlank_le s.data.toList
    rw [join_words]
    have := Lib.size_eq s
    omega
  have HJ := hide (join_words s)
  have HW := hide (words_any s w (by omega))
  have HL := hide hlen
  clear hlen
  generalize Lib.goFieldsP Mk.blkN s = ws at *
  go_enter Tryd.func26, Tryd.ntmps26
  go_wp2_with fail
  refine (unhide HW).mono ?_
  rintro e w1 ⟨A, rfl, h2, h3⟩
  obtain ⟨hA, hcells⟩ := row_cells h2
  have hj := Any.strings_Join Tryd.lay156 Tryd.layX A 0 ws.length ws ⟨#[32]⟩ w1 (fun j x hx => hcells j _ (by rw [List.getElem?_map, hx]; rfl)) hA (by omega) (Nat.le_refl _) (unhide HL)
  have HJ2 := hide hj
  clear hj hcells h2
  go_wp2_with fail
  refine (unhide HJ2).mono ?_
  rintro e w2 ⟨rfl, hb⟩
  go_wp2_with fail
  go_ret
  refine ⟨ret_str ?_, h3.trans (hb.mono h3.size)⟩
  rw [← unhide HJ]

set_option maxHeartbeats 1000000 in
theorem written_any (l : Mk.Ln) (w : World) (hl : l.left.length ≤ 1073741824) (hr : l.right.length ≤ 1073741824) (hk : l.kind ≤ 5) :
    Calls Tryd.prog 16 #[lnV l] w fun e w' => e = .returned (.string ⟨(Mk.written l).toArray⟩) ∧ Below w.heap.size w w' := by
  obtain ⟨n, k, L, R⟩ := l
  simp only at hl hr hk
  unfold lnV
  simp only
  have hLs : (⟨L.toArray⟩ : ByteArray).size = L.length := size_mk L
  have hRs : (⟨R.toArray⟩ : ByteArray).size = R.length := size_mk R
  by_cases h1 : k = 1
  · subst h1
    have HW : Hid (Mk.written ⟨n, 1, L, R⟩ = [9] ++ R) := rfl
    go_enter Tryd.func16, Tryd.ntmps16
    go_wp2_with fail
    go_ret
    refine ⟨ret_str (mk_eq ?_), (Below.refl _ w).alloc (Nat.le_refl _) _⟩
    rw [unhide HW]; simp
  by_cases h2 : k = 2
  · subst h2
    have HW : Hid (Mk.written ⟨n, 2, L, R⟩ = Mk.incl ++ [32] ++ Mk.oneBlank R) := rfl
    have ho := Mk.oneBlank_le R
    have hos : (⟨(Mk.oneBlank R).toArray⟩ : ByteArray).size = (Mk.oneBlank R).length := size_mk _
    go_enter Tryd.func16, Tryd.ntmps16
    go_wp2_with fail
    refine (oneBlank_any ⟨R.toArray⟩ _ (by omega)).mono ?_
    rintro e w1 ⟨rfl, hb⟩
    simp only
    generalize Mk.oneBlank R = q at *
    go_wp2_with fail
    go_ret
    refine ⟨ret_str (mk_eq ?_), below_new hb⟩
    rw [unhide HW]; simp [Mk.incl]
  by_cases h3 : k = 3
  · subst h3
    have HW : Hid (Mk.written ⟨n, 3, L, R⟩ = Mk.sides L [58, 61] R) := rfl
    go_enter Tryd.func16, Tryd.ntmps16
    go_wp2_with fail
    refine (sides_any ⟨L.toArray⟩ ⟨#[58, 61]⟩ ⟨R.toArray⟩ _ (by rw [hLs, hRs]; show _ + 2 + _ ≤ _; omega)).mono ?_
    rintro e w1 ⟨rfl, rfl⟩
    go_wp2_with fail
    go_ret
    refine ⟨ret_str ?_, (Below.refl _ w).alloc (Nat.le_refl _) _⟩
    rw [unhide HW]
  by_cases h4 : k = 4
  · subst h4
    have HW : Hid (Mk.written ⟨n, 4, L, R⟩ = Mk.sides L [61] R) := rfl
    go_enter Tryd.func16, Tryd.ntmps16
    go_wp2_with fail
    refine (sides_any ⟨L.toArray⟩ ⟨#[61]⟩ ⟨R.toArray⟩ _ (by rw [hLs, hRs]; show _ + 1 + _ ≤ _; omega)).mono ?_
    rintro e w1 ⟨rfl, rfl⟩
    go_wp2_with fail
    go_ret
    refine ⟨ret_str ?_, (Below.refl _ w).alloc (Nat.le_refl _) _⟩
    rw [unhide HW]
  have b1 : ((k : Int) == 1) = false := by rw [beq_eq_false_iff_ne]; omega
  have b2 : ((k : Int) == 2) = false := by rw [beq_eq_false_iff_ne]; omega
  have b3 : ((k : Int) == 3) = false := by rw [beq_eq_false_iff_ne]; omega
  have b4 : ((k : Int) == 4) = false := by rw [beq_eq_false_iff_ne]; omega
  have HW : Hid (Mk.written ⟨n, k, L, R⟩ = Mk.sides (Mk.oneBlank L) [58] (Mk.oneBlank R)) := by
    show _ = _
    unfold Mk.written
    simp [h1, h2, h3, h4]
  have hoL := Mk.oneBlank_le L
  have hoR := Mk.oneBlank_le R
  have hsL : (⟨(Mk.oneBlank L).toArray⟩ : ByteArray).size = (Mk.oneBlank L).length := size_mk _
  have hsR : (⟨(Mk.oneBlank R).toArray⟩ : ByteArray).size = (Mk.oneBlank R).length := size_mk _
  clear h1 h2 h3 h4
  have cL := fun W => oneBlank_any ⟨L.toArray⟩ W (by omega)
  have cR := fun W => oneBlank_any ⟨R.toArray⟩ W (by omega)
  simp only at cL cR
  generalize Mk.oneBlank L = qL at *
  generalize Mk.oneBlank R = qR at *
  have cS := fun W => sides_any ⟨qL.toArray⟩ ⟨#[58]⟩ ⟨qR.toArray⟩ W (by rw [hsL, hsR]; show _ + 1 + _ ≤ _; omega)
  have CS := hide cS
  clear cS
  have CL := hide cL
  have CR := hide cR
  clear cL cR
  go_enter Tryd.func16, Tryd.ntmps16
  go_wp2_with fail
  go_region_with (first
    | (go_at_call_of 26 ({ data := List.toArray L } : ByteArray); refine (unhide CL _).mono ?_; rintro e w1 ⟨rfl, hb1⟩; obtain ⟨hc1, hf1⟩ := bcell hb1)
    | (go_at_call_of 26 ({ data := List.toArray R } : ByteArray); refine (unhide CR _).mono ?_; rintro e w2 ⟨rfl, hb2⟩)
    | (go_at_call 27; refine (unhide CS _).mono ?_; rintro e w3 ⟨rfl, rfl⟩))
  all_goals go_wp2_with fail
  all_goals go_ret
  all_goals refine ⟨ret_str ?_, ?_⟩
  all_goals first
    | (show (⟨(Mk.sides qL [58] qR).toArray⟩ : ByteArray) = _; rw [unhide HW])
    | exact (((Below.refl _ w).alloc (Nat.le_refl _) _).drew.trans (hb1.mono (by simp))).trans (hb2.mono (by have := hb1.size; simp at this; omega))
end Go.Proofs.YtjelacjggijmfaaDoor
