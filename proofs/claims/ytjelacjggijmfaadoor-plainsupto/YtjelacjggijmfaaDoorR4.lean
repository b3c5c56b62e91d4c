/-
  The document's own answer: words with one blank between.
-/
import Derived.Test.YtjelacjggijmfaaDoorR3
import Derived.Test.YtjelacjggijmfaaDoorPureI
namespace Go.Mk
theorem inter_prefix : ∀ (xs : List Bs) (k : Nat), ([32].intercalate (xs.take k)).length ≤ ([32].intercalate xs).length
  | [], k => by simp
  | [x], k => by
    cases k with
    | zero => simp
    | succ k => simp
  | x :: y :: r, k => by
    match k with
    | 0 => simp
    | 1 => simp only [List.take_succ_cons, List.take_zero, inter_one, inter_two]; simp
    | k + 2 =>
      have h := inter_prefix (y :: r) (k + 1)
      simp only [List.take_succ_cons] at h ⊢
      simp only [inter_two, List.length_append, List.length_cons]
      omega
theorem inter_snoc : ∀ (xs : List Bs) (x : Bs), [32].intercalate (xs ++ [x]) = if xs.isEmpty then x else [32].intercalate xs ++ [32] ++ x
  | [], x => by simp
  | [y], x => by simp
  | y :: z :: r, x => by
    have h := inter_snoc (z :: r) x
    simp only [List.cons_append] at h ⊢
    rw [inter_two, inter_two, h]
    simp
theorem inter_step (xs : List Bs) (k : Nat) (hk : k < xs.length) : [32].intercalate (xs.take (k + 1)) = if k = 0 then xs[k] else [32].intercalate (xs.take k) ++ [32] ++ xs[k] := by
  rw [List.take_succ_eq_append_getElem hk, inter_snoc]
  cases k with
  | zero => simp
  | succ k =>
    have : (xs.take (k + 1)).isEmpty = false := by rw [List.isEmpty_eq_false_iff, ← List.length_pos_iff]; simp; omega
    rw [this]; simp
end Go.Mk
namespace Go.Proofs.YtjelacjggijmfaaDoor
open Go.RowKit

theorem str_app (a b : Mk.Bs) : (⟨a.toArray⟩ : ByteArray) ++ ⟨b.toArray⟩ = ⟨(a ++ b).toArray⟩ := mk_eq (by simp)
set_option maxHeartbeats 2000000 in
set_option maxRecDepth 1000000 in
theorem refJoined_any (B : Nat) (v : Value) (xs : List Mk.Bs) (w : World) (hr : Rowed w B v xs) (hs : ([32].intercalate xs).length ≤ 4294967296) (hn : xs.length ≤ 4294967296) :
    Calls Tryd.prog 10 #[v] w fun e w' => e = .returned (.string ⟨([32].intercalate xs).toArray⟩) ∧ w = w' := by
  rcases hr.2 with ⟨rfl, h0⟩ | ⟨g, cap, cur, rfl, _⟩
  · have HX := hide (List.length_eq_zero_iff.1 h0)
    clear h0
    go_enter Tryd.func10, Tryd.ntmps10
    go_wp2
    go_loop [3, 4] (fun s i => s = .string ⟨#[]⟩ ∧ i = .int .i64 0) (fun _ _ => 0)
    case atStart => exact ⟨rfl, rfl⟩
    case round =>
      obtain ⟨rfl, rfl⟩ := hrel
      go_wp2
      go_ret
      exact ⟨ret_str (by rw [unhide HX]; rfl), rfl⟩
  · rename_i hrest
    clear hrest
    have hcell : ∀ (k : Nat) (x : Mk.Bs), k < xs.length → xs[k]? = some x → w.cell? ⟨g, k, none⟩ = some (.string ⟨x.toArray⟩) := by
      intro k x hk hx
      rw [hr.cellAt k (by omega)]
      simp [hx, strV]
    generalize hnn : xs.length = n at hn hcell hr ⊢
    have HN := hide hnn
    clear hnn hr
    have HS := hide hs
    clear hs
    go_enter Tryd.func10, Tryd.ntmps10
    go_wp2
    go_loop [3, 4] (fun s i => ∃ k : Nat, k ≤ n ∧ i = .int .i64 k ∧ s = .string ⟨([32].intercalate (xs.take k)).toArray⟩) (fun _ i => n - (intOf i).toNat)
    case atStart => exact ⟨0, Nat.zero_le _, rfl, rfl⟩
    case round =>
      obtain ⟨k, hk, rfl, rfl⟩ := hrel
      by_cases hlt : k < n
      · have hkx : k < xs.length := by rw [unhide HN]; exact hlt
        have HT := hide (Mk.inter_step xs k hkx)
        have hc := hcell k xs[k] hlt (List.getElem?_eq_getElem hkx)
        have hP : ([32].intercalate (xs.take k)).length ≤ 4294967296 := Nat.le_trans (Mk.inter_prefix xs k) (unhide HS)
        have hP2 : ([32].intercalate (xs.take (k + 1))).length ≤ 4294967296 := Nat.le_trans (Mk.inter_prefix xs (k + 1)) (unhide HS)
        rw [unhide HT] at hP2
        clear hcell
        have HP0 := hide (show k = 0 → [32].intercalate (xs.take k) = [] from fun h => by rw [h]; rfl)
        generalize [32].intercalate (xs.take k) = p at HT hP hP2 HP0 ⊢
        generalize xs[k] = x at HT hP2 hc
        obtain ⟨P, hPe⟩ : ∃ P : ByteArray, P = ⟨p.toArray⟩ := ⟨_, rfl⟩
        obtain ⟨X, hXe⟩ : ∃ X : ByteArray, X = ⟨x.toArray⟩ := ⟨_, rfl⟩
        have hPs : P.size ≤ 4294967296 := by rw [hPe, size_mk]; exact hP
        have hXs : X.size ≤ 4294967296 := by
          rw [hXe, size_mk]
          refine Nat.le_trans ?_ hP2
          split
          · exact Nat.le_refl _
          · simp; omega
        have HX : Hid (∀ k2 : Nat, k2 = k + 1 → ([32].intercalate (xs.take k2)) = P.data.toList ++ (if k = 0 then [] else [32]) ++ X.data.toList) := by
          intro k2 h2
          rw [h2, unhide HT, hPe, hXe]
          split
          · rw [(unhide HP0) (by assumption)]; simp
          · rfl
        rw [← hXe] at hc
        rw [← hPe]
        clear HP0 hPe hXe HT hP hP2 hkx
        by_cases hk0 : k = 0
        · subst hk0
          go_wp2
          refine ⟨⟨1, by omega, rfl, ?_⟩, by simp [intOf]; omega⟩
          rw [(unhide HX) 1 rfl]
          exact congrArg Value.string (mk_eq (by simp))
        · have hk1 : (0 : Int) < (k : Int) := by omega
          go_wp2
          refine ⟨⟨k + 1, by omega, by go_num, ?_⟩, by simp [intOf]; omega⟩
          rw [(unhide HX) (k + 1) rfl, if_neg hk0]
          exact congrArg Value.string (mk_eq (by simp))
      · have HK := hide (show xs.take k = xs from List.take_of_length_le (by have := unhide HN; omega))
        go_wp2
        go_ret
        exact ⟨ret_str (by rw [unhide HK]), rfl⟩
end Go.Proofs.YtjelacjggijmfaaDoor
