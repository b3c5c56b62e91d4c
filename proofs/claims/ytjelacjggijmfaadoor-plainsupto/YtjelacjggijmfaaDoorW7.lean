/-
  What a line is: a rule or an assignment, and all kinds.
-/
import Derived.Test.YtjelacjggijmfaaDoorW6
namespace Go.Proofs.YtjelacjggijmfaaDoor
open Go.RowKit

def lineRes (r : Mk.Ln × Nat) : Value := .tuple #[lnV r.1, .int .i64 r.2]
theorem parseSides_none {l : List UInt8} (h : l.dropWhile Mk.noSign = []) : Mk.parseSides l = (Mk.Ln.zero, 1) := by
  unfold Mk.parseSides; rw [h]; rfl
theorem zeroV : lnV Mk.Ln.zero = .agg #[.int .i64 0, .int .i64 0, .string ⟨#[]⟩, .string ⟨#[]⟩] := rfl
set_option maxHeartbeats 2000000 in
theorem parseSides_any (s : ByteArray) (w : World) (hs : s.size ≤ 4294967200) :
    Calls Tryd.prog 39 #[.string s] w fun e w' => e = .returned (lineRes (Mk.parseSides s.data.toList)) ∧ Below w.heap.size w w' := by
  rcases indexAny_take s.data.toList with ⟨h1, h2⟩ | ⟨h1, h2⟩
  · have HR := hide (parseSides_none h2)
    have HI := hide h1
    clear h1 h2
    go_enter Tryd.func39, Tryd.ntmps39
    go_wp2_with (go_at_call 52; refine (indexAny_any _ _ hs).mono ?_; rintro e w1 ⟨rfl, hb⟩; rw [unhide HI]; obtain ⟨hc, hf⟩ := bcell hb)
    refine bodyPost_ret (v := lineRes (Mk.parseSides s.data.toList)) ?_ rfl ⟨rfl, below4 (below_new hb) (Nat.le_refl _) _ _ _ _⟩
    rw [unhide HR]
    simp [results, Tryd.results39, go_sem, hc, lineRes, zeroV]
  · obtain ⟨n, hn⟩ : ∃ n, n = (s.data.toList.takeWhile Mk.noSign).length := ⟨_, rfl⟩
    rw [← hn] at h1
    have hsz := Lib.size_eq s
    have hlt : n < s.size := by
      have h3 := congrArg List.length (List.takeWhile_append_dropWhile (p := Mk.noSign) (l := s.data.toList))
      rw [List.length_append] at h3
      have h4 := List.length_pos_iff.2 h2
      omega
    have HI := hide h1
    have hd : (s.extract n s.size).data.toList = s.data.toList.dropWhile Mk.noSign := by
      rw [Lib.extract_to_end, hn]
      have h3 := List.takeWhile_append_dropWhile (p := Mk.noSign) (l := s.data.toList)
      conv => lhs; arg 2; rw [← h3]
      exact List.drop_left
    have ht : (s.extract 0 n).data.toList = s.data.toList.takeWhile Mk.noSign := by
      rw [Lib.extract_data, List.drop_zero, Nat.sub_zero, hn]
      have h3 := List.takeWhile_append_dropWhile (p := Mk.noSign) (l := s.data.toList)
      conv => lhs; arg 2; rw [← h3]
      exact List.take_left
    have HD := hide hd
    have HT := hide ht
    have HN := hide h2
    have hxs : (s.extract n s.size).size = s.size - n := by simp
    have hys : (s.extract 0 n).size = n := by simp; omega
    clear h1 h2 hn hsz hd ht
    go_enter Tryd.func39, Tryd.ntmps39
    go_wp2_with fail
    refine (indexAny_any _ _ hs).mono ?_
    rintro e w1 ⟨rfl, hb1⟩
    rw [unhide HI]
    have hB1 := (Box4.new w 46 _ _ _ _).later hb1
    have hb1' := below_new hb1
    clear hb1
    go_wp2_with fail
    refine (kindOfSign_any _ _ (by omega)).mono ?_
    rintro e w2 ⟨rfl, hb2⟩
    have hB2 := hB1.later hb2
    have hb2' := hb1'.trans (hb2.mono hb1'.size)
    clear hb2 hB1 hb1'
    unfold kindRes
    rw [unhide HD]
    obtain ⟨k, hk⟩ : ∃ k, k = (Mk.kindOf (s.data.toList.dropWhile Mk.noSign)).1 := ⟨_, rfl⟩
    obtain ⟨t, htt⟩ : ∃ t : List UInt8, t = (Mk.kindOf (s.data.toList.dropWhile Mk.noSign)).2 := ⟨_, rfl⟩
    rw [← hk, ← htt]
    have htl : t.length ≤ 4294967200 := by
      have h5 := Mk.kindOf_le (s.data.toList.dropWhile Mk.noSign)
      have h6 := Mk.dropWhile_le Mk.noSign s.data.toList
      have h7 := Lib.size_eq s
      rw [htt]; omega
    have HK := hide hk
    have HTT := hide htt
    clear hk htt
    go_wp2_with fail
    refine (cut_any _ _ (by omega)).mono ?_
    rintro e w3 ⟨rfl, hb3⟩
    have hB3 := hB2.later hb3
    have hb3' := hb2'.trans (hb3.mono hb2'.size)
    clear hb3 hB2 hb2'
    rw [unhide HT]
    go_wp2_with fail
    refine (cut_any ⟨t.toArray⟩ _ (by rw [size_mk]; omega)).mono ?_
    rintro e w4 ⟨rfl, hb4⟩
    have hB4 := hB3.later hb4
    have hb4' := hb3'.trans (hb4.mono hb3'.size)
    clear hb4 hB3 hb3'
    simp only
    have HP : Hid (Mk.parseSides s.data.toList = if Mk.mayStand k (Mk.cut (s.data.toList.takeWhile Mk.noSign)) then (⟨0, k, Mk.cut (s.data.toList.takeWhile Mk.noSign), Mk.cut t⟩, 0) else (Mk.Ln.zero, 1)) := by
      show _ = _
      unfold Mk.parseSides
      have h8 : (s.data.toList.dropWhile Mk.noSign).isEmpty = false := by simpa using unhide HN
      rw [h8, ← unhide HK, ← unhide HTT]
      rfl
    generalize Mk.cut (s.data.toList.takeWhile Mk.noSign) = L at *
    generalize Mk.cut t = R at *
    clear HK HTT HN HT HD HI hxs hys htl
    go_wp2_with fail
    refine (mayStandAhead_any 0 k ⟨L.toArray⟩ ⟨R.toArray⟩ _).mono ?_
    rintro e w5 ⟨rfl, hb5⟩
    have hB5 := (hB4.alloc _).later hb5
    have hC5 := (Box4.new w4 46 _ _ _ _).later hb5
    have hb5' := hb4'.trans ((below_new hb5).mono hb4'.size)
    clear hb5 hB4 hb4'
    simp only
    obtain ⟨⟨c0, c1, c2, c3⟩, ⟨f0, f1, f2, f3⟩⟩ := hB5.cells
    obtain ⟨⟨d0, d1, d2, d3⟩, -⟩ := hC5.cells
    clear hB5 hC5
    cases hm : Mk.mayStand k L with
    | true =>
      go_wp2_with fail
      refine bodyPost_ret (v := lineRes (Mk.parseSides s.data.toList)) ?_ rfl ⟨rfl, below4 hb5' (Nat.le_refl _) _ _ _ _⟩
      rw [unhide HP, hm]
      simp [results, Tryd.results39, go_sem, c0, c1, c2, c3, lineRes, lnV]
    | false =>
      go_wp2_with fail
      refine bodyPost_ret (v := lineRes (Mk.parseSides s.data.toList)) ?_ rfl ⟨rfl, below4 hb5' (Nat.le_refl _) _ _ _ _⟩
      rw [unhide HP, hm]
      simp [results, Tryd.results39, go_sem, c0, c1, c2, c3, lineRes, zeroV]

theorem before_le (c : UInt8) (l : List UInt8) : (Mk.before c l).length ≤ l.length := by unfold Mk.before; exact (List.takeWhile_prefix _).length_le
set_option maxHeartbeats 2000000 in
theorem parse_any (s : ByteArray) (w : World) (hs : s.size ≤ 4294967200) (hg : Glob w) :
    Calls Tryd.prog 23 #[.string s] w fun e w' => e = .returned (lineRes (Mk.parse s.data.toList)) ∧ Below w.heap.size w w' := by
  cases hp : List.isPrefixOf [9] s.data.toList with
  | true =>
    have HP : Hid (Mk.parse s.data.toList = (Mk.parseCmd s.data.toList, 0)) := by show _ = _; unfold Mk.parse; rw [hp]; rfl
    have HQ := hide hp
    clear hp hg
    go_enter Tryd.func23, Tryd.ntmps23
    go_wp2_with fail
    refine (lHasPrefix s ⟨#[9]⟩ _).mono ?_
    rintro e w1 ⟨rfl, rfl⟩
    rw [show List.isPrefixOf (⟨#[9]⟩ : ByteArray).data.toList s.data.toList = true from unhide HQ]
    go_wp2_with fail
    refine (parseCommand_any _ _).mono ?_
    rintro e w2 ⟨rfl, hb⟩
    have hB := (Box4.new w 46 _ _ _ _).later hb
    have hb' := below_new hb
    clear hb
    obtain ⟨⟨c0, c1, c2, c3⟩, ⟨f0, f1, f2, f3⟩⟩ := hB.cells
    unfold lnV
    go_wp2_with fail
    refine bodyPost_ret (v := lineRes (Mk.parse s.data.toList)) ?_ rfl ⟨rfl, below4 hb' (Nat.le_refl _) _ _ _ _⟩
    rw [unhide HP]
    simp [results, Tryd.results23, go_sem, c0, c1, c2, c3, lineRes, lnV]
  | false =>
    obtain ⟨T, hT⟩ : ∃ T, T = Mk.cut (Mk.before 35 s.data.toList) := ⟨_, rfl⟩
    have hTl : T.length ≤ 4294967200 := by
      have h1 := Mk.cut_le (Mk.before 35 s.data.toList)
      have h2 := before_le 35 s.data.toList
      have h3 := Lib.size_eq s
      rw [hT]; omega
    have hbl : (⟨(Mk.before 35 s.data.toList).toArray⟩ : ByteArray).size ≤ 4294967296 := by
      have h2 := before_le 35 s.data.toList
      have h3 := Lib.size_eq s
      rw [size_mk]; omega
    have HP : Hid (Mk.parse s.data.toList = if T.isEmpty then (Mk.Ln.zero, 0) else if Mk.isIncl T then Mk.parseIncl (Mk.cut (T.drop 7)) else Mk.parseSides T) := by
      show _ = _; unfold Mk.parse; rw [hp, hT]; rfl
    have HQ := hide hp
    have HT := hide hT
    clear hp hT
    go_enter Tryd.func23, Tryd.ntmps23
    go_wp2_with fail
    refine (lHasPrefix s ⟨#[9]⟩ _).mono ?_
    rintro e w1 ⟨rfl, rfl⟩
    rw [show List.isPrefixOf (⟨#[9]⟩ : ByteArray).data.toList s.data.toList = false from unhide HQ]
    go_wp2_with fail
    refine (lCut 35 s _ hs (hg.later ((Below.refl _ w).alloc (Nat.le_refl _) _))).mono ?_
    rintro e w2 ⟨rfl, hb2⟩
    have hB2 := (Box4.new w 46 _ _ _ _).later hb2
    have hb2' := below_new hb2
    clear hb2 hg
    generalize Mk.after 35 s.data.toList = q
    generalize Mk.has 35 s.data.toList = q2
    go_wp2_with fail
    refine (cut_any _ _ hbl).mono ?_
    rintro e w3 ⟨rfl, hb3⟩
    have hB3 := hB2.later hb3
    have hb3' := hb2'.trans (hb3.mono hb2'.size)
    clear hb3 hB2 hb2'
    rw [show Mk.cut (⟨(Mk.before 35 s.data.toList).toArray⟩ : ByteArray).data.toList = T from (unhide HT).symm]
    generalize (⟨(Mk.before 35 s.data.toList).toArray⟩ : ByteArray) = B at *
    cases he : T.isEmpty with
    | true =>
      obtain ⟨⟨c0, c1, c2, c3⟩, ⟨f0, f1, f2, f3⟩⟩ := hB3.cells
      go_wp2_with fail
      refine bodyPost_ret (v := lineRes (Mk.parse s.data.toList)) ?_ rfl ⟨rfl, below4 hb3' (Nat.le_refl _) _ _ _ _⟩
      rw [unhide HP, he]
      simp [results, Tryd.results23, go_sem, c0, c1, c2, c3, lineRes, zeroV]
    | false =>
      go_wp2_with fail
      refine (afterInclude_any ⟨T.toArray⟩ _ (by rw [size_mk]; omega)).mono ?_
      rintro e w4 ⟨rfl, hb4⟩
      have hB4 := hB3.later hb4
      have hb4' := hb3'.trans (hb4.mono hb3'.size)
      clear hb4 hB3 hb3'
      unfold inclRes
      simp only
      cases hi : Mk.isIncl T with
      | true =>
        go_wp2_with fail
        refine (parseInclude_any ⟨(Mk.cut (T.drop 7)).toArray⟩ _).mono ?_
        rintro e w5 ⟨rfl, hb5⟩
        have hB5 := hB4.later hb5
        have hb5' := hb4'.trans (hb5.mono hb4'.size)
        clear hb5 hB4 hb4'
        obtain ⟨⟨c0, c1, c2, c3⟩, ⟨f0, f1, f2, f3⟩⟩ := hB5.cells
        unfold lnV
        go_wp2_with fail
        refine bodyPost_ret (v := lineRes (Mk.parse s.data.toList)) ?_ rfl ⟨rfl, below4 hb5' (Nat.le_refl _) _ _ _ _⟩
        rw [unhide HP, he, hi]
        simp [results, Tryd.results23, go_sem, c0, c1, c2, c3, lineRes, lnV]
      | false =>
        go_wp2_with fail
        refine (parseSides_any ⟨T.toArray⟩ _ (by rw [size_mk]; omega)).mono ?_
        rintro e w5 ⟨rfl, hb5⟩
        have hB5 := hB4.later hb5
        have hb5' := hb4'.trans (hb5.mono hb4'.size)
        clear hb5 hB4 hb4'
        obtain ⟨⟨c0, c1, c2, c3⟩, ⟨f0, f1, f2, f3⟩⟩ := hB5.cells
        unfold lineRes lnV
        go_wp2_with fail
        refine bodyPost_ret (v := lineRes (Mk.parse s.data.toList)) ?_ rfl ⟨rfl, below4 hb5' (Nat.le_refl _) _ _ _ _⟩
        rw [unhide HP, he, hi]
        simp [results, Tryd.results23, go_sem, c0, c1, c2, c3, lineRes, lnV]
end Go.Proofs.YtjelacjggijmfaaDoor
