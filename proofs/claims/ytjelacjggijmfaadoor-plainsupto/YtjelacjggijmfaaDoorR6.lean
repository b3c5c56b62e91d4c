/-
  The document's own answer: what a line is that is no command.
-/
import Derived.Test.YtjelacjggijmfaaDoorR5
namespace Go.Proofs.YtjelacjggijmfaaDoor
open Go.RowKit

theorem mayStand_incl (kd : Nat) (L : ByteArray) (h : (L.toList == [105, 110, 99, 108, 117, 100, 101]) = true) : Mk.mayStand kd L.data.toList = false := by
  rw [Lib.toList_data] at h
  rw [show L.data.toList = Mk.incl from eq_of_beq h]
  rfl
theorem mayStand_name (kd : Nat) (L : ByteArray) (hk : kd ≠ 5) (h : (L.toList == [105, 110, 99, 108, 117, 100, 101]) = false) : Mk.mayStand kd L.data.toList = Mk.isName L.data.toList := by
  rw [Lib.toList_data] at h
  unfold Mk.mayStand
  rw [show (L.data.toList == Mk.incl) = false from h]
  simp [hk]
theorem mayStand_rule (L : ByteArray) (h : (L.toList == [105, 110, 99, 108, 117, 100, 101]) = false) : Mk.mayStand 5 L.data.toList = !L.toList.isEmpty := by
  rw [Lib.toList_data] at h
  unfold Mk.mayStand
  rw [show (L.data.toList == Mk.incl) = false from h, isEmpty_data]
  rfl
theorem byte_ne {a b : UInt8} (h : ¬ a = b) : ((a.toNat : Int) == (b.toNat : Int)) = false := by
  rw [beq_eq_false_iff_ne]; intro h2; apply h; rw [← UInt8.toNat_inj]; exact Int.ofNat.inj h2

set_option maxHeartbeats 10000000 in
set_option maxRecDepth 1000000 in
theorem refLine_rest (n : Nat) (s : ByteArray) (w : World) (hs : s.size ≤ 4294967200) (h9 : List.isPrefixOf [9] s.data.toList = false) (h0 : 0 < s.size) (h9' : ((s[0].toNat : Int) == 9) = false) :
    Calls Tryd.prog 20 #[.int .i64 n, .string s] w fun e w' => ∃ v, e = .returned v ∧ RLn n (Mk.parse s.data.toList) v ∧ Below w.heap.size w w' := by
  obtain ⟨T, hT, hTd, hTs⟩ := ofBytes (Mk.cut (Mk.before 35 s.data.toList))
  have HP := hide (parse_rest s.data.toList T.data.toList h9 hTd)
  have hTl : T.size ≤ 4294967200 := by
    have h1 := Mk.cut_le (Mk.before 35 s.data.toList)
    have h2 := before_le 35 s.data.toList
    have h3 := Lib.size_eq s
    omega
  have HT := hide hT
  have HD := hide hTd
  clear hT hTd hTs h9
  go_enter Tryd.func20, Tryd.ntmps20
  go_wp2_with fail
  go_loop [1, 6] (fun v i => ∃ (t : ByteArray) (k : Nat), v = .string t ∧ i = .int .i64 k ∧ Ahead s t k) (fun v i => strLen v + 2 - (intOf i).toNat)
  case atStart => exact ⟨s, 0, rfl, rfl, .inl ⟨rfl, Nat.zero_le _, by simp⟩⟩
  case round =>
    obtain ⟨t, k, rfl, rfl, hat⟩ := hrel
    have hle := hat.le
    have HA := hide hat
    clear hat
    obtain ⟨hle1, hle2⟩ := hle
    by_cases hlt : k < t.size
    · by_cases hc : (t[k]'hlt) = 35
      · have HR := hide ((unhide HA).cut hlt hc)
        have hc' : (((t[k]'hlt).toNat : Int) == 35) = true := by rw [hc]; rfl
        clear hc HA
        go_wp2_with fail
        refine ⟨⟨_, k + 1, rfl, by go_num, unhide HR⟩, ?_⟩
        simp [strLen, intOf]; omega
      · have HR := hide ((unhide HA).go hlt hc)
        have hc' : (((t[k]'hlt).toNat : Int) == 35) = false := by
          rw [beq_eq_false_iff_ne]; intro h; apply hc; rw [← UInt8.toNat_inj]; exact Int.ofNat.inj h
        clear hc HA
        go_wp2_with fail
        refine ⟨⟨t, k + 1, rfl, by go_num, unhide HR⟩, ?_⟩
        simp [strLen, intOf]; omega
    · have hd := (unhide HA).done hlt
      have htd : Mk.cut t.data.toList = Mk.cut (Mk.before 35 s.data.toList) := by rw [hd]
      have HTD := hide htd
      clear hd htd HA
      go_wp2_with fail
      refine (refCut_any _ _ (by omega)).mono ?_
      rintro e w1 ⟨rfl, rfl⟩
      rw [unhide HTD, ← unhide HT]
      clear HTD
      cases he : T.toList.isEmpty with
      | true =>
        have hr : Mk.parse s.data.toList = (Mk.Ln.zero, 0) := by rw [unhide HP, ← isEmpty_data, he]; rfl
        have HR := hide hr
        clear hr HP HT HD
        go_wp2_with fail
        refine bodyPost_ret (v := .agg #[.int .i64 n, .int .u8 0, .string ⟨#[]⟩, .string ⟨#[]⟩]) (by simp [results, Tryd.results20, go_sem]) rfl ⟨_, rfl, RLn.of ?_ ?_, ((Below.refl _ w).alloc (Nat.le_refl _) _).alloc (by simp) _⟩
        · rw [unhide HR]; rfl
        · intro _; rw [unhide HR]; exact ⟨rfl, rfl⟩
      | false =>
        cases hin : T.toList == [105, 110, 99, 108, 117, 100, 101] with
        | true =>
          have hr : Mk.rk (Mk.parse s.data.toList) = 120 := by
            rw [unhide HP, ← isEmpty_data, he]
            rw [Lib.toList_data] at hin
            rw [show T.data.toList = Mk.incl from eq_of_beq hin]
            rfl
          have HR := hide hr
          clear hr HP HT HD
          go_wp2_with fail
          refine bodyPost_ret (v := .agg #[.int .i64 n, .int .u8 120, .string ⟨#[]⟩, .string ⟨#[]⟩]) (by simp [results, Tryd.results20, go_sem]) rfl ⟨_, rfl, RLn.of ?_ ?_, ((Below.refl _ w).alloc (Nat.le_refl _) _).alloc (by simp) _⟩
          · rw [unhide HR]; rfl
          · intro h; exact absurd rfl h
        | false =>
          have HN : Hid (T.data.toList ≠ Mk.incl) := by
            rw [Lib.toList_data] at hin
            have : (T.data.toList == Mk.incl) = false := hin
            show _ ≠ _
            simpa using this
          have HE : Hid (T.data.toList.isEmpty = false) := by show _ = _; rw [← isEmpty_data]; exact he
          have HL := hide (Lib.size_eq T)
          have hx7 : (T.extract 0 7).toList = T.data.toList.take 7 := by rw [Lib.toList_data, Lib.extract_data, List.drop_zero]
          rcases Mk.incl_ways T.data.toList (unhide HN) with ⟨h7, hpre, hbk, hi⟩ | ⟨hi, hw⟩
          · have hl7 : 7 < T.size := by rw [Lib.size_eq]; exact h7
            have hpre' : ((T.extract 0 7).toList == [105, 110, 99, 108, 117, 100, 101]) = true := by rw [hx7]; exact hpre
            have hbk' : Mk.blk (T[7]'hl7) = true := hbk
            have hxe : (T.extract 7 T.size).size ≤ 4294967296 := by simp; omega
            have HR : Hid (Mk.parse s.data.toList = (⟨0, 2, [], Mk.cut (T.data.toList.drop 7)⟩, 0)) := by
              show _ = _
              rw [unhide HP, unhide HE, hi, if_neg (by decide), if_pos rfl]
              exact Mk.incl_right _ _ (unhide HD) h7
            have HX := hide (Lib.extract_to_end T 7)
            clear h7 hpre hbk hi hx7 HP HT HD HN HE HL
            go_wp2_with fail
            refine (refBlank_any _ _).mono ?_
            rintro e w1 ⟨rfl, rfl⟩
            rw [hbk']
            go_wp2_with fail
            refine (refCut_any _ _ hxe).mono ?_
            rintro e w1 ⟨rfl, rfl⟩
            rw [unhide HX]
            go_wp2_with fail
            refine bodyPost_ret (v := .agg #[.int .i64 n, .int .u8 105, .string ⟨#[]⟩, .string ⟨(Mk.cut (T.data.toList.drop 7)).toArray⟩]) (by simp [results, Tryd.results20, go_sem]) rfl ⟨_, rfl, RLn.of ?_ ?_, ((Below.refl _ w).alloc (Nat.le_refl _) _).alloc (by simp) _⟩
            · rw [unhide HR]; rfl
            · intro _; rw [unhide HR]; exact ⟨rfl, rfl⟩
          · have HR : Hid (Mk.parse s.data.toList = Mk.parseSides T.data.toList) := by
              show _ = _
              rw [unhide HP, unhide HE, hi]; rfl
            clear HP HT HD HN HE hi
            rcases hw with h7 | ⟨h7, hpre | ⟨hpre, hbk⟩⟩
            case' false.false.inr.inl =>
              have hl7 : T.size ≤ 7 := by rw [Lib.size_eq]; exact h7
              clear hx7 h7 HL
              go_wp2_with fail
            case' false.false.inr.inr.inl =>
              have hl7 : 7 < T.size := by rw [Lib.size_eq]; exact h7
              have hpre' : ((T.extract 0 7).toList == [105, 110, 99, 108, 117, 100, 101]) = false := by rw [hx7]; exact hpre
              clear hx7 h7 hpre HL
              go_wp2_with fail
            case' false.false.inr.inr.inr =>
              have hl7 : 7 < T.size := by rw [Lib.size_eq]; exact h7
              have hpre' : ((T.extract 0 7).toList == [105, 110, 99, 108, 117, 100, 101]) = true := by rw [hx7]; exact hpre
              have hbk' : Mk.blk (T[7]'hl7) = false := hbk
              clear hx7 h7 hpre hbk HL
              go_wp2_with fail
              refine (refBlank_any _ _).mono ?_
              rintro e w1 ⟨rfl, rfl⟩
              rw [hbk']
              go_wp2_with fail
            all_goals
              go_loop [8] (fun i => ∃ k : Nat, k ≤ T.size ∧ i = .int .i64 k ∧ (T.data.toList.take k).all Mk.noSign = true) (fun i => T.size - (intOf i).toNat)
              case atStart => exact ⟨0, Nat.zero_le _, rfl, by simp⟩
              case round =>
                obtain ⟨k, hk, rfl, hall⟩ := hrel
                have HA := hide hall
                clear hall
                by_cases hlt : k < T.size
                · have HKL : Hid (k < T.data.toList.length) := by show k < _; rw [← Lib.size_eq]; exact hlt
                  obtain ⟨L, hLe, hLd, hLs0⟩ := ofBytes (Mk.cut (T.data.toList.take k))
                  have hLs : L.size ≤ 4294967296 := by
                    have h1 := Mk.cut_le (T.data.toList.take k)
                    have h2 := List.length_take_le k T.data.toList
                    omega
                  have HLe := hide hLe
                  have HLd := hide hLd
                  have hxk : (T.extract 0 k).size ≤ 4294967296 := by simp; omega
                  have HXk : Hid ((T.extract 0 k).data.toList = T.data.toList.take k) := by show _ = _; rw [Lib.extract_data, List.drop_zero, Nat.sub_zero]
                  clear hLe hLd hLs0
                  by_cases h61 : (T[k]'hlt) = 61
                  · obtain ⟨R, hRe, hRd, -⟩ := ofBytes (Mk.cut (T.data.toList.drop (k + 1)))
                    have hS := Mk.SignAt.of (unhide HKL) (unhide HA) (show Mk.noSign (T.data.toList[k]'(unhide HKL)) = false from (show Mk.noSign (T[k]'hlt) = false by rw [h61]; rfl)) (Mk.kind_late _ k (unhide HKL) h61)
                    have HY : Hid (Mk.mayStand 4 L.data.toList = true → Mk.parseSides T.data.toList = (⟨0, 4, L.data.toList, R.data.toList⟩, 0)) := by
                      show _ → _
                      rw [unhide HLd, hRd]; exact hS.yes
                    have HNo : Hid (Mk.mayStand 4 L.data.toList = false → Mk.rk (Mk.parseSides T.data.toList) = 120) := by
                      show _ → _
                      rw [unhide HLd]; exact hS.no
                    have HRe := hide hRe
                    have hxr : (T.extract (k + 1) T.size).size ≤ 4294967296 := by simp; omega
                    have HXr := hide (Lib.extract_to_end T (k + 1))
                    have hb1 : (((T[k]'hlt).toNat : Int) != 61) = false := by rw [h61]; rfl
                    have hb2 : (((T[k]'hlt).toNat : Int) == 58) = false := by rw [h61]; rfl
                    clear h61
                    clear hS hRe hRd HA HKL
                    go_wp2_with fail
                    refine (refCut_any _ _ hxk).mono ?_
                    rintro e w1 ⟨rfl, rfl⟩
                    rw [unhide HXk, ← unhide HLe]
                    go_wp2_with fail
                    refine (refIsName_any _ _ hLs).mono ?_
                    rintro e w1 ⟨rfl, rfl⟩
                    cases hLi : L.toList == [105, 110, 99, 108, 117, 100, 101] with
                    | true =>
                      have HM := hide (mayStand_incl 4 L hLi)
                      generalize Mk.isName L.data.toList = nm
                      go_wp2_with fail
                      refine bodyPost_ret (v := .agg #[.int .i64 n, .int .u8 120, .string L, .string ⟨#[]⟩]) (by simp [results, Tryd.results20, go_sem]) rfl ⟨_, rfl, RLn.of ?_ ?_, ((Below.refl _ w).alloc (Nat.le_refl _) _).alloc (by simp) _⟩
                      · rw [unhide HR, (unhide HNo) (unhide HM)]; rfl
                      · intro h; exact absurd rfl h
                    | false =>
                      have HM := hide (mayStand_name 4 L (by decide) hLi)
                      cases hnm : Mk.isName L.data.toList with
                      | true =>
                        have HM2 : Hid (Mk.mayStand 4 L.data.toList = true) := by show _ = _; rw [unhide HM, hnm]
                        go_wp2_with fail
                        refine (refCut_any _ _ hxr).mono ?_
                        rintro e w1 ⟨rfl, rfl⟩
                        rw [unhide HXr, ← unhide HRe]
                        go_wp2_with fail
                        refine bodyPost_ret (v := .agg #[.int .i64 n, .int .u8 108, .string L, .string R]) (by simp [results, Tryd.results20, go_sem]) rfl ⟨_, rfl, RLn.of ?_ ?_, ((Below.refl _ w).alloc (Nat.le_refl _) _).alloc (by simp) _⟩
                        · rw [unhide HR, (unhide HY) (unhide HM2)]; rfl
                        · intro _; rw [unhide HR, (unhide HY) (unhide HM2)]; exact ⟨mk_eq rfl, mk_eq rfl⟩
                      | false =>
                        have HM2 : Hid (Mk.mayStand 4 L.data.toList = false) := by show _ = _; rw [unhide HM, hnm]
                        go_wp2_with fail
                        refine (refCut_any _ _ hxr).mono ?_
                        rintro e w1 ⟨rfl, rfl⟩
                        rw [unhide HXr, ← unhide HRe]
                        go_wp2_with fail
                        refine bodyPost_ret (v := .agg #[.int .i64 n, .int .u8 120, .string L, .string R]) (by simp [results, Tryd.results20, go_sem]) rfl ⟨_, rfl, RLn.of ?_ ?_, ((Below.refl _ w).alloc (Nat.le_refl _) _).alloc (by simp) _⟩
                        · rw [unhide HR, (unhide HNo) (unhide HM2)]; rfl
                        · intro h; exact absurd rfl h
                  · have hb1 : (((T[k]'hlt).toNat : Int) != 61) = true := by have := byte_ne h61; simpa [bne] using this
                    clear h61
                    by_cases h58 : (T[k]'hlt) = 58
                    · have hb2 : (((T[k]'hlt).toNat : Int) != 58) = false := by rw [h58]; rfl
                      have hb3 : (((T[k]'hlt).toNat : Int) == 58) = true := by rw [h58]; rfl
                      by_cases hE : k + 1 = T.size
                      · obtain ⟨R, hRe, hRd, -⟩ := ofBytes (Mk.cut (T.data.toList.drop (k + 1)))
                        have hS := Mk.SignAt.of (unhide HKL) (unhide HA) (show Mk.noSign (T.data.toList[k]'(unhide HKL)) = false from (show Mk.noSign (T[k]'hlt) = false by rw [h58]; rfl)) (Mk.kind_rule_end _ k (by rw [← Lib.size_eq]; exact hE) h58)
                        have HY : Hid (Mk.mayStand 5 L.data.toList = true → Mk.parseSides T.data.toList = (⟨0, 5, L.data.toList, R.data.toList⟩, 0)) := by
                          show _ → _
                          rw [unhide HLd, hRd]; exact hS.yes
                        have HNo : Hid (Mk.mayStand 5 L.data.toList = false → Mk.rk (Mk.parseSides T.data.toList) = 120) := by
                          show _ → _
                          rw [unhide HLd]; exact hS.no
                        have HRe := hide hRe
                        have hxr : (T.extract (k + 1) T.size).size ≤ 4294967296 := by simp; omega
                        have HXr := hide (Lib.extract_to_end T (k + 1))
                        have hb4 : (((k : Int) + 1) == (T.size : Int)) = true := by rw [beq_iff_eq]; omega
                        clear hE
                        clear h58
                        clear hS hRe hRd HA HKL
                        go_wp2_with fail
                        refine (refCut_any _ _ hxk).mono ?_
                        rintro e w1 ⟨rfl, rfl⟩
                        rw [unhide HXk, ← unhide HLe]
                        go_wp2_with fail
                        refine (refIsName_any _ _ hLs).mono ?_
                        rintro e w1 ⟨rfl, rfl⟩
                        cases hLi : L.toList == [105, 110, 99, 108, 117, 100, 101] with
                        | true =>
                          have HM := hide (mayStand_incl 5 L hLi)
                          generalize Mk.isName L.data.toList = nm
                          go_wp2_with fail
                          refine bodyPost_ret (v := .agg #[.int .i64 n, .int .u8 120, .string L, .string ⟨#[]⟩]) (by simp [results, Tryd.results20, go_sem]) rfl ⟨_, rfl, RLn.of ?_ ?_, ((Below.refl _ w).alloc (Nat.le_refl _) _).alloc (by simp) _⟩
                          · rw [unhide HR, (unhide HNo) (unhide HM)]; rfl
                          · intro h; exact absurd rfl h
                        | false =>
                          have HM := hide (mayStand_rule L hLi)
                          generalize Mk.isName L.data.toList = nm
                          go_wp2_with fail
                          refine (refCut_any _ _ hxr).mono ?_
                          rintro e w1 ⟨rfl, rfl⟩
                          rw [unhide HXr, ← unhide HRe]
                          cases hnm : L.toList.isEmpty with
                          | true =>
                            have HM2 : Hid (Mk.mayStand 5 L.data.toList = false) := by show _ = _; rw [unhide HM, hnm]; rfl
                            go_wp2_with fail
                            refine bodyPost_ret (v := .agg #[.int .i64 n, .int .u8 120, .string L, .string R]) (by simp [results, Tryd.results20, go_sem]) rfl ⟨_, rfl, RLn.of ?_ ?_, ((Below.refl _ w).alloc (Nat.le_refl _) _).alloc (by simp) _⟩
                            · rw [unhide HR, (unhide HNo) (unhide HM2)]; rfl
                            · intro h; exact absurd rfl h
                          | false =>
                            have HM2 : Hid (Mk.mayStand 5 L.data.toList = true) := by show _ = _; rw [unhide HM, hnm]; rfl
                            go_wp2_with fail
                            refine bodyPost_ret (v := .agg #[.int .i64 n, .int .u8 114, .string L, .string R]) (by simp [results, Tryd.results20, go_sem]) rfl ⟨_, rfl, RLn.of ?_ ?_, ((Below.refl _ w).alloc (Nat.le_refl _) _).alloc (by simp) _⟩
                            · rw [unhide HR, (unhide HY) (unhide HM2)]; rfl
                            · intro _; rw [unhide HR, (unhide HY) (unhide HM2)]; exact ⟨mk_eq rfl, mk_eq rfl⟩
                      · have hlt1 : k + 1 < T.size := by omega
                        have HKL1 : Hid (k + 1 < T.data.toList.length) := by show k + 1 < _; rw [← Lib.size_eq]; exact hlt1
                        have hb4 : (((k : Int) + 1) == (T.size : Int)) = false := by rw [beq_eq_false_iff_ne]; omega
                        by_cases hn1 : (T[k + 1]'hlt1) = 61
                        · obtain ⟨R, hRe, hRd, -⟩ := ofBytes (Mk.cut (T.data.toList.drop (k + 2)))
                          have hS := Mk.SignAt.of (unhide HKL) (unhide HA) (show Mk.noSign (T.data.toList[k]'(unhide HKL)) = false from (show Mk.noSign (T[k]'hlt) = false by rw [h58]; rfl)) (Mk.kind_fixed _ k (unhide HKL1) h58 hn1)
                          have HY : Hid (Mk.mayStand 3 L.data.toList = true → Mk.parseSides T.data.toList = (⟨0, 3, L.data.toList, R.data.toList⟩, 0)) := by
                            show _ → _
                            rw [unhide HLd, hRd]; exact hS.yes
                          have HNo : Hid (Mk.mayStand 3 L.data.toList = false → Mk.rk (Mk.parseSides T.data.toList) = 120) := by
                            show _ → _
                            rw [unhide HLd]; exact hS.no
                          have HRe := hide hRe
                          have hxr : (T.extract (k + 2) T.size).size ≤ 4294967296 := by simp; omega
                          have HXr := hide (Lib.extract_to_end T (k + 2))
                          have hb5 : (((T[k + 1]'hlt1).toNat : Int) != 61) = false := by rw [hn1]; rfl
                          clear h58 hn1
                          clear hS hRe hRd HA HKL
                          go_wp2_with fail
                          refine (refCut_any _ _ hxk).mono ?_
                          rintro e w1 ⟨rfl, rfl⟩
                          rw [unhide HXk, ← unhide HLe]
                          go_wp2_with fail
                          refine (refIsName_any _ _ hLs).mono ?_
                          rintro e w1 ⟨rfl, rfl⟩
                          cases hLi : L.toList == [105, 110, 99, 108, 117, 100, 101] with
                          | true =>
                            have HM := hide (mayStand_incl 3 L hLi)
                            generalize Mk.isName L.data.toList = nm
                            go_wp2_with fail
                            refine bodyPost_ret (v := .agg #[.int .i64 n, .int .u8 120, .string L, .string ⟨#[]⟩]) (by simp [results, Tryd.results20, go_sem]) rfl ⟨_, rfl, RLn.of ?_ ?_, ((Below.refl _ w).alloc (Nat.le_refl _) _).alloc (by simp) _⟩
                            · rw [unhide HR, (unhide HNo) (unhide HM)]; rfl
                            · intro h; exact absurd rfl h
                          | false =>
                            have HM := hide (mayStand_name 3 L (by decide) hLi)
                            cases hnm : Mk.isName L.data.toList with
                            | true =>
                              have HM2 : Hid (Mk.mayStand 3 L.data.toList = true) := by show _ = _; rw [unhide HM, hnm]
                              go_wp2_with fail
                              refine (refCut_any _ _ hxr).mono ?_
                              rintro e w1 ⟨rfl, rfl⟩
                              rw [unhide HXr, ← unhide HRe]
                              go_wp2_with fail
                              refine bodyPost_ret (v := .agg #[.int .i64 n, .int .u8 102, .string L, .string R]) (by simp [results, Tryd.results20, go_sem]) rfl ⟨_, rfl, RLn.of ?_ ?_, ((Below.refl _ w).alloc (Nat.le_refl _) _).alloc (by simp) _⟩
                              · rw [unhide HR, (unhide HY) (unhide HM2)]; rfl
                              · intro _; rw [unhide HR, (unhide HY) (unhide HM2)]; exact ⟨mk_eq rfl, mk_eq rfl⟩
                            | false =>
                              have HM2 : Hid (Mk.mayStand 3 L.data.toList = false) := by show _ = _; rw [unhide HM, hnm]
                              go_wp2_with fail
                              refine (refCut_any _ _ hxr).mono ?_
                              rintro e w1 ⟨rfl, rfl⟩
                              rw [unhide HXr, ← unhide HRe]
                              go_wp2_with fail
                              refine bodyPost_ret (v := .agg #[.int .i64 n, .int .u8 120, .string L, .string R]) (by simp [results, Tryd.results20, go_sem]) rfl ⟨_, rfl, RLn.of ?_ ?_, ((Below.refl _ w).alloc (Nat.le_refl _) _).alloc (by simp) _⟩
                              · rw [unhide HR, (unhide HNo) (unhide HM2)]; rfl
                              · intro h; exact absurd rfl h
                        · obtain ⟨R, hRe, hRd, -⟩ := ofBytes (Mk.cut (T.data.toList.drop (k + 1)))
                          have hS := Mk.SignAt.of (unhide HKL) (unhide HA) (show Mk.noSign (T.data.toList[k]'(unhide HKL)) = false from (show Mk.noSign (T[k]'hlt) = false by rw [h58]; rfl)) (Mk.kind_rule _ k (unhide HKL1) h58 hn1)
                          have HY : Hid (Mk.mayStand 5 L.data.toList = true → Mk.parseSides T.data.toList = (⟨0, 5, L.data.toList, R.data.toList⟩, 0)) := by
                            show _ → _
                            rw [unhide HLd, hRd]; exact hS.yes
                          have HNo : Hid (Mk.mayStand 5 L.data.toList = false → Mk.rk (Mk.parseSides T.data.toList) = 120) := by
                            show _ → _
                            rw [unhide HLd]; exact hS.no
                          have HRe := hide hRe
                          have hxr : (T.extract (k + 1) T.size).size ≤ 4294967296 := by simp; omega
                          have HXr := hide (Lib.extract_to_end T (k + 1))
                          have hb5 : (((T[k + 1]'hlt1).toNat : Int) != 61) = true := by have := byte_ne hn1; simpa [bne] using this
                          clear h58 hn1
                          clear hS hRe hRd HA HKL
                          go_wp2_with fail
                          refine (refCut_any _ _ hxk).mono ?_
                          rintro e w1 ⟨rfl, rfl⟩
                          rw [unhide HXk, ← unhide HLe]
                          go_wp2_with fail
                          refine (refIsName_any _ _ hLs).mono ?_
                          rintro e w1 ⟨rfl, rfl⟩
                          cases hLi : L.toList == [105, 110, 99, 108, 117, 100, 101] with
                          | true =>
                            have HM := hide (mayStand_incl 5 L hLi)
                            generalize Mk.isName L.data.toList = nm
                            go_wp2_with fail
                            refine bodyPost_ret (v := .agg #[.int .i64 n, .int .u8 120, .string L, .string ⟨#[]⟩]) (by simp [results, Tryd.results20, go_sem]) rfl ⟨_, rfl, RLn.of ?_ ?_, ((Below.refl _ w).alloc (Nat.le_refl _) _).alloc (by simp) _⟩
                            · rw [unhide HR, (unhide HNo) (unhide HM)]; rfl
                            · intro h; exact absurd rfl h
                          | false =>
                            have HM := hide (mayStand_rule L hLi)
                            generalize Mk.isName L.data.toList = nm
                            go_wp2_with fail
                            refine (refCut_any _ _ hxr).mono ?_
                            rintro e w1 ⟨rfl, rfl⟩
                            rw [unhide HXr, ← unhide HRe]
                            cases hnm : L.toList.isEmpty with
                            | true =>
                              have HM2 : Hid (Mk.mayStand 5 L.data.toList = false) := by show _ = _; rw [unhide HM, hnm]; rfl
                              go_wp2_with fail
                              refine bodyPost_ret (v := .agg #[.int .i64 n, .int .u8 120, .string L, .string R]) (by simp [results, Tryd.results20, go_sem]) rfl ⟨_, rfl, RLn.of ?_ ?_, ((Below.refl _ w).alloc (Nat.le_refl _) _).alloc (by simp) _⟩
                              · rw [unhide HR, (unhide HNo) (unhide HM2)]; rfl
                              · intro h; exact absurd rfl h
                            | false =>
                              have HM2 : Hid (Mk.mayStand 5 L.data.toList = true) := by show _ = _; rw [unhide HM, hnm]; rfl
                              go_wp2_with fail
                              refine bodyPost_ret (v := .agg #[.int .i64 n, .int .u8 114, .string L, .string R]) (by simp [results, Tryd.results20, go_sem]) rfl ⟨_, rfl, RLn.of ?_ ?_, ((Below.refl _ w).alloc (Nat.le_refl _) _).alloc (by simp) _⟩
                              · rw [unhide HR, (unhide HY) (unhide HM2)]; rfl
                              · intro _; rw [unhide HR, (unhide HY) (unhide HM2)]; exact ⟨mk_eq rfl, mk_eq rfl⟩
                    · have HG : Hid ((T.data.toList.take (k + 1)).all Mk.noSign = true) := by
                        show _ = _
                        rw [take_snoc T k hlt, List.all_append, unhide HA]
                        have h1 : ¬ (T[k]'hlt) = 61 := by intro h; rw [h] at hb1; exact absurd hb1 (by decide)
                        simp [Mk.noSign, h1, h58]
                      have hb2 : (((T[k]'hlt).toNat : Int) != 58) = true := by have := byte_ne h58; simpa [bne] using this
                      clear h58
                      go_wp2_with fail
                      refine ⟨⟨k + 1, by omega, by go_num, unhide HG⟩, ?_⟩
                      simp [intOf]; omega
                · have HZ : Hid (Mk.rk (Mk.parseSides T.data.toList) = 120) := by
                    refine Mk.ps_none _ ?_
                    have := unhide HA
                    rwa [List.take_of_length_le (by rw [← Lib.size_eq]; omega)] at this
                  go_wp2_with fail
                  refine bodyPost_ret (v := .agg #[.int .i64 n, .int .u8 120, .string ⟨#[]⟩, .string ⟨#[]⟩]) (by simp [results, Tryd.results20, go_sem]) rfl ⟨_, rfl, RLn.of ?_ ?_, ((Below.refl _ w).alloc (Nat.le_refl _) _).alloc (by simp) _⟩
                  · rw [unhide HR, unhide HZ]; rfl
                  · intro h; exact absurd rfl h
end Go.Proofs.YtjelacjggijmfaaDoor
