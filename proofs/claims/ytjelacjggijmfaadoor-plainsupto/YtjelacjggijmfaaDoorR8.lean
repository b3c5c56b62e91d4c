/-
  The document's own answer: the lines of a text.
-/
import Derived.Test.YtjelacjggijmfaaDoorR7
namespace Go.Proofs.YtjelacjggijmfaaDoor
open Go.RowKit

theorem one_int (c : UInt8) : ∀ u ∈ [byV c], u.oneCell' = true := by
  intro u hu; simp at hu; subst hu; rfl
theorem lineByte_ne {a b : UInt8} (h : ¬ a = b) : ((a.toNat : Int) == (b.toNat : Int)) = false := by
  rw [beq_eq_false_iff_ne]; intro h2; apply h; rw [← UInt8.toNat_inj]; exact Int.ofNat.inj h2
def sliceLen : Value → Nat
  | .slice _ n _ => n
  | _ => 0
/-- Where the reading of a text's lines stands. -/
structure Stand (s : ByteArray) (w wr : World) (k first n : Nat) (bs : Mk.Bs) (start on : Bool) (outs : List (Nat × Mk.Bs)) (out sv : Value) : Prop where
  kle : k ≤ s.size + 1
  nle : n ≤ k + 1
  fle : first ≤ n
  ble : bs.length ≤ k
  ole : outs.length ≤ k
  row : Outs wr w.heap.size out outs
  bytes : Bytes wr w.heap.size sv bs
  below : Below w.heap.size w wr
  at_ : Mk.LinesAt s.data.toList k first n bs start on outs

set_option maxHeartbeats 10000000 in
set_option maxRecDepth 1000000 in
theorem refLines_any (hline : LineC) (s : ByteArray) (w : World) (hs : s.size ≤ 4294967000) :
    Calls Tryd.prog 9 #[.string s] w fun e w' => ∃ v, e = .returned v ∧ Outs w' w.heap.size v (Mk.joined s.data.toList) ∧ Below w.heap.size w w' := by
  obtain ⟨i0, hi, hz0, hz1, hz2⟩ := info_parts Tryd.infoU8
  obtain ⟨i1, hj, hy0, hy1, hy2⟩ := info_parts Tryd.infoRLine
  have HL := hide (Lib.size_eq s)
  go_enter Tryd.func9, Tryd.ntmps9
  go_wp2
  go_loopw [3, 4, 5, 6, 7, 8, 9] (fun out sv fi nn st on i wr => ∃ (k first n : Nat) (bs : Mk.Bs) (start on' : Bool) (outs : List (Nat × Mk.Bs)), i = .int .i64 k ∧ fi = .int .i64 first ∧ nn = .int .i64 n ∧ st = .bool start ∧ on = .bool on' ∧
      Stand s w wr k first n bs start on' outs out sv)
    (fun _ _ _ _ _ _ i _ => s.size + 1 - (intOf i).toNat)
  case atStart => exact ⟨0, 1, 1, [], true, false, [], rfl, rfl, rfl, rfl, rfl, ⟨Nat.zero_le _, Nat.le_refl _, Nat.le_refl _, Nat.le_refl _, Nat.le_refl _, Outs.nil _ _, Bytes.nil _ _, Below.refl _ _, Mk.LinesAt.start _⟩⟩
  case round =>
    obtain ⟨k, first, n, bs, start, on, outs, rfl, rfl, rfl, rfl, rfl, hS⟩ := hrel
    obtain ⟨hk, hn, hf, hbl, hol, hO, hB, hb, hat⟩ := hS
    have HAT := hide hat
    clear hat
    have hbs := hb.size
    by_cases hlt : k < s.size
    · have HKL : Hid (k < s.data.toList.length) := by have := unhide HL; show k < _; omega
      have hkne : ((k : Int) == (s.size : Int)) = false := by rw [beq_eq_false_iff_ne]; omega
      by_cases h10 : (s[k]'hlt) = 10
      · have HC : Hid ((s.data.toList[k]'(unhide HKL) == 10) = true) := by show (s[k]'hlt == 10) = true; simpa using h10
        have hc10 : (((s[k]'hlt).toNat : Int) == 10) = true := by rw [h10]; rfl
        clear h10
        obtain ⟨ao, cap, rfl, hcap, hg⟩ := hB.form
        have hcv := hB.conv
        cases hback : (Mk.endsBack bs && !(on && start)) with
        | false =>
          have HN := hide ((unhide HAT).line (unhide HKL) (unhide HC) hback)
          have hBl : bs.length ≤ 4294967100 := by omega
          by_cases h0 : bs.length = 0
          · clear hback hB hg
            rw [h0] at hcv hcap ⊢
            go_wp2_with fail
            refine (hline first ⟨(bs).toArray⟩ wr (by rw [size_mk]; omega)).mono ?_
            rintro e w1 ⟨v, rfl, hRL, hb1⟩
            obtain ⟨L, R, rfl, hrow⟩ := hRL.row
            clear hRL
            obtain ⟨cs, hcs, hown⟩ := hO
            have hown1 := owns_later hown hb1
            have hb1' := hb.trans (hb1.mono hbs)
            have hbs1 := hb1'.size
            go_wp2_with (at_builtin; refine wpList_append_own _ rfl (.tmp 104) (.tmp 109) 29 rfl w.heap.size 32 i1 (.agg #[.int .i64 0, .int .u8 0, .string ⟨#[]⟩, .string ⟨#[]⟩]) 4 48 Tryd.underlying29 hj hy0 hy1 hy2 rfl (by decide) _ _ _ rfl (World.ownsRow.alloc hown1 _) ⟨w1.heap.size, 0, none⟩ 1 1 [.int .i64 first, .int .u8 (Mk.rk (Mk.parse (bs))), .string L, .string R] rfl rfl (four_new w1 _ _ _ _ _) (four_one _ _ _ _ _ _) (by unfold maxLen; omega) (by omega) (by rw [World.size_alloc]; omega) ?_)
            intro v' w2 hown' hgrow _
            have RR := Outs.snoc _ rfl hcs hown1 hrow hb1' hown' hgrow
            clear hown' hgrow hown1 hrow hb1 hb1' hown hcs
            go_wp2_with fail
            go_roundw
            case rel => exact ⟨k + 1, n + 1, n + 1, [], true, false, outs ++ [(first, bs)], by go_num, by go_num, by go_num, rfl, rfl, ⟨by omega, by omega, by omega, by simp, by simp; omega, RR.1, Bytes.nil _ _, RR.2, unhide HN⟩⟩
            case measure => simp [intOf]; omega
          · obtain ⟨m, hm⟩ : ∃ m, bs.length = m + 1 := ⟨bs.length - 1, by omega⟩
            obtain ⟨g, rfl⟩ := hg (by omega)
            obtain ⟨c, hc1, hc2, hc3⟩ := hB.last hm
            rw [hc1] at hback
            rw [hm] at hcv hcap hBl hbl ⊢
            clear hB hg hc3 h0
            by_cases h92 : c = 92
            · have hos : on = true ∧ start = true := by rw [h92] at hback; simpa using hback
              obtain ⟨rfl, rfl⟩ := hos
              have hc92 : ((c.toNat : Int) == 92) = true := by rw [h92]; rfl
              clear h92 hback hc1
              go_wp2_with fail
              refine (hline first ⟨(bs).toArray⟩ wr (by rw [size_mk]; omega)).mono ?_
              rintro e w1 ⟨v, rfl, hRL, hb1⟩
              obtain ⟨L, R, rfl, hrow⟩ := hRL.row
              clear hRL
              obtain ⟨cs, hcs, hown⟩ := hO
              have hown1 := owns_later hown hb1
              have hb1' := hb.trans (hb1.mono hbs)
              have hbs1 := hb1'.size
              go_wp2_with (at_builtin; refine wpList_append_own _ rfl (.tmp 104) (.tmp 109) 29 rfl w.heap.size 32 i1 (.agg #[.int .i64 0, .int .u8 0, .string ⟨#[]⟩, .string ⟨#[]⟩]) 4 48 Tryd.underlying29 hj hy0 hy1 hy2 rfl (by decide) _ _ _ rfl (World.ownsRow.alloc hown1 _) ⟨w1.heap.size, 0, none⟩ 1 1 [.int .i64 first, .int .u8 (Mk.rk (Mk.parse (bs))), .string L, .string R] rfl rfl (four_new w1 _ _ _ _ _) (four_one _ _ _ _ _ _) (by unfold maxLen; omega) (by omega) (by rw [World.size_alloc]; omega) ?_)
              intro v' w2 hown' hgrow _
              have RR := Outs.snoc _ rfl hcs hown1 hrow hb1' hown' hgrow
              clear hown' hgrow hown1 hrow hb1 hb1' hown hcs
              go_wp2_with fail
              go_roundw
              case rel => exact ⟨k + 1, n + 1, n + 1, [], true, false, outs ++ [(first, bs)], by go_num, by go_num, by go_num, rfl, rfl, ⟨by omega, by omega, by omega, by simp, by simp; omega, RR.1, Bytes.nil _ _, RR.2, unhide HN⟩⟩
              case measure => simp [intOf]; omega
            · have hc92 : ((c.toNat : Int) == 92) = false := lineByte_ne h92
              clear h92 hback hc1
              go_wp2_with fail
              refine (hline first ⟨(bs).toArray⟩ wr (by rw [size_mk]; omega)).mono ?_
              rintro e w1 ⟨v, rfl, hRL, hb1⟩
              obtain ⟨L, R, rfl, hrow⟩ := hRL.row
              clear hRL
              obtain ⟨cs, hcs, hown⟩ := hO
              have hown1 := owns_later hown hb1
              have hb1' := hb.trans (hb1.mono hbs)
              have hbs1 := hb1'.size
              go_wp2_with (at_builtin; refine wpList_append_own _ rfl (.tmp 104) (.tmp 109) 29 rfl w.heap.size 32 i1 (.agg #[.int .i64 0, .int .u8 0, .string ⟨#[]⟩, .string ⟨#[]⟩]) 4 48 Tryd.underlying29 hj hy0 hy1 hy2 rfl (by decide) _ _ _ rfl (World.ownsRow.alloc hown1 _) ⟨w1.heap.size, 0, none⟩ 1 1 [.int .i64 first, .int .u8 (Mk.rk (Mk.parse (bs))), .string L, .string R] rfl rfl (four_new w1 _ _ _ _ _) (four_one _ _ _ _ _ _) (by unfold maxLen; omega) (by omega) (by rw [World.size_alloc]; omega) ?_)
              intro v' w2 hown' hgrow _
              have RR := Outs.snoc _ rfl hcs hown1 hrow hb1' hown' hgrow
              clear hown' hgrow hown1 hrow hb1 hb1' hown hcs
              go_wp2_with fail
              go_roundw
              case rel => exact ⟨k + 1, n + 1, n + 1, [], true, false, outs ++ [(first, bs)], by go_num, by go_num, by go_num, rfl, rfl, ⟨by omega, by omega, by omega, by simp, by simp; omega, RR.1, Bytes.nil _ _, RR.2, unhide HN⟩⟩
              case measure => simp [intOf]; omega
        | true =>
          have HN := hide ((unhide HAT).cont (unhide HKL) (unhide HC) hback)
          have hm0 : bs.length ≠ 0 := by
            intro h0
            rw [List.length_eq_zero_iff.1 h0] at hback
            cases hback
          obtain ⟨m, hm⟩ : ∃ m, bs.length = m + 1 := ⟨bs.length - 1, by omega⟩
          obtain ⟨g, rfl⟩ := hg (by omega)
          obtain ⟨c, hc1, hc2, hc3⟩ := hB.last hm
          rw [hc1] at hback
          rw [hm] at hcap hbl ⊢
          simp only [Bool.and_eq_true, Bool.not_eq_true'] at hback
          obtain ⟨hc0, hos⟩ := hback
          have hc92 : ((c.toNat : Int) == 92) = true := by rw [show c = 92 from by simpa using hc0]; rfl
          have hdl : bs.dropLast.length ≤ k - 1 := by simp; omega
          obtain ⟨ds, hds⟩ : ∃ ds, ds = bs.dropLast := ⟨_, rfl⟩
          rw [← hds] at hdl hc3
          rw [← hds] at HN
          clear hB hg hc1 hc0 hcv hm0 hds
          cases on with
          | false =>
            clear hos
            go_wp2_with fail
            go_loopw [4] (fun sv w' => w' = wr ∧ sv = .slice (some ⟨g, 0, none⟩) m cap) (fun _ _ => 0)
            case atStart => exact ⟨rfl, rfl⟩
            case round =>
              obtain ⟨rfl, rfl⟩ := hrel
              go_wp2_with (at_builtin; refine wpList_append_own _ rfl (.tmp 99) (.tmp 100) 38 rfl w.heap.size 5 i0 (.int .u8 0) 1 1 Tryd.underlying38 hi hz0 hz1 hz2 rfl (by decide) _ _ _ rfl (World.ownsRow.alloc hc3 _) ⟨wr.heap.size, 0, none⟩ 1 1 [byV 32] rfl rfl (one_new wr _ _) (one_int _) (by unfold maxLen; omega) (by omega) (by rw [World.size_alloc]; omega) ?_)
              intro v' w1 hown' hgrow _
              have R := Bytes.snoc _ rfl hc3 hO hb hown' hgrow
              clear hown' hgrow
              go_wp2_with fail
              go_roundw
              case rel => exact ⟨k + 1, first, n + 1, ds ++ [32], true, true, outs, by go_num, rfl, by go_num, rfl, rfl, ⟨by omega, by omega, by omega, by simp; omega, by omega, R.2.1, R.1, R.2.2, unhide HN⟩⟩
              case measure => simp [intOf]; omega
          | true =>
            obtain rfl : start = false := by simpa using hos
            clear hos
            go_wp2_with fail
            go_loopw [4] (fun sv w' => w' = wr ∧ sv = .slice (some ⟨g, 0, none⟩) m cap) (fun _ _ => 0)
            case atStart => exact ⟨rfl, rfl⟩
            case round =>
              obtain ⟨rfl, rfl⟩ := hrel
              go_wp2_with (at_builtin; refine wpList_append_own _ rfl (.tmp 99) (.tmp 100) 38 rfl w.heap.size 5 i0 (.int .u8 0) 1 1 Tryd.underlying38 hi hz0 hz1 hz2 rfl (by decide) _ _ _ rfl (World.ownsRow.alloc hc3 _) ⟨wr.heap.size, 0, none⟩ 1 1 [byV 32] rfl rfl (one_new wr _ _) (one_int _) (by unfold maxLen; omega) (by omega) (by rw [World.size_alloc]; omega) ?_)
              intro v' w1 hown' hgrow _
              have R := Bytes.snoc _ rfl hc3 hO hb hown' hgrow
              clear hown' hgrow
              go_wp2_with fail
              go_roundw
              case rel => exact ⟨k + 1, first, n + 1, ds ++ [32], true, true, outs, by go_num, rfl, by go_num, rfl, rfl, ⟨by omega, by omega, by omega, by simp; omega, by omega, R.2.1, R.1, R.2.2, unhide HN⟩⟩
              case measure => simp [intOf]; omega
      · have HC : Hid ((s.data.toList[k]'(unhide HKL) == 10) = false) := by show (s[k]'hlt == 10) = false; simpa using h10
        have hc10 : (((s[k]'hlt).toNat : Int) == 10) = false := by
          rw [beq_eq_false_iff_ne]; intro h2; apply h10; rw [← UInt8.toNat_inj]; exact Int.ofNat.inj h2
        clear h10
        cases hb0 : (on && start && Mk.blk (s[k]'hlt)) with
        | true =>
          have HN := hide ((unhide HAT).skip (unhide HKL) (unhide HC) hb0)
          simp only [Bool.and_eq_true] at hb0
          obtain ⟨⟨rfl, rfl⟩, hbk⟩ := hb0
          go_wp2_with fail
          refine (refBlank_any _ _).mono ?_
          rintro e w1 ⟨rfl, rfl⟩
          rw [hbk]
          go_wp2_with fail
          go_roundw
          case rel => exact ⟨k + 1, first, n, bs, true, true, outs, by go_num, rfl, rfl, rfl, rfl, ⟨by omega, by omega, hf, by omega, by omega, hO, hB, hb, unhide HN⟩⟩
          case measure => simp [intOf]; omega
        | false =>
          have HN := hide ((unhide HAT).char (unhide HKL) (unhide HC) hb0)
          cases on with
          | false =>
            clear hb0
            go_wp2_with fail
            refine (refBlank_any _ _).mono ?_
            rintro e w1 ⟨rfl, rfl⟩
            go_wp2_with (at_builtin; refine wpList_append_own _ rfl (.tmp 42) (.tmp 46) 38 rfl w.heap.size 5 i0 (.int .u8 0) 1 1 Tryd.underlying38 hi hz0 hz1 hz2 rfl (by decide) _ _ _ rfl (World.ownsRow.alloc hB _) ⟨wr.heap.size, 0, none⟩ 1 1 [byV (s[k]'hlt)] rfl rfl (one_new wr _ _) (one_int _) (by unfold maxLen; omega) (by omega) (by rw [World.size_alloc]; omega) ?_)
            intro v' w1 hown' hgrow _
            have R := Bytes.snoc _ rfl hB hO hb hown' hgrow
            clear hown' hgrow
            go_wp2_with fail
            go_roundw
            case rel => exact ⟨k + 1, first, n, bs ++ [s[k]'hlt], false, false, outs, by go_num, rfl, rfl, rfl, rfl, ⟨by omega, by omega, hf, by simp; omega, by omega, R.2.1, R.1, R.2.2, unhide HN⟩⟩
            case measure => simp [intOf]; omega
          | true =>
            cases start with
            | false =>
              clear hb0
              go_wp2_with fail
              refine (refBlank_any _ _).mono ?_
              rintro e w1 ⟨rfl, rfl⟩
              go_wp2_with (at_builtin; refine wpList_append_own _ rfl (.tmp 42) (.tmp 46) 38 rfl w.heap.size 5 i0 (.int .u8 0) 1 1 Tryd.underlying38 hi hz0 hz1 hz2 rfl (by decide) _ _ _ rfl (World.ownsRow.alloc hB _) ⟨wr.heap.size, 0, none⟩ 1 1 [byV (s[k]'hlt)] rfl rfl (one_new wr _ _) (one_int _) (by unfold maxLen; omega) (by omega) (by rw [World.size_alloc]; omega) ?_)
              intro v' w1 hown' hgrow _
              have R := Bytes.snoc _ rfl hB hO hb hown' hgrow
              clear hown' hgrow
              go_wp2_with fail
              go_roundw
              case rel => exact ⟨k + 1, first, n, bs ++ [s[k]'hlt], false, true, outs, by go_num, rfl, rfl, rfl, rfl, ⟨by omega, by omega, hf, by simp; omega, by omega, R.2.1, R.1, R.2.2, unhide HN⟩⟩
              case measure => simp [intOf]; omega
            | true =>
              have hbk : Mk.blk (s[k]'hlt) = false := by simpa using hb0
              clear hb0
              go_wp2_with fail
              refine (refBlank_any _ _).mono ?_
              rintro e w1 ⟨rfl, rfl⟩
              rw [hbk]
              go_wp2_with (at_builtin; refine wpList_append_own _ rfl (.tmp 42) (.tmp 46) 38 rfl w.heap.size 5 i0 (.int .u8 0) 1 1 Tryd.underlying38 hi hz0 hz1 hz2 rfl (by decide) _ _ _ rfl (World.ownsRow.alloc hB _) ⟨wr.heap.size, 0, none⟩ 1 1 [byV (s[k]'hlt)] rfl rfl (one_new wr _ _) (one_int _) (by unfold maxLen; omega) (by omega) (by rw [World.size_alloc]; omega) ?_)
              intro v' w1 hown' hgrow _
              have R := Bytes.snoc _ rfl hB hO hb hown' hgrow
              clear hown' hgrow
              go_wp2_with fail
              go_roundw
              case rel => exact ⟨k + 1, first, n, bs ++ [s[k]'hlt], false, true, outs, by go_num, rfl, rfl, rfl, rfl, ⟨by omega, by omega, hf, by simp; omega, by omega, R.2.1, R.1, R.2.2, unhide HN⟩⟩
              case measure => simp [intOf]; omega
    · by_cases hke : k = s.size
      · subst hke
        have hkk : ((s.size : Int) == (s.size : Int)) = true := by simp
        obtain ⟨ao, cap, rfl, hcap, hg⟩ := hB.form
        have hcv := hB.conv
        cases hback : (Mk.endsBack bs && !(on && start)) with
        | false =>
          have HN := hide ((unhide HAT).last (unhide HL) hback)
          have hBl : bs.length ≤ 4294967100 := by omega
          by_cases h0 : bs.length = 0
          · clear hback hB hg
            rw [h0] at hcv hcap ⊢
            go_wp2_with fail
            refine (hline first ⟨(bs).toArray⟩ wr (by rw [size_mk]; omega)).mono ?_
            rintro e w1 ⟨v, rfl, hRL, hb1⟩
            obtain ⟨L, R, rfl, hrow⟩ := hRL.row
            clear hRL
            obtain ⟨cs, hcs, hown⟩ := hO
            have hown1 := owns_later hown hb1
            have hb1' := hb.trans (hb1.mono hbs)
            have hbs1 := hb1'.size
            go_wp2_with (at_builtin; refine wpList_append_own _ rfl (.tmp 104) (.tmp 109) 29 rfl w.heap.size 32 i1 (.agg #[.int .i64 0, .int .u8 0, .string ⟨#[]⟩, .string ⟨#[]⟩]) 4 48 Tryd.underlying29 hj hy0 hy1 hy2 rfl (by decide) _ _ _ rfl (World.ownsRow.alloc hown1 _) ⟨w1.heap.size, 0, none⟩ 1 1 [.int .i64 first, .int .u8 (Mk.rk (Mk.parse (bs))), .string L, .string R] rfl rfl (four_new w1 _ _ _ _ _) (four_one _ _ _ _ _ _) (by unfold maxLen; omega) (by omega) (by rw [World.size_alloc]; omega) ?_)
            intro v' w2 hown' hgrow _
            have RR := Outs.snoc _ rfl hcs hown1 hrow hb1' hown' hgrow
            clear hown' hgrow hown1 hrow hb1 hb1' hown hcs
            go_wp2_with fail
            go_roundw
            case rel => exact ⟨s.size + 1, n + 1, n + 1, [], true, false, outs ++ [(first, bs)], by go_num, by go_num, by go_num, rfl, rfl, ⟨by omega, by omega, by omega, by simp, by simp; omega, RR.1, Bytes.nil _ _, RR.2, unhide HN⟩⟩
            case measure => simp [intOf]
          · obtain ⟨m, hm⟩ : ∃ m, bs.length = m + 1 := ⟨bs.length - 1, by omega⟩
            obtain ⟨g, rfl⟩ := hg (by omega)
            obtain ⟨c, hc1, hc2, hc3⟩ := hB.last hm
            rw [hc1] at hback
            rw [hm] at hcv hcap hBl hbl ⊢
            clear hB hg hc3 h0
            by_cases h92 : c = 92
            · have hos : on = true ∧ start = true := by rw [h92] at hback; simpa using hback
              obtain ⟨rfl, rfl⟩ := hos
              have hc92 : ((c.toNat : Int) == 92) = true := by rw [h92]; rfl
              clear h92 hback hc1
              go_wp2_with fail
              refine (hline first ⟨(bs).toArray⟩ wr (by rw [size_mk]; omega)).mono ?_
              rintro e w1 ⟨v, rfl, hRL, hb1⟩
              obtain ⟨L, R, rfl, hrow⟩ := hRL.row
              clear hRL
              obtain ⟨cs, hcs, hown⟩ := hO
              have hown1 := owns_later hown hb1
              have hb1' := hb.trans (hb1.mono hbs)
              have hbs1 := hb1'.size
              go_wp2_with (at_builtin; refine wpList_append_own _ rfl (.tmp 104) (.tmp 109) 29 rfl w.heap.size 32 i1 (.agg #[.int .i64 0, .int .u8 0, .string ⟨#[]⟩, .string ⟨#[]⟩]) 4 48 Tryd.underlying29 hj hy0 hy1 hy2 rfl (by decide) _ _ _ rfl (World.ownsRow.alloc hown1 _) ⟨w1.heap.size, 0, none⟩ 1 1 [.int .i64 first, .int .u8 (Mk.rk (Mk.parse (bs))), .string L, .string R] rfl rfl (four_new w1 _ _ _ _ _) (four_one _ _ _ _ _ _) (by unfold maxLen; omega) (by omega) (by rw [World.size_alloc]; omega) ?_)
              intro v' w2 hown' hgrow _
              have RR := Outs.snoc _ rfl hcs hown1 hrow hb1' hown' hgrow
              clear hown' hgrow hown1 hrow hb1 hb1' hown hcs
              go_wp2_with fail
              go_roundw
              case rel => exact ⟨s.size + 1, n + 1, n + 1, [], true, false, outs ++ [(first, bs)], by go_num, by go_num, by go_num, rfl, rfl, ⟨by omega, by omega, by omega, by simp, by simp; omega, RR.1, Bytes.nil _ _, RR.2, unhide HN⟩⟩
              case measure => simp [intOf]
            · have hc92 : ((c.toNat : Int) == 92) = false := lineByte_ne h92
              clear h92 hback hc1
              go_wp2_with fail
              refine (hline first ⟨(bs).toArray⟩ wr (by rw [size_mk]; omega)).mono ?_
              rintro e w1 ⟨v, rfl, hRL, hb1⟩
              obtain ⟨L, R, rfl, hrow⟩ := hRL.row
              clear hRL
              obtain ⟨cs, hcs, hown⟩ := hO
              have hown1 := owns_later hown hb1
              have hb1' := hb.trans (hb1.mono hbs)
              have hbs1 := hb1'.size
              go_wp2_with (at_builtin; refine wpList_append_own _ rfl (.tmp 104) (.tmp 109) 29 rfl w.heap.size 32 i1 (.agg #[.int .i64 0, .int .u8 0, .string ⟨#[]⟩, .string ⟨#[]⟩]) 4 48 Tryd.underlying29 hj hy0 hy1 hy2 rfl (by decide) _ _ _ rfl (World.ownsRow.alloc hown1 _) ⟨w1.heap.size, 0, none⟩ 1 1 [.int .i64 first, .int .u8 (Mk.rk (Mk.parse (bs))), .string L, .string R] rfl rfl (four_new w1 _ _ _ _ _) (four_one _ _ _ _ _ _) (by unfold maxLen; omega) (by omega) (by rw [World.size_alloc]; omega) ?_)
              intro v' w2 hown' hgrow _
              have RR := Outs.snoc _ rfl hcs hown1 hrow hb1' hown' hgrow
              clear hown' hgrow hown1 hrow hb1 hb1' hown hcs
              go_wp2_with fail
              go_roundw
              case rel => exact ⟨s.size + 1, n + 1, n + 1, [], true, false, outs ++ [(first, bs)], by go_num, by go_num, by go_num, rfl, rfl, ⟨by omega, by omega, by omega, by simp, by simp; omega, RR.1, Bytes.nil _ _, RR.2, unhide HN⟩⟩
              case measure => simp [intOf]
        | true =>
          have HNx := hide ((unhide HAT).lastBack (unhide HL) hback)
          have hm0 : bs.length ≠ 0 := by
            intro h0
            rw [List.length_eq_zero_iff.1 h0] at hback
            cases hback
          obtain ⟨m, hm⟩ : ∃ m, bs.length = m + 1 := ⟨bs.length - 1, by omega⟩
          obtain ⟨g, rfl⟩ := hg (by omega)
          obtain ⟨c, hc1, hc2, hc3⟩ := hB.last hm
          rw [hc1] at hback
          rw [hm] at hcap hbl ⊢
          simp only [Bool.and_eq_true, Bool.not_eq_true'] at hback
          obtain ⟨hc0, hos⟩ := hback
          have hc92 : ((c.toNat : Int) == 92) = true := by rw [show c = 92 from by simpa using hc0]; rfl
          clear hB hg hc1 hc0 hcv hm0
          cases on with
          | false =>
            clear hos
            go_wp2_with fail
            go_loopw [4] (fun sv w' => w' = wr ∧ ∃ (m' : Nat) (ds : Mk.Bs), sv = .slice (some ⟨g, 0, none⟩) m' cap ∧ ds.length = m' ∧ m' ≤ cap ∧ m' + 1 ≤ s.size ∧ Bytes wr w.heap.size sv ds ∧ Mk.noBack ds = Mk.noBack bs.dropLast) (fun sv _ => sliceLen sv)
            case atStart => exact ⟨rfl, m, bs.dropLast, rfl, by simp; omega, by omega, by omega, hc3, rfl⟩
            case round =>
              obtain ⟨hwr, m', ds, rfl, hdl, hcd, hml, hBd, hnb⟩ := hrel
              subst hwr
              have HNB := hide hnb
              clear hnb
              have hcvd := hBd.conv
              by_cases hm1 : m' = 0
              · subst hm1
                have HN : Hid (Mk.LinesAt s.data.toList (s.size + 1) (n + 1) (n + 1) [] true false (outs ++ [(first, ds)])) := by
                  have h1 := unhide HNx
                  rw [← unhide HNB, List.length_eq_zero_iff.1 hdl] at h1
                  rw [List.length_eq_zero_iff.1 hdl]; exact h1
                have hdl' : ds.length ≤ 4294967100 := by omega
                clear hdl
                go_wp2_with fail
                refine (hline first ⟨(ds).toArray⟩ wr (by rw [size_mk]; omega)).mono ?_
                rintro e w1 ⟨v, rfl, hRL, hb1⟩
                obtain ⟨L, R, rfl, hrow⟩ := hRL.row
                clear hRL
                obtain ⟨cs, hcs, hown⟩ := hO
                have hown1 := owns_later hown hb1
                have hb1' := hb.trans (hb1.mono hbs)
                have hbs1 := hb1'.size
                go_wp2_with (at_builtin; refine wpList_append_own _ rfl (.tmp 104) (.tmp 109) 29 rfl w.heap.size 32 i1 (.agg #[.int .i64 0, .int .u8 0, .string ⟨#[]⟩, .string ⟨#[]⟩]) 4 48 Tryd.underlying29 hj hy0 hy1 hy2 rfl (by decide) _ _ _ rfl (World.ownsRow.alloc hown1 _) ⟨w1.heap.size, 0, none⟩ 1 1 [.int .i64 first, .int .u8 (Mk.rk (Mk.parse (ds))), .string L, .string R] rfl rfl (four_new w1 _ _ _ _ _) (four_one _ _ _ _ _ _) (by unfold maxLen; omega) (by omega) (by rw [World.size_alloc]; omega) ?_)
                intro v' w2 hown' hgrow _
                have RR := Outs.snoc _ rfl hcs hown1 hrow hb1' hown' hgrow
                clear hown' hgrow hown1 hrow hb1 hb1' hown hcs
                go_wp2_with fail
                go_roundw
                case rel => exact ⟨s.size + 1, n + 1, n + 1, [], true, false, outs ++ [(first, ds)], by go_num, by go_num, by go_num, rfl, rfl, ⟨by omega, by omega, by omega, by simp, by simp; omega, RR.1, Bytes.nil _ _, RR.2, unhide HN⟩⟩
                case measure => simp [intOf]
              · obtain ⟨m2, rfl⟩ : ∃ m2, m' = m2 + 1 := ⟨m' - 1, by omega⟩
                obtain ⟨c2, hd1, hd2, hd3⟩ := Bytes.last (m := m2) (by rw [hdl]; exact hBd) hdl
                by_cases h922 : c2 = 92
                · have hc922 : ((c2.toNat : Int) == 92) = true := by rw [h922]; rfl
                  have HNB2 : Hid (Mk.noBack ds.dropLast = Mk.noBack bs.dropLast) := by
                    show _ = _
                    rw [Mk.noBack_last ds (by rw [hd1, h922]; rfl)]; exact unhide HNB
                  have HDL := hide (show ds.dropLast.length = m2 by simp; omega)
                  have hcd2 : m2 ≤ cap := by omega
                  clear h922 hd1 hcvd hBd hdl
                  go_wp2_with fail
                  go_roundw
                  case rel => exact ⟨trivial, m2, ds.dropLast, rfl, unhide HDL, hcd2, by omega, hd3, unhide HNB2⟩
                  case measure => simp [sliceLen]
                · have hc922 : ((c2.toNat : Int) == 92) = false := lineByte_ne h922
                  have HN : Hid (Mk.LinesAt s.data.toList (s.size + 1) (n + 1) (n + 1) [] true false (outs ++ [(first, ds)])) := by
                    have h1 := unhide HNx
                    rw [← unhide HNB, Mk.noBack_id ds (by rw [hd1]; simpa using h922)] at h1
                    exact h1
                  have hdl' : ds.length ≤ 4294967100 := by omega
                  clear h922 hd1 hdl hd3
                  go_wp2_with fail
                  refine (hline first ⟨(ds).toArray⟩ wr (by rw [size_mk]; omega)).mono ?_
                  rintro e w1 ⟨v, rfl, hRL, hb1⟩
                  obtain ⟨L, R, rfl, hrow⟩ := hRL.row
                  clear hRL
                  obtain ⟨cs, hcs, hown⟩ := hO
                  have hown1 := owns_later hown hb1
                  have hb1' := hb.trans (hb1.mono hbs)
                  have hbs1 := hb1'.size
                  go_wp2_with (at_builtin; refine wpList_append_own _ rfl (.tmp 104) (.tmp 109) 29 rfl w.heap.size 32 i1 (.agg #[.int .i64 0, .int .u8 0, .string ⟨#[]⟩, .string ⟨#[]⟩]) 4 48 Tryd.underlying29 hj hy0 hy1 hy2 rfl (by decide) _ _ _ rfl (World.ownsRow.alloc hown1 _) ⟨w1.heap.size, 0, none⟩ 1 1 [.int .i64 first, .int .u8 (Mk.rk (Mk.parse (ds))), .string L, .string R] rfl rfl (four_new w1 _ _ _ _ _) (four_one _ _ _ _ _ _) (by unfold maxLen; omega) (by omega) (by rw [World.size_alloc]; omega) ?_)
                  intro v' w2 hown' hgrow _
                  have RR := Outs.snoc _ rfl hcs hown1 hrow hb1' hown' hgrow
                  clear hown' hgrow hown1 hrow hb1 hb1' hown hcs
                  go_wp2_with fail
                  go_roundw
                  case rel => exact ⟨s.size + 1, n + 1, n + 1, [], true, false, outs ++ [(first, ds)], by go_num, by go_num, by go_num, rfl, rfl, ⟨by omega, by omega, by omega, by simp, by simp; omega, RR.1, Bytes.nil _ _, RR.2, unhide HN⟩⟩
                  case measure => simp [intOf]
          | true =>
            obtain rfl : start = false := by simpa using hos
            clear hos
            go_wp2_with fail
            go_loopw [4] (fun sv w' => w' = wr ∧ ∃ (m' : Nat) (ds : Mk.Bs), sv = .slice (some ⟨g, 0, none⟩) m' cap ∧ ds.length = m' ∧ m' ≤ cap ∧ m' + 1 ≤ s.size ∧ Bytes wr w.heap.size sv ds ∧ Mk.noBack ds = Mk.noBack bs.dropLast) (fun sv _ => sliceLen sv)
            case atStart => exact ⟨rfl, m, bs.dropLast, rfl, by simp; omega, by omega, by omega, hc3, rfl⟩
            case round =>
              obtain ⟨hwr, m', ds, rfl, hdl, hcd, hml, hBd, hnb⟩ := hrel
              subst hwr
              have HNB := hide hnb
              clear hnb
              have hcvd := hBd.conv
              by_cases hm1 : m' = 0
              · subst hm1
                have HN : Hid (Mk.LinesAt s.data.toList (s.size + 1) (n + 1) (n + 1) [] true false (outs ++ [(first, ds)])) := by
                  have h1 := unhide HNx
                  rw [← unhide HNB, List.length_eq_zero_iff.1 hdl] at h1
                  rw [List.length_eq_zero_iff.1 hdl]; exact h1
                have hdl' : ds.length ≤ 4294967100 := by omega
                clear hdl
                go_wp2_with fail
                refine (hline first ⟨(ds).toArray⟩ wr (by rw [size_mk]; omega)).mono ?_
                rintro e w1 ⟨v, rfl, hRL, hb1⟩
                obtain ⟨L, R, rfl, hrow⟩ := hRL.row
                clear hRL
                obtain ⟨cs, hcs, hown⟩ := hO
                have hown1 := owns_later hown hb1
                have hb1' := hb.trans (hb1.mono hbs)
                have hbs1 := hb1'.size
                go_wp2_with (at_builtin; refine wpList_append_own _ rfl (.tmp 104) (.tmp 109) 29 rfl w.heap.size 32 i1 (.agg #[.int .i64 0, .int .u8 0, .string ⟨#[]⟩, .string ⟨#[]⟩]) 4 48 Tryd.underlying29 hj hy0 hy1 hy2 rfl (by decide) _ _ _ rfl (World.ownsRow.alloc hown1 _) ⟨w1.heap.size, 0, none⟩ 1 1 [.int .i64 first, .int .u8 (Mk.rk (Mk.parse (ds))), .string L, .string R] rfl rfl (four_new w1 _ _ _ _ _) (four_one _ _ _ _ _ _) (by unfold maxLen; omega) (by omega) (by rw [World.size_alloc]; omega) ?_)
                intro v' w2 hown' hgrow _
                have RR := Outs.snoc _ rfl hcs hown1 hrow hb1' hown' hgrow
                clear hown' hgrow hown1 hrow hb1 hb1' hown hcs
                go_wp2_with fail
                go_roundw
                case rel => exact ⟨s.size + 1, n + 1, n + 1, [], true, false, outs ++ [(first, ds)], by go_num, by go_num, by go_num, rfl, rfl, ⟨by omega, by omega, by omega, by simp, by simp; omega, RR.1, Bytes.nil _ _, RR.2, unhide HN⟩⟩
                case measure => simp [intOf]
              · obtain ⟨m2, rfl⟩ : ∃ m2, m' = m2 + 1 := ⟨m' - 1, by omega⟩
                obtain ⟨c2, hd1, hd2, hd3⟩ := Bytes.last (m := m2) (by rw [hdl]; exact hBd) hdl
                by_cases h922 : c2 = 92
                · have hc922 : ((c2.toNat : Int) == 92) = true := by rw [h922]; rfl
                  have HNB2 : Hid (Mk.noBack ds.dropLast = Mk.noBack bs.dropLast) := by
                    show _ = _
                    rw [Mk.noBack_last ds (by rw [hd1, h922]; rfl)]; exact unhide HNB
                  have HDL := hide (show ds.dropLast.length = m2 by simp; omega)
                  have hcd2 : m2 ≤ cap := by omega
                  clear h922 hd1 hcvd hBd hdl
                  go_wp2_with fail
                  go_roundw
                  case rel => exact ⟨trivial, m2, ds.dropLast, rfl, unhide HDL, hcd2, by omega, hd3, unhide HNB2⟩
                  case measure => simp [sliceLen]
                · have hc922 : ((c2.toNat : Int) == 92) = false := lineByte_ne h922
                  have HN : Hid (Mk.LinesAt s.data.toList (s.size + 1) (n + 1) (n + 1) [] true false (outs ++ [(first, ds)])) := by
                    have h1 := unhide HNx
                    rw [← unhide HNB, Mk.noBack_id ds (by rw [hd1]; simpa using h922)] at h1
                    exact h1
                  have hdl' : ds.length ≤ 4294967100 := by omega
                  clear h922 hd1 hdl hd3
                  go_wp2_with fail
                  refine (hline first ⟨(ds).toArray⟩ wr (by rw [size_mk]; omega)).mono ?_
                  rintro e w1 ⟨v, rfl, hRL, hb1⟩
                  obtain ⟨L, R, rfl, hrow⟩ := hRL.row
                  clear hRL
                  obtain ⟨cs, hcs, hown⟩ := hO
                  have hown1 := owns_later hown hb1
                  have hb1' := hb.trans (hb1.mono hbs)
                  have hbs1 := hb1'.size
                  go_wp2_with (at_builtin; refine wpList_append_own _ rfl (.tmp 104) (.tmp 109) 29 rfl w.heap.size 32 i1 (.agg #[.int .i64 0, .int .u8 0, .string ⟨#[]⟩, .string ⟨#[]⟩]) 4 48 Tryd.underlying29 hj hy0 hy1 hy2 rfl (by decide) _ _ _ rfl (World.ownsRow.alloc hown1 _) ⟨w1.heap.size, 0, none⟩ 1 1 [.int .i64 first, .int .u8 (Mk.rk (Mk.parse (ds))), .string L, .string R] rfl rfl (four_new w1 _ _ _ _ _) (four_one _ _ _ _ _ _) (by unfold maxLen; omega) (by omega) (by rw [World.size_alloc]; omega) ?_)
                  intro v' w2 hown' hgrow _
                  have RR := Outs.snoc _ rfl hcs hown1 hrow hb1' hown' hgrow
                  clear hown' hgrow hown1 hrow hb1 hb1' hown hcs
                  go_wp2_with fail
                  go_roundw
                  case rel => exact ⟨s.size + 1, n + 1, n + 1, [], true, false, outs ++ [(first, ds)], by go_num, by go_num, by go_num, rfl, rfl, ⟨by omega, by omega, by omega, by simp, by simp; omega, RR.1, Bytes.nil _ _, RR.2, unhide HN⟩⟩
                  case measure => simp [intOf]
      · have HD := hide ((unhide HAT).done (by have := unhide HL; omega))
        go_wp2_with fail
        go_ret
        exact ⟨_, rfl, by rw [unhide HD]; exact hO, hb⟩
end Go.Proofs.YtjelacjggijmfaaDoor
