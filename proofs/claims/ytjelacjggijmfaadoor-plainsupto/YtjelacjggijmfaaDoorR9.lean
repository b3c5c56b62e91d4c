/-
  The document's own answer: the plain form of a text.
-/
import Derived.Test.YtjelacjggijmfaaDoorR8
import Derived.Test.YtjelacjggijmfaaDoorR4
import Derived.Test.YtjelacjggijmfaaDoorPureT
import Derived.Deep.Cut
namespace Go.Proofs.YtjelacjggijmfaaDoor
open Go.RowKit

def LinesC : Prop := ∀ (s : ByteArray) (w : World), s.size ≤ 4294967000 →
  Calls Tryd.prog 9 #[.string s] w fun e w' => ∃ v, e = .returned v ∧ Outs w' w.heap.size v (Mk.joined s.data.toList) ∧ Below w.heap.size w w'
def plRes (p : Mk.Bs × Nat × Nat) : Value := .tuple #[.string ⟨p.1.toArray⟩, .int .i64 p.2.1, .int .i64 p.2.2]

theorem Outs.form {w : World} {B : Nat} {v : Value} {xs : List (Nat × Mk.Bs)} (h : Outs w B v xs) : ∃ ao cap, v = .slice ao xs.length cap ∧
    (0 < xs.length → ∃ g, ao = some ⟨g, 0, none⟩ ∧ g < w.heap.size ∧ ∀ (k : Nat) (x : Nat × Mk.Bs), xs[k]? = some x → ∃ L R : ByteArray, (Mk.rk (Mk.parse x.2) ≠ 120 → L = ⟨(Mk.parse x.2).1.left.toArray⟩ ∧ R = ⟨(Mk.parse x.2).1.right.toArray⟩) ∧
      w.cell? ⟨g, k * 4, none⟩ = some (.int .i64 x.1) ∧ w.cell? ⟨g, k * 4 + 1, none⟩ = some (.int .u8 (Mk.rk (Mk.parse x.2))) ∧ w.cell? ⟨g, k * 4 + 2, none⟩ = some (.string L) ∧ w.cell? ⟨g, k * 4 + 3, none⟩ = some (.string R)) := by
  obtain ⟨c, hr, ho⟩ := h
  rcases ho.2 with ⟨h1, h2⟩ | ⟨g, cap, cur, h1, h2, h3, h4⟩
  · exact ⟨none, 0, by rw [h1, h2], fun h => by omega⟩
  · subst h1
    refine ⟨_, cap, rfl, fun _ => ⟨g, rfl, (Array.getElem?_eq_some_iff.1 h3).1, ?_⟩⟩
    intro k x hx
    obtain ⟨a, ⟨L, R, rfl, hLR⟩, ha⟩ := hr.at k x hx
    have hk : k < xs.length := (List.getElem?_eq_some_iff.1 hx).1
    refine ⟨L, R, hLR, ?_, ?_, ?_, ?_⟩
    · have h5 := ho.cellAt (k * 4) (by omega)
      have h6 := ha 0 (by omega)
      rw [Nat.add_zero] at h6
      rw [h5, h6]; rfl
    · rw [ho.cellAt (k * 4 + 1) (by omega), ha 1 (by omega)]; rfl
    · rw [ho.cellAt (k * 4 + 2) (by omega), ha 2 (by omega)]; rfl
    · rw [ho.cellAt (k * 4 + 3) (by omega), ha 3 (by omega)]; rfl

theorem tail_last {W : ByteArray} {acc x : Mk.Bs} (h : W.data.toList = acc ++ x) (hne : x ≠ []) (h1 : W.size - 1 < W.size) : Mk.endsBack x = (W[W.size - 1] == 92) := by
  have h2 : x.getLast? = some (W[W.size - 1]'h1) := by
    have h3 := Mk.endsBack_app
    have h4 : (acc ++ x).getLast? = x.getLast? := by
      rw [List.getLast?_append]
      cases hx : x.getLast? with
      | none => exact absurd (List.getLast?_eq_none_iff.1 hx) hne
      | some y => rfl
    rw [← h4, ← h, List.getLast?_eq_getElem?, ← Lib.size_eq, List.getElem?_eq_getElem (by rw [← Lib.size_eq]; omega)]
    rfl
  unfold Mk.endsBack
  rw [h2]; rfl

set_option maxHeartbeats 4000000 in
set_option maxRecDepth 1000000 in
theorem refPlain_any (hlines : LinesC) (s : ByteArray) (w : World) (hs : s.size ≤ 1048576) :
    Calls Tryd.prog 6 #[.string s] w fun e w' => e = .returned (plRes (Mk.plainOf s.data.toList)) ∧ Below w.heap.size w w' := by
  have HL := hide (Lib.size_eq s)
  go_enter Tryd.func6, Tryd.ntmps6
  go_wp2_with fail
  refine (hlines s w (by omega)).mono ?_
  rintro e w1 ⟨v, rfl, hO, hb1⟩
  obtain ⟨ao, cap, rfl, hrows⟩ := hO.form
  have HP : Hid (Mk.plainOf s.data.toList = Mk.rp false [] (Mk.joined s.data.toList)) := rfl
  have HR := hide (Mk.Room.start s.data.toList)
  have hxl : (Mk.joined s.data.toList).length ≤ 1048577 := by
    have h1 := Mk.joined_count s.data.toList
    have h2 := unhide HL
    omega
  clear hO
  generalize Mk.joined s.data.toList = xs at hrows HP HR hxl ⊢
  generalize hxn : xs.length = n at hrows hxl ⊢
  have HX := hide hxn
  clear hxn
  go_wp2_with fail
  go_loopw [6, 7, 8] (fun t op i wr => ∃ (k : Nat) (b : Bool) (acc : Mk.Bs), k ≤ n ∧ i = .int .i64 k ∧ op = .bool b ∧ t = .string ⟨acc.toArray⟩ ∧ Below w1.heap.size w1 wr ∧ Mk.plainOf s.data.toList = Mk.rp b acc (xs.drop k) ∧ Mk.Room s.data.toList acc (xs.drop k))
    (fun _ _ i _ => n - (intOf i).toNat)
  case atStart => exact ⟨0, false, [], Nat.zero_le _, rfl, rfl, rfl, Below.refl _ _, unhide HP, unhide HR⟩
  case round =>
    clear HP HR
    obtain ⟨k, op, acc, hk, rfl, rfl, rfl, hb, hp, hroom⟩ := hrel
    have HP := hide hp
    have HR := hide hroom
    clear hp hroom
    by_cases hlt : k < n
    · obtain ⟨g, rfl, hgl, hcells⟩ := hrows (by omega)
      obtain ⟨⟨num, bs⟩, hx⟩ : ∃ x, xs[k]? = some x := ⟨_, List.getElem?_eq_getElem (by rw [unhide HX]; exact hlt)⟩
      have HD : Hid (xs.drop k = (num, bs) :: xs.drop (k + 1)) := by
        have h1 : k < xs.length := by rw [unhide HX]; exact hlt
        rw [List.getElem?_eq_getElem h1] at hx
        show _ = _
        rw [List.drop_eq_getElem_cons h1, Option.some.inj hx]
      obtain ⟨L, R, hLR, d0, d1, d2, d3⟩ := hcells k _ hx
      obtain ⟨hc, hf⟩ := bcell hb
      have hgw := hb.size
      rw [← hc g _ hgl] at d0 d1 d2 d3
      clear hx hcells hc hf hrows
      simp only at d0 d1 d2 d3 hLR
      have hpl := Mk.parse_len bs
      have hlen := (Mk.Room.len (x := (num, bs)) (by rw [← unhide HD]; exact unhide HR))
      simp only at hlen
      have hsz := unhide HL
      have hAs : (⟨acc.toArray⟩ : ByteArray).size ≤ 13000000 := by rw [size_mk]; omega
      have htl : s.data.toList.length ≤ 1048576 := by omega
      obtain ⟨hpl1, hpl2, hpl5⟩ := hpl
      have HLR := hide hLR
      clear hLR hsz
      obtain ⟨hlen1, hlen2⟩ := hlen
      obtain ⟨A, hA⟩ : ∃ A : ByteArray, A = ⟨acc.toArray⟩ := ⟨_, rfl⟩
      rw [← hA] at hAs ⊢
      have HA : Hid (A.data.toList = acc) := by show _ = _; rw [hA]
      clear hA
      rcases Mk.rk_cases (Mk.parse bs) hpl5 with hk1 | hk1 | ⟨hk1, hk2⟩ | ⟨hk1, hk2⟩ | ⟨hk1, hk2⟩ | ⟨hk1, hk2⟩ | ⟨hk1, hk2⟩
      · rw [hk1] at d1
        have HE : Hid (Mk.plainOf s.data.toList = ([], 1, num)) := by
          show _ = _
          rw [unhide HP, unhide HD, Mk.rp_err _ _ _ _ _ hk1]
        clear hk1 HLR
        go_wp2_with fail
        go_region
        all_goals go_wp2_with fail
        all_goals go_ret3
        all_goals exact ⟨by rw [unhide HE]; rfl, hb1.trans ((hb.drew).mono hb1.size)⟩
      · rw [hk1] at d1
        have HPn : Hid (Mk.plainOf s.data.toList = Mk.rp op acc (xs.drop (k + 1))) := by
          show _ = _
          rw [unhide HP, unhide HD, Mk.rp_skip _ _ _ _ _ hk1]
        have HRn := hide (Mk.Room.skip (by rw [← unhide HD]; exact unhide HR))
        have HAv : Hid (A = ⟨acc.toArray⟩) := mk_eq (unhide HA)
        clear hk1 HLR
        go_wp2_with fail
        go_roundw
        case rel => exact ⟨k + 1, op, acc, by omega, by go_num, rfl, congrArg Value.string (unhide HAv), hb, unhide HPn, unhide HRn⟩
        case measure => simp [intOf]; omega
      · cases op with
        | false =>
          have HE : Hid (Mk.plainOf s.data.toList = ([], 1, num)) := by
            show _ = _
            rw [unhide HP, unhide HD, Mk.rp_go _ _ _ _ _ (by rw [hk1]; decide) (by rw [hk1]; decide), hk2]; rfl
          rw [hk1] at d1
          clear hk1 hk2 HLR
          go_wp2_with fail
          go_region
          all_goals go_wp2_with fail
          all_goals go_ret3
          all_goals exact ⟨by rw [unhide HE]; rfl, hb1.trans ((hb.drew).mono hb1.size)⟩
        | true =>
          obtain ⟨hLe, hRe⟩ := (unhide HLR) (by rw [hk1]; decide)
          have HPn : Hid (Mk.plainOf s.data.toList = Mk.rp true (acc ++ Mk.closed (Mk.written (Mk.parse bs).1) ++ [10]) (xs.drop (k + 1))) := by
            show _ = _
            rw [unhide HP, unhide HD, Mk.rp_go _ _ _ _ _ (by rw [hk1]; decide) (by rw [hk1]; decide), hk2]
            rfl
          have HRn := hide (Mk.Room.go (x := (num, bs)) (by rw [← unhide HD]; exact unhide HR)).1
          have hroom2 := (Mk.Room.go (x := (num, bs)) (by rw [← unhide HD]; exact unhide HR)).2
          simp only at hroom2
          have HWr : Hid (Mk.written (Mk.parse bs).1 = [9] ++ R.data.toList) := by
            show _ = _
            rw [show (Mk.parse bs).1 = ⟨(Mk.parse bs).1.number, 1, L.data.toList, R.data.toList⟩ from by rw [hLe, hRe, ← hk2]]
            rfl
          have hLs : L.size ≤ 1048576 := by rw [hLe, size_mk]; omega
          have hRs : R.size ≤ 1048576 := by rw [hRe, size_mk]; omega
          rw [hk1] at d1
          clear hLe hRe HLR hk1 hk2
          go_upto_region 24 with fail
          generalize hWe : A ++ ⟨#[9]⟩ ++ R = W
          have HWd : Hid (W.data.toList = acc ++ Mk.written (Mk.parse bs).1) := by
            show _ = _
            rw [← hWe, unhide HWr, data_app, data_app, unhide HA]
            simp
          clear hWe
          have hW0 : W.size ≤ 20000000 ∧ 0 < W.size := by
            have h1 := congrArg List.length (unhide HWd)
            rw [← Lib.size_eq, List.length_append] at h1
            have h2 := List.length_pos_iff.2 (Mk.written_ne (Mk.parse bs).1)
            omega
          obtain ⟨hWs, hW0⟩ := hW0
          have hW1 : W.size - 1 < W.size := by omega
          cases hlast : Mk.endsBack (Mk.written (Mk.parse bs).1) with
          | true =>
            have hb92 : (((W[W.size - 1]'hW1).toNat : Int) == 92) = true := by
              have h1 := tail_last (unhide HWd) (Mk.written_ne _) hW1
              rw [hlast] at h1
              rw [show W[W.size - 1]'hW1 = 92 from by simpa using h1.symm]; rfl
            have HV : Hid (W ++ ⟨#[32]⟩ ++ ⟨#[10]⟩ = ⟨(acc ++ Mk.closed (Mk.written (Mk.parse bs).1) ++ [10]).toArray⟩) := by
              refine mk_eq ?_
              rw [data_app, data_app, unhide HWd]
              unfold Mk.closed; rw [hlast]; simp
            go_wp2_with fail
            go_roundw
            case rel => exact ⟨k + 1, true, _, by omega, by go_num, rfl, congrArg Value.string (unhide HV), hb, unhide HPn, unhide HRn⟩
            case measure => simp [intOf]; omega
          | false =>
            have hb92 : (((W[W.size - 1]'hW1).toNat : Int) == 92) = false := by
              have h1 := tail_last (unhide HWd) (Mk.written_ne _) hW1
              rw [hlast] at h1
              exact lineByte_ne (b := 92) (by simpa using h1.symm)
            have HV : Hid (W ++ ⟨#[10]⟩ = ⟨(acc ++ Mk.closed (Mk.written (Mk.parse bs).1) ++ [10]).toArray⟩) := by
              refine mk_eq ?_
              rw [data_app, unhide HWd]
              unfold Mk.closed; rw [hlast]; simp
            go_wp2_with fail
            go_roundw
            case rel => exact ⟨k + 1, true, _, by omega, by go_num, rfl, congrArg Value.string (unhide HV), hb, unhide HPn, unhide HRn⟩
            case measure => simp [intOf]; omega
      · obtain ⟨hLe, hRe⟩ := (unhide HLR) (by rw [hk1]; decide)
        have HPn : Hid (Mk.plainOf s.data.toList = Mk.rp false (acc ++ Mk.closed (Mk.written (Mk.parse bs).1) ++ [10]) (xs.drop (k + 1))) := by
          show _ = _
          rw [unhide HP, unhide HD, Mk.rp_go _ _ _ _ _ (by rw [hk1]; decide) (by rw [hk1]; decide), hk2]
          rfl
        have HRn := hide (Mk.Room.go (x := (num, bs)) (by rw [← unhide HD]; exact unhide HR)).1
        have hroom2 := (Mk.Room.go (x := (num, bs)) (by rw [← unhide HD]; exact unhide HR)).2
        simp only at hroom2
        have HWr : Hid (Mk.written (Mk.parse bs).1 = Mk.incl ++ [32] ++ Mk.oneBlank R.data.toList) := by
          show _ = _
          rw [show (Mk.parse bs).1 = ⟨(Mk.parse bs).1.number, 2, L.data.toList, R.data.toList⟩ from by rw [hLe, hRe, ← hk2]]
          rfl
        have hLs : L.size ≤ 1048576 := by rw [hLe, size_mk]; omega
        have hRs : R.size ≤ 1048576 := by rw [hRe, size_mk]; omega
        rw [hk1] at d1
        clear hLe hRe HLR hk1 hk2
        have ho := Mk.oneBlank_le R.data.toList
        have hwc := Mk.words_count R.data.toList
        have hRl := Lib.size_eq R
        have CW := hide (refWords_any R wr (by omega))
        have CJ := hide (fun v w2 (h : Rowed w2 wr.heap.size v (Mk.words R.data.toList)) => refJoined_any wr.heap.size v (Mk.words R.data.toList) w2 h (by have : ([32].intercalate (Mk.words R.data.toList)).length ≤ R.data.toList.length := ho; omega) (by omega))
        clear hwc hRl
        go_wp2_with fail
        refine (unhide CW).mono ?_
        rintro e w2 ⟨v, rfl, hrow, hb2⟩
        go_wp2_with fail
        refine ((unhide CJ) v w2 hrow).mono ?_
        rintro e w3 ⟨rfl, rfl⟩
        rw [show [32].intercalate (Mk.words R.data.toList) = Mk.oneBlank R.data.toList from rfl]
        have hos : (Mk.oneBlank R.data.toList).length ≤ 1048576 := by
          have := Lib.size_eq R
          omega
        clear ho
        generalize Mk.oneBlank R.data.toList = q at HWr hos ⊢
        go_upto_region 24 with fail
        generalize hWe : A ++ ⟨#[105, 110, 99, 108, 117, 100, 101, 32]⟩ ++ ⟨q.toArray⟩ = W
        have HWd : Hid (W.data.toList = acc ++ Mk.written (Mk.parse bs).1) := by
          show _ = _
          rw [← hWe, unhide HWr, data_app, data_app, unhide HA]
          simp [Mk.incl]
        clear hWe
        have hW0 : W.size ≤ 20000000 ∧ 0 < W.size := by
          have h1 := congrArg List.length (unhide HWd)
          rw [← Lib.size_eq, List.length_append] at h1
          have h2 := List.length_pos_iff.2 (Mk.written_ne (Mk.parse bs).1)
          omega
        obtain ⟨hWs, hW0⟩ := hW0
        have hW1 : W.size - 1 < W.size := by omega
        cases hlast : Mk.endsBack (Mk.written (Mk.parse bs).1) with
        | true =>
          have hb92 : (((W[W.size - 1]'hW1).toNat : Int) == 92) = true := by
            have h1 := tail_last (unhide HWd) (Mk.written_ne _) hW1
            rw [hlast] at h1
            rw [show W[W.size - 1]'hW1 = 92 from by simpa using h1.symm]; rfl
          have HV : Hid (W ++ ⟨#[32]⟩ ++ ⟨#[10]⟩ = ⟨(acc ++ Mk.closed (Mk.written (Mk.parse bs).1) ++ [10]).toArray⟩) := by
            refine mk_eq ?_
            rw [data_app, data_app, unhide HWd]
            unfold Mk.closed; rw [hlast]; simp
          go_wp2_with fail
          go_roundw
          case rel => exact ⟨k + 1, false, _, by omega, by go_num, rfl, congrArg Value.string (unhide HV), hb.trans (hb2.mono hb.size), unhide HPn, unhide HRn⟩
          case measure => simp [intOf]; omega
        | false =>
          have hb92 : (((W[W.size - 1]'hW1).toNat : Int) == 92) = false := by
            have h1 := tail_last (unhide HWd) (Mk.written_ne _) hW1
            rw [hlast] at h1
            exact lineByte_ne (b := 92) (by simpa using h1.symm)
          have HV : Hid (W ++ ⟨#[10]⟩ = ⟨(acc ++ Mk.closed (Mk.written (Mk.parse bs).1) ++ [10]).toArray⟩) := by
            refine mk_eq ?_
            rw [data_app, unhide HWd]
            unfold Mk.closed; rw [hlast]; simp
          go_wp2_with fail
          go_roundw
          case rel => exact ⟨k + 1, false, _, by omega, by go_num, rfl, congrArg Value.string (unhide HV), hb.trans (hb2.mono hb.size), unhide HPn, unhide HRn⟩
          case measure => simp [intOf]; omega
      · obtain ⟨hLe, hRe⟩ := (unhide HLR) (by rw [hk1]; decide)
        have HPn : Hid (Mk.plainOf s.data.toList = Mk.rp false (acc ++ Mk.closed (Mk.written (Mk.parse bs).1) ++ [10]) (xs.drop (k + 1))) := by
          show _ = _
          rw [unhide HP, unhide HD, Mk.rp_go _ _ _ _ _ (by rw [hk1]; decide) (by rw [hk1]; decide), hk2]
          rfl
        have HRn := hide (Mk.Room.go (x := (num, bs)) (by rw [← unhide HD]; exact unhide HR)).1
        have hroom2 := (Mk.Room.go (x := (num, bs)) (by rw [← unhide HD]; exact unhide HR)).2
        simp only at hroom2
        have HWr : Hid (Mk.written (Mk.parse bs).1 = Mk.sides L.data.toList [58, 61] R.data.toList) := by
          show _ = _
          rw [show (Mk.parse bs).1 = ⟨(Mk.parse bs).1.number, 3, L.data.toList, R.data.toList⟩ from by rw [hLe, hRe, ← hk2]]
          rfl
        have hLs : L.size ≤ 1048576 := by rw [hLe, size_mk]; omega
        have hRs : R.size ≤ 1048576 := by rw [hRe, size_mk]; omega
        rw [hk1] at d1
        clear hLe hRe HLR hk1 hk2
        obtain ⟨q, hq⟩ : ∃ q : Mk.Bs, q = Mk.sides L.data.toList [58, 61] R.data.toList := ⟨_, rfl⟩
        have CS : Hid (∀ W : World, Calls Tryd.prog 12 #[.string L, .string ⟨#[58, 61]⟩, .string R] W fun e w' => e = .returned (.string ⟨q.toArray⟩) ∧ W = w') := by
          show ∀ W : World, _
          rw [hq]
          exact fun W => refSides_any L ⟨#[58, 61]⟩ R W (by show L.size + 2 + R.size ≤ _; omega)
        rw [← hq] at HWr
        have hqs : q.length ≤ 20000000 := by
          have h1 := unhide HWr
          rw [h1] at hroom2
          omega
        clear hq
        go_wp2_with fail
        go_region_with (go_at_call 12; refine ((unhide CS) _).mono ?_; rintro e w3 ⟨rfl, rfl⟩)
        all_goals go_upto_region 24 with fail
        all_goals
          generalize hWe : A ++ ⟨q.toArray⟩ = W
          have HWd : Hid (W.data.toList = acc ++ Mk.written (Mk.parse bs).1) := by
            show _ = _
            rw [← hWe, unhide HWr, data_app, unhide HA]
          clear hWe
          have hW0 : W.size ≤ 20000000 ∧ 0 < W.size := by
            have h1 := congrArg List.length (unhide HWd)
            rw [← Lib.size_eq, List.length_append] at h1
            have h2 := List.length_pos_iff.2 (Mk.written_ne (Mk.parse bs).1)
            omega
          obtain ⟨hWs, hW0⟩ := hW0
          have hW1 : W.size - 1 < W.size := by omega
          cases hlast : Mk.endsBack (Mk.written (Mk.parse bs).1) with
          | true =>
            have hb92 : (((W[W.size - 1]'hW1).toNat : Int) == 92) = true := by
              have h1 := tail_last (unhide HWd) (Mk.written_ne _) hW1
              rw [hlast] at h1
              rw [show W[W.size - 1]'hW1 = 92 from by simpa using h1.symm]; rfl
            have HV : Hid (W ++ ⟨#[32]⟩ ++ ⟨#[10]⟩ = ⟨(acc ++ Mk.closed (Mk.written (Mk.parse bs).1) ++ [10]).toArray⟩) := by
              refine mk_eq ?_
              rw [data_app, data_app, unhide HWd]
              unfold Mk.closed; rw [hlast]; simp
            go_wp2_with fail
            go_roundw
            case rel => exact ⟨k + 1, false, _, by omega, by go_num, rfl, congrArg Value.string (unhide HV), hb.drew, unhide HPn, unhide HRn⟩
            case measure => simp [intOf]; omega
          | false =>
            have hb92 : (((W[W.size - 1]'hW1).toNat : Int) == 92) = false := by
              have h1 := tail_last (unhide HWd) (Mk.written_ne _) hW1
              rw [hlast] at h1
              exact lineByte_ne (b := 92) (by simpa using h1.symm)
            have HV : Hid (W ++ ⟨#[10]⟩ = ⟨(acc ++ Mk.closed (Mk.written (Mk.parse bs).1) ++ [10]).toArray⟩) := by
              refine mk_eq ?_
              rw [data_app, unhide HWd]
              unfold Mk.closed; rw [hlast]; simp
            go_wp2_with fail
            go_roundw
            case rel => exact ⟨k + 1, false, _, by omega, by go_num, rfl, congrArg Value.string (unhide HV), hb.drew, unhide HPn, unhide HRn⟩
            case measure => simp [intOf]; omega
      · obtain ⟨hLe, hRe⟩ := (unhide HLR) (by rw [hk1]; decide)
        have HPn : Hid (Mk.plainOf s.data.toList = Mk.rp false (acc ++ Mk.closed (Mk.written (Mk.parse bs).1) ++ [10]) (xs.drop (k + 1))) := by
          show _ = _
          rw [unhide HP, unhide HD, Mk.rp_go _ _ _ _ _ (by rw [hk1]; decide) (by rw [hk1]; decide), hk2]
          rfl
        have HRn := hide (Mk.Room.go (x := (num, bs)) (by rw [← unhide HD]; exact unhide HR)).1
        have hroom2 := (Mk.Room.go (x := (num, bs)) (by rw [← unhide HD]; exact unhide HR)).2
        simp only at hroom2
        have HWr : Hid (Mk.written (Mk.parse bs).1 = Mk.sides L.data.toList [61] R.data.toList) := by
          show _ = _
          rw [show (Mk.parse bs).1 = ⟨(Mk.parse bs).1.number, 4, L.data.toList, R.data.toList⟩ from by rw [hLe, hRe, ← hk2]]
          rfl
        have hLs : L.size ≤ 1048576 := by rw [hLe, size_mk]; omega
        have hRs : R.size ≤ 1048576 := by rw [hRe, size_mk]; omega
        rw [hk1] at d1
        clear hLe hRe HLR hk1 hk2
        obtain ⟨q, hq⟩ : ∃ q : Mk.Bs, q = Mk.sides L.data.toList [61] R.data.toList := ⟨_, rfl⟩
        have CS : Hid (∀ W : World, Calls Tryd.prog 12 #[.string L, .string ⟨#[61]⟩, .string R] W fun e w' => e = .returned (.string ⟨q.toArray⟩) ∧ W = w') := by
          show ∀ W : World, _
          rw [hq]
          exact fun W => refSides_any L ⟨#[61]⟩ R W (by show L.size + 1 + R.size ≤ _; omega)
        rw [← hq] at HWr
        have hqs : q.length ≤ 20000000 := by
          have h1 := unhide HWr
          rw [h1] at hroom2
          omega
        clear hq
        go_wp2_with fail
        go_region_with (go_at_call 12; refine ((unhide CS) _).mono ?_; rintro e w3 ⟨rfl, rfl⟩)
        all_goals go_upto_region 24 with fail
        all_goals
          generalize hWe : A ++ ⟨q.toArray⟩ = W
          have HWd : Hid (W.data.toList = acc ++ Mk.written (Mk.parse bs).1) := by
            show _ = _
            rw [← hWe, unhide HWr, data_app, unhide HA]
          clear hWe
          have hW0 : W.size ≤ 20000000 ∧ 0 < W.size := by
            have h1 := congrArg List.length (unhide HWd)
            rw [← Lib.size_eq, List.length_append] at h1
            have h2 := List.length_pos_iff.2 (Mk.written_ne (Mk.parse bs).1)
            omega
          obtain ⟨hWs, hW0⟩ := hW0
          have hW1 : W.size - 1 < W.size := by omega
          cases hlast : Mk.endsBack (Mk.written (Mk.parse bs).1) with
          | true =>
            have hb92 : (((W[W.size - 1]'hW1).toNat : Int) == 92) = true := by
              have h1 := tail_last (unhide HWd) (Mk.written_ne _) hW1
              rw [hlast] at h1
              rw [show W[W.size - 1]'hW1 = 92 from by simpa using h1.symm]; rfl
            have HV : Hid (W ++ ⟨#[32]⟩ ++ ⟨#[10]⟩ = ⟨(acc ++ Mk.closed (Mk.written (Mk.parse bs).1) ++ [10]).toArray⟩) := by
              refine mk_eq ?_
              rw [data_app, data_app, unhide HWd]
              unfold Mk.closed; rw [hlast]; simp
            go_wp2_with fail
            go_roundw
            case rel => exact ⟨k + 1, false, _, by omega, by go_num, rfl, congrArg Value.string (unhide HV), hb.drew, unhide HPn, unhide HRn⟩
            case measure => simp [intOf]; omega
          | false =>
            have hb92 : (((W[W.size - 1]'hW1).toNat : Int) == 92) = false := by
              have h1 := tail_last (unhide HWd) (Mk.written_ne _) hW1
              rw [hlast] at h1
              exact lineByte_ne (b := 92) (by simpa using h1.symm)
            have HV : Hid (W ++ ⟨#[10]⟩ = ⟨(acc ++ Mk.closed (Mk.written (Mk.parse bs).1) ++ [10]).toArray⟩) := by
              refine mk_eq ?_
              rw [data_app, unhide HWd]
              unfold Mk.closed; rw [hlast]; simp
            go_wp2_with fail
            go_roundw
            case rel => exact ⟨k + 1, false, _, by omega, by go_num, rfl, congrArg Value.string (unhide HV), hb.drew, unhide HPn, unhide HRn⟩
            case measure => simp [intOf]; omega
      · obtain ⟨hLe, hRe⟩ := (unhide HLR) (by rw [hk1]; decide)
        have HPn : Hid (Mk.plainOf s.data.toList = Mk.rp true (acc ++ Mk.closed (Mk.written (Mk.parse bs).1) ++ [10]) (xs.drop (k + 1))) := by
          show _ = _
          rw [unhide HP, unhide HD, Mk.rp_go _ _ _ _ _ (by rw [hk1]; decide) (by rw [hk1]; decide), hk2]
          rfl
        have HRn := hide (Mk.Room.go (x := (num, bs)) (by rw [← unhide HD]; exact unhide HR)).1
        have hroom2 := (Mk.Room.go (x := (num, bs)) (by rw [← unhide HD]; exact unhide HR)).2
        simp only at hroom2
        have HWr : Hid (Mk.written (Mk.parse bs).1 = Mk.sides (Mk.oneBlank L.data.toList) [58] (Mk.oneBlank R.data.toList)) := by
          show _ = _
          rw [show (Mk.parse bs).1 = ⟨(Mk.parse bs).1.number, 5, L.data.toList, R.data.toList⟩ from by rw [hLe, hRe, ← hk2]]
          rfl
        have hLs : L.size ≤ 1048576 := by rw [hLe, size_mk]; omega
        have hRs : R.size ≤ 1048576 := by rw [hRe, size_mk]; omega
        rw [hk1] at d1
        clear hLe hRe HLR hk1 hk2
        have hoL := Mk.oneBlank_le L.data.toList
        have hoR := Mk.oneBlank_le R.data.toList
        have hwL := Mk.words_count L.data.toList
        have hwR := Mk.words_count R.data.toList
        have hLl := Lib.size_eq L
        have hRl := Lib.size_eq R
        have hgl2 : g < wr.heap.size := by omega
        obtain ⟨qL, hqL⟩ : ∃ q : Mk.Bs, q = Mk.oneBlank L.data.toList := ⟨_, rfl⟩
        obtain ⟨qR, hqR⟩ : ∃ q : Mk.Bs, q = Mk.oneBlank R.data.toList := ⟨_, rfl⟩
        rw [← hqL, ← hqR] at HWr
        rw [← hqL] at hoL
        rw [← hqR] at hoR
        have CWL : Hid (∀ W : World, Calls Tryd.prog 11 #[.string L] W fun e w' => ∃ v, e = .returned v ∧ Rowed w' W.heap.size v (Mk.words L.data.toList) ∧ Below W.heap.size W w') := fun W => refWords_any L W (by omega)
        have CWR : Hid (∀ W : World, Calls Tryd.prog 11 #[.string R] W fun e w' => ∃ v, e = .returned v ∧ Rowed w' W.heap.size v (Mk.words R.data.toList) ∧ Below W.heap.size W w') := fun W => refWords_any R W (by omega)
        have CJL : Hid (∀ (B : Nat) (v : Value) (W : World), Rowed W B v (Mk.words L.data.toList) → Calls Tryd.prog 10 #[v] W fun e w' => e = .returned (.string ⟨qL.toArray⟩) ∧ W = w') := by
          show ∀ (B : Nat) (v : Value) (W : World), _
          rw [hqL]
          exact fun B v W h => refJoined_any B v _ W h (by rw [show [32].intercalate (Mk.words L.data.toList) = qL from hqL.symm]; omega) (by omega)
        have CJR : Hid (∀ (B : Nat) (v : Value) (W : World), Rowed W B v (Mk.words R.data.toList) → Calls Tryd.prog 10 #[v] W fun e w' => e = .returned (.string ⟨qR.toArray⟩) ∧ W = w') := by
          show ∀ (B : Nat) (v : Value) (W : World), _
          rw [hqR]
          exact fun B v W h => refJoined_any B v _ W h (by rw [show [32].intercalate (Mk.words R.data.toList) = qR from hqR.symm]; omega) (by omega)
        obtain ⟨q, hq⟩ : ∃ q : Mk.Bs, q = Mk.sides qL [58] qR := ⟨_, rfl⟩
        have CS : Hid (∀ W : World, Calls Tryd.prog 12 #[.string ⟨qL.toArray⟩, .string ⟨#[58]⟩, .string ⟨qR.toArray⟩] W fun e w' => e = .returned (.string ⟨q.toArray⟩) ∧ W = w') := by
          show ∀ W : World, _
          rw [hq]
          exact fun W => refSides_any ⟨qL.toArray⟩ ⟨#[58]⟩ ⟨qR.toArray⟩ W (by rw [size_mk, size_mk]; show qL.length + 1 + qR.length ≤ _; omega)
        rw [← hq] at HWr
        have hqs : q.length ≤ 20000000 := by
          have h1 := unhide HWr
          rw [h1] at hroom2
          omega
        clear hq hqL hqR hLl hRl hwL hwR hoL hoR
        go_wp2_with fail
        go_region_with (first
          | (go_at_call_of 11 L; refine ((unhide CWL) _).mono ?_; rintro e w2 ⟨v2, rfl, hrow2, hb2⟩; have e3 := (hb2.cell (p := ⟨g, k * 4 + 3, none⟩) (by exact hgl2)).trans d3)
          | (go_at_call_of 11 R; refine ((unhide CWR) _).mono ?_; rintro e w3 ⟨v3, rfl, hrow3, hb3⟩)
          | (go_at_call_of 10 v2; refine ((unhide CJL) _ _ _ hrow2).mono ?_; rintro e w4 ⟨rfl, rfl⟩)
          | (go_at_call_of 10 v3; refine ((unhide CJR) _ _ _ hrow3).mono ?_; rintro e w5 ⟨rfl, rfl⟩)
          | (go_at_call 12; refine ((unhide CS) _).mono ?_; rintro e w6 ⟨rfl, rfl⟩))
        all_goals go_upto_region 24 with fail
        all_goals
          generalize hWe : A ++ ⟨q.toArray⟩ = W
          have HWd : Hid (W.data.toList = acc ++ Mk.written (Mk.parse bs).1) := by
            show _ = _
            rw [← hWe, unhide HWr, data_app, unhide HA]
          clear hWe
          have hW0 : W.size ≤ 20000000 ∧ 0 < W.size := by
            have h1 := congrArg List.length (unhide HWd)
            rw [← Lib.size_eq, List.length_append] at h1
            have h2 := List.length_pos_iff.2 (Mk.written_ne (Mk.parse bs).1)
            omega
          obtain ⟨hWs, hW0⟩ := hW0
          have hW1 : W.size - 1 < W.size := by omega
          cases hlast : Mk.endsBack (Mk.written (Mk.parse bs).1) with
          | true =>
            have hb92 : (((W[W.size - 1]'hW1).toNat : Int) == 92) = true := by
              have h1 := tail_last (unhide HWd) (Mk.written_ne _) hW1
              rw [hlast] at h1
              rw [show W[W.size - 1]'hW1 = 92 from by simpa using h1.symm]; rfl
            have HV : Hid (W ++ ⟨#[32]⟩ ++ ⟨#[10]⟩ = ⟨(acc ++ Mk.closed (Mk.written (Mk.parse bs).1) ++ [10]).toArray⟩) := by
              refine mk_eq ?_
              rw [data_app, data_app, unhide HWd]
              unfold Mk.closed; rw [hlast]; simp
            go_wp2_with fail
            go_roundw
            case rel => exact ⟨k + 1, true, _, by omega, by go_num, rfl, congrArg Value.string (unhide HV), (hb.drew.trans (hb2.mono (by simp; omega))).trans (hb3.mono (by have := hb2.size; simp at this; omega)), unhide HPn, unhide HRn⟩
            case measure => simp [intOf]; omega
          | false =>
            have hb92 : (((W[W.size - 1]'hW1).toNat : Int) == 92) = false := by
              have h1 := tail_last (unhide HWd) (Mk.written_ne _) hW1
              rw [hlast] at h1
              exact lineByte_ne (b := 92) (by simpa using h1.symm)
            have HV : Hid (W ++ ⟨#[10]⟩ = ⟨(acc ++ Mk.closed (Mk.written (Mk.parse bs).1) ++ [10]).toArray⟩) := by
              refine mk_eq ?_
              rw [data_app, unhide HWd]
              unfold Mk.closed; rw [hlast]; simp
            go_wp2_with fail
            go_roundw
            case rel => exact ⟨k + 1, true, _, by omega, by go_num, rfl, congrArg Value.string (unhide HV), (hb.drew.trans (hb2.mono (by simp; omega))).trans (hb3.mono (by have := hb2.size; simp at this; omega)), unhide HPn, unhide HRn⟩
            case measure => simp [intOf]; omega
    · have HE : Hid (Mk.plainOf s.data.toList = (acc, 0, 0)) := by
        show _ = _
        rw [unhide HP, List.drop_of_length_le (by rw [unhide HX]; omega)]; rfl
      go_wp2_with fail
      go_ret3
      exact ⟨by rw [unhide HE]; rfl, hb1.trans (hb.mono hb1.size)⟩
end Go.Proofs.YtjelacjggijmfaaDoor
