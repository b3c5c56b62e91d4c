/-
  An append onto a row of the call's own, as one step of a region that draws its order.
  Maps from strings: a block's entries, in the order in which they came; how it is asked, and how it turns.
  Package plans: a plan is taken apart.
-/
import Derived.Test.YtjelacjggijmfaaGreatDoorVSB
import Derived.Test.YtjelacjggijmfaaGreatDoorVSS
import Derived.Test.YtjelacjggijmfaaGreatDoorVSPure
import Derived.Maps.OwnSet
import Derived.Deep.RegionLaw
import Derived.Maps.AppendAt
namespace Go.Proofs.YtjelacjggijmfaaGreatDoor
open Go.RowKit

def strV (l : List UInt8) : Value := .string ⟨l.toArray⟩
theorem Tryz.infoStr : (Tryz.prog.info? 9).map (fun i => (i.zero, i.size, i.bytes)) = some (some (.string ⟨#[]⟩), 1, 16) := by kernel_rfl
/-- How far the strings have come. -/
structure SplitI (s : Pl.Bs) (n k : Nat) (r : Pl.Bs) (acc : List Pl.Bs) : Prop where
  eq : Pl.strs n (s.drop 4) = (Pl.strs (n - k) r).map (fun x => (acc ++ x.1, x.2))
  len : acc.length = k
  le : k ≤ n
  size : r.length ≤ s.length
theorem SplitI.start (s : Pl.Bs) (n : Nat) : SplitI s n 0 (s.drop 4) [] := ⟨by simp, rfl, Nat.zero_le _, by simp⟩
theorem SplitI.next {s : Pl.Bs} {n k : Nat} {r : Pl.Bs} {acc : List Pl.Bs} (h : SplitI s n k r acc) (hk : k < n) (hr : 2 ≤ r.length ∧ 2 + Pl.two r 0 ≤ r.length) :
    SplitI s n (k + 1) (r.drop (2 + Pl.two r 0)) (acc ++ [(r.drop 2).take (Pl.two r 0)]) := by
  refine ⟨?_, by simp [h.len], hk, by have := h.size; simp; omega⟩
  rw [h.eq, show n - k = (n - (k + 1)) + 1 from by omega, Pl.strs_from _ _ hr]
theorem SplitI.bad {s : Pl.Bs} {n k : Nat} {r : Pl.Bs} {acc : List Pl.Bs} (h : SplitI s n k r acc) (hk : k < n) (hr : ¬ (2 ≤ r.length ∧ 2 + Pl.two r 0 ≤ r.length)) : Pl.strs n (s.drop 4) = none := by
  rw [h.eq, show n - k = (n - (k + 1)) + 1 from by omega, Pl.strs_not _ _ hr]; rfl
theorem SplitI.done {s : Pl.Bs} {n k : Nat} {r : Pl.Bs} {acc : List Pl.Bs} (h : SplitI s n k r acc) (hk : ¬ k < n) : Pl.strs n (s.drop 4) = some (acc, r) ∧ acc.length = n := by
  have hle := h.le
  obtain rfl : k = n := by omega
  have h1 := h.eq
  rw [Nat.sub_self] at h1
  rw [h1]
  exact ⟨by simp [Pl.strs], h.len⟩
/-- What split leaves. -/
structure SplitPost (s : Pl.Bs) (w : World) (e : Ending) (w' : World) : Prop where
  res : (Pl.load s = none ∧ e = .returned (.tuple #[.agg #[.slice none 0 0, .string ⟨#[]⟩], .bool false])) ∨
    ∃ ss c b, Pl.load s = some (ss, c) ∧ e = .returned (.tuple #[.agg #[.slice (some ⟨b, 0, none⟩) ss.length ss.length, .string ⟨c.toArray⟩], .bool true]) ∧ Row w' b 9 (ss.map strV) ∧ w.heap.size ≤ b
  below : Below w.heap.size w w'
theorem ahead_iff (s : ByteArray) : (decide ((⟨#[80, 49]⟩ : ByteArray).size ≤ s.size) && ((s.extract 0 (⟨#[80, 49]⟩ : ByteArray).size).toList == (⟨#[80, 49]⟩ : ByteArray).toList)) = true ↔ 2 ≤ s.data.toList.length ∧ s.data.toList.take 2 = [80, 49] := by
  have h1 : (⟨#[80, 49]⟩ : ByteArray).size = 2 := rfl
  rw [h1, Lib.extract_toList, Lib.toList_data, ← Lib.size_eq]
  simp
theorem row_set (acc : List Pl.Bs) (n : Nat) (l : Pl.Bs) (h : acc.length < n) :
    (acc.map strV ++ List.replicate (n - acc.length) (Value.string ⟨#[]⟩)).set acc.length (.string ⟨l.toArray⟩) = (acc ++ [l]).map strV ++ List.replicate (n - (acc ++ [l]).length) (Value.string ⟨#[]⟩) := by
  rw [List.set_append_right _ _ (by simp)]
  simp only [List.length_map, Nat.sub_self, List.map_append, List.map_cons, List.map_nil, List.length_append, List.length_cons, List.length_nil, List.append_assoc]
  rw [show n - acc.length = (n - (acc.length + (0 + 1))) + 1 from by omega, List.replicate_succ]
  rfl
/-- Between two strings: what lies in memory. -/
structure SplitW (w : World) (B n : Nat) (acc : List Pl.Bs) (W : World) : Prop where
  res : Row W w.heap.size 120 [.slice none 0 0, .string ⟨#[]⟩]
  row : Row W B 9 (acc.map strV ++ List.replicate (n - acc.length) (Value.string ⟨#[]⟩))
  below : Below w.heap.size w W
  lt : w.heap.size < B
theorem SplitW.later {w : World} {B n : Nat} {acc : List Pl.Bs} {X Y : World} (h : SplitW w B n acc X) (hb : Below X.heap.size X Y) : SplitW w B n acc Y :=
  ⟨h.res.later hb, h.row.later hb, h.below.trans (hb.mono (by have := h.res.lt; omega)), h.lt⟩
theorem SplitW.put {w : World} {B n : Nat} {acc : List Pl.Bs} {X : World} (h : SplitW w B n acc X) (hn : acc.length < n) (l : Pl.Bs) : SplitW w B n (acc ++ [l]) (X.setCell ⟨B, acc.length, none⟩ (.string ⟨l.toArray⟩)) := by
  have hlt := h.lt
  refine ⟨h.res.other (by omega) _ _, ?_, h.below.setCell (p := ⟨B, acc.length, none⟩) (by show w.heap.size ≤ B; omega) _, hlt⟩
  rw [← row_set acc n l hn]
  exact h.row.set _ _
theorem SplitW.cell {w : World} {B n : Nat} {acc : List Pl.Bs} {X : World} (h : SplitW w B n acc X) (hn : acc.length < n) : ∃ v, X.cell? ⟨B, acc.length, none⟩ = some v :=
  ⟨_, h.row.cell acc.length (by simp; omega)⟩
theorem SplitW.out {w : World} {B n : Nat} {acc : List Pl.Bs} {X : World} (h : SplitW w B n acc X) (a b : Value) :
    ((X.setCell ⟨w.heap.size, 0, none⟩ a).setCell ⟨w.heap.size, 1, none⟩ b).cell? ⟨w.heap.size, 0, none⟩ = some a ∧ ((X.setCell ⟨w.heap.size, 0, none⟩ a).setCell ⟨w.heap.size, 1, none⟩ b).cell? ⟨w.heap.size, 1, none⟩ = some b ∧
    Row ((X.setCell ⟨w.heap.size, 0, none⟩ a).setCell ⟨w.heap.size, 1, none⟩ b) B 9 (acc.map strV ++ List.replicate (n - acc.length) (Value.string ⟨#[]⟩)) ∧ Below w.heap.size w ((X.setCell ⟨w.heap.size, 0, none⟩ a).setCell ⟨w.heap.size, 1, none⟩ b) := by
  have hlt := h.lt
  have hr := (h.res.set 0 a).set 1 b
  refine ⟨by simpa using hr.cell 0 (by simp), by simpa using hr.cell 1 (by simp), (h.row.other (by omega) _ _).other (by omega) _ _, ?_⟩
  exact (h.below.setCell (p := ⟨w.heap.size, 0, none⟩) (Nat.le_refl _) _).setCell (p := ⟨w.heap.size, 1, none⟩) (Nat.le_refl _) _
set_option maxHeartbeats 2000000 in
set_option maxRecDepth 20000 in
theorem split_any (l : List UInt8) (w : World) (hl : l.length ≤ 8388608) :
    Calls Tryz.prog 80 #[.string ⟨l.toArray⟩] w fun e w' => SplitPost l w e w' := by
  have hdl := mk_list l
  have hsz := size_mk l
  have hah := ahead_iff ⟨l.toArray⟩
  rw [hdl] at hah
  by_cases h2 : 2 ≤ l.length ∧ l.take 2 = [80, 49]
  · have hyes := hah.2 h2
    have hy1 : (⟨#[80, 49]⟩ : ByteArray).size ≤ (⟨l.toArray⟩ : ByteArray).size := by rw [hsz]; exact h2.1
    have hy2 : (((⟨l.toArray⟩ : ByteArray).extract 0 (⟨#[80, 49]⟩ : ByteArray).size).toList == (⟨#[80, 49]⟩ : ByteArray).toList) = true := by
      rw [Bool.and_eq_true] at hyes; exact hyes.2
    have C0 := hide (fun w => cutPrefix_yes ⟨l.toArray⟩ ⟨#[80, 49]⟩ w hy1 hy2)
    have hrest : (⟨l.toArray⟩ : ByteArray).extract (⟨#[80, 49]⟩ : ByteArray).size (⟨l.toArray⟩ : ByteArray).size = ⟨(l.drop 2).toArray⟩ := by
      apply mk_eq; rw [Lib.extract_to_end, hdl]; rfl
    rw [hrest] at C0
    by_cases h4 : 4 ≤ l.length
    · have htw : Pl.two (l.drop 2) 0 = Pl.two l 2 := by
        unfold Pl.two
        simp [List.getD_eq_getElem?_getD]
      have C1 := hide (fun w => takeNumber_yes ⟨(l.drop 2).toArray⟩ w (by rw [size_mk, List.length_drop]; omega))
      have hr4 : (⟨(l.drop 2).toArray⟩ : ByteArray).extract 2 (⟨(l.drop 2).toArray⟩ : ByteArray).size = ⟨(l.drop 4).toArray⟩ := by
        apply mk_eq; rw [Lib.extract_to_end, mk_list, List.drop_drop]
      rw [hr4, mk_list, htw] at C1
      by_cases hn : Pl.two l 2 ≤ 1000
      · have hload : Pl.load l = Pl.strs (Pl.two l 2) (l.drop 4) := by
          unfold Pl.load; rw [if_pos ⟨h4, h2.2, hn⟩]
        have HS0 := hide (SplitI.start l (Pl.two l 2))
        have HLD := hide hload
        generalize Pl.two l 2 = n at *
        have hmk := run_make_row' (P := Tryz.prog) 30 9 (.string ⟨#[]⟩) 16 Tryz.underlying30 Tryz.infoStr rfl .i64 .i64 n (by omega) (by omega)
        have HL := hide hl
        clear h2 hyes hy1 hy2 hah hrest htw hr4 hload hdl hsz h4 hl
        go_enter Tryz.func80, Tryz.ntmps80
        go_wp2_with fail
        refine (unhide C0 _).mono ?_
        rintro e w1 ⟨rfl, rfl⟩
        go_wp2_with fail
        refine (unhide C1 _).mono ?_
        rintro e w2 ⟨rfl, hb2⟩
        go_wp2_with fail
        have hW0 : Hid (SplitW w w2.heap.size n [] (w2.alloc (.cells (madeCells #[Value.string ⟨#[]⟩] n) 9))) := by
          have hb1 := (Below.refl _ w).alloc (Nat.le_refl _) (.cells #[.slice none 0 0, .string ⟨#[]⟩] 120)
          have hr0 : Row w2 w.heap.size 120 [.slice none 0 0, .string ⟨#[]⟩] := (Row.new w 120 [.slice none 0 0, .string ⟨#[]⟩]).later hb2
          have hlt := hr0.lt
          refine ⟨hr0.alloc _, ?_, (hb1.trans (hb2.mono hb1.size)).alloc (by omega) _, hlt⟩
          simpa using Row.made w2 9 (Value.string ⟨#[]⟩) n
        clear hmk hb2 C0 C1
        generalize hB : w2.heap.size = B at *
        generalize hV2 : w2.alloc (.cells (madeCells #[Value.string ⟨#[]⟩] n) 9) = V2 at *
        clear hB hV2
        go_loopw [4, 34] (fun rest i wr => ∃ (k : Nat) (r : Pl.Bs) (acc : List Pl.Bs), rest = .string ⟨r.toArray⟩ ∧ i = .int .i64 k ∧ Hid (SplitI l n k r acc) ∧ Hid (SplitW w B n acc wr)) (fun _ i _ => n - intN i)
        case atStart => exact ⟨0, l.drop 4, [], rfl, rfl, HS0, hW0⟩
        case round =>
          obtain ⟨k, r, acc, rfl, rfl, hI, hW⟩ := hrel
          have hlen := (unhide hI).len
          have hrl : r.length ≤ 8388608 := Nat.le_trans (unhide hI).size (unhide HL)
          by_cases hk : k < n
          · by_cases hr : 2 ≤ r.length ∧ 2 + Pl.two r 0 ≤ r.length
            · have C := hide (takeString_yes r wr hr hrl)
              have HN := hide ((unhide hI).next hk hr)
              generalize (r.drop 2).take (Pl.two r 0) = piece at *
              generalize r.drop (2 + Pl.two r 0) = tail at *
              clear hr hrl hI
              go_wp2_with fail
              refine (unhide C).mono ?_
              rintro e w3 ⟨rfl, hb3⟩
              have hW3 := (unhide hW).later hb3
              obtain ⟨v0, hc0⟩ := hW3.cell (by omega)
              have hf0 := hW3.row.frozen acc.length
              rw [hlen] at hc0 hf0
              have HW4 : Hid (SplitW w B n (acc ++ [piece]) (w3.setCell ⟨B, k, none⟩ (.string ⟨piece.toArray⟩))) := by
                have := hW3.put (by omega) piece
                rwa [hlen] at this
              clear hW3 hb3 hW hlen C
              go_wp2_with fail
              go_roundw
              case rel => exact ⟨k + 1, tail, _, rfl, by go_num, HN, HW4⟩
              case measure => simp only [intN]; omega
            · have C := hide (takeString_no r wr hr hrl)
              have HN := hide ((unhide hI).bad hk hr)
              clear hr hrl hI
              go_wp2_with fail
              refine (unhide C).mono ?_
              rintro e w3 ⟨rfl, hb3⟩
              have hW3 := (unhide hW).later hb3
              obtain ⟨v0, hc0⟩ := hW3.cell (by omega)
              have hf0 := hW3.row.frozen acc.length
              rw [hlen] at hc0 hf0
              have HW4 : Hid (SplitW w B n (acc ++ [[]]) (w3.setCell ⟨B, k, none⟩ (.string ⟨#[]⟩))) := by
                have := hW3.put (by omega) []
                rwa [hlen] at this
              have hlt := hW3.lt
              have hne : w.heap.size ≠ B := by omega
              have c0 := hW3.res.cell 0 (by simp)
              have c1 := hW3.res.cell 1 (by simp)
              have f0 := hW3.res.frozen 0
              have f1 := hW3.res.frozen 1
              simp only [List.getElem_cons_zero, List.getElem_cons_succ] at c0 c1
              clear hW3 hb3 hW hlen C
              go_wp2_with fail
              obtain ⟨o0, o1, -, o3⟩ := (unhide HW4).out (.slice none 0 0) (.string ⟨#[]⟩)
              refine bodyPost_ret (v := .tuple #[.agg #[.slice none 0 0, .string ⟨#[]⟩], .bool false]) ?_ rfl ⟨.inl ⟨(unhide HLD).trans (unhide HN), rfl⟩, o3⟩
              simp [results, Tryz.results80, go_sem, o0, o1]
          · have HD := hide ((unhide hI).done hk)
            have c0 := (unhide hW).res.cell 0 (by simp)
            have c1 := (unhide hW).res.cell 1 (by simp)
            have f0 := (unhide hW).res.frozen 0
            have f1 := (unhide hW).res.frozen 1
            simp only [List.getElem_cons_zero, List.getElem_cons_succ] at c0 c1
            have hlt := (unhide hW).lt
            clear hI hrl hlen
            go_wp2_with fail
            obtain ⟨hd1, hd2⟩ := unhide HD
            obtain ⟨o0, o1, o2, o3⟩ := (unhide hW).out (.slice (some ⟨B, 0, none⟩) n n) (.string ⟨r.toArray⟩)
            rw [hd2, Nat.sub_self, List.replicate_zero, List.append_nil] at o2
            refine bodyPost_ret (v := .tuple #[.agg #[.slice (some ⟨B, 0, none⟩) n n, .string ⟨r.toArray⟩], .bool true]) ?_ rfl ⟨.inr ⟨acc, r, B, (unhide HLD).trans hd1, by rw [hd2], o2, by omega⟩, o3⟩
            simp [results, Tryz.results80, go_sem, o0, o1]
      · have HLD : Hid (Pl.load l = none) := by
          show _ = _
          unfold Pl.load; rw [if_neg (fun e => hn e.2.2)]
        generalize Pl.two l 2 = n at *
        have hn' : (1000 : Int) < n := by omega
        clear h2 hyes hy1 hy2 hah hrest htw hr4 hdl hsz h4 hl hn
        go_enter Tryz.func80, Tryz.ntmps80
        go_wp2_with fail
        refine (unhide C0 _).mono ?_
        rintro e w1 ⟨rfl, rfl⟩
        go_wp2_with fail
        refine (unhide C1 _).mono ?_
        rintro e w2 ⟨rfl, hb2⟩
        have hr0 : Row w2 w.heap.size 120 [.slice none 0 0, .string ⟨#[]⟩] := (Row.new w 120 [.slice none 0 0, .string ⟨#[]⟩]).later hb2
        have hb1 := (Below.refl _ w).alloc (Nat.le_refl _) (.cells #[.slice none 0 0, .string ⟨#[]⟩] 120)
        have hb12 := hide (hb1.trans (hb2.mono hb1.size))
        have c0 := hr0.cell 0 (by simp)
        have c1 := hr0.cell 1 (by simp)
        have f0 := hr0.frozen 0
        have f1 := hr0.frozen 1
        simp only [List.getElem_cons_zero, List.getElem_cons_succ] at c0 c1
        have hr1 := (hr0.set 0 (.slice none 0 0)).set 1 (.string ⟨#[]⟩)
        have o0 := hide (hr1.cell 0 (by simp))
        have o1 := hide (hr1.cell 1 (by simp))
        clear hb1 hb2 hr0 hr1
        go_wp2_with fail
        have p0 := unhide o0
        have p1 := unhide o1
        simp only [List.set_cons_zero, List.set_cons_succ, List.getElem_cons_zero, List.getElem_cons_succ] at p0 p1
        refine bodyPost_ret (v := .tuple #[.agg #[.slice none 0 0, .string ⟨#[]⟩], .bool false]) ?_ rfl ⟨.inl ⟨unhide HLD, rfl⟩, ((unhide hb12).setCell (p := ⟨w.heap.size, 0, none⟩) (Nat.le_refl _) _).setCell (p := ⟨w.heap.size, 1, none⟩) (Nat.le_refl _) _⟩
        simp [results, Tryz.results80, go_sem, p0, p1]
    · have C1 := hide (fun w => takeNumber_no ⟨(l.drop 2).toArray⟩ w (by rw [size_mk, List.length_drop]; omega))
      have HLD : Hid (Pl.load l = none) := by
        show _ = _
        unfold Pl.load; rw [if_neg (fun e => h4 e.1)]
      clear h2 hyes hy1 hy2 hah hrest hdl hsz h4 hl
      go_enter Tryz.func80, Tryz.ntmps80
      go_wp2_with fail
      refine (unhide C0 _).mono ?_
      rintro e w1 ⟨rfl, rfl⟩
      go_wp2_with fail
      refine (unhide C1 _).mono ?_
      rintro e w2 ⟨rfl, rfl⟩
      go_wp2_with fail
      refine bodyPost_ret (v := .tuple #[.agg #[.slice none 0 0, .string ⟨#[]⟩], .bool false]) ?_ rfl ⟨.inl ⟨unhide HLD, rfl⟩, (Below.refl _ w).alloc (Nat.le_refl _) _⟩
      simp [results, Tryz.results80, go_sem]
  · have hno : (decide ((⟨#[80, 49]⟩ : ByteArray).size ≤ (⟨l.toArray⟩ : ByteArray).size) && (((⟨l.toArray⟩ : ByteArray).extract 0 (⟨#[80, 49]⟩ : ByteArray).size).toList == (⟨#[80, 49]⟩ : ByteArray).toList)) = false := by
      rw [Bool.eq_false_iff]; exact fun e => h2 (hah.1 e)
    have C0 := hide (fun w => cutPrefix_no ⟨l.toArray⟩ ⟨#[80, 49]⟩ w hno)
    have HLD : Hid (Pl.load l = none) := by
      show _ = _
      unfold Pl.load; rw [if_neg (fun e => h2 ⟨by omega, e.2.1⟩)]
    clear h2 hah hdl hsz hl hno
    go_enter Tryz.func80, Tryz.ntmps80
    go_wp2_with fail
    refine (unhide C0 _).mono ?_
    rintro e w1 ⟨rfl, rfl⟩
    go_wp2_with fail
    refine bodyPost_ret (v := .tuple #[.agg #[.slice none 0 0, .string ⟨#[]⟩], .bool false]) ?_ rfl ⟨.inl ⟨unhide HLD, rfl⟩, (Below.refl _ w).alloc (Nat.le_refl _) _⟩
    simp [results, Tryz.results80, go_sem]
end Go.Proofs.YtjelacjggijmfaaGreatDoor
namespace Go.Proofs.YtjelacjggijmfaaGreatDoor
open Go.RowKit Go.MapKept Go.ChangeMaps Go.Maps

abbrev Ents := List (Pl.Bs × Value)
def mget (l : Ents) (k : Pl.Bs) : Option Value := (l.find? (fun x => x.1 == k)).map (·.2)
def mput : Ents → Pl.Bs → Value → Ents
  | [], k, v => [(k, v)]
  | x :: r, k, v => if x.1 == k then (k, v) :: r else x :: mput r k v
def mdel (l : Ents) (k : Pl.Bs) : Ents := l.filter (fun x => !(x.1 == k))
def SMap (w : World) (b : Nat) (l : Ents) : Prop :=
  ∃ es clock, w.heap[b]? = some (.map es clock) ∧ Stamped es clock ∧ es.size ≤ maxLen ∧ es.toList.map (fun e => (e.key, e.val)) = l.map (fun x => (strV x.1, x.2))
theorem strV_inj {a b : Pl.Bs} (h : strV a = strV b) : a = b := by
  unfold strV at h
  injection h with h
  injection h with h
  simpa using h
theorem str_beq (a b : Pl.Bs) : ((⟨a.toArray⟩ : ByteArray) == ⟨b.toArray⟩) = (a == b) := by
  show (a.toArray == b.toArray) = _
  simp
theorem findNow_s (k : Pl.Bs) : ∀ (es : List MapEntry) (l : Ents) (i : Nat), es.map (fun e => (e.key, e.val)) = l.map (fun x => (strV x.1, x.2)) →
    (mget l k = none ∧ Instr.findNow .string (strV k) es i = some none ∧ (∀ e ∈ es, e.key ≠ strV k) ∧ mput l k = fun v => l ++ [(k, v)]) ∨
    ∃ j v e, mget l k = some v ∧ Instr.findNow .string (strV k) es i = some (some (i + j, v)) ∧ es[j]? = some e ∧ e.key = strV k ∧ ∀ v', (es.modify j (fun e => { e with key := strV k, val := v' })).map (fun e => (e.key, e.val)) = (mput l k v').map (fun x => (strV x.1, x.2))
  | [], [], i, _ => .inl ⟨rfl, rfl, by simp, rfl⟩
  | [], x :: l, i, h => by simp at h
  | e :: es, [], i, h => by simp at h
  | e :: es, x :: l, i, h => by
    simp only [List.map_cons, List.cons.injEq, Prod.mk.injEq] at h
    obtain ⟨⟨hk, hv⟩, hr⟩ := h
    have hs : Instr.sameNow .string (strV k) e.key = some (k == x.1) := by
      rw [hk]; unfold strV Instr.sameNow; simp only [str_beq]
    by_cases hx : x.1 = k
    · right
      refine ⟨0, e.val, e, ?_, ?_, rfl, by rw [hk, hx], fun v' => ?_⟩
      · unfold mget; simp [hx, hv]
      · unfold Instr.findNow; rw [hs, hx]; simp
      · unfold mput; simp [hx, hr]
    · have hx' : (x.1 == k) = false := by simpa using hx
      have hx2 : (k == x.1) = false := by simpa using fun e => hx e.symm
      have hmg : mget (x :: l) k = mget l k := by unfold mget; simp [hx']
      have hmp : ∀ v, mput (x :: l) k v = x :: mput l k v := fun v => by rw [mput, hx']; rfl
      have hfn : Instr.findNow .string (strV k) (e :: es) i = Instr.findNow .string (strV k) es (i + 1) := by rw [Instr.findNow, hs, hx2]
      rcases findNow_s k es l (i + 1) hr with ⟨h1, h2, h3, h4⟩ | ⟨j, v, e', h1, h2, h3, h4, h5⟩
      · refine .inl ⟨by rw [hmg, h1], by rw [hfn, h2], ?_, ?_⟩
        · intro e' he'
          rcases List.mem_cons.1 he' with rfl | he'
          · rw [hk]; exact fun e => hx (strV_inj e)
          · exact h3 e' he'
        · funext v; rw [hmp, h4]; rfl
      · refine .inr ⟨j + 1, v, e', by rw [hmg, h1], by rw [hfn, h2]; congr 3; omega, by simpa using h3, h4, fun v' => ?_⟩
        rw [hmp, List.map_cons, ← h5 v']
        simp [hk, hv]
section
variable {P : Program} {w : World} {b : Nat} {l : Ents} {t kt et : TypeId}
theorem check_s (hk : P.underlying kt = some .string) (em : Bool) (k : Pl.Bs) : (Instr.checkKey em 10000 kt (strV k)).run P w = .ok () w := by
  unfold strV
  rw [show (10000 : Nat) = 9999 + 1 from rfl, Instr.checkKey]
  simp only [Sem.run_bind, run_underlying hk, Result.andThen]
  rfl
theorem SMap.lt (h : SMap w b l) : b < w.heap.size := by
  obtain ⟨es, clock, hb, _⟩ := h
  exact (Array.getElem?_eq_some_iff.1 hb).1
theorem SMap.of_block {w' : World} (h : SMap w b l) (hb : w'.heap[b]? = w.heap[b]?) : SMap w' b l := by
  obtain ⟨es, clock, h1, h2⟩ := h
  exact ⟨es, clock, hb.trans h1, h2⟩
theorem SMap.later {w' : World} (h : SMap w b l) (hb : Below w.heap.size w w') : SMap w' b l := h.of_block (hb.block b h.lt)
theorem SMap.below {w' : World} {B : Nat} (h : SMap w b l) (hb : Below B w w') (hl : b < B) : SMap w' b l := h.of_block (hb.block b hl)
theorem SMap.kept {w' : World} {r : Option Nat} (h : SMap w b l) (hg : w.grownBy w' r) (hr : some b ≠ r) : SMap w' b l := h.of_block (hg.block b h.lt hr)
theorem SMap.setCell (h : SMap w b l) {a : Addr} (ha : b ≠ a.block) (u : Value) : SMap (w.setCell a u) b l := h.of_block (Below.heap_setCell w a u b ha)
theorem SMap.made (w : World) : SMap (w.alloc (.map #[] 0)) w.heap.size [] := ⟨#[], 0, heap_alloc_new w _, stamped_empty 0, Nat.zero_le _, rfl⟩
/-- What is asked of it. -/
theorem SMap.look (h : SMap w b l) (ht : P.underlying t = some (.map kt et)) (hk : P.underlying kt = some .string) {z : Value} (hz : (zeroValue et).run P w = .ok z w) (k : Pl.Bs) (c : Bool) :
    (Instr.lookup t (.map (some b)) (strV k) c).run P w = .ok (if c then .tuple #[(mget l k).getD z, .bool (mget l k).isSome] else (mget l k).getD z) w := by
  obtain ⟨es, clock, hb, hst, hsz, he⟩ := h
  rcases findNow_s k es.toList l 0 he with ⟨h1, h2, h3, h4⟩ | ⟨j, v, e', h1, h2, h3, h4, h5⟩
  · rw [h1]
    simp [Instr.lookup, run_underlying ht, MapKept.run_getObj_map hb, check_s hk, Instr.findKey, run_underlying hk, h2, hz, Result.andThen]
  · rw [h1]
    simp [Instr.lookup, run_underlying ht, MapKept.run_getObj_map hb, check_s hk, Instr.findKey, run_underlying hk, h2, Result.andThen]
/-- What is put into it. -/
theorem SMap.put (h : SMap w b l) (ht : P.underlying t = some (.map kt et)) (hk : P.underlying kt = some .string) (hl : l.length < maxLen) (k : Pl.Bs) (v : Value) :
    ∃ w', (Instr.mapUpdate t (.map (some b)) (strV k) v).run P w = .ok () w' ∧ SMap w' b (mput l k v) ∧ w.mapTurned w' b := by
  obtain ⟨es, clock, hb, hst, hsz, he⟩ := h
  have hbl : b < w.heap.size := (Array.getElem?_eq_some_iff.1 hb).1
  have hlen : es.size = l.length := by have := congrArg List.length he; simpa using this
  rcases findNow_s k es.toList l 0 he with ⟨h1, h2, h3, h4⟩ | ⟨j, v', e', h1, h2, h3, h4, h5⟩
  · refine ⟨setBlock w b (.map (es.push ⟨strV k, v, clock⟩) (clock + 1)), ?_, ⟨es.push ⟨strV k, v, clock⟩, clock + 1, by simp [setBlock, hbl], stamped_push hst h3, by simp; omega, ?_⟩, es, clock, _, _, hb, rfl⟩
    · simp [Instr.mapUpdate, run_underlying ht, MapKept.run_getObj_map hb, check_s hk, Instr.findKey, run_underlying hk, h2, MapKept.run_setObj_map _ hb, Result.andThen, setBlock]
    · rw [congrFun h4 v]; simp [he]
  · rw [Nat.zero_add] at h2
    have hj : es[j]? = some e' := by simpa using h3
    refine ⟨setBlock w b (.map (es.modify j (fun e => { e with key := strV k, val := v })) clock), ?_, ⟨es.modify j (fun e => { e with key := strV k, val := v }), clock, by simp [setBlock, hbl], stamped_modify hst _ _ (fun _ _ => rfl) (fun e2 _ he2 => ?_), by simpa using hsz, ?_⟩, es, clock, _, _, hb, rfl⟩
    · have hstay : (Instr.keyThatStays (strV k) (strV k)).run P w = .ok (strV k) w := by
        unfold strV; simp [Instr.keyThatStays, Instr.sameBits, str_beq]
      simp [Instr.mapUpdate, run_underlying ht, MapKept.run_getObj_map hb, check_s hk, Instr.findKey, run_underlying hk, h2, hj, h4, hstay, MapKept.run_setObj_map _ hb, Result.andThen, setBlock]
    · rw [hj] at he2; cases he2; exact h4.symm
    · rw [Array.toList_modify]; exact h5 v
end
section
variable {P : Program} (w : World) {ops : Array Oper} {rest : List Oper} {o : Oper} {a : Act} {Q : Exit → Act → World → Prop}
theorem wpList_look_ok_yes (hg : o.guard = none) (m x : Operand) (t : TypeId) (hop : o.op = Op.lookup t m x true) (kt et : TypeId) (ht : P.underlying t = some (.map kt et)) (hk : P.underlying kt = some .string) (z : Value) (hz : (zeroValue et).run P w = .ok z w)
    (b : Nat) (l : Ents) (hm : a.eval m = .map (some b)) (hs : SMap w b l) (k : Pl.Bs) (hx : a.eval x = .string ⟨k.toArray⟩) (u : Value) (hu : mget l k = some u) (hK : wpList P ops Q rest (a.put o.dst (.tuple #[u, .bool true])) w) : wpList P ops Q (o :: rest) a w := by
  refine wpList_plain hg fun K' hK' => ?_
  have hrun := hs.look ht hk hz k true
  rw [hu] at hrun
  unfold strV at hrun
  unfold Oper.wp
  simp [execOp, hop, hm, hx, hrun, Result.andThen]
  exact hK' _ _ hK
theorem wpList_look_ok_no (hg : o.guard = none) (m x : Operand) (t : TypeId) (hop : o.op = Op.lookup t m x true) (kt et : TypeId) (ht : P.underlying t = some (.map kt et)) (hk : P.underlying kt = some .string) (z : Value) (hz : (zeroValue et).run P w = .ok z w)
    (b : Nat) (l : Ents) (hm : a.eval m = .map (some b)) (hs : SMap w b l) (k : Pl.Bs) (hx : a.eval x = .string ⟨k.toArray⟩) (hu : mget l k = none) (hK : wpList P ops Q rest (a.put o.dst (.tuple #[z, .bool false])) w) : wpList P ops Q (o :: rest) a w := by
  refine wpList_plain hg fun K' hK' => ?_
  have hrun := hs.look ht hk hz k true
  rw [hu] at hrun
  unfold strV at hrun
  unfold Oper.wp
  simp [execOp, hop, hm, hx, hrun, Result.andThen]
  exact hK' _ _ hK
theorem wpList_look_one (hg : o.guard = none) (m x : Operand) (t : TypeId) (hop : o.op = Op.lookup t m x false) (kt et : TypeId) (ht : P.underlying t = some (.map kt et)) (hk : P.underlying kt = some .string) (z : Value) (hz : (zeroValue et).run P w = .ok z w)
    (b : Nat) (l : Ents) (hm : a.eval m = .map (some b)) (hs : SMap w b l) (k : Pl.Bs) (hx : a.eval x = .string ⟨k.toArray⟩) (u : Value) (hu : (mget l k).getD z = u) (hK : wpList P ops Q rest (a.put o.dst u) w) : wpList P ops Q (o :: rest) a w := by
  refine wpList_plain hg fun K' hK' => ?_
  have hrun := hs.look ht hk hz k false
  rw [hu] at hrun
  unfold strV at hrun
  unfold Oper.wp
  simp [execOp, hop, hm, hx, hrun, Result.andThen]
  exact hK' _ _ hK
theorem wpList_put_s (hg : o.guard = none) (m x v : Operand) (t : TypeId) (hop : o.op = Op.mapUpdate t m x v) (kt et : TypeId) (ht : P.underlying t = some (.map kt et)) (hk : P.underlying kt = some .string)
    (b : Nat) (l : Ents) (hm : a.eval m = .map (some b)) (hs : SMap w b l) (hl : l.length < maxLen) (k : Pl.Bs) (hx : a.eval x = .string ⟨k.toArray⟩) (u : Value) (hv : a.eval v = u)
    (hK : ∀ w', SMap w' b (mput l k u) → w.mapTurned w' b → wpList P ops Q rest (a.put o.dst undef) w') : wpList P ops Q (o :: rest) a w := by
  refine wpList_plain hg fun K' hK' => ?_
  obtain ⟨w', hrun, r1, r2⟩ := hs.put ht hk hl k u
  unfold strV at hrun
  unfold Oper.wp
  simp [execOp, hop, hm, hx, hv, hrun, Result.andThen]
  exact hK' _ _ (hK w' r1 r2)
end
end Go.Proofs.YtjelacjggijmfaaGreatDoor
namespace Go.Proofs.YtjelacjggijmfaaGreatDoor
open Go.RowKit

theorem step_append_own {P : Program} {ops : Array Oper} {o : Oper} {a : Act} {w : World} {K : Act → World → Prop} {Q : Exit → Act → World → Prop} {E : Prop}
    (hg : o.guard = none) (s x : Operand) (t : TypeId) (hop : o.op = Op.call { callee := Callee.builtin Builtin.append, args := #[s, x], argTypes := #[t, t] })
    (base : Nat) (e : TypeId) (i : TypeInfo) (z : Value) (size bytes : Nat) (h1 : P.underlying t = some (.slice e)) (h2 : P.info? e = some i) (h3 : i.zero = some z) (h4 : i.size = size) (h5 : i.bytes = bytes) (h6 : z.cells.size = size) (h7 : 0 < size)
    (v : Value) (n : Nat) (xs : List Value) (hs : a.eval s = v) (hown : w.ownsRow base e size v n xs)
    (ad : Addr) (m c : Nat) (news : List Value) (hx : a.eval x = .slice (some ad) m c) (hn : news.length = m * size) (hc : ∀ j u, news[j]? = some u → w.cell? (ad.add j) = some u) (h1c : ∀ u ∈ news, u.oneCell' = true)
    (b1 : n + m ≤ maxLen) (b2 : (n + m) * bytes ≤ 140737488355328) (hbase : base ≤ w.heap.size)
    (hK : ∀ v' w', w'.ownsRow base e size v' (n + m) (xs ++ news) → w.grownBy w' v.ownBlock → K (a.put o.dst v') w') :
    if Region.wanted o (yielded ops a.tmps) = true then Oper.wp P o a w K Q else E := by
  have hw : Region.wanted o (yielded ops a.tmps) = true := by simp [Region.wanted, hg]
  rw [if_pos hw]
  obtain ⟨v', w', hrun, r1, r2, _⟩ := run_append_own (P := P) w base t o.type e i z size bytes h1 h2 h3 h4 h5 h6 h7 v n xs hown ad m c news hn hc h1c b1 b2 hbase
  unfold Oper.wp
  simp [execOp, hop, resolve, invoke, builtin, hs, hx, hrun, Result.andThen]
  exact hK v' w' r1 r2
/-- A row that is not empty: where it lies. -/
theorem owns_form {w : World} {B e size : Nat} {v : Value} {n : Nat} {xs : List Value} (h : w.ownsRow B e size v n xs) (h0 : 0 < n) : ∃ g cap, v = .slice (some ⟨g, 0, none⟩) n cap ∧ B ≤ g ∧ g < w.heap.size := by
  rcases h.2 with ⟨h1, h2⟩ | ⟨g, cap, cur, h1, h2, h3, h4, h5, h6, h7⟩
  · omega
  · exact ⟨g, cap, h1, h2, (Array.getElem?_eq_some_iff.1 h3).1⟩
end Go.Proofs.YtjelacjggijmfaaGreatDoor
