/-
  strings.IndexAny of two signs at every text, also one of few bytes that are no ASCII.
  What stands behind the word include, the sign of a line, what may stand ahead of it.
  What the library's functions answer that package lines calls, and its own small functions over them.
  The shelf's words in ours: cutting at a byte, trimming, prefixes and suffixes.
-/
import Derived.Test.YtjelacjggijmfaaGreatDoorVW2
import Derived.Test.YtjelacjggijmfaaGreatDoorVLay
import Derived.Laws.Runes
import Derived.WalkMore
import Derived.BigQuiet
import Derived.Deep.QuietTactic
namespace Go.Mk
open Go

def after (c : UInt8) (l : Bs) : Bs := (l.dropWhile (fun x => !(x == c))).drop 1
theorem index_one (c : UInt8) (l : Bs) : (l.contains c = true → Lib.index l [c] = (before c l).length) ∧ (l.contains c = false → Lib.index l [c] = -1) := by
  induction l with
  | nil => simp [Lib.index]
  | cons b r ih =>
    by_cases h : b = c
    · subst h
      simp [Lib.index, before]
    · have hn : (c == b) = false := by simpa using fun e => h e.symm
      have hb : (b == c) = false := by simpa using h
      have hp : List.isPrefixOf [c] (b :: r) = false := by simp [List.isPrefixOf, hn]
      have hc : (b :: r).contains c = r.contains c := by rw [List.contains_cons, hn, Bool.false_or]
      rw [hc]
      unfold Lib.index
      rw [hp]
      simp only [Bool.false_eq_true, if_false]
      constructor
      · intro h1
        have := ih.1 h1
        rw [this]
        have hne : (((before c r).length : Int) == -1) = false := by rw [beq_eq_false_iff_ne]; omega
        rw [hne]
        simp [before, hb]
      · intro h1
        rw [ih.2 h1]
        rfl
theorem none_of (c b : UInt8) (r : Bs) (h : (b :: r).contains c = false) : (b == c) = false ∧ r.contains c = false := by
  rw [List.contains_cons, Bool.or_eq_false_iff] at h
  refine ⟨?_, h.2⟩
  have := h.1
  rw [beq_eq_false_iff_ne] at this ⊢
  exact fun e => this e.symm
theorem before_all (c : UInt8) (l : Bs) (h : l.contains c = false) : before c l = l := by
  induction l with
  | nil => rfl
  | cons b r ih =>
    obtain ⟨hb, hr⟩ := none_of c b r h
    have := ih hr
    unfold before at this ⊢
    rw [List.takeWhile_cons, hb, this]; rfl
theorem after_none (c : UInt8) (l : Bs) (h : l.contains c = false) : after c l = [] := by
  induction l with
  | nil => rfl
  | cons b r ih =>
    obtain ⟨hb, hr⟩ := none_of c b r h
    have := ih hr
    unfold after at this ⊢
    rw [List.dropWhile_cons, hb]; exact this
def has (c : UInt8) (l : Bs) : Bool := l.contains c
theorem cut_one (c : UInt8) (l : Bs) : Lib.cut l [c] = (before c l, after c l, has c l) := by
  unfold Lib.cut has
  cases h : l.contains c with
  | true =>
    rw [(index_one c l).1 h, if_pos (by omega)]
    simp only [Int.toNat_natCast, List.length_cons, List.length_nil]
    have hl : before c l ++ l.dropWhile (fun x => !(x == c)) = l := List.takeWhile_append_dropWhile
    have h1 : l.take (before c l).length = before c l := by
      conv => lhs; arg 2; rw [← hl]
      exact List.take_left
    have h2 : l.drop ((before c l).length + (0 + 1)) = after c l := by
      rw [← List.drop_drop]
      conv => lhs; arg 2; arg 2; rw [← hl]
      rw [List.drop_left]; rfl
    rw [h1, h2]
  | false =>
    rw [(index_one c l).2 h, if_neg (by omega), before_all c l h, after_none c l h]
theorem contains_blk (c : UInt8) : [32, 9].contains c = blk c := by simp only [List.contains_cons, List.contains_nil, Bool.or_false, blk]
theorem trimS_cut (l : Bs) : Lib.trimS l [32, 9] = cut l := by
  unfold Lib.trimS Lib.trimLeftS Lib.trimRightS cut cutL cutR
  simp only [contains_blk]
theorem trimLeftS_cutL (l : Bs) : Lib.trimLeftS l [32, 9] = cutL l := by
  unfold Lib.trimLeftS cutL
  simp only [contains_blk]
theorem trimRightS_noBack (l : Bs) : Lib.trimRightS l [92] = noBack l := by
  unfold Lib.trimRightS noBack
  have : ∀ c : UInt8, [92].contains c = (c == 92) := fun c => by simp only [List.contains_cons, List.contains_nil, Bool.or_false]
  simp only [this]
theorem hasSuffix_back (l : Bs) : Lib.hasSuffix l [92] = endsBack l := by
  unfold Lib.hasSuffix endsBack
  rw [Bool.eq_iff_iff]
  simp only [List.isSuffixOf_iff_suffix, beq_iff_eq]
  constructor
  · rintro ⟨t, rfl⟩; simp
  · intro h
    obtain ⟨ys, rfl⟩ := List.getLast?_eq_some_iff.1 h
    exact ⟨ys, rfl⟩
theorem trimSuffix_back (l : Bs) (h : endsBack l = true) : Lib.trimSuffix l [92] = l.dropLast := by
  unfold Lib.trimSuffix
  rw [hasSuffix_back, if_pos h, List.dropLast_eq_take]; rfl
end Go.Mk
namespace Go.Proofs.YtjelacjggijmfaaGreatDoor
open Go.RowKit

def Glob (w : World) : Prop := ∃ m, w.cell? ⟨0, 0, none⟩ = some (.int .i64 m)
theorem Glob.later {w w' : World} (h : Glob w) (hb : Below w.heap.size w w') : Glob w' := by
  obtain ⟨m, hm⟩ := h
  exact ⟨m, (hb.cell (p := ⟨0, 0, none⟩) (World.block_lt_of_cell? w _ hm)).trans hm⟩
theorem below_drewN (w : World) (n : Nat) : Below w.heap.size w (w.drewN n) := by
  induction n with
  | zero => exact Below.refl _ _
  | succ k ih => exact ih.drew

theorem lCut (c : UInt8) (s : ByteArray) (w : World) (hs : s.size ≤ 4294967200) (hg : Glob w) :
    Calls Tryz.prog 160 #[.string s, .string ⟨#[c]⟩] w fun e w' => e = .returned (.tuple #[.string ⟨(Mk.before c s.data.toList).toArray⟩, .string ⟨(Mk.after c s.data.toList).toArray⟩, .bool (Mk.has c s.data.toList)]) ∧ Below w.heap.size w w' := by
  obtain ⟨m, hm⟩ := hg
  refine (Any.strings_Cut Tryz.lay145 s ⟨#[c]⟩ m w (by omega) hm).mono ?_
  rintro e w' ⟨rfl, n, rfl⟩
  refine ⟨?_, below_drewN w n⟩
  show Ending.returned (.tuple #[.string ⟨(Lib.cut s.data.toList [c]).1.toArray⟩, .string ⟨(Lib.cut s.data.toList [c]).2.1.toArray⟩, .bool (Lib.cut s.data.toList [c]).2.2]) = _
  rw [Mk.cut_one]
theorem lHasSuffix (s : ByteArray) (w : World) (hs : s.size ≤ 4294967296) :
    Calls Tryz.prog 123 #[.string s, .string ⟨#[92]⟩] w fun e w' => e = .returned (.bool (Mk.endsBack s.data.toList)) ∧ w = w' := by
  refine (Any.strings_HasSuffix Tryz.lay100 s ⟨#[92]⟩ w (by omega)).mono ?_
  rintro e w' ⟨rfl, rfl⟩
  exact ⟨ret_bool (Mk.hasSuffix_back _), rfl⟩
theorem lTrimSuffix (s : ByteArray) (w : World) (hs : s.size ≤ 4294967296) (h : Mk.endsBack s.data.toList = true) :
    Calls Tryz.prog 207 #[.string s, .string ⟨#[92]⟩] w fun e w' => e = .returned (.string ⟨s.data.toList.dropLast.toArray⟩) ∧ w = w' := by
  refine (Any.strings_TrimSuffix Tryz.lay102 s ⟨#[92]⟩ w (by omega)).mono ?_
  rintro e w' ⟨rfl, rfl⟩
  refine ⟨ret_str ?_, rfl⟩
  show (⟨(Lib.trimSuffix s.data.toList [92]).toArray⟩ : ByteArray) = _
  rw [Mk.trimSuffix_back _ h]
theorem lTrimRight (s : ByteArray) (w : World) (hs : s.size ≤ 4294967296) :
    Calls Tryz.prog 209 #[.string s, .string ⟨#[92]⟩] w fun e w' => e = .returned (.string ⟨(Mk.noBack s.data.toList).toArray⟩) ∧ Below w.heap.size w w' := by
  refine (Any.strings_TrimRight_laid Tryz.lay162 (by kernel_rfl) s ⟨#[92]⟩ w (by omega) (by decide) (ascii_of_all (by decide))).mono ?_
  rintro e w' ⟨rfl, hb⟩
  refine ⟨ret_str ?_, hb⟩
  show (⟨(Lib.trimRightS s.data.toList [92]).toArray⟩ : ByteArray) = _
  rw [Mk.trimRightS_noBack]
theorem lTrimLeft (s : ByteArray) (w : World) :
    Calls Tryz.prog 250 #[.string s, .string ⟨#[32, 9]⟩] w fun e w' => e = .returned (.string ⟨(Mk.cutL s.data.toList).toArray⟩) ∧ Below w.heap.size w w' := by
  refine (Any.strings_TrimLeft_laid Tryz.lay161 (by kernel_rfl) s ⟨#[32, 9]⟩ w (by decide) (ascii_of_all (by decide))).mono ?_
  rintro e w' ⟨rfl, hb⟩
  refine ⟨ret_str ?_, hb⟩
  show (⟨(Lib.trimLeftS s.data.toList [32, 9]).toArray⟩ : ByteArray) = _
  rw [Mk.trimLeftS_cutL]
theorem lTrim (s : ByteArray) (w : World) (hs : s.size ≤ 4294967296) :
    Calls Tryz.prog 147 #[.string s, .string ⟨#[32, 9]⟩] w fun e w' => e = .returned (.string ⟨(Mk.cut s.data.toList).toArray⟩) ∧ Below w.heap.size w w' := by
  refine (Any.strings_Trim_laid Tryz.lay160 (by kernel_rfl) s ⟨#[32, 9]⟩ w (by omega) (by decide) (ascii_of_all (by decide))).mono ?_
  rintro e w' ⟨rfl, hb⟩
  refine ⟨ret_str ?_, hb⟩
  show (⟨(Lib.trimS s.data.toList [32, 9]).toArray⟩ : ByteArray) = _
  rw [Mk.trimS_cut]
theorem lHasPrefix (s p : ByteArray) (w : World) :
    Calls Tryz.prog 158 #[.string s, .string p] w fun e w' => e = .returned (.bool (p.data.toList.isPrefixOf s.data.toList)) ∧ w = w' := by
  refine (Any.strings_HasPrefix Tryz.lay99 s p w).mono ?_
  rintro e w' ⟨rfl, rfl⟩
  exact ⟨rfl, rfl⟩
theorem lCutPrefix (s p : ByteArray) (w : World) :
    Calls Tryz.prog 126 #[.string s, .string p] w fun e w' => e = .returned (.tuple #[.string ⟨(Lib.trimPrefix s.data.toList p.data.toList).toArray⟩, .bool (p.data.toList.isPrefixOf s.data.toList)]) ∧ w = w' := by
  refine (Any.strings_CutPrefix Tryz.lay103 s p w).mono ?_
  rintro e w' ⟨rfl, rfl⟩
  exact ⟨rfl, rfl⟩
theorem lCutPrefix_yes (s p t : ByteArray) (w : World) (h : p.data.toList.isPrefixOf s.data.toList = true) (ht : s.data.toList.drop p.data.toList.length = t.data.toList) :
    Calls Tryz.prog 126 #[.string s, .string p] w fun e w' => e = .returned (.tuple #[.string t, .bool true]) ∧ w = w' := by
  refine (lCutPrefix s p w).mono ?_
  rintro e w' ⟨rfl, rfl⟩
  refine ⟨?_, rfl⟩
  have : Lib.trimPrefix s.data.toList p.data.toList = t.data.toList := by unfold Lib.trimPrefix Lib.hasPrefix; rw [if_pos h, ht]
  rw [this, h, ← mk_eq (t := t) rfl]
theorem lCutPrefix_no (s p : ByteArray) (w : World) (h : p.data.toList.isPrefixOf s.data.toList = false) :
    Calls Tryz.prog 126 #[.string s, .string p] w fun e w' => e = .returned (.tuple #[.string s, .bool false]) ∧ w = w' := by
  refine (lCutPrefix s p w).mono ?_
  rintro e w' ⟨rfl, rfl⟩
  refine ⟨?_, rfl⟩
  have : Lib.trimPrefix s.data.toList p.data.toList = s.data.toList := by unfold Lib.trimPrefix Lib.hasPrefix; rw [h]; rfl
  rw [this, h, ← mk_eq (t := s) rfl]

set_option maxHeartbeats 400000 in
theorem cut_any (s : ByteArray) (w : World) (hs : s.size ≤ 4294967296) :
    Calls Tryz.prog 95 #[.string s] w fun e w' => e = .returned (.string ⟨(Mk.cut s.data.toList).toArray⟩) ∧ Below w.heap.size w w' := by
  go_enter Tryz.func95, Tryz.ntmps95
  go_wp2_with (go_at_call 147; refine (lTrim _ _ hs).mono ?_; rintro e w1 ⟨rfl, hb⟩)
  go_ret
  exact ⟨rfl, hb⟩
set_option maxHeartbeats 400000 in
theorem cutFront_any (s : ByteArray) (w : World) :
    Calls Tryz.prog 208 #[.string s] w fun e w' => e = .returned (.string ⟨(Mk.cutL s.data.toList).toArray⟩) ∧ Below w.heap.size w w' := by
  go_enter Tryz.func208, Tryz.ntmps208
  go_wp2_with (go_at_call 250; refine (lTrimLeft _ _).mono ?_; rintro e w1 ⟨rfl, hb⟩)
  go_ret
  exact ⟨rfl, hb⟩

def lnV (l : Mk.Ln) : Value := .agg #[.int .i64 l.number, .int .i64 l.kind, .string ⟨l.left.toArray⟩, .string ⟨l.right.toArray⟩]
theorem below4 {B b : Nat} {a w1 : World} (h : Below B a w1) (hB : B ≤ b) (v0 v1 v2 v3 : Value) :
    Below B a ((((w1.setCell ⟨b, 0, none⟩ v0).setCell ⟨b, 1, none⟩ v1).setCell ⟨b, 2, none⟩ v2).setCell ⟨b, 3, none⟩ v3) :=
  (((h.setCell (p := ⟨b, 0, none⟩) hB v0).setCell (p := ⟨b, 1, none⟩) hB v1).setCell (p := ⟨b, 2, none⟩) hB v2).setCell (p := ⟨b, 3, none⟩) hB v3
theorem below_new {w w1 : World} {o : Obj} (hb : Below (w.alloc o).heap.size (w.alloc o) w1) : Below w.heap.size w w1 :=
  ((Below.refl _ w).alloc (Nat.le_refl _) _).trans (hb.mono (by simp))
set_option maxHeartbeats 400000 in
theorem parseCommand_any (s : ByteArray) (w : World) :
    Calls Tryz.prog 159 #[.string s] w fun e w' => e = .returned (lnV (Mk.parseCmd s.data.toList)) ∧ Below w.heap.size w w' := by
  go_enter Tryz.func159, Tryz.ntmps159
  go_wp2_with (go_at_call 208; refine (cutFront_any _ _).mono ?_; rintro e w1 ⟨rfl, hb⟩; obtain ⟨hc, hf⟩ := bcell hb)
  · refine bodyPost_ret (v := lnV (Mk.parseCmd s.data.toList)) ?_ rfl ⟨rfl, ?_⟩
    · rename_i he
      simp [results, Tryz.results159, go_sem, hc, lnV, Mk.parseCmd, he, Mk.Ln.zero]
    · exact below4 (below_new hb) (Nat.le_refl _) _ _ _ _
  · refine bodyPost_ret (v := lnV (Mk.parseCmd s.data.toList)) ?_ rfl ⟨rfl, ?_⟩
    · rename_i he
      simp [results, Tryz.results159, go_sem, hc, lnV, Mk.parseCmd, he]
    · exact below4 (below_new hb) (Nat.le_refl _) _ _ _ _
set_option maxHeartbeats 400000 in
theorem parseInclude_any (s : ByteArray) (w : World) :
    Calls Tryz.prog 162 #[.string s] w fun e w' => e = .returned (.tuple #[lnV (Mk.parseIncl s.data.toList).1, .int .i64 (Mk.parseIncl s.data.toList).2]) ∧ Below w.heap.size w w' := by
  cases h0 : s.toList.isEmpty with
  | true =>
    have he : s.data.toList.isEmpty = true := by rw [← Lib.toList_data]; exact h0
    go_enter Tryz.func162, Tryz.ntmps162
    go_wp2
    refine bodyPost_ret (v := .tuple #[lnV (Mk.parseIncl s.data.toList).1, .int .i64 (Mk.parseIncl s.data.toList).2]) ?_ rfl ⟨rfl, (Below.refl _ w).alloc (Nat.le_refl _) _⟩
    simp [results, Tryz.results162, go_sem, lnV, Mk.parseIncl, he, Mk.Ln.zero]
  | false =>
    have he : s.data.toList.isEmpty = false := by rw [← Lib.toList_data]; exact h0
    go_enter Tryz.func162, Tryz.ntmps162
    go_wp2
    refine bodyPost_ret (v := .tuple #[lnV (Mk.parseIncl s.data.toList).1, .int .i64 (Mk.parseIncl s.data.toList).2]) ?_ rfl ⟨rfl, (Below.refl _ w).alloc (Nat.le_refl _) _⟩
    simp [results, Tryz.results162, go_sem, lnV, Mk.parseIncl, he]
end Go.Proofs.YtjelacjggijmfaaGreatDoor
namespace Go.Proofs.YtjelacjggijmfaaGreatDoor
open Go.RowKit

theorem blkI_byte (c : UInt8) : blkI c.toNat = Mk.blk c := by
  rw [Bool.eq_iff_iff]; simp [blkI, Mk.blk, ← UInt8.toNat_inj]; omega
theorem wrap32_byte (c : UInt8) : wrap32 (c.toNat : Int) = c.toNat := by have := c.toNat_lt; unfold wrap32; omega
def inclRes (l : List UInt8) : Value := .tuple #[.string ⟨(if Mk.isIncl l then Mk.cut (l.drop 7) else []).toArray⟩, .bool (Mk.isIncl l)]
theorem isIncl_cons {l : List UInt8} (hp : Mk.incl.isPrefixOf l = true) {c : UInt8} {r : List UInt8} (h : l.drop 7 = c :: r) : Mk.isIncl l = Mk.blk c := by
  unfold Mk.isIncl; rw [hp, h]; rfl
theorem isIncl_nil {l : List UInt8} (hp : Mk.incl.isPrefixOf l = true) (h : l.drop 7 = []) : Mk.isIncl l = true := by
  unfold Mk.isIncl; rw [hp, h]; rfl
set_option maxHeartbeats 1000000 in
theorem afterInclude_any (s : ByteArray) (w : World) (hs : s.size ≤ 4294967296) :
    Calls Tryz.prog 161 #[.string s] w fun e w' => e = .returned (inclRes s.data.toList) ∧ Below w.heap.size w w' := by
  cases hp : Mk.incl.isPrefixOf s.data.toList with
  | false =>
    have HI : Hid (Mk.isIncl s.data.toList = false) := by unfold Mk.isIncl; rw [hp]; rfl
    have HP := hide hp
    clear hp
    go_enter Tryz.func161, Tryz.ntmps161
    go_wp2_with (go_at_call 126; refine (lCutPrefix_no s ⟨#[105, 110, 99, 108, 117, 100, 101]⟩ _ (unhide HP)).mono ?_; rintro e w1 ⟨rfl, rfl⟩)
    go_ret2
    refine ⟨?_, Below.refl _ _⟩
    unfold inclRes
    rw [unhide HI]
    rfl
  | true =>
    obtain ⟨t, ht⟩ : ∃ t : ByteArray, s.data.toList.drop 7 = t.data.toList := ⟨⟨(s.data.toList.drop 7).toArray⟩, by simp⟩
    have hts : t.size ≤ 4294967296 := by
      have h1 := Lib.size_eq t
      have h2 := congrArg List.length ht
      have h3 := Lib.size_eq s
      rw [List.length_drop] at h2
      omega
    have HP := hide hp
    have HT := hide ht
    clear hp ht
    cases h0 : t.toList.isEmpty with
    | true =>
      have HI : Hid (Mk.isIncl s.data.toList = true) := isIncl_nil (unhide HP) (by rw [unhide HT]; exact empty_of h0)
      go_enter Tryz.func161, Tryz.ntmps161
      go_wp2_with (first
        | (go_at_call 126; refine (lCutPrefix_yes s ⟨#[105, 110, 99, 108, 117, 100, 101]⟩ t _ (unhide HP) (unhide HT)).mono ?_; rintro e w1 ⟨rfl, rfl⟩)
        | (go_at_call 95; refine (cut_any t _ hts).mono ?_; rintro e w1 ⟨rfl, hb⟩))
      go_ret2
      refine ⟨?_, hb⟩
      unfold inclRes
      rw [unhide HI, unhide HT]
      rfl
    | false =>
      have hz : 0 < t.size := by
        have := nonempty_of h0
        rw [Lib.size_eq]; exact List.length_pos_iff.2 this
      have HC := hide (data_cons t hz)
      cases hb : Mk.blk (t[0]'hz) with
      | true =>
        have HI : Hid (Mk.isIncl s.data.toList = true) := by
          show _ = _
          rw [isIncl_cons (unhide HP) ((unhide HT).trans (unhide HC))]; exact hb
        have hbi : blkI (wrap32 (t[0]'hz).toNat) = true := by rw [wrap32_byte, blkI_byte]; exact hb
        go_enter Tryz.func161, Tryz.ntmps161
        go_wp2_with (first
          | (go_at_call 126; refine (lCutPrefix_yes s ⟨#[105, 110, 99, 108, 117, 100, 101]⟩ t _ (unhide HP) (unhide HT)).mono ?_; rintro e w1 ⟨rfl, rfl⟩)
          | (go_at_call 212; refine (isBlank_any _ _).mono ?_; rintro e w1 ⟨rfl, rfl⟩)
          | (go_at_call 95; refine (cut_any t _ hts).mono ?_; rintro e w1 ⟨rfl, hb⟩))
        go_ret2
        refine ⟨?_, hb⟩
        unfold inclRes
        rw [unhide HI, unhide HT]
        rfl
      | false =>
        have HI : Hid (Mk.isIncl s.data.toList = false) := by
          show _ = _
          rw [isIncl_cons (unhide HP) ((unhide HT).trans (unhide HC))]; exact hb
        have hbi : blkI (wrap32 (t[0]'hz).toNat) = false := by rw [wrap32_byte, blkI_byte]; exact hb
        go_enter Tryz.func161, Tryz.ntmps161
        go_wp2_with (first
          | (go_at_call 126; refine (lCutPrefix_yes s ⟨#[105, 110, 99, 108, 117, 100, 101]⟩ t _ (unhide HP) (unhide HT)).mono ?_; rintro e w1 ⟨rfl, rfl⟩)
          | (go_at_call 212; refine (isBlank_any _ _).mono ?_; rintro e w1 ⟨rfl, rfl⟩))
        go_ret2
        refine ⟨?_, Below.refl _ _⟩
        unfold inclRes
        rw [unhide HI]
        rfl

def kindRes (l : List UInt8) : Value := .tuple #[.int .i64 (Mk.kindOf l).1, .string ⟨(Mk.kindOf l).2.toArray⟩]
theorem kindOf_fixed {l : List UInt8} (h : List.isPrefixOf [58, 61] l = true) : Mk.kindOf l = (3, l.drop 2) := by
  match l, h with
  | [], h => simp [List.isPrefixOf] at h
  | [_], h => simp [List.isPrefixOf] at h
  | a :: b :: r, h =>
    simp [List.isPrefixOf] at h
    obtain ⟨rfl, rfl⟩ := h
    rfl
theorem kindOf_late {l : List UInt8} (h : List.isPrefixOf [61] l = true) : Mk.kindOf l = (4, l.drop 1) := by
  match l, h with
  | [], h => simp [List.isPrefixOf] at h
  | a :: r, h =>
    simp [List.isPrefixOf] at h
    subst h
    rfl
theorem kindOf_rule {l : List UInt8} (h1 : List.isPrefixOf [58, 61] l = false) (h2 : List.isPrefixOf [61] l = false) : Mk.kindOf l = (5, l.tail) := by
  unfold Mk.kindOf
  split
  · simp [List.isPrefixOf] at h1
  · simp [List.isPrefixOf] at h2
  · rfl
set_option maxHeartbeats 1000000 in
theorem kindOfSign_any (s : ByteArray) (w : World) (hz : 0 < s.size) :
    Calls Tryz.prog 214 #[.string s] w fun e w' => e = .returned (kindRes s.data.toList) ∧ Below w.heap.size w w' := by
  cases h1 : List.isPrefixOf [58, 61] s.data.toList with
  | true =>
    have HK := hide (kindOf_fixed h1)
    have HP := hide h1
    clear h1
    go_enter Tryz.func214, Tryz.ntmps214
    go_wp2_with (go_at_call 126; refine (lCutPrefix_yes s ⟨#[58, 61]⟩ ⟨(s.data.toList.drop 2).toArray⟩ _ (unhide HP) (by simp)).mono ?_; rintro e w1 ⟨rfl, rfl⟩)
    go_ret2
    refine ⟨?_, Below.refl _ _⟩
    unfold kindRes
    rw [unhide HK]
    rfl
  | false =>
    have HP := hide h1
    cases h2 : List.isPrefixOf [61] s.data.toList with
    | true =>
      have HK := hide (kindOf_late h2)
      have HQ := hide h2
      clear h1 h2
      go_enter Tryz.func214, Tryz.ntmps214
      go_wp2_with (first
        | (go_at_call 126; refine (lCutPrefix_no s ⟨#[58, 61]⟩ _ (unhide HP)).mono ?_; rintro e w1 ⟨rfl, rfl⟩; clear HP)
        | (go_at_call 126; refine (lCutPrefix_yes s ⟨#[61]⟩ ⟨(s.data.toList.drop 1).toArray⟩ _ (unhide HQ) (by simp)).mono ?_; rintro e w1 ⟨rfl, rfl⟩))
      go_ret2
      refine ⟨?_, Below.refl _ _⟩
      unfold kindRes
      rw [unhide HK]
      rw [List.drop_one]
      rfl
    | false =>
      have HK := hide (kindOf_rule h1 h2)
      have HQ := hide h2
      clear h1 h2
      go_enter Tryz.func214, Tryz.ntmps214
      go_wp2_with fail
      refine (lCutPrefix_no s ⟨#[58, 61]⟩ _ (unhide HP)).mono ?_
      rintro e w1 ⟨rfl, rfl⟩
      go_wp2_with fail
      refine (lCutPrefix_no s ⟨#[61]⟩ _ (unhide HQ)).mono ?_
      rintro e w1 ⟨rfl, rfl⟩
      go_wp2_with fail
      go_region
      go_wp2
      go_ret2
      refine ⟨?_, (Below.refl _ _).drew⟩
      unfold kindRes
      have ht : s.extract 1 s.size = ⟨s.data.toList.tail.toArray⟩ := mk_eq (by rw [Lib.extract_to_end, List.drop_one])
      rw [unhide HK]
      show Ending.returned (.tuple #[.int .i64 5, .string (s.extract 1 s.size)]) = _
      rw [ht]
      rfl

set_option maxHeartbeats 1000000 in
theorem mayStandAhead_any (n : Int) (k : Nat) (s t : ByteArray) (w : World) :
    Calls Tryz.prog 215 #[.agg #[.int .i64 n, .int .i64 k, .string s, .string t]] w fun e w' => e = .returned (.bool (Mk.mayStand k s.data.toList)) ∧ Below w.heap.size w w' := by
  go_enter Tryz.func215, Tryz.ntmps215
  go_wp2_with (go_at_call 244; refine (isName_any _ _).mono ?_; rintro e w1 ⟨rfl, hb⟩)
  · rename_i h
    go_ret
    refine ⟨ret_bool ?_, (Below.refl _ w).alloc (Nat.le_refl _) _⟩
    rw [Lib.toList_data] at h
    have h' : (s.data.toList == Mk.incl) = true := h
    unfold Mk.mayStand
    rw [h']; rfl
  · rename_i h _ _ hk
    go_ret
    refine ⟨ret_bool ?_, (Below.refl _ w).alloc (Nat.le_refl _) _⟩
    rw [Lib.toList_data] at h
    have h' : (s.data.toList == Mk.incl) = false := h
    have hk' : (k == 5) = true := by rw [beq_iff_eq] at hk ⊢; omega
    unfold Mk.mayStand
    rw [h', hk', Lib.toList_data]; rfl
  · rename_i h hk
    go_ret
    refine ⟨ret_bool ?_, below_new hb⟩
    rw [Lib.toList_data] at h
    have h' : (s.data.toList == Mk.incl) = false := h
    have hk' : (k == 5) = false := by rw [beq_eq_false_iff_ne] at hk ⊢; omega
    unfold Mk.mayStand
    rw [h', hk']; rfl
end Go.Proofs.YtjelacjggijmfaaGreatDoor
namespace Go.Proofs.YtjelacjggijmfaaGreatDoor
open Go.RowKit

theorem indexByte_nil (s : ByteArray) (c : Int) (w : World) (h : s.size = 0) :
    Calls Tryz.prog 278 #[.string s, .int .u8 c] w fun e w' => e = .returned (.int .i64 (-1)) ∧ w' = w := by
  refine (Any.strings_IndexByte Tryz.lay137 s c w).mono ?_
  rintro e w' ⟨rfl, rfl⟩
  have : s.data.toList = [] := by rw [List.eq_nil_iff_length_eq_zero, ← Lib.size_eq]; exact h
  rw [this]
  exact ⟨rfl, rfl⟩
set_option maxRecDepth 100000 in
set_option maxHeartbeats 1000000 in
theorem indexRune_high (r : Int) (w : World) (h0 : 128 ≤ r) (h1 : r ≤ 1114111) :
    Calls Tryz.prog 251 #[.string ⟨#[61, 58]⟩, .int .i32 r] w fun e w' => e = .returned (.int .i64 (-1)) ∧ Below w.heap.size w w' := by
  by_cases hr : r = 65533
  · subst hr
    go_enter Tryz.func251, Tryz.ntmps251
    go_wp2_with fail
    go_loopw [5, 6] (fun _ _ wr => ∃ pos : Nat, pos ≤ 2 ∧ wr.heap[w.heap.size]? = some (.stringIter ⟨#[61, 58]⟩ pos) ∧ Below w.heap.size w wr) (fun _ _ wr => 2 - wr.iterPos w.heap.size)
    case atStart =>
      exact ⟨0, by omega, by simpa using World.iter_heap w ⟨#[61, 58]⟩ 0, (Below.refl _ w).alloc (Nat.le_refl _) _⟩
    case round =>
      obtain ⟨pos, hp2, hit, hb⟩ := hrel
      by_cases hp : pos < 2
      · have hnx : ∀ ty, (Instr.next (.pointer (some ⟨w.heap.size, 0, none⟩)) true ty).run Tryz.prog wr = _ := fun ty => Lib.run_next_any_at wr w.heap.size ⟨#[61, 58]⟩ pos ty hit hp
        have hdec : (Utf8.decode ⟨#[61, 58]⟩ pos).2 = 1 ∧ (((Utf8.decode ⟨#[61, 58]⟩ pos).1 : Int) == 65533) = false := by
          rcases (by omega : pos = 0 ∨ pos = 1) with rfl | rfl <;> decide
        obtain ⟨hd1, hd2⟩ := hdec
        have hit2 := Lib.iterAt_heap wr w.heap.size ⟨#[61, 58]⟩ pos (pos + 1) hit
        have hb2 := Lib.below_iterAt hb (k := w.heap.size) (Nat.le_refl _) ⟨#[61, 58]⟩ (pos + 1)
        rw [hd1] at hnx
        clear hd1
        go_wp2_with fail
        refine ⟨⟨pos + 1, by omega, hit2, hb2⟩, ?_⟩
        simp only [World.iterPos, hit2, hit]
        omega
      · have hnx : ∀ ty, (Instr.next (.pointer (some ⟨w.heap.size, 0, none⟩)) true ty).run Tryz.prog wr = _ := fun ty => Lib.run_next_end_at wr w.heap.size ⟨#[61, 58]⟩ pos ty hit hp
        go_wp2_with fail
        go_ret
        exact ⟨rfl, hb⟩
  have hr' : (r == 65533) = false := by simpa using hr
  have HR := hide hr
  clear hr
  cases hv : Lib.validRune r with
  | false =>
    go_enter Tryz.func251, Tryz.ntmps251
    go_wp2_with fail
    refine (Any.utf8_ValidRune Tryz.lay119 _ _).mono ?_
    rintro e w1 ⟨rfl, rfl⟩
    go_wp2_with fail
    go_ret
    exact ⟨rfl, Below.refl _ _⟩
  | true =>
    have hv2 : Utf8.valid r = true := by
      rw [validRune_eq]; exact hv
    obtain ⟨e2, e4, elast⟩ := encode_facts r hv2 h0
    have hlt : (Utf8.encode r).size - 1 < (Utf8.encode r).size := by omega
    have hl := elast hlt
    clear elast hv2
    go_enter Tryz.func251, Tryz.ntmps251
    go_wp2_with fail
    refine (Any.utf8_ValidRune Tryz.lay119 _ _).mono ?_
    rintro e w1 ⟨rfl, rfl⟩
    by_cases hz : (Utf8.encode r).size = 2
    · have hne : ((((⟨#[61, 58]⟩ : ByteArray)[1]'(by decide)).toNat : Int) != ((Utf8.encode r)[1]'(by omega)).toNat) = true := by
        have h3 : ((Utf8.encode r)[(Utf8.encode r).size - 1]'hlt) = (Utf8.encode r)[1]'(by omega) := by congr 1; omega
        rw [h3] at hl
        rw [bne_iff_ne]
        show ((58 : Nat) : Int) ≠ _
        omega
      go_wp2_with fail
      go_step3
      go_wp2_with fail
      refine wp_loop_rounds 1 ?_
      rw [rounds_succ]
      go_wp2_with fail
      go_step3
      go_wp2_with fail
      go_region
      go_wp2_with fail
      go_region_with (go_at_call 278; refine (indexByte_nil _ _ _ (by simp)).mono ?_; rintro e w2 ⟨rfl, rfl⟩)
      all_goals go_wp2_with fail
      all_goals rw [Exit.noGoto_ret]
      all_goals simp only [Exit.inBlock, Exit.then]
      all_goals rw [Exit.noGoto_ret]
      all_goals go_ret
      all_goals exact ⟨rfl, by repeat (first | exact Below.refl _ _ | refine Below.drew ?_)⟩
    · go_wp2_with fail
      go_step3
      go_wp2_with fail
      refine wp_loop_rounds 1 ?_
      rw [rounds_succ]
      go_wp2_with fail
      rw [Exit.noGoto_ret]
      go_ret
      exact ⟨rfl, Below.refl _ _⟩
end Go.Proofs.YtjelacjggijmfaaGreatDoor
