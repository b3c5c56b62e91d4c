/-
  A line of a text that goes on: takeLine of package lines.
-/
import Derived.Test.YtjelacjggijmfaaDoorW7
import Derived.Test.YtjelacjggijmfaaDoorPureS
namespace Go.Proofs.YtjelacjggijmfaaDoor
open Go.RowKit

/-- The builder in block b, made by the call itself, holds acc. -/
def Bld (B b : Nat) (acc : List UInt8) (w : World) : Prop := Lib.IsBuilderF 40 5 B b (Lib.byteCells acc) w
theorem Bld.lt {B b : Nat} {acc : List UInt8} {w : World} (h : Bld B b acc w) : b < w.heap.size := by
  rcases h with h | h <;> exact h.lt
theorem Bld.kept {B b : Nat} {acc : List UInt8} {w w' : World} (h : Bld B b acc w) (hk : ∀ (k : Nat) (c : Array Value) (t : TypeId) (f : Nat × Nat), w.heap[k]? = some (Obj.cells c t f) → w'.heap[k]? = some (Obj.cells c t f)) : Bld B b acc w' := by
  have aux : ∀ p, Lib.BuilderAtF 40 5 B b p (Lib.byteCells acc) w → Lib.BuilderAtF 40 5 B b p (Lib.byteCells acc) w' := by
    rintro p ⟨hB, v, hb, ⟨hl, hr⟩, hne⟩
    refine ⟨hB, v, hk _ _ _ _ hb, ⟨hl, ?_⟩, hne⟩
    rcases hr with hr | ⟨g, cap, cur, fz, hv, hBg, hg, rest⟩
    · exact .inl hr
    · exact .inr ⟨g, cap, cur, fz, hv, hBg, hk _ _ _ _ hg, rest⟩
  rcases h with h | h
  · exact .inl (aux _ h)
  · exact .inr (aux _ h)
theorem Bld.later {B b : Nat} {acc : List UInt8} {w w' : World} (h : Bld B b acc w) (hb : Below w.heap.size w w') : Bld B b acc w' :=
  Bld.kept h (fun k _ _ _ hk => (hb.block k (Array.getElem?_eq_some_iff.1 hk).1).trans hk)
theorem Bld.fresh (w : World) : Bld w.heap.size w.heap.size [] (w.alloc (.cells #[.pointer none, .slice none 0 0] 40)) := Lib.IsBuilderF.of (Lib.fresh_isBuilder _ _ w)

theorem bldString (B b : Nat) (acc : List UInt8) (s : ByteArray) (w : World) (h : Bld B b acc w) (hl : acc.length + s.size ≤ 140737488355328) (hB : B ≤ w.heap.size) :
    Calls Tryd.prog 14 #[.pointer (some ⟨b, 0, none⟩), .string s] w fun e w' => e = .returned (.tuple #[.int .i64 s.size, .nilIface]) ∧ Bld B b (acc ++ s.data.toList) w' ∧ Below B w w' ∧ Lib.OthersKept 5 (some b) w w' := by
  refine (Any.Builder_WriteString_k Tryd.lay166 Tryd.layX B b _ s w h (by rw [Lib.byteCells_length]; exact hl) hB).mono ?_
  rintro e w' ⟨rfl, h1, h2, h3⟩
  exact ⟨rfl, by unfold Bld; rw [Lib.byteCells_append]; exact .inr h1, h2, h3⟩
theorem bldByte (B b : Nat) (acc : List UInt8) (c : UInt8) (n : Int) (hn : n = c.toNat) (w : World) (h : Bld B b acc w) (hl : acc.length + 1 ≤ 140737488355328) (hB : B ≤ w.heap.size) :
    Calls Tryd.prog 17 #[.pointer (some ⟨b, 0, none⟩), .int .u8 n] w fun e w' => e = .returned .nilIface ∧ Bld B b (acc ++ [c]) w' ∧ Below B w w' ∧ Lib.OthersKept 5 (some b) w w' := by
  subst hn
  refine (Any.Builder_WriteByte_k Tryd.lay167 Tryd.layX B b _ c.toNat w h (by rw [Lib.byteCells_length]; exact hl) hB).mono ?_
  rintro e w' ⟨rfl, h1, h2, h3⟩
  exact ⟨rfl, by unfold Bld; rw [Lib.byteCells_append]; exact .inr h1, h2, h3⟩
theorem bldGive (B b : Nat) (acc : List UInt8) (w : World) (h : Bld B b acc w) (hB : B ≤ w.heap.size) :
    Calls Tryd.prog 18 #[.pointer (some ⟨b, 0, none⟩)] w fun e w' => e = .returned (.string ⟨acc.toArray⟩) ∧ Bld B b acc w' ∧ Below B w w' ∧ Lib.OthersKept 5 (some b) w w' := by
  refine (Any.Builder_String_any_k Tryd.lay169 Tryd.layX B b acc w h hB).mono ?_
  rintro e w' ⟨rfl, h1, h2, h3⟩
  exact ⟨rfl, h1, h2, h3⟩

theorem endsBack_len {l : List UInt8} (h : Mk.endsBack l = true) : l.dropLast.length + 1 = l.length := by
  cases l with
  | nil => simp [Mk.endsBack] at h
  | cons a r => simp
def takeRes (whole : List UInt8) (used : Nat) (rest : List UInt8) (more : Bool) : Value := .tuple #[.string ⟨whole.toArray⟩, .int .i64 used, .string ⟨rest.toArray⟩, .bool more]
theorem noBack_le (l : List UInt8) : (Mk.noBack l).length ≤ l.length := Mk.rdrop_le _ l
def moreN : Value → Nat
  | .bool b => if b then 1 else 0
  | _ => 0
/-- What holds between two rounds of takeLine. -/
structure TakeInv (t : List UInt8) (acc p rest : List UInt8) (more : Bool) (used : Nat) : Prop where
  eq : Mk.take1 [] 1 (Mk.before 10 t) (Mk.rs (Mk.after 10 t) (Mk.has 10 t)) = Mk.take1 acc used p (Mk.rs rest more)
  len : acc.length + p.length + rest.length + (if more then 1 else 0) ≤ t.length
  used : used + rest.length + (if more then 1 else 0) ≤ 1 + t.length
theorem TakeInv.start (t : List UInt8) : TakeInv t [] (Mk.before 10 t) (Mk.after 10 t) (Mk.has 10 t) 1 :=
  ⟨rfl, by have := Mk.before_after 10 t; simp only [List.length_nil]; omega, by have := Mk.before_after 10 t; omega⟩
theorem TakeInv.on {t acc p rest : List UInt8} {used : Nat} (h : TakeInv t acc p rest true used) (hb : Mk.endsBack p = true) :
    TakeInv t (acc ++ p.dropLast ++ [32]) (Mk.cutL (Mk.before 10 rest)) (Mk.after 10 rest) (Mk.has 10 rest) (used + 1) := by
  have h1 := h.len
  have h2 := h.used
  have h3 := Mk.before_after 10 rest
  have h4 := Mk.cutL_le (Mk.before 10 rest)
  have h5 := endsBack_len hb
  refine ⟨h.eq.trans (Mk.take1_on acc used p rest hb), ?_, ?_⟩
  · simp only [List.length_append, List.length_cons, List.length_nil, if_true] at *; omega
  · simp only [if_true] at *; omega

set_option maxHeartbeats 2000000 in
theorem takeLine_any (t : List UInt8) (w : World) (hT : t.length ≤ 1073741824) (hg : Glob w) :
    Calls Tryd.prog 32 #[.string ⟨t.toArray⟩] w fun e w' => ∃ whole used rest more, e = .returned (takeRes whole used rest more) ∧
      Mk.take1 [] 1 (Mk.before 10 t) (Mk.rs (Mk.after 10 t) (Mk.has 10 t)) = (whole, used, Mk.rs rest more) ∧
      whole.length + rest.length + (if more then 1 else 0) ≤ t.length ∧ used + rest.length + (if more then 1 else 0) ≤ 1 + t.length ∧ Below w.heap.size w w' := by
  have hsl : (⟨t.toArray⟩ : ByteArray).size = t.length := size_mk t
  have HI := hide (TakeInv.start t)
  go_enter Tryd.func32, Tryd.ntmps32
  go_wp2_with fail
  refine (lCut 10 ⟨t.toArray⟩ _ (by omega) hg).mono ?_
  rintro e w1 ⟨rfl, hb1⟩
  have hg1 := hg.later hb1
  simp only
  go_wp2_with fail
  go_loopw [6, 7, 8, 9] (fun p r m u wr => ∃ (acc pl rl : List UInt8) (ml : Bool) (ul : Nat), p = .string ⟨pl.toArray⟩ ∧ r = .string ⟨rl.toArray⟩ ∧ m = .bool ml ∧ u = .int .i64 ul ∧
      Hid (TakeInv t acc pl rl ml ul) ∧ Bld w1.heap.size w1.heap.size acc wr ∧ Below w1.heap.size w1 wr ∧ Glob wr) (fun _ r m _ _ => strLen r + moreN m)
  case atStart =>
    exact ⟨[], _, _, _, 1, rfl, rfl, rfl, rfl, HI, Bld.fresh w1, (Below.refl _ w1).alloc (Nat.le_refl _) _, hg1.later ((Below.refl _ w1).alloc (Nat.le_refl _) _)⟩
  case round =>
    obtain ⟨acc, pl, rl, ml, ul, rfl, rfl, rfl, rfl, hI, hB, hbw, hgw⟩ := hrel
    have hbz := hbw.size
    have hlen := (unhide hI).len
    have HU := hide (unhide hI).used
    have hplA : (⟨pl.toArray⟩ : ByteArray).size = pl.length := size_mk pl
    have hrlA : (⟨rl.toArray⟩ : ByteArray).size = rl.length := size_mk rl
    cases ml with
    | false =>
      simp only [Bool.false_eq_true, if_false] at hlen
      go_wp2_with fail
      refine (lTrimRight ⟨pl.toArray⟩ _ (by omega)).mono ?_
      rintro e w2 ⟨rfl, hb2⟩
      simp only
      have hB2 := hB.later hb2
      have hbw2 := hbw.trans (hb2.mono hbz)
      have hnb := noBack_le pl
      have hnbA : (⟨(Mk.noBack pl).toArray⟩ : ByteArray).size = (Mk.noBack pl).length := size_mk _
      have HE := hide ((unhide hI).eq.trans (Mk.take1_last acc ul pl rl))
      clear hb2 hB hbw hI
      generalize Mk.noBack pl = q at *
      go_wp2_with fail
      refine (bldString _ _ acc ⟨q.toArray⟩ w2 hB2 (by omega) hbw2.size).mono ?_
      rintro e w3 ⟨rfl, hB3, hb3, -⟩
      simp only at hB3
      have hbw3 := hbw2.trans hb3
      go_wp2_with fail
      refine (bldGive _ _ _ w3 hB3 hbw3.size).mono ?_
      rintro e w4 ⟨rfl, -, hb4, -⟩
      have hbw4 := hbw3.trans hb4
      go_wp2_with fail
      refine bodyPost_ret (v := takeRes (acc ++ q) ul rl false) (by simp [results, Tryd.results32, go_sem, takeRes]) rfl ⟨acc ++ q, ul, rl, false, rfl, unhide HE, ?_, ?_, ?_⟩
      · simp only [List.length_append, Bool.false_eq_true, if_false]; omega
      · exact unhide HU
      · exact hb1.trans (hbw4.mono hb1.size)
    | true =>
      simp only [if_true] at hlen
      cases he : Mk.endsBack pl with
      | false =>
        have HE := hide ((unhide hI).eq.trans (Mk.take1_end acc ul pl rl he))
        go_wp2_with fail
        refine (lHasSuffix ⟨pl.toArray⟩ _ (by omega)).mono ?_
        rintro e w2 ⟨rfl, rfl⟩
        simp only
        rw [he]
        clear hI
        go_wp2_with fail
        refine (bldString _ _ acc ⟨pl.toArray⟩ wr hB (by omega) hbz).mono ?_
        rintro e w3 ⟨rfl, hB3, hb3, -⟩
        simp only at hB3
        have hbw3 := hbw.trans hb3
        go_wp2_with fail
        refine (bldGive _ _ _ w3 hB3 hbw3.size).mono ?_
        rintro e w4 ⟨rfl, -, hb4, -⟩
        have hbw4 := hbw3.trans hb4
        go_wp2_with fail
        refine bodyPost_ret (v := takeRes (acc ++ pl) ul rl true) (by simp [results, Tryd.results32, go_sem, takeRes]) rfl ⟨acc ++ pl, ul, rl, true, rfl, unhide HE, ?_, ?_, ?_⟩
        · simp only [List.length_append, if_true]; omega
        · exact unhide HU
        · exact hb1.trans (hbw4.mono hb1.size)
      | true =>
        have HI2 := hide ((unhide hI).on he)
        have hdl := endsBack_len he
        have hdA : (⟨pl.dropLast.toArray⟩ : ByteArray).size = pl.dropLast.length := size_mk _
        have hused : ul + rl.length + 1 ≤ 1 + t.length := unhide HU
        have hba := Mk.before_after 10 rl
        go_wp2_with fail
        refine (lHasSuffix ⟨pl.toArray⟩ _ (by omega)).mono ?_
        rintro e w2 ⟨rfl, rfl⟩
        simp only
        rw [he]
        go_wp2_with fail
        refine (lTrimSuffix ⟨pl.toArray⟩ _ (by omega) he).mono ?_
        rintro e w2 ⟨rfl, rfl⟩
        simp only
        clear hI
        generalize pl.dropLast = q at *
        go_wp2_with fail
        refine (bldString _ _ acc ⟨q.toArray⟩ wr hB (by omega) hbz).mono ?_
        rintro e w3 ⟨rfl, hB3, hb3, -⟩
        simp only at hB3
        have hbw3 := hbw.trans hb3
        have hg3 : Glob w3 := by
          obtain ⟨m, hm⟩ := hg1
          exact ⟨m, (hbw3.cell (p := ⟨0, 0, none⟩) (World.block_lt_of_cell? w1 _ hm)).trans hm⟩
        clear hb3
        go_wp2_with fail
        refine (bldByte _ _ (acc ++ q) 32 32 rfl w3 hB3 (by simp only [List.length_append]; omega) hbw3.size).mono ?_
        rintro e w4 ⟨rfl, hB4, hb4, -⟩
        have hbw4 := hbw3.trans hb4
        have hg4 : Glob w4 := by
          obtain ⟨m, hm⟩ := hg1
          exact ⟨m, (hbw4.cell (p := ⟨0, 0, none⟩) (World.block_lt_of_cell? w1 _ hm)).trans hm⟩
        clear hb4 hB3 hg3
        go_wp2_with fail
        refine (lCut 10 ⟨rl.toArray⟩ _ (by omega) hg4).mono ?_
        rintro e w5 ⟨rfl, hb5⟩
        simp only
        have hB5 := hB4.later hb5
        have hbw5 := hbw4.trans (hb5.mono hbw4.size)
        have hg5 := hg4.later hb5
        clear hb5 hB4 hg4 hbw4 hbw3 hbw
        go_wp2_with fail
        refine (cutFront_any _ _).mono ?_
        rintro e w6 ⟨rfl, hb6⟩
        simp only
        have hB6 := hB5.later hb6
        have hbw6 := hbw5.trans (hb6.mono hbw5.size)
        have hg6 := hg5.later hb6
        clear hb6 hB5 hg5 hbw5
        generalize Mk.cutL (Mk.before 10 rl) = p' at *
        have hafA : (⟨(Mk.after 10 rl).toArray⟩ : ByteArray).size = (Mk.after 10 rl).length := size_mk _
        generalize Mk.after 10 rl = r' at *
        generalize Mk.has 10 rl = m' at *
        go_wp2_with fail
        refine ⟨⟨acc ++ q ++ [32], p', r', m', ul + 1, rfl, rfl, rfl, by go_num, HI2, hB6, hbw6, hg6⟩, ?_⟩
        simp only [strLen, moreN, if_true]
        rw [hafA, hrlA]
        omega
end Go.Proofs.YtjelacjggijmfaaDoor
