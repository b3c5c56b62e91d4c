/-
  A plan is written: what stands in it so far, on lists.
  Harmless of package makerkeep, behind lives.
  A line of a text that goes on: takeLine of package lines.
-/
import Derived.Test.YtjelacjggijmfaaGreatDoorQPureU
import Derived.Test.YtjelacjggijmfaaGreatDoorQHPure
import Derived.Test.YtjelacjggijmfaaGreatDoorQSPure
namespace Go.Proofs.YtjelacjggijmfaaGreatDoor
open Go.RowKit

/-- The builder in block b, made by the call itself, holds acc. -/
def Bld (B b : Nat) (acc : List UInt8) (w : World) : Prop := Lib.IsBuilderF 158 5 B b (Lib.byteCells acc) w
theorem Bld.lt {B b : Nat} {acc : List UInt8} {w : World} (h : Bld B b acc w) : b < w.heap.size := by
  rcases h with h | h <;> exact h.lt
theorem Bld.kept {B b : Nat} {acc : List UInt8} {w w' : World} (h : Bld B b acc w) (hk : ∀ (k : Nat) (c : Array Value) (t : TypeId) (f : Nat × Nat), w.heap[k]? = some (Obj.cells c t f) → w'.heap[k]? = some (Obj.cells c t f)) : Bld B b acc w' := by
  have aux : ∀ p, Lib.BuilderAtF 158 5 B b p (Lib.byteCells acc) w → Lib.BuilderAtF 158 5 B b p (Lib.byteCells acc) w' := by
    rintro p ⟨hB, v, hb, ⟨hl, hr⟩, hne⟩
    refine ⟨hB, v, hk _ _ _ _ hb, ⟨hl, ?_⟩, hne⟩
    rcases hr with hr | ⟨g, cap, cur, fz, hv, hBg, hg, rest⟩
    · exact .inl hr
    · exact .inr ⟨g, cap, cur, fz, hv, hBg, hk _ _ _ _ hg, rest⟩
  rcases h with h | h
  · exact .inl (aux _ h)
  · exact .inr (aux _ h)
theorem Bld.later {B b : Nat} {acc : List UInt8} {w w' : World} (h : Bld B b acc w) (hb : Below w.heap.size w w') : Bld B b acc w' :=
  Bld.kept h (fun k _ _ _ hk => (hb.block k (Array.getElem?_eq_some_iff.1 hk).1).trans hk)
theorem Bld.fresh (w : World) : Bld w.heap.size w.heap.size [] (w.alloc (.cells #[.pointer none, .slice none 0 0] 158)) := Lib.IsBuilderF.of (Lib.fresh_isBuilder _ _ w)

theorem bldString (B b : Nat) (acc : List UInt8) (s : ByteArray) (w : World) (h : Bld B b acc w) (hl : acc.length + s.size ≤ 140737488355328) (hB : B ≤ w.heap.size) :
    Calls Tryz.prog 75 #[.pointer (some ⟨b, 0, none⟩), .string s] w fun e w' => e = .returned (.tuple #[.int .i64 s.size, .nilIface]) ∧ Bld B b (acc ++ s.data.toList) w' ∧ Below B w w' ∧ Lib.OthersKept 5 (some b) w w' := by
  refine (Any.Builder_WriteString_k Tryz.lay166 Tryz.layX B b _ s w h (by rw [Lib.byteCells_length]; exact hl) hB).mono ?_
  rintro e w' ⟨rfl, h1, h2, h3⟩
  exact ⟨rfl, by unfold Bld; rw [Lib.byteCells_append]; exact .inr h1, h2, h3⟩
theorem bldByte (B b : Nat) (acc : List UInt8) (c : UInt8) (n : Int) (hn : n = c.toNat) (w : World) (h : Bld B b acc w) (hl : acc.length + 1 ≤ 140737488355328) (hB : B ≤ w.heap.size) :
    Calls Tryz.prog 78 #[.pointer (some ⟨b, 0, none⟩), .int .u8 n] w fun e w' => e = .returned .nilIface ∧ Bld B b (acc ++ [c]) w' ∧ Below B w w' ∧ Lib.OthersKept 5 (some b) w w' := by
  subst hn
  refine (Any.Builder_WriteByte_k Tryz.lay167 Tryz.layX B b _ c.toNat w h (by rw [Lib.byteCells_length]; exact hl) hB).mono ?_
  rintro e w' ⟨rfl, h1, h2, h3⟩
  exact ⟨rfl, by unfold Bld; rw [Lib.byteCells_append]; exact .inr h1, h2, h3⟩
theorem bldGive (B b : Nat) (acc : List UInt8) (w : World) (h : Bld B b acc w) (hB : B ≤ w.heap.size) :
    Calls Tryz.prog 79 #[.pointer (some ⟨b, 0, none⟩)] w fun e w' => e = .returned (.string ⟨acc.toArray⟩) ∧ Bld B b acc w' ∧ Below B w w' ∧ Lib.OthersKept 5 (some b) w w' := by
  refine (Any.Builder_String_any_k Tryz.lay169 Tryz.layX B b acc w h hB).mono ?_
  rintro e w' ⟨rfl, h1, h2, h3⟩
  exact ⟨rfl, h1, h2, h3⟩

theorem endsBack_len {l : List UInt8} (h : Mk.endsBack l = true) : l.dropLast.length + 1 = l.length := by
  cases l with
  | nil => simp [Mk.endsBack] at h
  | cons a r => simp
def takeRes (whole : List UInt8) (used : Nat) (rest : List UInt8) (more : Bool) : Value := .tuple #[.string ⟨whole.toArray⟩, .int .i64 used, .string ⟨rest.toArray⟩, .bool more]
theorem noBack_le (l : List UInt8) : (Mk.noBack l).length ≤ l.length := Mk.rdrop_le _ l
def moreN : Value → Nat
  | .bool b => if b then 1 else 0
  | _ => 0
/-- What holds between two rounds of takeLine. -/
structure TakeInv (t : List UInt8) (acc p rest : List UInt8) (more : Bool) (used : Nat) : Prop where
  eq : Mk.take1 [] 1 (Mk.before 10 t) (Mk.rs (Mk.after 10 t) (Mk.has 10 t)) = Mk.take1 acc used p (Mk.rs rest more)
  len : acc.length + p.length + rest.length + (if more then 1 else 0) ≤ t.length
  used : used + rest.length + (if more then 1 else 0) ≤ 1 + t.length
theorem TakeInv.start (t : List UInt8) : TakeInv t [] (Mk.before 10 t) (Mk.after 10 t) (Mk.has 10 t) 1 :=
  ⟨rfl, by have := Mk.before_after 10 t; simp only [List.length_nil]; omega, by have := Mk.before_after 10 t; omega⟩
theorem TakeInv.on {t acc p rest : List UInt8} {used : Nat} (h : TakeInv t acc p rest true used) (hb : Mk.endsBack p = true) :
    TakeInv t (acc ++ p.dropLast ++ [32]) (Mk.cutL (Mk.before 10 rest)) (Mk.after 10 rest) (Mk.has 10 rest) (used + 1) := by
  have h1 := h.len
  have h2 := h.used
  have h3 := Mk.before_after 10 rest
  have h4 := Mk.cutL_le (Mk.before 10 rest)
  have h5 := endsBack_len hb
  refine ⟨h.eq.trans (Mk.take1_on acc used p rest hb), ?_, ?_⟩
  · simp only [List.length_append, List.length_cons, List.length_nil, if_true] at *; omega
  · simp only [if_true] at *; omega

set_option maxHeartbeats 2000000 in
theorem takeLine_any (t : List UInt8) (w : World) (hT : t.length ≤ 1073741824) (hg : Glob w) :
    Calls Tryz.prog 157 #[.string ⟨t.toArray⟩] w fun e w' => ∃ whole used rest more, e = .returned (takeRes whole used rest more) ∧
      Mk.take1 [] 1 (Mk.before 10 t) (Mk.rs (Mk.after 10 t) (Mk.has 10 t)) = (whole, used, Mk.rs rest more) ∧
      whole.length + rest.length + (if more then 1 else 0) ≤ t.length ∧ used + rest.length + (if more then 1 else 0) ≤ 1 + t.length ∧ Below w.heap.size w w' := by
  have hsl : (⟨t.toArray⟩ : ByteArray).size = t.length := size_mk t
  have HI := hide (TakeInv.start t)
  go_enter Tryz.func157, Tryz.ntmps157
  go_wp2_with fail
  refine (lCut 10 ⟨t.toArray⟩ _ (by omega) hg).mono ?_
  rintro e w1 ⟨rfl, hb1⟩
  have hg1 := hg.later hb1
  simp only
  go_wp2_with fail
  go_loopw [6, 7, 8, 9] (fun p r m u wr => ∃ (acc pl rl : List UInt8) (ml : Bool) (ul : Nat), p = .string ⟨pl.toArray⟩ ∧ r = .string ⟨rl.toArray⟩ ∧ m = .bool ml ∧ u = .int .i64 ul ∧
      Hid (TakeInv t acc pl rl ml ul) ∧ Bld w1.heap.size w1.heap.size acc wr ∧ Below w1.heap.size w1 wr ∧ Glob wr) (fun _ r m _ _ => strLen r + moreN m)
  case atStart =>
    exact ⟨[], _, _, _, 1, rfl, rfl, rfl, rfl, HI, Bld.fresh w1, (Below.refl _ w1).alloc (Nat.le_refl _) _, hg1.later ((Below.refl _ w1).alloc (Nat.le_refl _) _)⟩
  case round =>
    obtain ⟨acc, pl, rl, ml, ul, rfl, rfl, rfl, rfl, hI, hB, hbw, hgw⟩ := hrel
    have hbz := hbw.size
    have hlen := (unhide hI).len
    have HU := hide (unhide hI).used
    have hplA : (⟨pl.toArray⟩ : ByteArray).size = pl.length := size_mk pl
    have hrlA : (⟨rl.toArray⟩ : ByteArray).size = rl.length := size_mk rl
    cases ml with
    | false =>
      simp only [Bool.false_eq_true, if_false] at hlen
      go_wp2_with fail
      refine (lTrimRight ⟨pl.toArray⟩ _ (by omega)).mono ?_
      rintro e w2 ⟨rfl, hb2⟩
      simp only
      have hB2 := hB.later hb2
      have hbw2 := hbw.trans (hb2.mono hbz)
      have hnb := noBack_le pl
      have hnbA : (⟨(Mk.noBack pl).toArray⟩ : ByteArray).size = (Mk.noBack pl).length := size_mk _
      have HE := hide ((unhide hI).eq.trans (Mk.take1_last acc ul pl rl))
      clear hb2 hB hbw hI
      generalize Mk.noBack pl = q at *
      go_wp2_with fail
      refine (bldString _ _ acc ⟨q.toArray⟩ w2 hB2 (by omega) hbw2.size).mono ?_
      rintro e w3 ⟨rfl, hB3, hb3, -⟩
      simp only at hB3
      have hbw3 := hbw2.trans hb3
      go_wp2_with fail
      refine (bldGive _ _ _ w3 hB3 hbw3.size).mono ?_
      rintro e w4 ⟨rfl, -, hb4, -⟩
      have hbw4 := hbw3.trans hb4
      go_wp2_with fail
      refine bodyPost_ret (v := takeRes (acc ++ q) ul rl false) (by simp [results, Tryz.results157, go_sem, takeRes]) rfl ⟨acc ++ q, ul, rl, false, rfl, unhide HE, ?_, ?_, ?_⟩
      · simp only [List.length_append, Bool.false_eq_true, if_false]; omega
      · exact unhide HU
      · exact hb1.trans (hbw4.mono hb1.size)
    | true =>
      simp only [if_true] at hlen
      cases he : Mk.endsBack pl with
      | false =>
        have HE := hide ((unhide hI).eq.trans (Mk.take1_end acc ul pl rl he))
        go_wp2_with fail
        refine (lHasSuffix ⟨pl.toArray⟩ _ (by omega)).mono ?_
        rintro e w2 ⟨rfl, rfl⟩
        simp only
        rw [he]
        clear hI
        go_wp2_with fail
        refine (bldString _ _ acc ⟨pl.toArray⟩ wr hB (by omega) hbz).mono ?_
        rintro e w3 ⟨rfl, hB3, hb3, -⟩
        simp only at hB3
        have hbw3 := hbw.trans hb3
        go_wp2_with fail
        refine (bldGive _ _ _ w3 hB3 hbw3.size).mono ?_
        rintro e w4 ⟨rfl, -, hb4, -⟩
        have hbw4 := hbw3.trans hb4
        go_wp2_with fail
        refine bodyPost_ret (v := takeRes (acc ++ pl) ul rl true) (by simp [results, Tryz.results157, go_sem, takeRes]) rfl ⟨acc ++ pl, ul, rl, true, rfl, unhide HE, ?_, ?_, ?_⟩
        · simp only [List.length_append, if_true]; omega
        · exact unhide HU
        · exact hb1.trans (hbw4.mono hb1.size)
      | true =>
        have HI2 := hide ((unhide hI).on he)
        have hdl := endsBack_len he
        have hdA : (⟨pl.dropLast.toArray⟩ : ByteArray).size = pl.dropLast.length := size_mk _
        have hused : ul + rl.length + 1 ≤ 1 + t.length := unhide HU
        have hba := Mk.before_after 10 rl
        go_wp2_with fail
        refine (lHasSuffix ⟨pl.toArray⟩ _ (by omega)).mono ?_
        rintro e w2 ⟨rfl, rfl⟩
        simp only
        rw [he]
        go_wp2_with fail
        refine (lTrimSuffix ⟨pl.toArray⟩ _ (by omega) he).mono ?_
        rintro e w2 ⟨rfl, rfl⟩
        simp only
        clear hI
        generalize pl.dropLast = q at *
        go_wp2_with fail
        refine (bldString _ _ acc ⟨q.toArray⟩ wr hB (by omega) hbz).mono ?_
        rintro e w3 ⟨rfl, hB3, hb3, -⟩
        simp only at hB3
        have hbw3 := hbw.trans hb3
        have hg3 : Glob w3 := by
          obtain ⟨m, hm⟩ := hg1
          exact ⟨m, (hbw3.cell (p := ⟨0, 0, none⟩) (World.block_lt_of_cell? w1 _ hm)).trans hm⟩
        clear hb3
        go_wp2_with fail
        refine (bldByte _ _ (acc ++ q) 32 32 rfl w3 hB3 (by simp only [List.length_append]; omega) hbw3.size).mono ?_
        rintro e w4 ⟨rfl, hB4, hb4, -⟩
        have hbw4 := hbw3.trans hb4
        have hg4 : Glob w4 := by
          obtain ⟨m, hm⟩ := hg1
          exact ⟨m, (hbw4.cell (p := ⟨0, 0, none⟩) (World.block_lt_of_cell? w1 _ hm)).trans hm⟩
        clear hb4 hB3 hg3
        go_wp2_with fail
        refine (lCut 10 ⟨rl.toArray⟩ _ (by omega) hg4).mono ?_
        rintro e w5 ⟨rfl, hb5⟩
        simp only
        have hB5 := hB4.later hb5
        have hbw5 := hbw4.trans (hb5.mono hbw4.size)
        have hg5 := hg4.later hb5
        clear hb5 hB4 hg4 hbw4 hbw3 hbw
        go_wp2_with fail
        refine (cutFront_any _ _).mono ?_
        rintro e w6 ⟨rfl, hb6⟩
        simp only
        have hB6 := hB5.later hb6
        have hbw6 := hbw5.trans (hb6.mono hbw5.size)
        have hg6 := hg5.later hb6
        clear hb6 hB5 hg5 hbw5
        generalize Mk.cutL (Mk.before 10 rl) = p' at *
        have hafA : (⟨(Mk.after 10 rl).toArray⟩ : ByteArray).size = (Mk.after 10 rl).length := size_mk _
        generalize Mk.after 10 rl = r' at *
        generalize Mk.has 10 rl = m' at *
        go_wp2_with fail
        refine ⟨⟨acc ++ q ++ [32], p', r', m', ul + 1, rfl, rfl, rfl, by go_num, HI2, hB6, hbw6, hg6⟩, ?_⟩
        simp only [strLen, moreN, if_true]
        rw [hafA, hrlA]
        omega
end Go.Proofs.YtjelacjggijmfaaGreatDoor
namespace Go.Proofs.YtjelacjggijmfaaGreatDoor
open Go.RowKit

theorem piece_list (l : Pl.Bs) (k n : Nat) : ((⟨l.toArray⟩ : ByteArray).extract k (k + n)).toList = (l.drop k).take n := by
  rw [Lib.toList_data, Lib.extract_data, Nat.add_sub_cancel_left]
/-- What Run leaves of a sound plan, as the law reads it. -/
def HRun (l : Pl.Bs) (ef : List Pl.Eff) (clock : Int) (w : World) (e : Ending) (w' : World) : Prop :=
  ∃ cs ex ck a1 c1 b1 a2 n2 c2, HOut l ef clock ex ck cs ∧ e = .returned (.tuple #[.agg #[.slice a1 cs.length c1, .slice a2 n2 c2, .int .i64 ex, .int .i64 ck], .int .i64 0]) ∧ (0 < cs.length → a1 = some ⟨b1, 0, none⟩) ∧ RdS w' b1 0 cs ∧ (0 < cs.length → b1 < w'.heap.size) ∧ Below w.heap.size w w'
theorem hRun {l : Pl.Bs} {fs : List Pl.File} {ef : List Pl.Eff} {clock : Int} {w w' : World} {e : Ending} (h : ARunPost l fs ef clock w e w') (hk : wrap64 clock = clock) (hc : Pl.checkOf l) : HRun l ef clock w e w' := by
  obtain ⟨hb, ⟨h1, h2⟩ | ⟨ss, c, vc, vr, h1, h2, rfl, h4, h5⟩⟩ := h
  · exact absurd hc h1
  · obtain ⟨a1, c1, b1, rfl, k1, k2, k3⟩ := Strs.rd h4
    obtain ⟨a2, c2, rfl⟩ := own_sh h5
    exact ⟨_, _, _, a1, c1, b1, a2, _, c2, hOut h1 fs ef clock hk, rfl, k1, k3, k2, hb⟩
set_option maxHeartbeats 4000000 in
set_option maxRecDepth 100000 in
theorem harmless_no (l : Pl.Bs) (a ae : Option Addr) (n cap m ce : Nat) (clock : Int) (w : World)
    (C0 : Hid (Calls Tryz.prog 26 #[] w fun e w' => e = .returned (.bool true) ∧ Below w.heap.size w w' ∧ 0 < w'.heap.size))
    (C1 : Hid (∀ W, Calls Tryz.prog 29 #[.string ⟨l.toArray⟩] W fun e w' => e = .returned (.int .i64 9) ∧ Below W.heap.size W w'))
    (C2 : Hid (∀ W, Below w.heap.size w W → 0 < W.heap.size → Calls Tryz.prog 30 #[.string ⟨l.toArray⟩, .slice a n cap, .slice ae m ce, .int .i64 clock] W fun e w' => e = .returned (.tuple #[zRes, .int .i64 9]) ∧ Below W.heap.size W w')) :
    Calls Tryz.prog 7 #[.string ⟨l.toArray⟩, .slice a n cap, .slice ae m ce, .int .i64 clock] w fun e w' => e = .returned (.bool true) ∧ Below w.heap.size w w' := by
  unfold zRes at C2
  go_enter Tryz.func7, Tryz.ntmps7
  go_wp2_with (first
    | (go_at_call 26; refine (unhide C0).mono ?_; rintro e w1 ⟨rfl, hb1, hp1⟩; have HB1 := hide hb1; clear hb1 C0)
    | (go_at_call 29; refine (unhide C1 _).mono ?_; rintro e w2 ⟨rfl, hb2⟩; have HB2 := hide ((unhide HB1).trans (hb2.mono (unhide HB1).size)); have hp2 := Nat.lt_of_lt_of_le hp1 hb2.size; clear hb2 HB1 C1)
    | (go_at_call 30; refine (unhide C2 _ (unhide HB2) hp2).mono ?_; rintro e w3 ⟨rfl, hb3⟩; have HB3 := hide ((unhide HB2).trans (hb3.mono (unhide HB2).size)); clear hb3 C2)
    | fail)
  go_ret
  exact ⟨rfl, ((unhide HB3)).alloc (unhide HB3).size _⟩
set_option maxHeartbeats 4000000 in
set_option maxRecDepth 100000 in
theorem harmless_yes (l : Pl.Bs) (hl : l.length ≤ 8388608) (ef : List Pl.Eff) (a ae : Option Addr) (n cap ce L be oe : Nat) (clock : Int) (w : World) (hel : ef.length ≤ 8388608)
    (C0 : Hid (Calls Tryz.prog 26 #[] w fun e w' => e = .returned (.bool true) ∧ Below w.heap.size w w' ∧ 0 < w'.heap.size))
    (C1 : Hid (∀ W, Calls Tryz.prog 29 #[.string ⟨l.toArray⟩] W fun e w' => e = .returned (.int .i64 0) ∧ Below W.heap.size W w'))
    (C2 : Hid (∀ W, Below w.heap.size w W → 0 < W.heap.size → Calls Tryz.prog 30 #[.string ⟨l.toArray⟩, .slice a n cap, .slice ae ef.length ce, .int .i64 clock] W fun e w' => HRun l ef clock W e w'))
    (hae : 0 < ef.length → ae = some ⟨be, oe, none⟩) (hE : 0 < ef.length → RdE w L be oe ef ∧ L ≤ w.heap.size) :
    Calls Tryz.prog 7 #[.string ⟨l.toArray⟩, .slice a n cap, .slice ae ef.length ce, .int .i64 clock] w fun e w' => e = .returned (.bool true) ∧ Below w.heap.size w w' := by
  have HAE := hide hae
  have HE := hide hE
  clear hae hE
  go_enter Tryz.func7, Tryz.ntmps7
  go_wp2_with (first
    | (go_at_call 26; refine (unhide C0).mono ?_; rintro e w1 ⟨rfl, hb1, hp1⟩; have HB1 := hide hb1; clear hb1 C0)
    | (go_at_call 29; refine (unhide C1 _).mono ?_; rintro e w2 ⟨rfl, hb2⟩; have HB2 := hide ((unhide HB1).trans (hb2.mono (unhide HB1).size)); have hp2 := Nat.lt_of_lt_of_le hp1 hb2.size; clear hb2 HB1 C1)
    | (go_at_call 30; refine (unhide C2 _ (unhide HB2) hp2).mono ?_; rintro e w3 ⟨cs, ex, ck, a1, c1, b1, a2, n2, c2, ho, rfl, ha1, hrd, hb1, hb3⟩; have HB3 := hide ((unhide HB2).trans (hb3.mono (unhide HB2).size)); have q1 := ho.few; obtain rfl := ho.clock; have HO := hide ho; have HA1 := hide ha1; have HRD := hide hrd; have HB1 := hide hb1; clear ho ha1 hrd hb1 hb3 C2)
    | fail)
  have HR := hide (Row.new w3 48 [.slice a1 cs.length c1, .slice a2 n2 c2, .int .i64 ex, .int .i64 (wrap64 (clock + cs.length))])
  have HL := hide (Below.alloc (Below.refl w3.heap.size w3) (Nat.le_refl _) (.cells #[.slice a1 cs.length c1, .slice a2 n2 c2, .int .i64 ex, .int .i64 (wrap64 (clock + cs.length))] 48))
  generalize w3.alloc (.cells #[.slice a1 cs.length c1, .slice a2 n2 c2, .int .i64 ex, .int .i64 (wrap64 (clock + cs.length))] 48) = W4 at *
  go_loopw [13, 14] (fun ev iv wr => ∃ i : Nat, iv = .int .i64 i ∧ i ≤ cs.length ∧ ev = .int .i64 (Pl.exits ef (cs.take i)) ∧ wr = W4) (fun _ iv _ => cs.length - intN iv)
  case atStart => exact ⟨0, rfl, Nat.zero_le _, rfl, rfl⟩
  case round =>
    obtain ⟨i, rfl, hi, rfl, hw⟩ := hrel
    have hw := hw.symm
    subst hw
    have r0 := (unhide HR).cell? (i := 0) rfl
    have r2 := (unhide HR).cell? (i := 2) rfl
    by_cases hc : i < cs.length
    · have t1 : (i : Int) < cs.length := by omega
      obtain ⟨k0, hk1, hk2⟩ := (unhide HO).within i hc
      rw [unhide HA1 (by omega)] at r0
      have d0 := ((unhide HL).cell (p := ⟨b1, _, none⟩) (unhide HB1 (by omega))).trans (unhide HRD i hc)
      rw [Nat.zero_add] at d0
      unfold strV at d0
      have e0 := (unhide HO).zero i hc
      have e1 := exits_next ef cs i hc
      rw [e0] at e1 ⊢
      have HN := hide e1
      clear e0 e1
      have HK := hide hk2
      generalize hcc : cs[i] = c at *
      clear hk2 hcc HR
      go_wp2_with fail
      have HX : Hid (k0 + c.length ≤ l.length) := hk1
      go_loopw [16, 17] (fun fv kv wr => ∃ (k : Nat) (fb : Bool), fv = .bool fb ∧ kv = .int .i64 k ∧ (fb = true ∨ k ≤ k0) ∧ k ≤ k0 + 1 ∧ wr = W4) (fun _ kv _ => k0 + 2 - intN kv)
      case atStart => exact ⟨0, false, rfl, rfl, .inr (Nat.zero_le _), Nat.zero_le _, rfl⟩
      case round =>
        obtain ⟨k, fb, rfl, rfl, hfk, hk3, hw⟩ := hrel
        have hw := hw.symm
        subst hw
        cases fb with
        | false =>
          have hk4 : k ≤ k0 := hfk.resolve_left (by simp)
          go_wp2_with fail
          go_roundw
          case rel =>
            refine ⟨k + 1, _, rfl, by go_num, ?_, by omega, trivial⟩
            by_cases he : k = k0
            · subst he
              refine .inl ?_
              rw [piece_list, unhide HK]
              exact beq_self_eq_true _
            · exact .inr (by omega)
          case measure => simp only [intN]; omega
        | true =>
          clear HK HX hfk
          by_cases hkl : (k : Int) + c.length ≤ l.length
          all_goals
            go_wp2_with fail
            go_loopw [13, 18] (fun ev kv wr => ∃ q : Nat, ev = .int .i64 0 ∧ kv = .int .i64 q ∧ q ≤ ef.length ∧ Hid (∀ j (hj : j < ef.length), j < q → ef[j].cmd ≠ c) ∧ wr = W4) (fun _ kv _ => ef.length - intN kv)
            case atStart => exact ⟨0, rfl, rfl, Nat.zero_le _, fun j _ h => (by omega), rfl⟩
            case round =>
              obtain ⟨q, rfl, rfl, hq, HQ, hw⟩ := hrel
              have hw := hw.symm
              subst hw
              by_cases hq2 : q < ef.length
              · obtain ⟨g1, g2⟩ := unhide HE (by omega)
                obtain rfl := unhide HAE (by omega)
                obtain ⟨m1, m2, -⟩ := g1.2 q hq2
                have hbl : be < w.heap.size := Nat.lt_of_lt_of_le g1.1 g2
                have y1 := (((unhide HB3).trans ((unhide HL).mono (unhide HB3).size)).cell (p := ⟨be, _, none⟩) hbl).trans m1
                have y2 := (((unhide HB3).trans ((unhide HL).mono (unhide HB3).size)).cell (p := ⟨be, _, none⟩) hbl).trans m2
                unfold strV at y1
                by_cases hm : ef[q].cmd = c
                · have HX : Hid (Pl.exits ef (cs.take (i + 1)) = ef[q].exit) := (unhide HN).trans (exitOf_some 0 hq2 (unhide HQ) hm)
                  have t3 : (ef[q].cmd == c) = true := by simpa using hm
                  clear hm
                  go_wp2_with fail
                  exact ⟨⟨u8, .int .i64 ef[q].exit, .int .i64 ((i : Int) + 1), ⟨i + 1, by go_num, by omega, by rw [unhide HX]⟩, rfl, rfl, rfl⟩, by simp only [intN]; omega⟩
                · have t3 : (ef[q].cmd == c) = false := by simpa using hm
                  have HN2 : Hid (∀ j (h : j < ef.length), j < q + 1 → ef[j].cmd ≠ c) := by
                    intro j h hj
                    by_cases e : j = q
                    · subst e; exact hm
                    · exact unhide HQ j h (by omega)
                  clear hm HQ
                  go_wp2_with fail
                  go_roundw
                  case rel => exact ⟨q + 1, rfl, by go_num, by omega, HN2, trivial⟩
                  case measure => simp only [intN]; omega
              · have HX : Hid (Pl.exits ef (cs.take (i + 1)) = 0) := (unhide HN).trans (exitOf_none 0 fun j hj => unhide HQ j hj (by omega))
                clear HQ
                go_wp2_with fail
                exact ⟨⟨u8, .int .i64 0, .int .i64 ((i : Int) + 1), ⟨i + 1, by go_num, by omega, by rw [unhide HX]⟩, rfl, rfl, rfl⟩, by simp only [intN]; omega⟩
    · have hie : i = cs.length := by omega
      have HEN : Hid (Pl.exits ef (cs.take i) = ex) := by rw [hie, List.take_length]; exact (unhide HO).ends
      have t1 : ¬ (i : Int) < cs.length := by omega
      go_wp2_with fail
      go_ret
      refine ⟨?_, (unhide HB3).trans ((unhide HL).mono (unhide HB3).size)⟩
      have := (unhide HO).ends
      simp [this]
end Go.Proofs.YtjelacjggijmfaaGreatDoor
namespace Go.Cp
open Go

structure Wr where
  strs : List (List UInt8)
  code : List UInt8
  failed : Bool
/-- A number in so many bytes, the high one first. -/
def beB (n : Nat) : Nat → List UInt8
  | 0 => []
  | 1 => [UInt8.ofNat n]
  | _ => [UInt8.ofNat (n / 256), UInt8.ofNat n]
def big (n width : Nat) : Bool := decide (256 ^ width ≤ n)
def Wr.tell (w : Wr) (n width : Nat) : Wr := ⟨w.strs, w.code, w.failed || big n width⟩
end Go.Cp
namespace Go.Cp
open Go
/-- Which one of the strings it is; one more, if it is none. -/
def Wr.num (w : Wr) (s : List UInt8) : Nat := (w.strs.findIdx? (fun x => x == s)).getD w.strs.length
def Wr.str (w : Wr) (s : List UInt8) : Wr := match w.strs.findIdx? (fun x => x == s) with
  | some _ => w
  | none => ⟨w.strs ++ [s], w.code, w.failed⟩
end Go.Cp
namespace Go.Cp
open Go
/-- Bytes behind the code; what was told before may have been too much. -/
def Wr.put (w : Wr) (n width : Nat) : Wr := ⟨w.strs, w.code ++ beB n width, w.failed || big n width⟩
def Wr.op (w : Wr) (op : Nat) : Wr := ⟨w.strs, w.code ++ [UInt8.ofNat op], w.failed⟩
end Go.Cp
