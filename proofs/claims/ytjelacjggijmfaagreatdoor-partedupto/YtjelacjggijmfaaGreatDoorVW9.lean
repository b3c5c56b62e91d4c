/-
  A plan is written: its memory; a number in bytes.
  A plan is written: what stands in it so far, on lists.
  For the laws' rows: what all of them share.
  A line of a text that goes on: takeLine of package lines.
-/
import Derived.Test.YtjelacjggijmfaaGreatDoorVPureU
import Derived.Test.YtjelacjggijmfaaGreatDoorCards
import Derived.Test.YtjelacjggijmfaaGreatDoorTie
import Derived.Test.YtjelacjggijmfaaGreatDoorVHPure
import Derived.Deep.DeepHandedRow
import Derived.Lib.LaidTab
import Derived.Test.YtjelacjggijmfaaGreatDoorVSPure
import Derived.Test.YtjelacjggijmfaaGreatDoorVMP1
import Derived.LoopN
import Derived.IntWalk
namespace Go.Proofs.YtjelacjggijmfaaGreatDoor
open Go.RowKit

/-- The builder in block b, made by the call itself, holds acc. -/
def Bld (B b : Nat) (acc : List UInt8) (w : World) : Prop := Lib.IsBuilderF 158 5 B b (Lib.byteCells acc) w
theorem Bld.lt {B b : Nat} {acc : List UInt8} {w : World} (h : Bld B b acc w) : b < w.heap.size := by
  rcases h with h | h <;> exact h.lt
theorem Bld.kept {B b : Nat} {acc : List UInt8} {w w' : World} (h : Bld B b acc w) (hk : ∀ (k : Nat) (c : Array Value) (t : TypeId) (f : Nat × Nat), w.heap[k]? = some (Obj.cells c t f) → w'.heap[k]? = some (Obj.cells c t f)) : Bld B b acc w' := by
  have aux : ∀ p, Lib.BuilderAtF 158 5 B b p (Lib.byteCells acc) w → Lib.BuilderAtF 158 5 B b p (Lib.byteCells acc) w' := by
    rintro p ⟨hB, v, hb, ⟨hl, hr⟩, hne⟩
    refine ⟨hB, v, hk _ _ _ _ hb, ⟨hl, ?_⟩, hne⟩
    rcases hr with hr | ⟨g, cap, cur, fz, hv, hBg, hg, rest⟩
    · exact .inl hr
    · exact .inr ⟨g, cap, cur, fz, hv, hBg, hk _ _ _ _ hg, rest⟩
  rcases h with h | h
  · exact .inl (aux _ h)
  · exact .inr (aux _ h)
theorem Bld.later {B b : Nat} {acc : List UInt8} {w w' : World} (h : Bld B b acc w) (hb : Below w.heap.size w w') : Bld B b acc w' :=
  Bld.kept h (fun k _ _ _ hk => (hb.block k (Array.getElem?_eq_some_iff.1 hk).1).trans hk)
theorem Bld.fresh (w : World) : Bld w.heap.size w.heap.size [] (w.alloc (.cells #[.pointer none, .slice none 0 0] 158)) := Lib.IsBuilderF.of (Lib.fresh_isBuilder _ _ w)

theorem bldString (B b : Nat) (acc : List UInt8) (s : ByteArray) (w : World) (h : Bld B b acc w) (hl : acc.length + s.size ≤ 140737488355328) (hB : B ≤ w.heap.size) :
    Calls Tryz.prog 75 #[.pointer (some ⟨b, 0, none⟩), .string s] w fun e w' => e = .returned (.tuple #[.int .i64 s.size, .nilIface]) ∧ Bld B b (acc ++ s.data.toList) w' ∧ Below B w w' ∧ Lib.OthersKept 5 (some b) w w' := by
  refine (Any.Builder_WriteString_k Tryz.lay166 Tryz.layX B b _ s w h (by rw [Lib.byteCells_length]; exact hl) hB).mono ?_
  rintro e w' ⟨rfl, h1, h2, h3⟩
  exact ⟨rfl, by unfold Bld; rw [Lib.byteCells_append]; exact .inr h1, h2, h3⟩
theorem bldByte (B b : Nat) (acc : List UInt8) (c : UInt8) (n : Int) (hn : n = c.toNat) (w : World) (h : Bld B b acc w) (hl : acc.length + 1 ≤ 140737488355328) (hB : B ≤ w.heap.size) :
    Calls Tryz.prog 78 #[.pointer (some ⟨b, 0, none⟩), .int .u8 n] w fun e w' => e = .returned .nilIface ∧ Bld B b (acc ++ [c]) w' ∧ Below B w w' ∧ Lib.OthersKept 5 (some b) w w' := by
  subst hn
  refine (Any.Builder_WriteByte_k Tryz.lay167 Tryz.layX B b _ c.toNat w h (by rw [Lib.byteCells_length]; exact hl) hB).mono ?_
  rintro e w' ⟨rfl, h1, h2, h3⟩
  exact ⟨rfl, by unfold Bld; rw [Lib.byteCells_append]; exact .inr h1, h2, h3⟩
theorem bldGive (B b : Nat) (acc : List UInt8) (w : World) (h : Bld B b acc w) (hB : B ≤ w.heap.size) :
    Calls Tryz.prog 79 #[.pointer (some ⟨b, 0, none⟩)] w fun e w' => e = .returned (.string ⟨acc.toArray⟩) ∧ Bld B b acc w' ∧ Below B w w' ∧ Lib.OthersKept 5 (some b) w w' := by
  refine (Any.Builder_String_any_k Tryz.lay169 Tryz.layX B b acc w h hB).mono ?_
  rintro e w' ⟨rfl, h1, h2, h3⟩
  exact ⟨rfl, h1, h2, h3⟩

theorem endsBack_len {l : List UInt8} (h : Mk.endsBack l = true) : l.dropLast.length + 1 = l.length := by
  cases l with
  | nil => simp [Mk.endsBack] at h
  | cons a r => simp
def takeRes (whole : List UInt8) (used : Nat) (rest : List UInt8) (more : Bool) : Value := .tuple #[.string ⟨whole.toArray⟩, .int .i64 used, .string ⟨rest.toArray⟩, .bool more]
theorem noBack_le (l : List UInt8) : (Mk.noBack l).length ≤ l.length := Mk.rdrop_le _ l
def moreN : Value → Nat
  | .bool b => if b then 1 else 0
  | _ => 0
/-- What holds between two rounds of takeLine. -/
structure TakeInv (t : List UInt8) (acc p rest : List UInt8) (more : Bool) (used : Nat) : Prop where
  eq : Mk.take1 [] 1 (Mk.before 10 t) (Mk.rs (Mk.after 10 t) (Mk.has 10 t)) = Mk.take1 acc used p (Mk.rs rest more)
  len : acc.length + p.length + rest.length + (if more then 1 else 0) ≤ t.length
  used : used + rest.length + (if more then 1 else 0) ≤ 1 + t.length
theorem TakeInv.start (t : List UInt8) : TakeInv t [] (Mk.before 10 t) (Mk.after 10 t) (Mk.has 10 t) 1 :=
  ⟨rfl, by have := Mk.before_after 10 t; simp only [List.length_nil]; omega, by have := Mk.before_after 10 t; omega⟩
theorem TakeInv.on {t acc p rest : List UInt8} {used : Nat} (h : TakeInv t acc p rest true used) (hb : Mk.endsBack p = true) :
    TakeInv t (acc ++ p.dropLast ++ [32]) (Mk.cutL (Mk.before 10 rest)) (Mk.after 10 rest) (Mk.has 10 rest) (used + 1) := by
  have h1 := h.len
  have h2 := h.used
  have h3 := Mk.before_after 10 rest
  have h4 := Mk.cutL_le (Mk.before 10 rest)
  have h5 := endsBack_len hb
  refine ⟨h.eq.trans (Mk.take1_on acc used p rest hb), ?_, ?_⟩
  · simp only [List.length_append, List.length_cons, List.length_nil, if_true] at *; omega
  · simp only [if_true] at *; omega

set_option maxHeartbeats 2000000 in
theorem takeLine_any (t : List UInt8) (w : World) (hT : t.length ≤ 1073741824) (hg : Glob w) :
    Calls Tryz.prog 157 #[.string ⟨t.toArray⟩] w fun e w' => ∃ whole used rest more, e = .returned (takeRes whole used rest more) ∧
      Mk.take1 [] 1 (Mk.before 10 t) (Mk.rs (Mk.after 10 t) (Mk.has 10 t)) = (whole, used, Mk.rs rest more) ∧
      whole.length + rest.length + (if more then 1 else 0) ≤ t.length ∧ used + rest.length + (if more then 1 else 0) ≤ 1 + t.length ∧ Below w.heap.size w w' := by
  have hsl : (⟨t.toArray⟩ : ByteArray).size = t.length := size_mk t
  have HI := hide (TakeInv.start t)
  go_enter Tryz.func157, Tryz.ntmps157
  go_wp2_with fail
  refine (lCut 10 ⟨t.toArray⟩ _ (by omega) hg).mono ?_
  rintro e w1 ⟨rfl, hb1⟩
  have hg1 := hg.later hb1
  simp only
  go_wp2_with fail
  go_loopw [6, 7, 8, 9] (fun p r m u wr => ∃ (acc pl rl : List UInt8) (ml : Bool) (ul : Nat), p = .string ⟨pl.toArray⟩ ∧ r = .string ⟨rl.toArray⟩ ∧ m = .bool ml ∧ u = .int .i64 ul ∧
      Hid (TakeInv t acc pl rl ml ul) ∧ Bld w1.heap.size w1.heap.size acc wr ∧ Below w1.heap.size w1 wr ∧ Glob wr) (fun _ r m _ _ => strLen r + moreN m)
  case atStart =>
    exact ⟨[], _, _, _, 1, rfl, rfl, rfl, rfl, HI, Bld.fresh w1, (Below.refl _ w1).alloc (Nat.le_refl _) _, hg1.later ((Below.refl _ w1).alloc (Nat.le_refl _) _)⟩
  case round =>
    obtain ⟨acc, pl, rl, ml, ul, rfl, rfl, rfl, rfl, hI, hB, hbw, hgw⟩ := hrel
    have hbz := hbw.size
    have hlen := (unhide hI).len
    have HU := hide (unhide hI).used
    have hplA : (⟨pl.toArray⟩ : ByteArray).size = pl.length := size_mk pl
    have hrlA : (⟨rl.toArray⟩ : ByteArray).size = rl.length := size_mk rl
    cases ml with
    | false =>
      simp only [Bool.false_eq_true, if_false] at hlen
      go_wp2_with fail
      refine (lTrimRight ⟨pl.toArray⟩ _ (by omega)).mono ?_
      rintro e w2 ⟨rfl, hb2⟩
      simp only
      have hB2 := hB.later hb2
      have hbw2 := hbw.trans (hb2.mono hbz)
      have hnb := noBack_le pl
      have hnbA : (⟨(Mk.noBack pl).toArray⟩ : ByteArray).size = (Mk.noBack pl).length := size_mk _
      have HE := hide ((unhide hI).eq.trans (Mk.take1_last acc ul pl rl))
      clear hb2 hB hbw hI
      generalize Mk.noBack pl = q at *
      go_wp2_with fail
      refine (bldString _ _ acc ⟨q.toArray⟩ w2 hB2 (by omega) hbw2.size).mono ?_
      rintro e w3 ⟨rfl, hB3, hb3, -⟩
      simp only at hB3
      have hbw3 := hbw2.trans hb3
      go_wp2_with fail
      refine (bldGive _ _ _ w3 hB3 hbw3.size).mono ?_
      rintro e w4 ⟨rfl, -, hb4, -⟩
      have hbw4 := hbw3.trans hb4
      go_wp2_with fail
      refine bodyPost_ret (v := takeRes (acc ++ q) ul rl false) (by simp [results, Tryz.results157, go_sem, takeRes]) rfl ⟨acc ++ q, ul, rl, false, rfl, unhide HE, ?_, ?_, ?_⟩
      · simp only [List.length_append, Bool.false_eq_true, if_false]; omega
      · exact unhide HU
      · exact hb1.trans (hbw4.mono hb1.size)
    | true =>
      simp only [if_true] at hlen
      cases he : Mk.endsBack pl with
      | false =>
        have HE := hide ((unhide hI).eq.trans (Mk.take1_end acc ul pl rl he))
        go_wp2_with fail
        refine (lHasSuffix ⟨pl.toArray⟩ _ (by omega)).mono ?_
        rintro e w2 ⟨rfl, rfl⟩
        simp only
        rw [he]
        clear hI
        go_wp2_with fail
        refine (bldString _ _ acc ⟨pl.toArray⟩ wr hB (by omega) hbz).mono ?_
        rintro e w3 ⟨rfl, hB3, hb3, -⟩
        simp only at hB3
        have hbw3 := hbw.trans hb3
        go_wp2_with fail
        refine (bldGive _ _ _ w3 hB3 hbw3.size).mono ?_
        rintro e w4 ⟨rfl, -, hb4, -⟩
        have hbw4 := hbw3.trans hb4
        go_wp2_with fail
        refine bodyPost_ret (v := takeRes (acc ++ pl) ul rl true) (by simp [results, Tryz.results157, go_sem, takeRes]) rfl ⟨acc ++ pl, ul, rl, true, rfl, unhide HE, ?_, ?_, ?_⟩
        · simp only [List.length_append, if_true]; omega
        · exact unhide HU
        · exact hb1.trans (hbw4.mono hb1.size)
      | true =>
        have HI2 := hide ((unhide hI).on he)
        have hdl := endsBack_len he
        have hdA : (⟨pl.dropLast.toArray⟩ : ByteArray).size = pl.dropLast.length := size_mk _
        have hused : ul + rl.length + 1 ≤ 1 + t.length := unhide HU
        have hba := Mk.before_after 10 rl
        go_wp2_with fail
        refine (lHasSuffix ⟨pl.toArray⟩ _ (by omega)).mono ?_
        rintro e w2 ⟨rfl, rfl⟩
        simp only
        rw [he]
        go_wp2_with fail
        refine (lTrimSuffix ⟨pl.toArray⟩ _ (by omega) he).mono ?_
        rintro e w2 ⟨rfl, rfl⟩
        simp only
        clear hI
        generalize pl.dropLast = q at *
        go_wp2_with fail
        refine (bldString _ _ acc ⟨q.toArray⟩ wr hB (by omega) hbz).mono ?_
        rintro e w3 ⟨rfl, hB3, hb3, -⟩
        simp only at hB3
        have hbw3 := hbw.trans hb3
        have hg3 : Glob w3 := by
          obtain ⟨m, hm⟩ := hg1
          exact ⟨m, (hbw3.cell (p := ⟨0, 0, none⟩) (World.block_lt_of_cell? w1 _ hm)).trans hm⟩
        clear hb3
        go_wp2_with fail
        refine (bldByte _ _ (acc ++ q) 32 32 rfl w3 hB3 (by simp only [List.length_append]; omega) hbw3.size).mono ?_
        rintro e w4 ⟨rfl, hB4, hb4, -⟩
        have hbw4 := hbw3.trans hb4
        have hg4 : Glob w4 := by
          obtain ⟨m, hm⟩ := hg1
          exact ⟨m, (hbw4.cell (p := ⟨0, 0, none⟩) (World.block_lt_of_cell? w1 _ hm)).trans hm⟩
        clear hb4 hB3 hg3
        go_wp2_with fail
        refine (lCut 10 ⟨rl.toArray⟩ _ (by omega) hg4).mono ?_
        rintro e w5 ⟨rfl, hb5⟩
        simp only
        have hB5 := hB4.later hb5
        have hbw5 := hbw4.trans (hb5.mono hbw4.size)
        have hg5 := hg4.later hb5
        clear hb5 hB4 hg4 hbw4 hbw3 hbw
        go_wp2_with fail
        refine (cutFront_any _ _).mono ?_
        rintro e w6 ⟨rfl, hb6⟩
        simp only
        have hB6 := hB5.later hb6
        have hbw6 := hbw5.trans (hb6.mono hbw5.size)
        have hg6 := hg5.later hb6
        clear hb6 hB5 hg5 hbw5
        generalize Mk.cutL (Mk.before 10 rl) = p' at *
        have hafA : (⟨(Mk.after 10 rl).toArray⟩ : ByteArray).size = (Mk.after 10 rl).length := size_mk _
        generalize Mk.after 10 rl = r' at *
        generalize Mk.has 10 rl = m' at *
        go_wp2_with fail
        refine ⟨⟨acc ++ q ++ [32], p', r', m', ul + 1, rfl, rfl, rfl, by go_num, HI2, hB6, hbw6, hg6⟩, ?_⟩
        simp only [strLen, moreN, if_true]
        rw [hafA, hrlA]
        omega
end Go.Proofs.YtjelacjggijmfaaGreatDoor
namespace Go.Proofs.YtjelacjggijmfaaGreatDoor
open Go.ChangeShapes Go.WideShapes Go.ChangeAt Go.RowKit

theorem own : ownKnob Tryz.prog.godebug = none := by kernel_rfl
theorem Tryz.laidOut : laidOutB Tryz.prog = true := by kernel_rfl
theorem glob_shaped (W : World) (h : W.ShapedOpen Tryz.prog) : Glob W :=
  Go.Proofs.cell_of_shapedOpen_int (zero := #[.int .i64 0]) (t := 3) h (of_decide_eq_true (by kernel_rfl)) (by kernel_rfl) rfl (by kernel_rfl) (by kernel_rfl) Tryz.underlying3
set_option maxRecDepth 100000 in
def laidHeap (h : Array Obj) : Array Obj :=
  (h.modify 1 fun
      | .cells _ t frozen => .cells ((Go.Pinned.utf8FirstZ.map fun (n : Nat) => Value.int .u8 (n : Int)).toArray) t frozen
      | o => o).modify 2 fun
      | .cells _ t frozen => .cells (([128, 191, 160, 191, 128, 159, 144, 191, 128, 143, 0, 0, 0, 0, 0, 0, 0, 0, 0, 0, 0, 0, 0, 0, 0, 0, 0, 0, 0, 0, 0, 0].map fun (n : Int) => Value.int .u8 n).toArray) t frozen
      | o => o
end Go.Proofs.YtjelacjggijmfaaGreatDoor
namespace Go.Cp
open Go

structure Wr where
  strs : List (List UInt8)
  code : List UInt8
  failed : Bool
/-- A number in so many bytes, the high one first. -/
def beB (n : Nat) : Nat → List UInt8
  | 0 => []
  | 1 => [UInt8.ofNat n]
  | _ => [UInt8.ofNat (n / 256), UInt8.ofNat n]
def big (n width : Nat) : Bool := decide (256 ^ width ≤ n)
def Wr.tell (w : Wr) (n width : Nat) : Wr := ⟨w.strs, w.code, w.failed || big n width⟩
end Go.Cp
namespace Go.Cp
open Go
/-- Which one of the strings it is; one more, if it is none. -/
def Wr.num (w : Wr) (s : List UInt8) : Nat := (w.strs.findIdx? (fun x => x == s)).getD w.strs.length
def Wr.str (w : Wr) (s : List UInt8) : Wr := match w.strs.findIdx? (fun x => x == s) with
  | some _ => w
  | none => ⟨w.strs ++ [s], w.code, w.failed⟩
end Go.Cp
namespace Go.Cp
open Go
/-- Bytes behind the code; what was told before may have been too much. -/
def Wr.put (w : Wr) (n width : Nat) : Wr := ⟨w.strs, w.code ++ beB n width, w.failed || big n width⟩
def Wr.op (w : Wr) (op : Nat) : Wr := ⟨w.strs, w.code ++ [UInt8.ofNat op], w.failed⟩
end Go.Cp
namespace Go.Proofs.YtjelacjggijmfaaGreatDoor
open Go.RowKit Go.MapKept Go.ChangeMaps Go.Maps

def numEnts (ss : List Pl.Bs) : Ents := ss.zipIdx.map fun x => (x.1, .int .i64 x.2)
/-- The writer in block wb, its map in block nb; its rows lie from B on. -/
structure WrM (W : World) (B wb nb : Nat) (w : Cp.Wr) (vs vc : Value) : Prop where
  row : Row W wb 281 [.map (some nb), vs, vc, .bool w.failed]
  nums : SMap W nb (numEnts w.strs)
  strs : W.ownsRow B 9 1 vs w.strs.length (w.strs.map strV)
  code : W.ownsRow B 5 1 vc w.code.length (Lib.byteCells w.code)
  wB : wb < B
  nB : nb < B
theorem Tryz.infoU8 : (Tryz.prog.info? 5).map (fun i => (i.zero, i.size, i.bytes)) = some (some (.int .u8 0), 1, 1) := by kernel_rfl
theorem mk_u8_0 (w : World) : (Instr.makeSlice 126 (.int .i64 0) (.int .i64 0)).run Tryz.prog w = .ok (.slice (some ⟨w.heap.size, 0, none⟩) 0 0) (w.alloc (.cells #[] 5)) := by
  have h := run_make_row' (P := Tryz.prog) 126 5 (.int .u8 0) 1 Tryz.underlying126 Tryz.infoU8 rfl .i64 .i64 0 (by omega) (by omega) w
  rw [made_row] at h
  exact h
theorem mk_u8_1 (w : World) : (Instr.makeSlice 126 (.int .i64 1) (.int .i64 1)).run Tryz.prog w = .ok (.slice (some ⟨w.heap.size, 0, none⟩) 1 1) (w.alloc (.cells #[.int .u8 0] 5)) := by
  have h := run_make_row' (P := Tryz.prog) 126 5 (.int .u8 0) 1 Tryz.underlying126 Tryz.infoU8 rfl .i64 .i64 1 (by omega) (by omega) w
  rw [made_row] at h
  exact h
theorem mk_u8_2 (w : World) : (Instr.makeSlice 126 (.int .i64 2) (.int .i64 2)).run Tryz.prog w = .ok (.slice (some ⟨w.heap.size, 0, none⟩) 2 2) (w.alloc (.cells #[.int .u8 0, .int .u8 0] 5)) := by
  have h := run_make_row' (P := Tryz.prog) 126 5 (.int .u8 0) 1 Tryz.underlying126 Tryz.infoU8 rfl .i64 .i64 2 (by omega) (by omega) w
  rw [made_row] at h
  exact h
theorem big0 (n : Nat) : ((n : Int) != 0) = Cp.big n 0 := by
  unfold Cp.big
  rw [Bool.eq_iff_iff]
  simp
  omega
theorem big1 (n : Nat) : ((n : Int) / 256 != 0) = Cp.big n 1 := by
  unfold Cp.big
  rw [Bool.eq_iff_iff]
  simp
  omega
theorem big2 (n : Nat) : ((n : Int) / 65536 != 0) = Cp.big n 2 := by
  unfold Cp.big
  rw [Bool.eq_iff_iff]
  simp
  omega
theorem wr_end {W : World} {wb : Nat} {v0 v1 v2 : Value} {f : Bool} (h : Row W wb 281 [v0, v1, v2, .bool f]) (f' : Bool) (cs : List Value) :
    Row ((W.setCell ⟨wb, 3, none⟩ (.bool f')).alloc (.cells cs.toArray 5)) W.heap.size 5 cs ∧ Row ((W.setCell ⟨wb, 3, none⟩ (.bool f')).alloc (.cells cs.toArray 5)) wb 281 [v0, v1, v2, .bool f'] ∧ Tn (fun k => k = wb) W ((W.setCell ⟨wb, 3, none⟩ (.bool f')).alloc (.cells cs.toArray 5)) := by
  have hs : (W.setCell ⟨wb, 3, none⟩ (.bool f')).heap.size = W.heap.size := by simp
  have h1 := Row.new (W.setCell ⟨wb, 3, none⟩ (.bool f')) 5 cs
  rw [hs] at h1
  exact ⟨h1, (h.set 3 (.bool f')).alloc _, (Tn.set (p := fun k => k = wb) W ⟨wb, 3, none⟩ _ rfl).trans (Tn.later ((Below.refl _ _).alloc (Nat.le_refl _) _))⟩
theorem beB_0 (n : Nat) : Lib.byteCells (Cp.beB n 0) = [] := by
  unfold Lib.byteCells Cp.beB
  simp
set_option maxHeartbeats 1000000 in
set_option maxRecDepth 100000 in
theorem bytes0_any (wb n : Nat) (v0 v1 v2 : Value) (f : Bool) (W : World) (h : Row W wb 281 [v0, v1, v2, .bool f]) (_hn : n < 2147483648) :
    Calls Tryz.prog 148 #[.pointer (some ⟨wb, 0, none⟩), .int .i64 n, .int .i64 0] W fun e W' => ∃ N, e = .returned (.slice (some ⟨N, 0, none⟩) 0 0) ∧ Row W' N 5 (Lib.byteCells (Cp.beB n 0)) ∧ Row W' wb 281 [v0, v1, v2, .bool (f || Cp.big n 0)] ∧ W.heap.size ≤ N ∧ Tn (fun k => k = wb) W W' := by
  have c3 := h.cell? (i := 3) rfl
  have z3 := h.frozen 3
  have hmk := mk_u8_0
  have hlt := h.lt
  have hne : ¬ wb = W.heap.size := by omega
  have HR := hide h
  rw [beB_0]
  clear h
  cases f with
  | false =>
    go_enter Tryz.func148, Tryz.ntmps148
    go_wp2_with fail
    refine wp_loop_rounds 1 ?_
    rw [rounds_succ]
    go_wp2_with fail
    go_ret
    obtain ⟨q1, q2, q3⟩ := wr_end (unhide HR) ((n : Int) != 0) []
    exact ⟨W.heap.size, rfl, q1, by rw [Bool.false_or, ← big0]; exact q2, Nat.le_refl _, q3⟩
  | true =>
    go_enter Tryz.func148, Tryz.ntmps148
    go_wp2_with fail
    refine wp_loop_rounds 1 ?_
    rw [rounds_succ]
    go_wp2_with fail
    go_ret
    obtain ⟨q1, q2, q3⟩ := wr_end (unhide HR) true []
    exact ⟨W.heap.size, rfl, q1, by rw [Bool.true_or]; exact q2, Nat.le_refl _, q3⟩
theorem beB_1 (n : Nat) : Lib.byteCells (Cp.beB n 1) = [.int .u8 ((n : Int) % 256)] := by
  unfold Lib.byteCells Cp.beB
  simp
set_option maxHeartbeats 1000000 in
set_option maxRecDepth 100000 in
theorem bytes1_any (wb n : Nat) (v0 v1 v2 : Value) (f : Bool) (W : World) (h : Row W wb 281 [v0, v1, v2, .bool f]) (_hn : n < 2147483648) :
    Calls Tryz.prog 148 #[.pointer (some ⟨wb, 0, none⟩), .int .i64 n, .int .i64 1] W fun e W' => ∃ N, e = .returned (.slice (some ⟨N, 0, none⟩) 1 1) ∧ Row W' N 5 (Lib.byteCells (Cp.beB n 1)) ∧ Row W' wb 281 [v0, v1, v2, .bool (f || Cp.big n 1)] ∧ W.heap.size ≤ N ∧ Tn (fun k => k = wb) W W' := by
  have c3 := h.cell? (i := 3) rfl
  have z3 := h.frozen 3
  have hmk := mk_u8_1
  have hlt := h.lt
  have hne : ¬ wb = W.heap.size := by omega
  have HR := hide h
  rw [beB_1]
  clear h
  cases f with
  | false =>
    go_enter Tryz.func148, Tryz.ntmps148
    go_wp2_with fail
    refine wp_loop_rounds 2 ?_
    rw [rounds_succ]
    go_wp2_with fail
    rw [rounds_succ]
    go_wp2_with fail
    go_ret
    obtain ⟨q1, q2, q3⟩ := wr_end (unhide HR) ((n : Int) / 256 != 0) [.int .u8 ((n : Int) % 256)]
    exact ⟨W.heap.size, rfl, q1, by rw [Bool.false_or, ← big1]; exact q2, Nat.le_refl _, q3⟩
  | true =>
    go_enter Tryz.func148, Tryz.ntmps148
    go_wp2_with fail
    refine wp_loop_rounds 2 ?_
    rw [rounds_succ]
    go_wp2_with fail
    rw [rounds_succ]
    go_wp2_with fail
    go_ret
    obtain ⟨q1, q2, q3⟩ := wr_end (unhide HR) true [.int .u8 ((n : Int) % 256)]
    exact ⟨W.heap.size, rfl, q1, by rw [Bool.true_or]; exact q2, Nat.le_refl _, q3⟩
theorem beB_2 (n : Nat) : Lib.byteCells (Cp.beB n 2) = [.int .u8 ((n : Int) / 256 % 256), .int .u8 ((n : Int) % 256)] := by
  unfold Lib.byteCells Cp.beB
  simp
set_option maxHeartbeats 1000000 in
set_option maxRecDepth 100000 in
theorem bytes2_any (wb n : Nat) (v0 v1 v2 : Value) (f : Bool) (W : World) (h : Row W wb 281 [v0, v1, v2, .bool f]) (_hn : n < 2147483648) :
    Calls Tryz.prog 148 #[.pointer (some ⟨wb, 0, none⟩), .int .i64 n, .int .i64 2] W fun e W' => ∃ N, e = .returned (.slice (some ⟨N, 0, none⟩) 2 2) ∧ Row W' N 5 (Lib.byteCells (Cp.beB n 2)) ∧ Row W' wb 281 [v0, v1, v2, .bool (f || Cp.big n 2)] ∧ W.heap.size ≤ N ∧ Tn (fun k => k = wb) W W' := by
  have c3 := h.cell? (i := 3) rfl
  have z3 := h.frozen 3
  have hmk := mk_u8_2
  have hlt := h.lt
  have hne : ¬ wb = W.heap.size := by omega
  have HR := hide h
  rw [beB_2]
  clear h
  cases f with
  | false =>
    go_enter Tryz.func148, Tryz.ntmps148
    go_wp2_with fail
    refine wp_loop_rounds 3 ?_
    rw [rounds_succ]
    go_wp2_with fail
    rw [rounds_succ]
    go_wp2_with fail
    rw [rounds_succ]
    go_wp2_with fail
    go_ret
    obtain ⟨q1, q2, q3⟩ := wr_end (unhide HR) ((n : Int) / 65536 != 0) [.int .u8 ((n : Int) / 256 % 256), .int .u8 ((n : Int) % 256)]
    exact ⟨W.heap.size, rfl, q1, by rw [Bool.false_or, ← big2]; exact q2, Nat.le_refl _, q3⟩
  | true =>
    go_enter Tryz.func148, Tryz.ntmps148
    go_wp2_with fail
    refine wp_loop_rounds 3 ?_
    rw [rounds_succ]
    go_wp2_with fail
    rw [rounds_succ]
    go_wp2_with fail
    rw [rounds_succ]
    go_wp2_with fail
    go_ret
    obtain ⟨q1, q2, q3⟩ := wr_end (unhide HR) true [.int .u8 ((n : Int) / 256 % 256), .int .u8 ((n : Int) % 256)]
    exact ⟨W.heap.size, rfl, q1, by rw [Bool.true_or]; exact q2, Nat.le_refl _, q3⟩
/-- A number in so many bytes: a new row. -/
theorem bytes_any (wb n k : Nat) (hk : k ≤ 2) (v0 v1 v2 : Value) (f : Bool) (W : World) (h : Row W wb 281 [v0, v1, v2, .bool f]) (hn : n < 2147483648) :
    Calls Tryz.prog 148 #[.pointer (some ⟨wb, 0, none⟩), .int .i64 n, .int .i64 k] W fun e W' => ∃ N, e = .returned (.slice (some ⟨N, 0, none⟩) k k) ∧ Row W' N 5 (Lib.byteCells (Cp.beB n k)) ∧ Row W' wb 281 [v0, v1, v2, .bool (f || Cp.big n k)] ∧ W.heap.size ≤ N ∧ Tn (fun k => k = wb) W W' := by
  match k, hk with
  | 0, _ => exact bytes0_any wb n v0 v1 v2 f W h hn
  | 1, _ => exact bytes1_any wb n v0 v1 v2 f W h hn
  | 2, _ => exact bytes2_any wb n v0 v1 v2 f W h hn
end Go.Proofs.YtjelacjggijmfaaGreatDoor
