/-
  Expanding, of package names: the cells that its closures have in common; a mark is taken off.
  A text that grows, of package names: what is added, what is told.
  What a text expands to, on lists: names, signs, how many references, which late names are marked.
  A text that grows, of package names: a builder within a struct.
-/
import Derived.Test.YtjelacjggijmfaaGreatDoorVSB
import Derived.Test.YtjelacjggijmfaaGreatDoorVLay
import Derived.Lib.FrozenHead
import Derived.Lib.Builder
import Derived.Lib.OthersKept
import Derived.Shelf.Strings.BuilderK
import Derived.Test.YtjelacjggijmfaaGreatDoorVPureB
import Derived.Test.YtjelacjggijmfaaGreatDoorVSPure
import Derived.Test.YtjelacjggijmfaaGreatDoorVWRC
import Derived.Test.YtjelacjggijmfaaGreatDoorVMP1
import Derived.Defers
namespace Go.Proofs.YtjelacjggijmfaaGreatDoor
open Go.RowKit

/-- The bounded text in block b, made by the call itself, holds acc: a builder; of one that holds nothing the buffer is nil. -/
structure Bd (B b : Nat) (acc : List UInt8) (w : World) : Prop where
  bld : Lib.IsBuilderF 319 5 B b (Lib.byteCells acc) w
  nil : acc = [] → ∃ p, w.heap[b]? = some (.cells #[p, .slice none 0 0] 319 (0, 0))
theorem Bd.fresh (w : World) : Bd w.heap.size w.heap.size [] (w.alloc (.cells #[.pointer none, .slice none 0 0] 319)) := ⟨Lib.IsBuilderF.of (Lib.fresh_isBuilder _ _ w), fun _ => ⟨_, Row.new w _ [.pointer none, .slice none 0 0]⟩⟩
theorem Bd.lt {B b : Nat} {acc : List UInt8} {w : World} (h : Bd B b acc w) : b < w.heap.size := by
  rcases h.bld with h | h <;> exact h.lt
theorem Bd.kept {B b : Nat} {acc : List UInt8} {w w' : World} (h : Bd B b acc w) (hk : ∀ (k : Nat) (c : Array Value) (t : TypeId) (f : Nat × Nat), w.heap[k]? = some (Obj.cells c t f) → w'.heap[k]? = some (Obj.cells c t f)) : Bd B b acc w' := by
  have aux : ∀ p, Lib.BuilderAtF 319 5 B b p (Lib.byteCells acc) w → Lib.BuilderAtF 319 5 B b p (Lib.byteCells acc) w' := by
    rintro p ⟨hB, v, hb, ⟨hl, hr⟩, hne⟩
    refine ⟨hB, v, hk _ _ _ _ hb, ⟨hl, ?_⟩, hne⟩
    rcases hr with hr | ⟨g, cap, cur, fz, hv, hBg, hg, rest⟩
    · exact .inl hr
    · exact .inr ⟨g, cap, cur, fz, hv, hBg, hk _ _ _ _ hg, rest⟩
  refine ⟨?_, fun e => ?_⟩
  · rcases h.bld with h | h
    · exact .inl (aux _ h)
    · exact .inr (aux _ h)
  · obtain ⟨p, hp⟩ := h.nil e
    exact ⟨p, hk _ _ _ _ hp⟩
theorem Bd.later {B b : Nat} {acc : List UInt8} {w w' : World} (h : Bd B b acc w) (hb : Below w.heap.size w w') : Bd B b acc w' :=
  Bd.kept h (fun k _ _ _ hk => (hb.block k (Array.getElem?_eq_some_iff.1 hk).1).trans hk)
theorem info_builder : (Tryz.prog.info? 158).map (·.size) = some 2 := by kernel_rfl
theorem info_byte : (Tryz.prog.info? 5).map (fun i => (i.zero, i.size, i.bytes)) = some (some (.int .u8 0), 1, 1) := by kernel_rfl
theorem cells_byte : Tryz.prog.cellsOf 5 = 1 := by kernel_rfl
theorem lies_bounded : liesAt Tryz.prog Tryz.prog.depth 319 (2 / Tryz.prog.cellsOf 319) 0 158 1 = true := by kernel_rfl
set_option maxHeartbeats 1000000 in
set_option maxRecDepth 100000 in
theorem bdCheck_fresh (b : Nat) (w : World) (h0 : w.cell? ⟨b, 0, none⟩ = some (.pointer none)) (hsh : w.shape? b = some (319, 2)) (hfz : w.frozen? ⟨b, 0, none⟩ = false) :
    Calls Tryz.prog 122 #[.pointer (some ⟨b, 0, none⟩)] w fun e w' => e = .returned (.tuple #[]) ∧ w' = w.setCell ⟨b, 0, none⟩ (.pointer (some ⟨b, 0, none⟩)) := by
  obtain ⟨j, hj, hjs⟩ := Option.map_eq_some_iff.1 info_builder
  go_enter Tryz.func122, Tryz.ntmps122
  go_wp2
  rw [Lib.run_to_unsafe w ⟨b, 0, none⟩ Tryz.underlying156 Tryz.underlying292 hj (by rw [hjs]; decide) hsh (Nat.zero_lt_succ 1)]
  simp only [Result.andThen]
  rw [Oper.upon_value]
  go_wp2
  rw [run_callFunc_extern Tryz.func164 (by kernel_rfl) (by kernel_rfl) (by kernel_rfl) (e := Extern.AbiNoEscape.same) (by kernel_rfl)]
  rw [Lib.run_noEscape]
  simp only [Result.andThen]
  rw [Oper.upon_value]
  go_wp2
  rw [Lib.run_from_unsafe w ⟨b, 0, none⟩ Tryz.underlying292 Tryz.underlying156 hj hsh lies_bounded]
  simp only [Result.andThen]
  rw [Oper.upon_value]
  go_wp2
  go_end0
  exact ⟨rfl, rfl⟩
set_option maxHeartbeats 1000000 in
set_option maxRecDepth 100000 in
theorem bdCheck_used (b : Nat) (w : World) (h0 : w.cell? ⟨b, 0, none⟩ = some (.pointer (some ⟨b, 0, none⟩))) :
    Calls Tryz.prog 122 #[.pointer (some ⟨b, 0, none⟩)] w fun e w' => e = .returned (.tuple #[]) ∧ w' = w := by
  obtain ⟨j, hj, hjs⟩ := Option.map_eq_some_iff.1 info_builder
  go_enter Tryz.func122, Tryz.ntmps122
  go_wp2
  rw [Lib.run_neq_ptr_same w _ Tryz.underlying156 hj]
  go_wp2
  go_end0
  exact ⟨rfl, rfl⟩
theorem bdCheck (B b : Nat) (acc : List UInt8) (w : World) (h : Bd B b acc w) :
    Calls Tryz.prog 122 #[.pointer (some ⟨b, 0, none⟩)] w fun e w' => e = .returned (.tuple #[]) ∧ Lib.BuilderAtF 319 5 B b (.pointer (some ⟨b, 0, none⟩)) (Lib.byteCells acc) w' ∧ (acc = [] → ∃ p, w'.heap[b]? = some (.cells #[p, .slice none 0 0] 319 (0, 0))) ∧ Below B w w' ∧ Lib.OthersKept 5 (some b) w w' := by
  have hnil := h.nil
  rcases h.bld with h | h
  · refine (bdCheck_fresh b w h.cell0 h.shape h.frozen0).mono ?_
    rintro e w' ⟨rfl, rfl⟩
    refine ⟨rfl, h.used _, fun e => ?_, (Below.refl B w).setCell (p := ⟨b, 0, none⟩) h.1 _, (Lib.OthersKept.refl _ _ w).setCell ⟨b, 0, none⟩ rfl _⟩
    obtain ⟨p, hp⟩ := hnil e
    exact ⟨.pointer (some ⟨b, 0, none⟩), by simp [World.setCell, Array.getElem?_modify, hp]⟩
  · refine (bdCheck_used b w h.cell0).mono ?_
    rintro e w' ⟨rfl, rfl⟩
    exact ⟨rfl, h, hnil, Below.refl B _, Lib.OthersKept.refl _ _ _⟩
/-- What the builder's two cells hold. -/
structure BdAt (B b : Nat) (acc : List UInt8) (w : World) (p v : Value) : Prop where
  head : p = .pointer none ∨ p = .pointer (some ⟨b, 0, none⟩)
  at' : Lib.BuilderAtF 319 5 B b p (Lib.byteCells acc) w
  le : B ≤ b
  heap : w.heap[b]? = some (.cells #[p, v] 319 (0, 0))
  own : w.ownsRowF B 5 1 v acc.length (Lib.byteCells acc)
  ne : v.ownBlock ≠ some b
  nil : acc = [] → v = .slice none 0 0
theorem Bd.buf {B b : Nat} {acc : List UInt8} {w : World} (h : Bd B b acc w) : ∃ p v, BdAt B b acc w p v := by
  have hl := Lib.byteCells_length acc
  have key : ∀ p, (p = .pointer none ∨ p = .pointer (some ⟨b, 0, none⟩)) → Lib.BuilderAtF 319 5 B b p (Lib.byteCells acc) w → ∃ p v, BdAt B b acc w p v := fun p hp hA => by
    have hA' := hA
    obtain ⟨hB, v, hb, hown, hne⟩ := hA'
    rw [hl] at hown
    refine ⟨p, v, hp, hA, hB, hb, hown, hne, fun e => ?_⟩
    obtain ⟨q, hq⟩ := h.nil e
    rw [hb] at hq
    simp at hq
    exact hq.2
  rcases h.bld with hA | hA
  · exact key _ (.inl rfl) hA
  · exact key _ (.inr rfl) hA
theorem BdAt.slice {B b : Nat} {acc : List UInt8} {w : World} {p v : Value} (h : BdAt B b acc w p v) : ∃ a cap, v = .slice a acc.length cap := by
  rcases h.own.2 with ⟨rfl, hz⟩ | ⟨g, cap, cur, fz, rfl, _⟩
  · exact ⟨none, 0, by rw [hz]⟩
  · exact ⟨_, _, rfl⟩
set_option maxHeartbeats 2000000 in
set_option maxRecDepth 100000 in
theorem bdString (B b : Nat) (acc : List UInt8) (s : ByteArray) (w : World) (h : Bd B b acc w) (hlen : acc.length + s.size ≤ 140737488355328) (hBw : B ≤ w.heap.size) :
    Calls Tryz.prog 75 #[.pointer (some ⟨b, 0, none⟩), .string s] w fun e w' => e = .returned (.tuple #[.int .i64 s.size, .nilIface]) ∧ Bd B b (acc ++ s.data.toList) w' ∧ Below B w w' ∧ Lib.OthersKept 5 (some b) w w' := by
  obtain ⟨i0, hi, hz0, hz1, hz2⟩ := info_parts info_byte
  have hbl : (Lib.byteCells acc).length = acc.length := Lib.byteCells_length acc
  have hnil := h.nil
  go_enter Tryz.func75, Tryz.ntmps75
  go_wp2_with (go_at_call 122; refine (bdCheck B b acc _ h).mono ?_)
  rintro e w1 ⟨rfl, h1, hn1, hb1, hk1⟩
  obtain ⟨hB, v, hbk, hown, hne⟩ := h1
  have hv0 : acc = [] → v = .slice none 0 0 := fun e => by
    obtain ⟨q, hq⟩ := hn1 e
    rw [hbk] at hq
    simp at hq
    exact hq.2
  have c0 : w1.cell? ⟨b, 0, none⟩ = some (.pointer (some ⟨b, 0, none⟩)) := by rw [Lib.cell_of_heap hbk]; rfl
  have c1 : w1.cell? ⟨b, 1, none⟩ = some v := by rw [Lib.cell_of_heap hbk]; rfl
  go_wp2_with (at_builtin; refine Lib.wpList_append_own_stringF _ rfl _ _ 126 9 rfl B 5 i0 Tryz.underlying126 Tryz.underlying9 hi hz0 hz1 hz2 _ _ _ rfl hown s rfl ?c3 ?c4 ?c5 ?_)
  case c3 => unfold maxLen; omega
  case c4 => omega
  case c5 => have := hb1.size; omega
  intro v' w2 hown' hgrow hnn
  have hlt : b < w1.heap.size := (Array.getElem?_eq_some_iff.1 hbk).1
  have hb2 : w2.heap[b]? = some (.cells #[.pointer (some ⟨b, 0, none⟩), v] 319 (0, 0)) := by
    rw [hgrow.block b hlt (fun e => hne e.symm)]
    exact hbk
  have d0 : w2.cell? ⟨b, 0, none⟩ = some (.pointer (some ⟨b, 0, none⟩)) := by rw [Lib.cell_of_heap hb2]; rfl
  have d1 : w2.cell? ⟨b, 1, none⟩ = some v := by rw [Lib.cell_of_heap hb2]; rfl
  have f1 : w2.frozen? ⟨b, 1, none⟩ = false := Lib.frozen_of_heap hb2 1
  obtain ⟨ao, n', cap, rfl⟩ : ∃ ao n' cap, v' = .slice ao n' cap := by
    rcases hown'.2 with ⟨hv, _⟩ | ⟨g, cap, cur, fz, hv, _⟩
    · exact ⟨_, _, _, hv⟩
    · exact ⟨_, _, _, hv⟩
  have hbs : Lib.byteCells (acc ++ s.data.toList) = Lib.byteCells acc ++ Lib.strCells s := Lib.byteCells_append _ _
  go_wp2
  go_ret2
  refine ⟨rfl, ⟨.inr ?_, fun e => ?_⟩, ?_, (hk1.grown hgrow (Lib.ownsRowF_kind hown)).setCell ⟨b, 1, none⟩ rfl _⟩
  · rw [hbs]
    exact Lib.BuilderAtF.put (T := 319) (e := 5) hB hb2 (bs' := Lib.byteCells acc ++ Lib.strCells s) (by simpa [Lib.strCells_length, hbl] using hown') (by decide)
  · have e1 : acc = [] := (List.append_eq_nil_iff.1 e).1
    have e2 : s.data.toList = [] := (List.append_eq_nil_iff.1 e).2
    have hs : s = ByteArray.empty := by cases s; simp_all; rfl
    have := hnn.2 ⟨hv0 e1, hs⟩
    rw [this]
    exact ⟨.pointer (some ⟨b, 0, none⟩), by simp [World.setCell, Array.getElem?_modify, hb2]⟩
  · exact (hb1.grown hgrow (by have := hb1.size; omega) (fun k hk => (hown.lt k hk).1)).setCell (p := ⟨b, 1, none⟩) hB _
set_option maxHeartbeats 1000000 in
set_option maxRecDepth 100000 in
theorem bdLen (B b : Nat) (acc : List UInt8) (w : World) (h : Bd B b acc w) : Calls Tryz.prog 243 #[.pointer (some ⟨b, 0, none⟩)] w fun e w' => e = .returned (.int .i64 acc.length) ∧ w' = w := by
  obtain ⟨p, v, hA⟩ := h.buf
  obtain ⟨a, cap, rfl⟩ := hA.slice
  have c1 : w.cell? ⟨b, 1, none⟩ = some (.slice a acc.length cap) := by rw [Lib.cell_of_heap hA.heap]; rfl
  clear hA h
  go_enter Tryz.func243, Tryz.ntmps243
  go_wp2
  go_ret
  exact ⟨rfl, rfl⟩
set_option maxHeartbeats 2000000 in
set_option maxRecDepth 100000 in
theorem bdGive_nil (B b : Nat) (w : World) (h : Bd B b [] w) : Calls Tryz.prog 79 #[.pointer (some ⟨b, 0, none⟩)] w fun e w' => e = .returned (.string ⟨#[]⟩) ∧ Below B w w' := by
  obtain ⟨p, hp⟩ := h.nil rfl
  have c1 : w.drew.cell? ⟨b, 1, none⟩ = some (.slice none 0 0) := by
    have : w.drew.heap[b]? = some (.cells #[p, .slice none 0 0] 319 (0, 0)) := hp
    rw [Lib.cell_of_heap this]; rfl
  have hSD : (Builtin.unsafeSliceData_ #[126] 241 #[.slice none 0 0]).run Tryz.prog w.drew = .ok (.pointer none) w.drew := rfl
  have hUS : (Builtin.unsafeString_ #[241, 3] 9 #[.pointer none, .int .i64 0]).run Tryz.prog w.drew = .ok (.string ⟨#[]⟩) w.drew := Lib.run_unsafeString_none w.drew _ _ _ none
  go_enter Tryz.func79, Tryz.ntmps79
  go_wp2
  go_region
  all_goals (go_wp2; go_ret; exact ⟨rfl, Below.drew (Below.refl B w)⟩)
set_option maxHeartbeats 2000000 in
set_option maxRecDepth 100000 in
theorem bdGive_some (B b : Nat) (l : List UInt8) (w : World) (h : Bd B b l w) (h0 : l ≠ []) : Calls Tryz.prog 79 #[.pointer (some ⟨b, 0, none⟩)] w fun e w' => e = .returned (.string ⟨l.toArray⟩) ∧ Below B w w' := by
  obtain ⟨p, v, hA⟩ := h.buf
  have hl0 : l.length ≠ 0 := by simpa using h0
  obtain ⟨g, cap, cur, fz, rfl, hbg, hg, hfz, hnc, hcm, hcs, htake⟩ : ∃ g cap cur fz, v = .slice (some ⟨g, 0, none⟩) l.length cap ∧ B ≤ g ∧ w.heap[g]? = some (.cells cur 5 fz) ∧ fz.2 ≤ l.length * 1 ∧ l.length ≤ cap ∧ cap ≤ maxLen ∧ cur.size = cap * 1 ∧ cur.toList.take (l.length * 1) = Lib.byteCells l := by
    rcases hA.own.2 with ⟨_, hz⟩ | ⟨g, cap, cur, fz, hv, r⟩
    · exact absurd hz hl0
    · exact ⟨g, cap, cur, fz, hv, r⟩
  have c1 : w.drew.cell? ⟨b, 1, none⟩ = some (.slice (some ⟨g, 0, none⟩) l.length cap) := by
    have : w.drew.heap[b]? = some (.cells #[p, .slice (some ⟨g, 0, none⟩) l.length cap] 319 (0, 0)) := hA.heap
    rw [Lib.cell_of_heap this]; rfl
  have hSD : (Builtin.unsafeSliceData_ #[126] 241 #[.slice (some ⟨g, 0, none⟩) l.length cap]).run Tryz.prog w.drew = .ok (.pointer (some ⟨g, 0, none⟩)) w.drew := Lib.run_unsafeSliceData_row _ _ _ _ _ _ (by omega)
  have hUS : (Builtin.unsafeString_ #[241, 3] 9 #[.pointer (some ⟨g, 0, none⟩), .int .i64 l.length]).run Tryz.prog w.drew = .ok (.string ⟨l.toArray⟩) (w.drew.freeze ⟨g, 0, none⟩ l.length) := by
    refine Lib.run_unsafeString_row w.drew 241 3 9 5 Tryz.underlying241 cells_byte g cur.size (by have hg' : w.drew.heap[g]? = some (.cells cur 5 fz) := hg; simp [World.shape?, hg']) l h0 (by omega) (by unfold maxLen at hcm; omega) ?_
    intro j x hx
    exact hA.own.cells (g := g) rfl j (.int .u8 x.toNat) (by simp [Lib.byteCells, hx])
  clear hA h htake
  go_enter Tryz.func79, Tryz.ntmps79
  go_wp2
  go_region
  all_goals (go_wp2; go_ret; exact ⟨rfl, Lib.below_freeze (Below.drew (Below.refl B w)) (p := ⟨g, 0, none⟩) hbg _⟩)
theorem bdGive (B b : Nat) (l : List UInt8) (w : World) (h : Bd B b l w) : Calls Tryz.prog 79 #[.pointer (some ⟨b, 0, none⟩)] w fun e w' => e = .returned (.string ⟨l.toArray⟩) ∧ Below B w w' := by
  by_cases h0 : l = []
  · subst h0; exact bdGive_nil B b w h
  · exact bdGive_some B b l w h h0
end Go.Proofs.YtjelacjggijmfaaGreatDoor
namespace Go.Cp
open Go

abbrev Bs := List UInt8
/-- A name's value: its text; is it expanded where it is referred to? -/
structure Nv where
  text : Bs
  late : Bool
def nv0 : Nv := ⟨[], false⟩
/-- What was expanded: the text, the error, how many references so far. -/
structure Er where
  txt : Bs
  er : Nat
  refs : Nat
def addB (acc part : Bs) : Bs := if acc.length ≤ 2000 then acc ++ part else acc
def toldB (acc : Bs) (refs : Nat) : Er := if 2000 < acc.length then ⟨[], 5, refs⟩ else ⟨acc, 0, refs⟩
def expF (N : Bs → Nv) (sg : UInt8 → Option Bs) : Nat → List Bs → Nat → Bs → Bs → Option Er
  | 0, _, _, _, _ => none
  | f + 1, marked, refs, acc, text =>
    if Mk.has 36 text = false then some (toldB (addB acc (Mk.before 36 text)) refs) else
    match Mk.after 36 text with
    | [] => some ⟨[], 1, refs⟩
    | c :: rest =>
      if c = 36 then expF N sg f marked refs (addB (addB acc (Mk.before 36 text)) [36]) rest
      else if c = 40 then
        if Mk.has 41 rest = false ∨ Mk.isName (Mk.before 41 rest) = false then some ⟨[], 1, refs⟩
        else if 300 < refs + 1 then some ⟨[], 5, refs + 1⟩
        else if (N (Mk.before 41 rest)).late = true then
          if Mk.before 41 rest ∈ marked then some ⟨[], 4, refs + 1⟩
          else match expF N sg f (marked ++ [Mk.before 41 rest]) (refs + 1) [] (N (Mk.before 41 rest)).text with
            | none => none
            | some r => if r.er = 0 then expF N sg f marked r.refs (addB (addB acc (Mk.before 36 text)) r.txt) (Mk.after 41 rest) else some ⟨[], r.er, r.refs⟩
        else expF N sg f marked (refs + 1) (addB (addB acc (Mk.before 36 text)) (N (Mk.before 41 rest)).text) (Mk.after 41 rest)
      else match sg c with
        | none => some ⟨[], 1, refs⟩
        | some p => expF N sg f marked refs (addB (addB acc (Mk.before 36 text)) p) rest
theorem expF_mono {N : Bs → Nv} {sg : UInt8 → Option Bs} : ∀ (f g : Nat) (m : List Bs) (k : Nat) (a t : Bs) (r : Er), f ≤ g → expF N sg f m k a t = some r → expF N sg g m k a t = some r
  | 0, _, _, _, _, _, _, _, h => by cases h
  | f + 1, 0, _, _, _, _, _, hg, _ => by omega
  | f + 1, g + 1, m, k, a, t, r, hg, h => by
    rw [expF] at h ⊢
    split
    · rename_i h1
      rw [if_pos h1] at h
      exact h
    · rename_i h1
      rw [if_neg h1] at h
      cases hA : Mk.after 36 t with
      | nil => rw [hA] at h; exact h
      | cons c rest =>
        rw [hA] at h
        simp only at h ⊢
        split
        · rename_i h2
          rw [if_pos h2] at h
          exact expF_mono f g _ _ _ _ _ (by omega) h
        · rename_i h2
          rw [if_neg h2] at h
          split
          · rename_i h3
            rw [if_pos h3] at h
            split
            · rename_i h4
              rw [if_pos h4] at h
              exact h
            · rename_i h4
              rw [if_neg h4] at h
              split
              · rename_i h5
                rw [if_pos h5] at h
                exact h
              · rename_i h5
                rw [if_neg h5] at h
                split
                · rename_i h6
                  rw [if_pos h6] at h
                  split
                  · rename_i h7
                    rw [if_pos h7] at h
                    exact h
                  · rename_i h7
                    rw [if_neg h7] at h
                    cases hr : expF N sg f (m ++ [Mk.before 41 rest]) (k + 1) [] (N (Mk.before 41 rest)).text with
                    | none => rw [hr] at h; cases h
                    | some r1 =>
                      rw [hr] at h
                      rw [expF_mono f g _ _ _ _ _ (by omega) hr]
                      simp only at h ⊢
                      split
                      · rename_i h8
                        rw [if_pos h8] at h
                        exact expF_mono f g _ _ _ _ _ (by omega) h
                      · rename_i h8
                        rw [if_neg h8] at h
                        exact h
                · rename_i h6
                  rw [if_neg h6] at h
                  exact expF_mono f g _ _ _ _ _ (by omega) h
          · rename_i h3
            rw [if_neg h3] at h
            cases hs : sg c with
            | none => rw [hs] at h; exact h
            | some p =>
              rw [hs] at h
              exact expF_mono f g _ _ _ _ _ (by omega) h
/-- A text expands so. -/
def Exp (N : Bs → Nv) (sg : UInt8 → Option Bs) (m : List Bs) (k : Nat) (a t : Bs) (r : Er) : Prop := ∃ f, expF N sg f m k a t = some r
theorem Exp.det {N : Bs → Nv} {sg : UInt8 → Option Bs} {m : List Bs} {k : Nat} {a t : Bs} {r s : Er} (h : Exp N sg m k a t r) (g : Exp N sg m k a t s) : r = s := by
  obtain ⟨f1, h1⟩ := h
  obtain ⟨f2, h2⟩ := g
  have e1 := expF_mono f1 (f1 + f2) m k a t r (by omega) h1
  have e2 := expF_mono f2 (f1 + f2) m k a t s (by omega) h2
  rw [e1] at e2
  cases e2
  rfl
/-- A text without a sign. -/
theorem Exp.free {N : Bs → Nv} {sg : UInt8 → Option Bs} {m : List Bs} {k : Nat} {a t : Bs} (h : Mk.has 36 t = false) : Exp N sg m k a t (toldB (addB a (Mk.before 36 t)) k) := ⟨1, by rw [expF, if_pos h]⟩
end Go.Cp
namespace Go.Proofs.YtjelacjggijmfaaGreatDoor
open Go.RowKit

set_option maxHeartbeats 1000000 in
set_option maxRecDepth 100000 in
theorem bdAdd (B b : Nat) (acc : List UInt8) (s : ByteArray) (w : World) (h : Bd B b acc w) (hs : s.size ≤ 70368744177664) (hB : B ≤ w.heap.size) :
    Calls Tryz.prog 196 #[.pointer (some ⟨b, 0, none⟩), .string s] w fun e w' => e = .returned (.tuple #[]) ∧ Bd B b (Cp.addB acc s.data.toList) w' ∧ Below B w w' ∧ Lib.OthersKept 5 (some b) w w' := by
  have C1 := hide (bdLen B b acc w h)
  by_cases hl : acc.length ≤ 2000
  · have t1 : (acc.length : Int) ≤ 2000 := by omega
    have C2 := hide (bdString B b acc s w h (by omega) hB)
    have e1 : Cp.addB acc s.data.toList = acc ++ s.data.toList := by unfold Cp.addB; rw [if_pos hl]
    rw [e1]
    clear h
    go_enter Tryz.func196, Tryz.ntmps196
    go_wp2_with (first
      | (go_at_call 243; refine (unhide C1).mono ?_; rintro e w1 ⟨rfl, rfl⟩)
      | (go_at_call 75; refine (unhide C2).mono ?_; rintro e w2 ⟨rfl, h2, h3, h4⟩)
      | fail)
    go_end0
    exact ⟨rfl, h2, h3, h4⟩
  · have t1 : ¬ (acc.length : Int) ≤ 2000 := by omega
    have e1 : Cp.addB acc s.data.toList = acc := by unfold Cp.addB; rw [if_neg hl]
    rw [e1]
    have HB := hide h
    clear h
    go_enter Tryz.func196, Tryz.ntmps196
    go_wp2_with (first
      | (go_at_call 243; refine (unhide C1).mono ?_; rintro e w1 ⟨rfl, rfl⟩)
      | fail)
    go_end0
    exact ⟨rfl, unhide HB, Below.refl _ _, Lib.OthersKept.refl _ _ _⟩
set_option maxHeartbeats 1000000 in
set_option maxRecDepth 100000 in
theorem bdTold (B b : Nat) (acc : List UInt8) (k : Nat) (w : World) (h : Bd B b acc w) :
    Calls Tryz.prog 197 #[.pointer (some ⟨b, 0, none⟩)] w fun e w' => e = .returned (.tuple #[.string ⟨(Cp.toldB acc k).txt.toArray⟩, .int .i64 (Cp.toldB acc k).er]) ∧ Below B w w' := by
  have C1 := hide (bdLen B b acc w h)
  by_cases hl : 2000 < acc.length
  · have t1 : (2000 : Int) < (acc.length : Int) := by omega
    have e1 : Cp.toldB acc k = ⟨[], 5, k⟩ := by unfold Cp.toldB; rw [if_pos hl]
    rw [e1]
    clear h
    go_enter Tryz.func197, Tryz.ntmps197
    go_wp2_with (first
      | (go_at_call 243; refine (unhide C1).mono ?_; rintro e w1 ⟨rfl, rfl⟩)
      | fail)
    go_ret2
    exact ⟨rfl, Below.refl _ _⟩
  · have t1 : ¬ (2000 : Int) < (acc.length : Int) := by omega
    have C2 := hide (bdGive B b acc w h)
    have e1 : Cp.toldB acc k = ⟨acc, 0, k⟩ := by unfold Cp.toldB; rw [if_neg hl]
    rw [e1]
    clear h
    go_enter Tryz.func197, Tryz.ntmps197
    go_wp2_with (first
      | (go_at_call 243; refine (unhide C1).mono ?_; rintro e w1 ⟨rfl, rfl⟩)
      | (go_at_call 79; refine (unhide C2).mono ?_; rintro e w2 ⟨rfl, h2⟩)
      | fail)
    go_ret2
    exact ⟨rfl, h2⟩
end Go.Proofs.YtjelacjggijmfaaGreatDoor
namespace Go.Proofs.YtjelacjggijmfaaGreatDoor
open Go.RowKit Go.MapKept Go.ChangeMaps Go.Maps

/-- The blocks: names, signs, references, marks, expand, late, refer; the two maps. -/
structure Cel where
  n : Nat
  s : Nat
  r : Nat
  m : Nat
  e : Nat
  l : Nat
  f : Nat
  nm : Nat
  mm : Nat
abbrev NL := List (Cp.Bs × Cp.Nv)
def nvV (v : Cp.Nv) : Value := .agg #[strV v.text, .bool v.late]
def nEnts (l : NL) : Ents := l.map fun x => (x.1, nvV x.2)
def nOf (l : NL) (k : Cp.Bs) : Cp.Nv := ((l.find? (fun x => x.1 == k)).map (·.2)).getD Cp.nv0
theorem mget_n (l : NL) (k : Cp.Bs) : (mget (nEnts l) k).getD (nvV Cp.nv0) = nvV (nOf l k) := by
  unfold mget nEnts nOf
  rw [List.find?_map]
  have e : ((fun x : Pl.Bs × Value => x.1 == k) ∘ fun x : Cp.Bs × Cp.Nv => (x.1, nvV x.2)) = fun x => x.1 == k := rfl
  rw [e]
  cases List.find? (fun x => x.1 == k) l <;> rfl
def mEnts (mk : List Cp.Bs) : Ents := mk.map fun k => (k, .agg #[])
theorem mget_m (mk : List Cp.Bs) (k : Cp.Bs) : mget (mEnts mk) k = if k ∈ mk then some (.agg #[]) else none := by
  unfold mget mEnts
  rw [List.find?_map]
  have e : ((fun x : Pl.Bs × Value => x.1 == k) ∘ fun k : Cp.Bs => (k, Value.agg #[])) = fun x => x == k := rfl
  rw [e]
  split
  · rename_i h
    cases hf : List.find? (fun x => x == k) mk with
    | none => exact absurd (List.find?_eq_none.1 hf k h) (by simp)
    | some x => rfl
  · rename_i h
    rw [List.find?_eq_none.2 (fun x hx => by simp; exact fun e => h (e ▸ hx))]
    rfl
theorem mput_m {mk : List Cp.Bs} {k : Cp.Bs} (h : k ∉ mk) : mput (mEnts mk) k (.agg #[]) = mEnts (mk ++ [k]) := by
  induction mk with
  | nil => rfl
  | cons x r ih =>
    simp only [List.mem_cons, not_or] at h
    show (if x == k then _ else _) = _
    rw [if_neg (by simpa using fun e => h.1 e.symm)]
    show (x, Value.agg #[]) :: mput (mEnts r) k (.agg #[]) = _
    rw [ih h.2]
    rfl
/-- The closures' common memory. -/
structure ExM (c : Cel) (sv : Value) (L : NL) (refs : Nat) (mk : List Cp.Bs) (W : World) : Prop where
  nbox : Row W c.n 137 [.map (some c.nm)]
  sbox : Row W c.s 199 [sv]
  rbox : Row W c.r 3 [.int .i64 refs]
  mbox : Row W c.m 140 [.map (some c.mm)]
  ebox : Row W c.e 278 [.func (.func 195) #[] #[.pointer (some ⟨c.s, 0, none⟩), .pointer (some ⟨c.f, 0, none⟩)]]
  lbox : Row W c.l 278 [.func (.func 192) #[] #[.pointer (some ⟨c.m, 0, none⟩), .pointer (some ⟨c.e, 0, none⟩), .pointer (some ⟨c.n, 0, none⟩)]]
  fbox : Row W c.f 278 [.func (.func 194) #[] #[.pointer (some ⟨c.r, 0, none⟩), .pointer (some ⟨c.n, 0, none⟩), .pointer (some ⟨c.l, 0, none⟩)]]
  names : SMap W c.nm (nEnts L)
  marks : SMap W c.mm (mEnts mk)
  ne : c.nm ≠ c.mm
  glob : Glob W
  gr : 0 < c.r
/-- What an expansion turns: how many references, the marks. -/
def ExT (c : Cel) (W W' : World) : Prop := Tn (fun k => k = c.r ∨ k = c.mm) W W'
theorem row_ne_map {W : World} {b k : Nat} {t : TypeId} {vs : List Value} {l : Ents} (h : Row W b t vs) (g : SMap W k l) : b ≠ k := fun e => by
  obtain ⟨es, clock, hk, _⟩ := g
  subst e
  unfold Row at h
  rw [h] at hk
  cases hk
theorem row_ne_row {W : World} {b k : Nat} {t u : TypeId} {vs us : List Value} (h : Row W b t vs) (g : Row W k u us) (ht : t ≠ u) : b ≠ k := fun e => by
  subst e
  unfold Row at h g
  rw [h] at g
  cases g
  exact ht rfl
theorem turned_tn {w w' : World} {b : Nat} {p : Nat → Prop} (h : w.mapTurned w' b) (hp : p b) : Tn p w w' := by
  obtain ⟨es, clock, es', clock', hb, rfl⟩ := h
  have hbl : b < w.heap.size := (Array.getElem?_eq_some_iff.1 hb).1
  refine ⟨rfl, rfl, rfl, by simp [setBlock], fun k hk hn => ?_⟩
  have : k ≠ b := fun e => hn (e ▸ hp)
  simp [setBlock, Ne.symm this]
section
variable {c : Cel} {sv : Value} {L : NL} {refs refs' : Nat} {mk mk' : List Cp.Bs} {W Z : World}
theorem ExM.next (h : ExM c sv L refs mk W) (ht : ExT c W Z) (hr : Row Z c.r 3 [.int .i64 refs']) (hm : SMap Z c.mm (mEnts mk')) : ExM c sv L refs' mk' Z := by
  have key : ∀ {b : Nat} {t : TypeId} {vs : List Value}, Row W b t vs → t ≠ 3 → Row Z b t vs := fun hb hn => hb.tn ht (fun e => e.elim (row_ne_row hb h.rbox hn) (row_ne_map hb h.marks))
  refine ⟨key h.nbox (by decide), key h.sbox (by decide), hr, key h.mbox (by decide), key h.ebox (by decide), key h.lbox (by decide), key h.fbox (by decide), h.names.tn ht (fun e => e.elim (fun e => row_ne_map h.rbox h.names e.symm) h.ne), hm, h.ne, ?_, h.gr⟩
  obtain ⟨m, hm0⟩ := h.glob
  have hlt := World.block_lt_of_cell? W _ hm0
  refine ⟨m, ?_⟩
  rw [World.cell?_of_block (a := ⟨0, 0, none⟩) (ht.block _ hlt (fun e => ?_))]
  · exact hm0
  · rcases e with e | e
    · have e' : 0 = c.r := e
      have := h.gr
      omega
    · have e' : 0 = c.mm := e
      obtain ⟨es, clock, hk, _⟩ := h.marks
      rw [← e'] at hk
      simp [World.cell?, hk] at hm0
theorem ExM.later (h : ExM c sv L refs mk W) (hb : Below W.heap.size W Z) : ExM c sv L refs mk Z := h.next (Tn.later hb) (h.rbox.later hb) (h.marks.later hb)
end
set_option maxHeartbeats 1000000 in
set_option maxRecDepth 100000 in
/-- The deferred call: the mark that came last is taken off. -/
theorem unmark_any (m b mm : Nat) (mk : List Cp.Bs) (k : Cp.Bs) (u : FrameMode) (W : World) (hm : Row W m 140 [.map (some mm)]) (hn : Row W b 9 [.string ⟨k.toArray⟩]) (hs : SMap W mm (mEnts (mk ++ [k]))) :
    CallsD Tryz.prog 193 #[.pointer (some ⟨m, 0, none⟩), .pointer (some ⟨b, 0, none⟩)] u W fun e u' w' => u' = u ∧ (e = .returned (.tuple #[]) ∧ SMap w' mm (mEnts mk) ∧ Tn (fun q => q = mm) W w') := by
  have c0 := hm.cell? (i := 0) rfl
  have c1 := hn.cell? (i := 0) rfl
  have hs' : SMap W mm (mEnts mk ++ [(k, .agg #[])]) := by
    have : mEnts (mk ++ [k]) = mEnts mk ++ [(k, .agg #[])] := by unfold mEnts; rw [List.map_append]; rfl
    rw [← this]; exact hs
  have HS := hide hs'
  clear hm hn hs hs'
  go_enter_d Tryz.func193, Tryz.ntmps193
  go_wp2_with (at_delete; refine wpList_del_last _ rfl _ _ 140 9 rfl 316 Tryz.underlying140 Tryz.underlying9 mm (mEnts mk) k (.agg #[]) rfl (unhide HS) rfl ?_; intro w1 hs1 ht1)
  go_end0
  exact ⟨rfl, hs1, turned_tn ht1 rfl⟩
end Go.Proofs.YtjelacjggijmfaaGreatDoor
