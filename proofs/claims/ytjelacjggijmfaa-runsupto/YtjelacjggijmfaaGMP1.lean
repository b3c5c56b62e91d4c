/-
  The program's machine: what lies in memory between two instructions.
-/
import Derived.Test.YtjelacjggijmfaaGWP3
import Derived.Test.YtjelacjggijmfaaGRG3
namespace Go.Proofs.Ytjelacjggijmfaa
open Go.RowKit Go.MapKept Go.ChangeMaps Go.Maps

def mCells (bx : Nat) (ap : Option Addr) (n cp : Nat) (vs : Value) (fl : Nat → Bool) (go : Nat) (vg : Value) (ex : Int) : List Value :=
  .pointer (some ⟨bx, 0, none⟩) :: .slice ap n cp :: vs :: ((List.range 256).map (fun i => .bool (fl i)) ++ [.int .i64 go, vg, .int .i64 ex])
section
variable {bx : Nat} {ap : Option Addr} {n cp : Nat} {vs : Value} {fl : Nat → Bool} {go : Nat} {vg : Value} {ex : Int}
theorem mCells_length : (mCells bx ap n cp vs fl go vg ex).length = 262 := by simp [mCells]
theorem mCells_flag (i : Nat) (hi : i < 256) : (mCells bx ap n cp vs fl go vg ex)[3 + i]? = some (.bool (fl i)) := by
  rw [show 3 + i = i + 1 + 1 + 1 by omega]
  unfold mCells
  simp only [List.getElem?_cons_succ]
  rw [List.getElem?_append_left (by simpa using hi)]
  simp [hi]
theorem mCells_tail (k : Nat) : (mCells bx ap n cp vs fl go vg ex)[259 + k]? = [.int .i64 go, vg, .int .i64 ex][k]? := by
  rw [show 259 + k = 256 + k + 1 + 1 + 1 by omega]
  unfold mCells
  simp only [List.getElem?_cons_succ]
  rw [List.getElem?_append_right (by simp)]
  simp
theorem mCells_set2 (v : Value) : (mCells bx ap n cp vs fl go vg ex).set 2 v = mCells bx ap n cp v fl go vg ex := rfl
theorem mCells_setF (i : Nat) (hi : i < 256) : (mCells bx ap n cp vs fl go vg ex).set (3 + i) (.bool true) = mCells bx ap n cp vs (fset fl i) go vg ex := by
  rw [show 3 + i = i + 1 + 1 + 1 by omega]
  unfold mCells
  simp only [List.set_cons_succ]
  rw [List.set_append_left _ _ (by simpa using hi)]
  congr 4
  apply List.ext_getElem
  · simp
  · intro j h1 h2
    rw [List.getElem_set, List.getElem_map, List.getElem_map, List.getElem_range]
    unfold fset
    by_cases e : i = j
    · subst e; simp
    · rw [if_neg e, if_neg (fun h : j = i => e h.symm)]
theorem mCells_setT (k : Nat) (v : Value) : (mCells bx ap n cp vs fl go vg ex).set (259 + k) v = .pointer (some ⟨bx, 0, none⟩) :: .slice ap n cp :: vs :: ((List.range 256).map (fun i => .bool (fl i)) ++ [.int .i64 go, vg, .int .i64 ex].set k v) := by
  rw [show 259 + k = 256 + k + 1 + 1 + 1 by omega]
  unfold mCells
  simp only [List.set_cons_succ]
  rw [List.set_append_right _ _ (by simp)]
  simp
theorem mCells_setGo (g : Nat) : (mCells bx ap n cp vs fl go vg ex).set 259 (.int .i64 g) = mCells bx ap n cp vs fl g vg ex := mCells_setT 0 _
theorem mCells_setGiven (v : Value) : (mCells bx ap n cp vs fl go vg ex).set 260 v = mCells bx ap n cp vs fl go v ex := mCells_setT 1 _
theorem mCells_setExit (x : Int) : (mCells bx ap n cp vs fl go vg ex).set 261 (.int .i64 x) = mCells bx ap n cp vs fl go vg x := mCells_setT 2 _
end
theorem Row.cell? {w : World} {b : Nat} {t : TypeId} {vs : List Value} (h : Row w b t vs) {i : Nat} {v : Value} (hv : vs[i]? = some v) : w.cell? ⟨b, i, none⟩ = some v := by
  obtain ⟨hi, rfl⟩ := List.getElem?_eq_some_iff.1 hv
  exact h.cell i hi

structure MM (w : World) (B bm bx bf bi : Nat) (ap : Option Addr) (cp : Nat) (ss : List Pl.Bs) (ve : Value) (ef : List Pl.Eff) (vs vg : Value) (st : List Bool) (fl : Nat → Bool) (go : Nat) (X : Pl.Wd) : Prop where
  row : Row w bm 92 (mCells bx ap ss.length cp vs fl go vg X.exit)
  pw : PW w bx bf bi ve ef X.files X.clock
  strs : ∃ b, (0 < ss.length → ap = some ⟨b, 0, none⟩ ∧ b < B ∧ b ≠ bm ∧ b ≠ bx ∧ b ≠ bf) ∧ RdS w b 0 ss
  stack : w.ownsRow B 4 1 vs st.length (st.map Value.bool)
  given : w.ownsRow B 9 1 vg X.cmds.length (X.cmds.map strV)
  lm : bm < B
  lx : bx < B
  lf : bf < B
  li : bi < B
  lw : B ≤ w.heap.size
  n1 : bm ≠ bx
  n2 : bm ≠ bf
  n3 : bm ≠ bi
section
variable {w Z : World} {B bm bx bf bi : Nat} {ap : Option Addr} {cp : Nat} {ss : List Pl.Bs} {ve : Value} {ef : List Pl.Eff} {vs vg : Value} {st : List Bool} {fl : Nat → Bool} {go : Nat} {X : Pl.Wd}
theorem MM.str (h : MM w B bm bx bf bi ap cp ss ve ef vs vg st fl go X) (hs : 0 < ss.length) : ∃ b, ap = some ⟨b, 0, none⟩ ∧ ∀ n (hn : n < ss.length), w.cell? ⟨b, n, none⟩ = some (.string ⟨ss[n].toArray⟩) := by
  obtain ⟨b, h1, h2⟩ := h.strs
  refine ⟨b, (h1 hs).1, fun n hn => ?_⟩
  have := h2 n hn
  rw [Nat.zero_add] at this
  exact this
theorem MM.later (h : MM w B bm bx bf bi ap cp ss ve ef vs vg st fl go X) (hb : Below w.heap.size w Z) : MM Z B bm bx bf bi ap cp ss ve ef vs vg st fl go X := by
  obtain ⟨b, h1, h2⟩ := h.strs
  have hw := h.lw
  exact ⟨h.row.later hb, h.pw.later hb, ⟨b, h1, rds_same h2 (fun hp => hb.block b (by have := (h1 hp).2.1; omega))⟩, own_same h.stack (fun k hk => hb.block k (h.stack.lt k hk).2), own_same h.given (fun k hk => hb.block k (h.given.lt k hk).2), h.lm, h.lx, h.lf, h.li, Nat.le_trans hw hb.size, h.n1, h.n2, h.n3⟩
/-- A row's block stays, or is a new one. -/
def Fresh (w : World) (v v' : Value) : Prop := ∀ k, v'.ownBlock = some k → v.ownBlock = some k ∨ w.heap.size ≤ k
/-- What a step of the machine may turn. -/
structure MTn (bm bx bf : Nat) (vs vg vs' vg' : Value) (w w' : World) : Prop where
  tn : Tn (fun k => k = bm ∨ k = bx ∨ k = bf ∨ some k = vs.ownBlock ∨ some k = vg.ownBlock) w w'
  fs : Fresh w vs vs'
  fg : Fresh w vg vg'
theorem MTn.trans {vs1 vg1 vs2 vg2 : Value} {w1 w2 : World} (h : MTn bm bx bf vs vg vs1 vg1 w w1) (g : MTn bm bx bf vs1 vg1 vs2 vg2 w1 w2) : MTn bm bx bf vs vg vs2 vg2 w w2 := by
  have hs := h.tn.size
  refine ⟨⟨g.tn.os.trans h.tn.os, g.tn.tape.trans h.tn.tape, g.tn.output.trans h.tn.output, Nat.le_trans hs g.tn.size, fun k hk hp => (g.tn.block k (by omega) (fun e => hp ?_)).trans (h.tn.block k hk hp)⟩, fun k hk => ?_, fun k hk => ?_⟩
  · rcases e with e | e | e | e | e
    · exact .inl e
    · exact .inr (.inl e)
    · exact .inr (.inr (.inl e))
    · rcases h.fs k e.symm with e' | e'
      · exact .inr (.inr (.inr (.inl e'.symm)))
      · omega
    · rcases h.fg k e.symm with e' | e'
      · exact .inr (.inr (.inr (.inr e'.symm)))
      · omega
  · rcases g.fs k hk with e | e
    · exact h.fs k e
    · exact .inr (by omega)
  · rcases g.fg k hk with e | e
    · exact h.fg k e
    · exact .inr (by omega)
theorem MTn.later (hb : Below w.heap.size w Z) : MTn bm bx bf vs vg vs vg w Z := ⟨Tn.later hb, fun _ e => .inl e, fun _ e => .inl e⟩
/-- The stack turns. -/
theorem MM.turn {vs' : Value} {st' : List Bool} {r : Option Nat} (h : MM w B bm bx bf bi ap cp ss ve ef vs vg st fl go X) (hg : w.grownBy Z r) (hr : r = none ∨ r = vs.ownBlock) (hs : Z.ownsRow B 4 1 vs' st'.length (st'.map Value.bool)) (hf : Fresh w vs vs') :
    MM (Z.setCell ⟨bm, 2, none⟩ vs') B bm bx bf bi ap cp ss ve ef vs' vg st' fl go X ∧ MTn bm bx bf vs vg vs' vg w (Z.setCell ⟨bm, 2, none⟩ vs') := by
  obtain ⟨b, h1, h2⟩ := h.strs
  have l1 := h.lm
  have l2 := h.lx
  have l3 := h.lf
  have l4 := h.li
  have l5 := h.lw
  have hrB : ∀ k, r = some k → B ≤ k := fun k e => by
    rcases hr with rfl | rfl
    · cases e
    · exact (h.stack.lt k e).1
  have hlow : ∀ k, k < B → Z.heap[k]? = w.heap[k]? := fun k hk => hg.block k (by omega) (fun e => by have := hrB k e.symm; omega)
  have hset : ∀ k, k ≠ bm → (Z.setCell ⟨bm, 2, none⟩ vs').heap[k]? = Z.heap[k]? := fun k hk => Below.heap_setCell Z ⟨bm, 2, none⟩ _ k hk
  have hgiv : Z.ownsRow B 9 1 vg X.cmds.length (X.cmds.map strV) := by
    rcases hr with rfl | rfl
    · exact World.ownsRow.kept h.given hg (by cases e : vg.ownBlock with | none => exact .inl rfl | some q => exact .inr (by simp))
    · rcases apart h.given h.stack (by decide) with e | e
      · exact World.ownsRow.kept h.given hg (.inl e)
      · exact World.ownsRow.kept h.given hg (.inr e)
  have htn : Tn (fun k => B ≤ k ∨ k = bm) w (Z.setCell ⟨bm, 2, none⟩ vs') := (Tn.grown hg (fun k e => .inl (hrB k e))).trans (Tn.set Z ⟨bm, 2, none⟩ vs' (.inr rfl))
  have htn' : Tn (fun k => some k = vs.ownBlock ∨ k = bm) w (Z.setCell ⟨bm, 2, none⟩ vs') := (Tn.grown hg (fun k e => .inl (by rcases hr with rfl | rfl; cases e; exact e.symm))).trans (Tn.set Z ⟨bm, 2, none⟩ vs' (.inr rfl))
  refine ⟨⟨?_, h.pw.tn htn (by have := h.n1; omega) (by have := h.n2; omega) (by have := h.n3; omega), ⟨b, h1, rds_same h2 (fun hp => (htn.block b (by have := (h1 hp).2.1; omega) (by have := (h1 hp).2; omega)))⟩, owns_other hs (own_ne hs l1) 2 _, owns_other hgiv (own_ne hgiv l1) 2 _, l1, l2, l3, l4, Nat.le_trans l5 htn.size, h.n1, h.n2, h.n3⟩, htn'.mono (fun k e => e.elim (fun e => .inr (.inr (.inr (.inl e)))) .inl), hf, fun _ e => .inl e⟩
  have hrow : Row Z bm 92 (mCells bx ap ss.length cp vs fl go vg X.exit) := (hlow bm l1).trans h.row
  have := hrow.set 2 vs'
  rw [mCells_set2] at this
  exact this
theorem MM.mark (h : MM w B bm bx bf bi ap cp ss ve ef vs vg st fl go X) (i : Nat) (hi : i < 256) : MM (w.setCell ⟨bm, 3 + i, none⟩ (.bool true)) B bm bx bf bi ap cp ss ve ef vs vg st (fset fl i) go X ∧ MTn bm bx bf vs vg vs vg w (w.setCell ⟨bm, 3 + i, none⟩ (.bool true)) := by
  obtain ⟨b, h1, h2⟩ := h.strs
  have l1 := h.lm
  have htn : Tn (fun k => k = bm) w (w.setCell ⟨bm, 3 + i, none⟩ (.bool true)) := Tn.set w ⟨bm, 3 + i, none⟩ _ rfl
  refine ⟨⟨?_, h.pw.tn htn (fun e => h.n1 e.symm) (fun e => h.n2 e.symm) (fun e => h.n3 e.symm), ⟨b, h1, rds_same h2 (fun hp => (htn.block b (by have := (h1 hp).2.1; have := h.lw; omega) (by have := (h1 hp).2; omega)))⟩, owns_other h.stack (own_ne h.stack l1) _ _, owns_other h.given (own_ne h.given l1) _ _, l1, h.lx, h.lf, h.li, Nat.le_trans h.lw htn.size, h.n1, h.n2, h.n3⟩, htn.mono (fun k e => .inl e), fun _ e => .inl e, fun _ e => .inl e⟩
  have := h.row.set (3 + i) (.bool true)
  rw [mCells_setF i hi] at this
  exact this
theorem MM.goOn (h : MM w B bm bx bf bi ap cp ss ve ef vs vg st fl go X) (g : Nat) : MM (w.setCell ⟨bm, 259, none⟩ (.int .i64 g)) B bm bx bf bi ap cp ss ve ef vs vg st fl g X ∧ MTn bm bx bf vs vg vs vg w (w.setCell ⟨bm, 259, none⟩ (.int .i64 g)) := by
  obtain ⟨b, h1, h2⟩ := h.strs
  have l1 := h.lm
  have htn : Tn (fun k => k = bm) w (w.setCell ⟨bm, 259, none⟩ (.int .i64 g)) := Tn.set w ⟨bm, 259, none⟩ _ rfl
  refine ⟨⟨?_, h.pw.tn htn (fun e => h.n1 e.symm) (fun e => h.n2 e.symm) (fun e => h.n3 e.symm), ⟨b, h1, rds_same h2 (fun hp => (htn.block b (by have := (h1 hp).2.1; have := h.lw; omega) (by have := (h1 hp).2; omega)))⟩, owns_other h.stack (own_ne h.stack l1) _ _, owns_other h.given (own_ne h.given l1) _ _, l1, h.lx, h.lf, h.li, Nat.le_trans h.lw htn.size, h.n1, h.n2, h.n3⟩, htn.mono (fun k e => .inl e), fun _ e => .inl e, fun _ e => .inl e⟩
  have := h.row.set 259 (.int .i64 g)
  rw [mCells_setGo] at this
  exact this
end
end Go.Proofs.Ytjelacjggijmfaa
