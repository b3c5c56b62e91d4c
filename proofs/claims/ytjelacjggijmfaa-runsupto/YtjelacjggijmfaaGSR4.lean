/-
  The document's own answer: is a plan sound? what lies in memory.
-/
import Derived.Test.YtjelacjggijmfaaGSR2
import Derived.Test.YtjelacjggijmfaaGSPure
import Derived.Test.YtjelacjggijmfaaGSI
namespace Go.Proofs.Ytjelacjggijmfaa
open Go.RowKit

theorem map_set (n i : Nat) (F : Nat → Value) (v : Value) : ((List.range n).map F).set i v = (List.range n).map (fun q => if q = i then v else F q) := by
  apply List.ext_getElem
  · simp
  · intro q h1 h2
    simp only [List.getElem_set, List.getElem_map, List.getElem_range]
    by_cases e : i = q
    · rw [if_pos e, if_pos e.symm]
    · rw [if_neg e, if_neg (fun e' => e e'.symm)]
def BRow (w : World) (N L : Nat) (f : Nat → Bool) : Prop := Row w N 4 ((List.range (L + 1)).map fun q => .bool (f q))
def IRow (w : World) (N L : Nat) (g : Nat → Int) : Prop := Row w N 3 ((List.range (L + 1)).map fun q => .int .i64 (g q))
def fset (f : Nat → Bool) (i : Nat) : Nat → Bool := fun q => if q = i then true else f q
theorem BRow.made (w : World) (L : Nat) : BRow (w.alloc (.cells (madeCells #[.bool false] (L + 1)) 4)) w.heap.size L (fun _ => false) := by
  unfold BRow
  have := Row.made w 4 (.bool false) (L + 1)
  rwa [show List.replicate (L + 1) (Value.bool false) = (List.range (L + 1)).map (fun _ => Value.bool false) from by simp [List.map_const']] at this
theorem IRow.made (w : World) (L : Nat) : IRow (w.alloc (.cells (madeCells #[.int .i64 0] (L + 1)) 3)) w.heap.size L (fun _ => 0) := by
  unfold IRow
  have := Row.made w 3 (.int .i64 0) (L + 1)
  rwa [show List.replicate (L + 1) (Value.int .i64 0) = (List.range (L + 1)).map (fun _ => Value.int .i64 0) from by simp [List.map_const']] at this
theorem BRow.cell {w : World} {N L : Nat} {f : Nat → Bool} (h : BRow w N L f) (i : Nat) (hi : i ≤ L) : w.cell? ⟨N, i, none⟩ = some (.bool (f i)) := by
  have := Row.cell h i (by simp; omega)
  simpa using this
theorem IRow.cell {w : World} {N L : Nat} {g : Nat → Int} (h : IRow w N L g) (i : Nat) (hi : i ≤ L) : w.cell? ⟨N, i, none⟩ = some (.int .i64 (g i)) := by
  have := Row.cell h i (by simp; omega)
  simpa using this
theorem BRow.set {w : World} {N L : Nat} {f : Nat → Bool} (h : BRow w N L f) (i : Nat) : BRow (w.setCell ⟨N, i, none⟩ (.bool true)) N L (fset f i) := by
  have := Row.set h i (.bool true)
  rw [map_set] at this
  unfold BRow fset
  rwa [show (fun q => if q = i then Value.bool true else Value.bool (f q)) = (fun q => Value.bool (if q = i then true else f q)) from funext fun q => by split <;> rfl] at this
theorem IRow.set {w : World} {N L : Nat} {g : Nat → Int} (h : IRow w N L g) (i : Nat) (v : Int) : IRow (w.setCell ⟨N, i, none⟩ (.int .i64 v)) N L (Pl.gset g i v) := by
  have := Row.set h i (.int .i64 v)
  rw [map_set] at this
  unfold IRow Pl.gset
  rwa [show (fun q => if q = i then Value.int .i64 v else Value.int .i64 (g q)) = (fun q => Value.int .i64 (if q = i then v else g q)) from funext fun q => by split <;> rfl] at this
/-- What lies in memory: the plan; where instructions begin. -/
structure SMem (w : World) (b N L : Nat) (v : Value) (s : ByteArray) (f : Nat → Bool) (W : World) : Prop where
  plan : Row W b 74 [v, .string s]
  begs : BRow W N L f
  below : Below w.heap.size w W
  hb : b < w.heap.size
  hN : w.heap.size ≤ N
theorem SMem.later {w : World} {b N L : Nat} {v : Value} {s : ByteArray} {f : Nat → Bool} {X Y : World} (h : SMem w b N L v s f X) (k : Below X.heap.size X Y) : SMem w b N L v s f Y :=
  ⟨h.plan.later k, Row.later h.begs k, h.below.trans (k.mono h.below.size), h.hb, h.hN⟩
theorem SMem.mark {w : World} {b N L : Nat} {v : Value} {s : ByteArray} {f : Nat → Bool} {X : World} (h : SMem w b N L v s f X) (i : Nat) : SMem w b N L v s (fset f i) (X.setCell ⟨N, i, none⟩ (.bool true)) := by
  have h1 := h.hb
  have h2 := h.hN
  exact ⟨h.plan.other (by omega) _ _, h.begs.set i, h.below.setCell (p := ⟨N, i, none⟩) h2 _, h1, h2⟩
/-- .. and the heights. -/
structure HMem (w : World) (b N M L : Nat) (v : Value) (s : ByteArray) (f : Nat → Bool) (g : Nat → Int) (W : World) : Prop where
  mem : SMem w b N L v s f W
  his : IRow W M L g
  hM : w.heap.size ≤ M
  hne : M ≠ N
theorem HMem.later {w : World} {b N M L : Nat} {v : Value} {s : ByteArray} {f : Nat → Bool} {g : Nat → Int} {X Y : World} (h : HMem w b N M L v s f g X) (k : Below X.heap.size X Y) : HMem w b N M L v s f g Y :=
  ⟨h.mem.later k, Row.later h.his k, h.hM, h.hne⟩
theorem HMem.put {w : World} {b N M L : Nat} {v : Value} {s : ByteArray} {f : Nat → Bool} {g : Nat → Int} {X : World} (h : HMem w b N M L v s f g X) (i : Nat) (y : Int) : HMem w b N M L v s f (Pl.gset g i y) (X.setCell ⟨M, i, none⟩ (.int .i64 y)) := by
  have h1 := h.mem.hb
  have h2 := h.hM
  have h3 := h.hne
  exact ⟨⟨h.mem.plan.other (by omega) _ _, Row.other h.mem.begs (fun e => h3 e.symm) _ _, h.mem.below.setCell (p := ⟨M, i, none⟩) h2 _, h1, h.mem.hN⟩, h.his.set i y, h2, h3⟩
/-- The first pass: which instructions begin. -/
structure Pass1 (c : Pl.Bs) (m p : Nat) (f : Nat → Bool) : Prop where
  le : p ≤ c.length
  beg : Pl.Beg c 0 p
  is : ∀ q, f q = true ↔ Pl.Beg c 0 q ∧ q < p
  ok : ∀ q, Pl.Beg c 0 q → q < p → Pl.whole c q ∧ Pl.okOps m (Pl.mkIns c q)
theorem Pass1.start (c : Pl.Bs) (m : Nat) : Pass1 c m 0 (fun _ => false) := ⟨Nat.zero_le _, Pl.beg_self c 0, fun q => by simp, fun q _ h => by omega⟩
theorem Pass1.next {c : Pl.Bs} {m p : Nat} {f : Nat → Bool} (h : Pass1 c m p f) (hp : p < c.length) (hw : Pl.whole c p) (hok : Pl.okOps m (Pl.mkIns c p)) : Pass1 c m (p + Pl.isz (Pl.opAt c p)) (fset f p) := by
  have hgt := Pl.next_gt hw
  have hn : p + Pl.isz (Pl.opAt c p) = (Pl.mkIns c p).next := rfl
  rw [hn]
  refine ⟨Pl.next_le hw, h.beg.next hp hw, fun q => ?_, fun q hq hl => ?_⟩
  · unfold fset
    by_cases e : q = p
    · subst e; rw [if_pos rfl]; exact ⟨fun _ => ⟨h.beg, hgt⟩, fun _ => rfl⟩
    · rw [if_neg e, h.is q]
      refine ⟨fun k => ⟨k.1, by omega⟩, fun k => ⟨k.1, ?_⟩⟩
      rcases h.beg.gap k.1 hp hw with k' | k' <;> omega
  · rcases h.beg.gap hq hp hw with k' | k'
    · by_cases e : q = p
      · subst e; exact ⟨hw, hok⟩
      · exact h.ok q hq (by omega)
    · omega
theorem Pass1.done {c : Pl.Bs} {m p : Nat} {f : Nat → Bool} (h : Pass1 c m p f) (hp : ¬ p < c.length) : (∀ q, fset f c.length q = true ↔ Pl.Beg c 0 q) ∧ ∀ q, Pl.Beg c 0 q → q < c.length → Pl.whole c q ∧ Pl.okOps m (Pl.mkIns c q) := by
  have hl := h.le
  obtain rfl : p = c.length := by omega
  refine ⟨fun q => ?_, h.ok⟩
  unfold fset
  by_cases e : q = c.length
  · subst e; rw [if_pos rfl]; exact ⟨fun _ => h.beg, fun _ => rfl⟩
  · rw [if_neg e, h.is q]
    exact ⟨fun k => k.1, fun k => ⟨k, by have := k.le; omega⟩⟩
theorem Pass1.bad {c : Pl.Bs} {m p : Nat} {f : Nat → Bool} (h : Pass1 c m p f) (hp : p < c.length) (hn : ¬ (Pl.whole c p ∧ Pl.okOps m (Pl.mkIns c p))) : ¬ Pl.Spec c m 0 0 (fun _ => none) :=
  fun hs => hn (Pl.spec_beg hs h.beg hp)
end Go.Proofs.Ytjelacjggijmfaa
