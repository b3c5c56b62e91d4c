/-
  Rows of cells in memory.
  An append onto a row of the call's own, as one step of a region that draws its order.
-/
import Derived.Test.YtjelacjggijmfaaGSB
import Derived.Deep.OwnRows
import Derived.RangeFuncCalls
import Derived.WalkMore
import Derived.Deep.RegionWith
import Derived.Sort.AtCall
import Derived.BigQuiet
import Derived.Deep.QuietTactic
import Derived.Deep.RegionLaw
import Derived.Maps.AppendAt
namespace Go.Proofs.Ytjelacjggijmfaa
open Go.RowKit

theorem _root_.Go.Below.drewN {n : Nat} {w w' : World} (h : Below n w w') (k : Nat) : Below n w (w'.drewN k) := ⟨h.os, h.tape, h.output, h.size, h.block⟩
/-- A block of cells: what they hold. -/
def Row (w : World) (b : Nat) (t : TypeId) (vs : List Value) : Prop := w.heap[b]? = some (.cells vs.toArray t (0, 0))
theorem Row.new (w : World) (t : TypeId) (vs : List Value) : Row (w.alloc (.cells vs.toArray t)) w.heap.size t vs := by show (w.heap.push _)[w.heap.size]? = _; simp
theorem Row.lt {w : World} {b : Nat} {t : TypeId} {vs : List Value} (h : Row w b t vs) : b < w.heap.size := (Array.getElem?_eq_some_iff.1 h).1
theorem Row.later {w w' : World} {b : Nat} {t : TypeId} {vs : List Value} (h : Row w b t vs) (hb : Below w.heap.size w w') : Row w' b t vs := (hb.block b h.lt).trans h
theorem Row.below {w w' : World} {b n : Nat} {t : TypeId} {vs : List Value} (h : Row w b t vs) (hb : Below n w w') (hn : b < n) : Row w' b t vs := (hb.block b hn).trans h
theorem Row.alloc {w : World} {b : Nat} {t : TypeId} {vs : List Value} (h : Row w b t vs) (o : Obj) : Row (w.alloc o) b t vs := (Below.heap_alloc w o b h.lt).trans h
theorem Row.drew {w : World} {b : Nat} {t : TypeId} {vs : List Value} (h : Row w b t vs) : Row w.drew b t vs := h
theorem Row.cell {w : World} {b : Nat} {t : TypeId} {vs : List Value} (h : Row w b t vs) (i : Nat) (hi : i < vs.length) : w.cell? ⟨b, i, none⟩ = some vs[i] := by
  unfold Row at h; simp [World.cell?, h, hi]
theorem Row.frozen {w : World} {b : Nat} {t : TypeId} {vs : List Value} (h : Row w b t vs) (i : Nat) : w.frozen? ⟨b, i, none⟩ = false := by unfold Row at h; simp [World.frozen?, h]
theorem Row.set {w : World} {b : Nat} {t : TypeId} {vs : List Value} (h : Row w b t vs) (i : Nat) (u : Value) : Row (w.setCell ⟨b, i, none⟩ u) b t (vs.set i u) := by
  unfold Row at *
  simp [World.setCell, Array.getElem?_modify, h]
theorem Row.other {w : World} {b c : Nat} {t : TypeId} {vs : List Value} (h : Row w b t vs) (hne : b ≠ c) (o : Nat) (u : Value) : Row (w.setCell ⟨c, o, none⟩ u) b t vs :=
  (Below.heap_setCell w ⟨c, o, none⟩ u b hne).trans h
theorem Row.grown {w w' : World} {b : Nat} {t : TypeId} {vs : List Value} {row : Option Nat} (h : Row w b t vs) (hg : w.grownBy w' row) (hne : some b ≠ row) : Row w' b t vs := (hg.block b h.lt hne).trans h
theorem Row.own (B b : Nat) (t : TypeId) (vs : List Value) {β : Type} : OwnFrom B (fun (_ : β) W => Row W b t vs) := fun _ X Y row hs hg hr => by
  refine (hg.block b (Array.getElem?_eq_some_iff.1 hs).1 (fun e => ?_)).trans hs
  obtain ⟨_, o, ho, hc⟩ := hr b e.symm
  unfold Row at hs
  rw [hs] at ho; cases ho; cases hc
theorem made_row (z : Value) (n : Nat) : madeCells #[z] n = (List.replicate n z).toArray := by
  apply Array.ext
  · simp [madeCells]
  · intro i h1 h2
    simp [madeCells, Nat.mod_one]
theorem Row.made (w : World) (t : TypeId) (z : Value) (n : Nat) : Row (w.alloc (.cells (madeCells #[z] n) t)) w.heap.size t (List.replicate n z) := by
  rw [made_row]; exact Row.new w t _

/-- What has turned from one world to another: no block that was there, but for those of S. -/
structure Turned (S : Nat → Prop) (X Y : World) : Prop where
  os : Y.os = X.os
  tape : Y.tape = X.tape
  output : Y.output = X.output
  size : X.heap.size ≤ Y.heap.size
  block : ∀ k, k < X.heap.size → ¬ S k → Y.heap[k]? = X.heap[k]?
theorem Turned.refl (S : Nat → Prop) (X : World) : Turned S X X := ⟨rfl, rfl, rfl, Nat.le_refl _, fun _ _ _ => rfl⟩
theorem Turned.trans {S : Nat → Prop} {X Y Z : World} (h : Turned S X Y) (k : Turned S Y Z) : Turned S X Z :=
  ⟨k.os.trans h.os, k.tape.trans h.tape, k.output.trans h.output, Nat.le_trans h.size k.size, fun j hj hs => (k.block j (Nat.lt_of_lt_of_le hj h.size) hs).trans (h.block j hj hs)⟩
theorem Turned.mono {S T : Nat → Prop} {X Y : World} (h : Turned S X Y) (hs : ∀ k, S k → T k) : Turned T X Y := ⟨h.os, h.tape, h.output, h.size, fun j hj ht => h.block j hj (fun e => ht (hs j e))⟩
theorem Turned.ofBelow {S : Nat → Prop} {X Y : World} (h : Below X.heap.size X Y) : Turned S X Y := ⟨h.os, h.tape, h.output, h.size, fun j hj _ => h.block j hj⟩
theorem Turned.ofGrown {X Y : World} {r : Option Nat} (h : X.grownBy Y r) : Turned (fun k => some k = r) X Y := ⟨h.os, h.tape, h.output, h.size, fun j hj hs => h.block j hj hs⟩
theorem Turned.alloc {S : Nat → Prop} {X Y : World} (h : Turned S X Y) (o : Obj) : Turned S X (Y.alloc o) :=
  ⟨h.os, h.tape, h.output, by rw [World.size_alloc]; exact Nat.le_succ_of_le h.size, fun k hk hs => (Below.heap_alloc Y o k (Nat.lt_of_lt_of_le hk h.size)).trans (h.block k hk hs)⟩
theorem Turned.drew {S : Nat → Prop} {X Y : World} (h : Turned S X Y) : Turned S X Y.drew := ⟨h.os, h.tape, h.output, h.size, h.block⟩
theorem Turned.set {S : Nat → Prop} {X Y : World} (h : Turned S X Y) {b : Nat} (hb : S b) (o : Nat) (v : Value) : Turned S X (Y.setCell ⟨b, o, none⟩ v) :=
  ⟨h.os, h.tape, h.output, by simpa [World.setCell] using h.size, fun k hk hs => (Below.heap_setCell Y ⟨b, o, none⟩ v k (fun e => hs (by rw [show k = b from e]; exact hb))).trans (h.block k hk hs)⟩
theorem Turned.below {S : Nat → Prop} {n : Nat} {w X Y : World} (h : Turned S X Y) (hb : Below n w X) (hn : n ≤ X.heap.size) (hs : ∀ k, S k → n ≤ k) : Below n w Y :=
  ⟨h.os.trans hb.os, h.tape.trans hb.tape, h.output.trans hb.output, Nat.le_trans hb.size h.size, fun k hk => (h.block k (by omega) (fun e => by have := hs k e; omega)).trans (hb.block k hk)⟩
theorem Turned.row {S : Nat → Prop} {X Y : World} (h : Turned S X Y) {b : Nat} {t : TypeId} {vs : List Value} (hr : Row X b t vs) (hs : ¬ S b) : Row Y b t vs := (h.block b hr.lt hs).trans hr
end Go.Proofs.Ytjelacjggijmfaa
namespace Go.Proofs.Ytjelacjggijmfaa
open Go.RowKit

theorem step_append_own {P : Program} {ops : Array Oper} {o : Oper} {a : Act} {w : World} {K : Act → World → Prop} {Q : Exit → Act → World → Prop} {E : Prop}
    (hg : o.guard = none) (s x : Operand) (t : TypeId) (hop : o.op = Op.call { callee := Callee.builtin Builtin.append, args := #[s, x], argTypes := #[t, t] })
    (base : Nat) (e : TypeId) (i : TypeInfo) (z : Value) (size bytes : Nat) (h1 : P.underlying t = some (.slice e)) (h2 : P.info? e = some i) (h3 : i.zero = some z) (h4 : i.size = size) (h5 : i.bytes = bytes) (h6 : z.cells.size = size) (h7 : 0 < size)
    (v : Value) (n : Nat) (xs : List Value) (hs : a.eval s = v) (hown : w.ownsRow base e size v n xs)
    (ad : Addr) (m c : Nat) (news : List Value) (hx : a.eval x = .slice (some ad) m c) (hn : news.length = m * size) (hc : ∀ j u, news[j]? = some u → w.cell? (ad.add j) = some u) (h1c : ∀ u ∈ news, u.oneCell' = true)
    (b1 : n + m ≤ maxLen) (b2 : (n + m) * bytes ≤ 140737488355328) (hbase : base ≤ w.heap.size)
    (hK : ∀ v' w', w'.ownsRow base e size v' (n + m) (xs ++ news) → w.grownBy w' v.ownBlock → K (a.put o.dst v') w') :
    if Region.wanted o (yielded ops a.tmps) = true then Oper.wp P o a w K Q else E := by
  have hw : Region.wanted o (yielded ops a.tmps) = true := by simp [Region.wanted, hg]
  rw [if_pos hw]
  obtain ⟨v', w', hrun, r1, r2, _⟩ := run_append_own (P := P) w base t o.type e i z size bytes h1 h2 h3 h4 h5 h6 h7 v n xs hown ad m c news hn hc h1c b1 b2 hbase
  unfold Oper.wp
  simp [execOp, hop, resolve, invoke, builtin, hs, hx, hrun, Result.andThen]
  exact hK v' w' r1 r2
/-- A row that is not empty: where it lies. -/
theorem owns_form {w : World} {B e size : Nat} {v : Value} {n : Nat} {xs : List Value} (h : w.ownsRow B e size v n xs) (h0 : 0 < n) : ∃ g cap, v = .slice (some ⟨g, 0, none⟩) n cap ∧ B ≤ g ∧ g < w.heap.size := by
  rcases h.2 with ⟨h1, h2⟩ | ⟨g, cap, cur, h1, h2, h3, h4, h5, h6, h7⟩
  · omega
  · exact ⟨g, cap, h1, h2, (Array.getElem?_eq_some_iff.1 h3).1⟩
end Go.Proofs.Ytjelacjggijmfaa
