/-
  The program's world: its files as a map, the first effect of each command as a map.
  What the program's contracts take from the texts on the document's own answer.
-/
import Derived.Test.YtjelacjggijmfaaGreatDoorVSB
import Derived.Test.YtjelacjggijmfaaGreatDoorVSP8
import Derived.Test.YtjelacjggijmfaaGreatDoorVSPure
import Derived.Test.YtjelacjggijmfaaGreatDoorVSP5
import Derived.Test.YtjelacjggijmfaaGreatDoorVRG1
import Derived.Lib.BufferRead
import Derived.Deep.Cut
namespace Go.Proofs.YtjelacjggijmfaaGreatDoor
open Go.RowKit

end Go.Proofs.YtjelacjggijmfaaGreatDoor

namespace Go.Proofs.YtjelacjggijmfaaGreatDoor
open Go.RowKit

end Go.Proofs.YtjelacjggijmfaaGreatDoor

namespace Go.Proofs.YtjelacjggijmfaaGreatDoor
open Go.RowKit

/-- The strings that have come: whose they are. -/
def Strs (w : World) (B : Nat) (v : Value) (ss : List Pl.Bs) : Prop := w.ownsRow B 9 1 v ss.length (ss.map strV)
theorem own_ne {w : World} {B e size : Nat} {v : Value} {n : Nat} {xs : List Value} (h : w.ownsRow B e size v n xs) {N : Nat} (hN : N < B) : some N ≠ v.ownBlock := fun e => by have := (h.lt N e.symm).1; omega
end Go.Proofs.YtjelacjggijmfaaGreatDoor

namespace Go.Proofs.YtjelacjggijmfaaGreatDoor
open Go.RowKit

def fileC (f : Pl.File) : List Value := [strV f.path, strV f.text, .int .i64 f.time]
def filesC (fs : List Pl.File) : List Value := fs.flatMap fileC
theorem filesC_get (fs : List Pl.File) : ∀ (i : Nat) (h : i < fs.length), (filesC fs)[i * 3]? = some (strV fs[i].path) ∧ (filesC fs)[i * 3 + 1]? = some (strV fs[i].text) ∧ (filesC fs)[i * 3 + 2]? = some (.int .i64 fs[i].time) := by
  induction fs with
  | nil => intro i h; simp at h
  | cons f r ih =>
    intro i h
    unfold filesC
    rw [List.flatMap_cons]
    cases i with
    | zero => simp [fileC]
    | succ i =>
      have := ih i (by simpa using h)
      unfold filesC at this
      have hl : (fileC f).length = 3 := rfl
      rw [List.getElem?_append_right (by omega), List.getElem?_append_right (by omega), List.getElem?_append_right (by omega), hl]
      rw [show (i + 1) * 3 - 3 = i * 3 from by omega, show (i + 1) * 3 + 1 - 3 = i * 3 + 1 from by omega, show (i + 1) * 3 + 2 - 3 = i * 3 + 2 from by omega]
      exact this
/-- Files that can be read from a place on. -/
def RdF (w : World) (b o : Nat) (fs : List Pl.File) : Prop :=
  ∀ i (h : i < fs.length), w.cell? ⟨b, o + i * 3, none⟩ = some (strV fs[i].path) ∧ w.cell? ⟨b, o + i * 3 + 1, none⟩ = some (strV fs[i].text) ∧ w.cell? ⟨b, o + i * 3 + 2, none⟩ = some (.int .i64 fs[i].time)
theorem RdF.below {w w' : World} {b o n : Nat} {fs : List Pl.File} (h : RdF w b o fs) (hb : Below n w w') (hn : b < n) : RdF w' b o fs := fun i hi =>
  ⟨(hb.cell (p := ⟨b, _, none⟩) hn).trans (h i hi).1, (hb.cell (p := ⟨b, _, none⟩) hn).trans (h i hi).2.1, (hb.cell (p := ⟨b, _, none⟩) hn).trans (h i hi).2.2⟩
end Go.Proofs.YtjelacjggijmfaaGreatDoor

namespace Go.Proofs.YtjelacjggijmfaaGreatDoor
open Go.RowKit

end Go.Proofs.YtjelacjggijmfaaGreatDoor

namespace Go.Proofs.YtjelacjggijmfaaGreatDoor
open Go.RowKit

theorem owns_set {w : World} {B e size n cap g : Nat} {xs : List Value} (h : w.ownsRow B e size (.slice (some ⟨g, 0, none⟩) n cap) n xs) (j : Nat) (u : Value) :
    (w.setCell ⟨g, j, none⟩ u).ownsRow B e size (.slice (some ⟨g, 0, none⟩) n cap) n (xs.set j u) := by
  have h0 := h.1
  rcases h.2 with ⟨h1, h2⟩ | ⟨g', cap', cur, h1, h2, h3, h4, h5, h6, h7⟩
  · cases h1
  · simp only [Value.slice.injEq, Option.some.injEq, Addr.mk.injEq, and_true, true_and] at h1
    obtain ⟨rfl, rfl⟩ := h1
    refine ⟨by simpa using h0, .inr ⟨g, cap, cur.set! j u, rfl, h2, ?_, h4, h5, by simpa using h6, ?_⟩⟩
    · simp [World.setCell, Array.getElem?_modify, h3]
    · rw [← h7]
      simp [List.take_set]
theorem owns_other {w : World} {B e size n : Nat} {v : Value} {xs : List Value} (h : w.ownsRow B e size v n xs) {c : Nat} (hc : some c ≠ v.ownBlock) (j : Nat) (u : Value) : (w.setCell ⟨c, j, none⟩ u).ownsRow B e size v n xs :=
  h.kept (row := some c) ⟨rfl, rfl, rfl, by simp [World.setCell], fun k _ hk => Below.heap_setCell w ⟨c, j, none⟩ u k (fun e => hk (by rw [show k = c from e]))⟩ (.inr (fun e => hc e.symm))
/-- Files of the call's own. -/
def Fls (w : World) (B : Nat) (v : Value) (fs : List Pl.File) : Prop := w.ownsRow B 89 3 v fs.length (filesC fs)
/-- Two rows of memory whose elements are of two types lie apart. -/
theorem apart {w : World} {B e f a b n m : Nat} {v u : Value} {xs ys : List Value} (h1 : w.ownsRow B e a v n xs) (h2 : w.ownsRow B f b u m ys) (hef : e ≠ f) : v.ownBlock = none ∨ v.ownBlock ≠ u.ownBlock := by
  rcases h1.2 with ⟨rfl, _⟩ | ⟨g, cap, cur, rfl, _, h3, _⟩
  · exact .inl rfl
  · right
    rcases h2.2 with ⟨rfl, _⟩ | ⟨g', cap', cur', rfl, _, h3', _⟩
    · simp [Value.ownBlock]
    · intro e1
      have : g = g' := by simpa [Value.ownBlock] using e1
      subst this
      rw [h3] at h3'
      cases h3'; exact hef rfl
/-- Effects that can be read from a place on: their memory lies below a bound. -/
structure RdEff (w : World) (L b o : Nat) (e : Pl.Eff) : Prop where
  cmd : w.cell? ⟨b, o, none⟩ = some (strV e.cmd)
  exit : w.cell? ⟨b, o + 2, none⟩ = some (.int .i64 e.exit)
  writes : ∃ aw cw bw ow, w.cell? ⟨b, o + 1, none⟩ = some (.slice aw e.writes.length cw) ∧ (0 < e.writes.length → aw = some ⟨bw, ow, none⟩) ∧ RdF w bw ow e.writes ∧ bw < L
def RdE (w : World) (L b o : Nat) (ef : List Pl.Eff) : Prop := b < L ∧ ∀ i (h : i < ef.length), RdEff w L b (o + i * 3) ef[i]
theorem RdEff.below {w w' : World} {L b o : Nat} {e : Pl.Eff} (h : RdEff w L b o e) (hb : Below L w w') (hl : b < L) : RdEff w' L b o e := by
  obtain ⟨h1, h2, aw, cw, bw, ow, h3, h4, h5, h6⟩ := h
  exact ⟨(hb.cell (p := ⟨b, _, none⟩) hl).trans h1, (hb.cell (p := ⟨b, _, none⟩) hl).trans h2, aw, cw, bw, ow, (hb.cell (p := ⟨b, _, none⟩) hl).trans h3, h4, h5.below hb h6, h6⟩
theorem RdE.below {w w' : World} {L b o : Nat} {ef : List Pl.Eff} (h : RdE w L b o ef) (hb : Below L w w') : RdE w' L b o ef := ⟨h.1, fun i hi => (h.2 i hi).below hb h.1⟩
/-- The document's own world: the cells behind a pointer to it. B: from there on lies what the call has made. -/
structure RW (w : World) (B bx : Nat) (ve vf vc : Value) (X : Pl.Wd) : Prop where
  row : Row w bx 99 [vf, .int .i64 X.clock, ve, vc, .int .i64 X.exit]
  files : Fls w B vf X.files
  cmds : Strs w B vc X.cmds
  lt : bx < B
end Go.Proofs.YtjelacjggijmfaaGreatDoor

namespace Go.Proofs.YtjelacjggijmfaaGreatDoor
open Go.RowKit

end Go.Proofs.YtjelacjggijmfaaGreatDoor

namespace Go.Proofs.YtjelacjggijmfaaGreatDoor
open Go.RowKit

theorem cells_new (w : World) (t : TypeId) (vs : List Value) (j : Nat) (u : Value) (h : vs[j]? = some u) : (w.alloc (.cells vs.toArray t)).cell? ((⟨w.heap.size, 0, none⟩ : Addr).add j) = some u := by
  obtain ⟨hj, rfl⟩ := List.getElem?_eq_some_iff.1 h
  have := (Row.new w t vs).cell j hj
  have e : (⟨w.heap.size, 0, none⟩ : Addr).add j = ⟨w.heap.size, j, none⟩ := by unfold Addr.add; split <;> simp_all
  rw [e]; exact this
theorem add_files (fs : List Pl.File) (k : Nat) (h : k < fs.length) : (fs.take (k + 1)).foldl Pl.addF [] = Pl.addF ((fs.take k).foldl Pl.addF []) fs[k] := by
  rw [List.take_succ_eq_append_getElem h, List.foldl_append]; rfl
theorem add_len (fs : List Pl.File) : ∀ (acc : List Pl.File), (fs.foldl Pl.addF acc).length ≤ acc.length + fs.length := by
  induction fs with
  | nil => intro acc; simp
  | cons f r ih =>
    intro acc
    rw [List.foldl_cons]
    have := ih (Pl.addF acc f)
    have h2 : (Pl.addF acc f).length ≤ acc.length + 1 := by unfold Pl.addF; split <;> simp
    simp only [List.length_cons]
    omega
theorem filesC_snoc (fs : List Pl.File) (f : Pl.File) : filesC (fs ++ [f]) = filesC fs ++ fileC f := by unfold filesC; simp
end Go.Proofs.YtjelacjggijmfaaGreatDoor

namespace Go.Proofs.YtjelacjggijmfaaGreatDoor
open Go.RowKit

theorem nodup_le : ∀ (l S : List Pl.Bs), l.Nodup → (∀ p ∈ l, p ∈ S) → l.length ≤ S.length
  | [], _, _, _ => Nat.zero_le _
  | a :: r, S, h, hs => by
    obtain ⟨h1, h2⟩ := List.nodup_cons.1 h
    have ha := hs a (by simp)
    have := nodup_le r (S.erase a) h2 (fun p hp => (List.mem_erase_of_ne (show p ≠ a from fun e => h1 (by rw [← e]; exact hp))).2 (hs p (by simp [hp])))
    rw [List.length_erase_of_mem ha] at this
    have : 0 < S.length := List.length_pos_of_mem ha
    simp only [List.length_cons]
    omega
/-- Files of different names, all of them among S. -/
def Fit (S : List Pl.Bs) (fs : List Pl.File) : Prop := Pl.Uniq fs ∧ ∀ p ∈ fs.map (·.path), p ∈ S
theorem Fit.len {S : List Pl.Bs} {fs : List Pl.File} (h : Fit S fs) : fs.length ≤ S.length := by
  have := nodup_le _ S h.1 h.2
  simpa using this
theorem Fit.put {S : List Pl.Bs} {fs : List Pl.File} {f : Pl.File} (h : Fit S fs) (hf : f.path ∈ S) : Fit S (Pl.putF fs f) := by
  refine ⟨Pl.uniq_put h.1, fun p hp => ?_⟩
  rw [Pl.put_paths] at hp
  split at hp
  · exact h.2 p hp
  · simp only [List.mem_append, List.mem_singleton] at hp
    rcases hp with hp | rfl
    · exact h.2 p hp
    · exact hf
theorem Fit.add {S : List Pl.Bs} {fs : List Pl.File} {f : Pl.File} (h : Fit S fs) (hf : f.path ∈ S) : Fit S (Pl.addF fs f) := by
  refine ⟨Pl.uniq_add h.1, fun p hp => ?_⟩
  unfold Pl.addF at hp
  split at hp
  · exact h.2 p hp
  · simp only [List.map_append, List.map_cons, List.map_nil, List.mem_append, List.mem_singleton] at hp
    rcases hp with hp | rfl
    · exact h.2 p hp
    · exact hf
theorem own_type {w : World} {B e size n : Nat} {v : Value} {xs : List Value} (h : w.ownsRow B e size v n xs) : ∀ k, v.ownBlock = some k → ∃ cur fz, w.heap[k]? = some (.cells cur e fz) := by
  intro k hk
  rcases h.2 with ⟨rfl, _⟩ | ⟨g, cap, cur, rfl, _, h3, _⟩
  · cases hk
  · cases hk; exact ⟨cur, _, h3⟩
end Go.Proofs.YtjelacjggijmfaaGreatDoor

namespace Go.Proofs.YtjelacjggijmfaaGreatDoor
open Go.RowKit

theorem one_one (s : ByteArray) : ∀ u ∈ [Value.string s], u.oneCell' = true := by intro u hu; simp at hu; subst hu; rfl
theorem put_files (t : Int) (fs : List Pl.File) (ws : List Pl.File) (k : Nat) (h : k < ws.length) : (ws.take (k + 1)).foldl (fun acc f => Pl.putF acc (Pl.stamp t f)) fs = Pl.putF ((ws.take k).foldl (fun acc f => Pl.putF acc (Pl.stamp t f)) fs) (Pl.stamp t ws[k]) := by
  rw [List.take_succ_eq_append_getElem h, List.foldl_append]; rfl
theorem Fit.puts {S : List Pl.Bs} (t : Int) : ∀ (ws : List Pl.File) {fs : List Pl.File}, Fit S fs → (∀ f ∈ ws, f.path ∈ S) → Fit S (ws.foldl (fun acc f => Pl.putF acc (Pl.stamp t f)) fs)
  | [], _, h, _ => h
  | f :: r, fs, h, hs => by
    rw [List.foldl_cons]
    exact Fit.puts t r (h.put (hs f (by simp))) (fun g hg => hs g (by simp [hg]))
theorem give_none {ef : List Pl.Eff} {X : Pl.Wd} {c : Pl.Bs} (h : ∀ j (hj : j < ef.length), ef[j].cmd ≠ c) : Pl.giveW ef X c = ⟨X.files, wrap64 (X.clock + 1), X.cmds ++ [c], X.exit⟩ := by
  have : ef.find? (fun e => e.cmd == c) = none := by
    rw [List.find?_eq_none]
    intro x hx
    obtain ⟨j, hj, rfl⟩ := List.getElem_of_mem hx
    simpa using h j hj
  unfold Pl.giveW; rw [this]
theorem give_some {ef : List Pl.Eff} {X : Pl.Wd} {c : Pl.Bs} {k : Nat} (hk : k < ef.length) (h : ∀ j (hj : j < ef.length), j < k → ef[j].cmd ≠ c) (he : ef[k].cmd = c) :
    Pl.giveW ef X c = ⟨ef[k].writes.foldl (fun fs f => Pl.putF fs (Pl.stamp (wrap64 (X.clock + 1)) f)) X.files, wrap64 (X.clock + 1), X.cmds ++ [c], ef[k].exit⟩ := by
  have : ef.find? (fun e => e.cmd == c) = some ef[k] := by
    rw [List.find?_eq_some_iff_getElem]
    exact ⟨by simpa using he, k, hk, rfl, fun j hj => by simpa using h j (by omega) hj⟩
  unfold Pl.giveW; rw [this]
end Go.Proofs.YtjelacjggijmfaaGreatDoor

namespace Go.Proofs.YtjelacjggijmfaaGreatDoor
open Go.RowKit

theorem Tryz.infoAFile : (Tryz.prog.info? 65).map (fun i => (i.zero, i.size, i.bytes)) = some (some (.agg #[.string ⟨#[]⟩, .string ⟨#[]⟩, .int .i64 0]), 3, 40) := by kernel_rfl
/-- A block that holds files. -/
def CR (w : World) (N : Nat) (t : TypeId) (fs : List Pl.File) : Prop := Row w N t (filesC fs)
end Go.Proofs.YtjelacjggijmfaaGreatDoor

namespace Go.Proofs.YtjelacjggijmfaaGreatDoor
open Go.RowKit

end Go.Proofs.YtjelacjggijmfaaGreatDoor

namespace Go.Proofs.YtjelacjggijmfaaGreatDoor
open Go.RowKit

def kept : Pl.Bs := [107, 101, 112, 116]
end Go.Proofs.YtjelacjggijmfaaGreatDoor

namespace Go.Proofs.YtjelacjggijmfaaGreatDoor
open Go.RowKit

/-- Strings that lie in memory. -/
def RdS (w : World) (b o : Nat) (cs : List Pl.Bs) : Prop := ∀ i (h : i < cs.length), w.cell? ⟨b, o + i, none⟩ = some (strV cs[i])
theorem RdS.below {w w' : World} {n b o : Nat} {cs : List Pl.Bs} (h : RdS w b o cs) (hb : Below n w w') (hn : b < n) : RdS w' b o cs := fun i hi => by
  rw [hb.cell (p := ⟨b, o + i, none⟩) hn]; exact h i hi
/-- Two results that were handed over, in boxes of their own. -/
structure Boxed (w : World) (N : Nat) (t : TypeId) (v0 v1 v2 v3 : Value) (W : World) : Prop where
  row : Row W N t [v0, v1, v2, v3]
  below : Below w.heap.size w W
theorem Boxed.cells {w W : World} {N : Nat} {t : TypeId} {v0 v1 v2 v3 : Value} (h : Boxed w N t v0 v1 v2 v3 W) : W.cell? ⟨N, 0, none⟩ = some v0 ∧ W.cell? ⟨N, 1, none⟩ = some v1 ∧ W.cell? ⟨N, 2, none⟩ = some v2 ∧ W.cell? ⟨N, 3, none⟩ = some v3 :=
  ⟨h.row.cell 0 (by simp), h.row.cell 1 (by simp), h.row.cell 2 (by simp), h.row.cell 3 (by simp)⟩
theorem Boxed.drewN {w W : World} {N : Nat} {t : TypeId} {v0 v1 v2 v3 : Value} (h : Boxed w N t v0 v1 v2 v3 W) (n : Nat) : Boxed w N t v0 v1 v2 v3 (W.drewN n) := ⟨h.row.later (Below.drewN (Below.refl _ _) n), Below.drewN h.below n⟩
theorem box_two (w : World) (t u : TypeId) (v0 v1 v2 v3 y0 y1 y2 y3 : Value) : Boxed w w.heap.size t v0 v1 v2 v3 ((w.alloc (.cells #[v0, v1, v2, v3] t)).alloc (.cells #[y0, y1, y2, y3] u)) ∧ Boxed w (w.heap.size + 1) u y0 y1 y2 y3 ((w.alloc (.cells #[v0, v1, v2, v3] t)).alloc (.cells #[y0, y1, y2, y3] u)) := by
  have hb : Below w.heap.size w ((w.alloc (.cells #[v0, v1, v2, v3] t)).alloc (.cells #[y0, y1, y2, y3] u)) := ((Below.refl _ w).alloc (Nat.le_refl _) _).alloc (by rw [World.size_alloc]; omega) _
  refine ⟨⟨(Row.new w t [v0, v1, v2, v3]).later ((Below.refl _ _).alloc (Nat.le_refl _) _), hb⟩, ⟨?_, hb⟩⟩
  have := Row.new (w.alloc (.cells #[v0, v1, v2, v3] t)) u [y0, y1, y2, y3]
  rw [World.size_alloc] at this
  exact this
end Go.Proofs.YtjelacjggijmfaaGreatDoor

namespace Go.Pl

end Go.Pl

namespace Go.Proofs.YtjelacjggijmfaaGreatDoor
open Go.RowKit

def fset (f : Nat → Bool) (i : Nat) : Nat → Bool := fun q => if q = i then true else f q
end Go.Proofs.YtjelacjggijmfaaGreatDoor

namespace Go.Proofs.YtjelacjggijmfaaGreatDoor
open Go.RowKit

theorem own_same {w W : World} {B e size n : Nat} {v : Value} {xs : List Value} (h : w.ownsRow B e size v n xs) (hk : ∀ k, v.ownBlock = some k → W.heap[k]? = w.heap[k]?) : W.ownsRow B e size v n xs := by
  refine ⟨h.1, ?_⟩
  rcases h.2 with h1 | ⟨g, cap, cur, rfl, h2, h3, h4⟩
  · exact .inl h1
  · exact .inr ⟨g, cap, cur, rfl, h2, (hk g rfl).trans h3, h4⟩
/-- A stack of marks: the last but k of them are gone. -/
theorem own_cut {w : World} {B e n cap g : Nat} {xs : List Value} (h : w.ownsRow B e 1 (.slice (some ⟨g, 0, none⟩) n cap) n xs) (m : Nat) (hm : m ≤ n) : w.ownsRow B e 1 (.slice (some ⟨g, 0, none⟩) m cap) m (xs.take m) := by
  have hl := h.1
  refine ⟨by simp; omega, .inr ?_⟩
  rcases h.2 with ⟨h1, _⟩ | ⟨g', cap', cur, h1, h2, h3, h4, h5, h6, h7⟩
  · cases h1
  · cases h1
    refine ⟨g, cap, cur, rfl, h2, h3, by omega, h5, h6, ?_⟩
    rw [← h7, List.take_take]
    congr 1
    omega
section
variable {w : World} {pb xb ob : Nat} {ap : Option Addr} {cp : Nat} {c : Pl.Bs} {ss : List Pl.Bs} {ve vf vc vs : Value} {st : List Bool} {fl : Nat → Bool} {X : Pl.Wd} {W Z : World}
theorem rds_same {b o : Nat} {cs : List Pl.Bs} (h : RdS W b o cs) (hk : 0 < cs.length → Z.heap[b]? = W.heap[b]?) : RdS Z b o cs := fun i hi => by
  rw [World.cell?_of_block (a := ⟨b, o + i, none⟩) (hk (by omega))]; exact h i hi
end
end Go.Proofs.YtjelacjggijmfaaGreatDoor

namespace Go.Proofs.YtjelacjggijmfaaGreatDoor
open Go.RowKit

theorem ins_len (f : Pl.File) : ∀ acc : List Pl.File, (Pl.insF f acc).length = acc.length + 1
  | [] => rfl
  | g :: r => by
    unfold Pl.insF
    split
    · rfl
    · simp [ins_len f r]
theorem sort_len_aux : ∀ (fs acc : List Pl.File), (fs.foldl (fun acc f => Pl.insF f acc) acc).length = acc.length + fs.length
  | [], _ => rfl
  | f :: r, acc => by rw [List.foldl_cons, sort_len_aux r, ins_len]; simp; omega
theorem sort_len (fs : List Pl.File) : (Pl.sortF fs).length = fs.length := by unfold Pl.sortF; rw [sort_len_aux]; simp
end Go.Proofs.YtjelacjggijmfaaGreatDoor

namespace Go.Proofs.YtjelacjggijmfaaGreatDoor
open Go.RowKit

theorem file_one (f : Pl.File) : ∀ u ∈ fileC f, u.oneCell' = true := by
  intro u hu
  simp [fileC, strV] at hu
  rcases hu with rfl | rfl | rfl <;> rfl
end Go.Proofs.YtjelacjggijmfaaGreatDoor

namespace Go.Proofs.YtjelacjggijmfaaGreatDoor
open Go.RowKit

theorem Tryz.infoBool : (Tryz.prog.info? 4).map (fun i => (i.zero, i.size, i.bytes)) = some (some (.bool false), 1, 1) := by kernel_rfl
end Go.Proofs.YtjelacjggijmfaaGreatDoor

namespace Go.Proofs.YtjelacjggijmfaaGreatDoor
open Go.RowKit

end Go.Proofs.YtjelacjggijmfaaGreatDoor

namespace Go.Proofs.YtjelacjggijmfaaGreatDoor
open Go.RowKit

def zRes : Value := .agg #[.slice none 0 0, .slice none 0 0, .int .i64 0, .int .i64 0]
end Go.Proofs.YtjelacjggijmfaaGreatDoor

namespace Go.Proofs.YtjelacjggijmfaaGreatDoor
open Go.RowKit

theorem Fit.adds {S : List Pl.Bs} : ∀ (ws : List Pl.File) {fs : List Pl.File}, Fit S fs → (∀ f ∈ ws, f.path ∈ S) → Fit S (ws.foldl Pl.addF fs)
  | [], _, h, _ => h
  | f :: r, fs, h, hs => by
    rw [List.foldl_cons]
    exact Fit.adds r (h.add (hs f (by simp))) (fun g hg => hs g (by simp [hg]))
theorem own_mono {w : World} {B B' e size n : Nat} {v : Value} {xs : List Value} (h : w.ownsRow B e size v n xs) (hB : B' ≤ B) : w.ownsRow B' e size v n xs := by
  refine ⟨h.1, ?_⟩
  rcases h.2 with h1 | ⟨g, cap, cur, h1, h2, h3⟩
  · exact .inl h1
  · exact .inr ⟨g, cap, cur, h1, by omega, h3⟩
theorem own_shape {w : World} {B e size n : Nat} {v : Value} {xs : List Value} (h : w.ownsRow B e size v n xs) : ∃ a cap, v = .slice a n cap := by
  rcases h.2 with ⟨h1, h2⟩ | ⟨g, cap, cur, h1, _⟩
  · exact ⟨none, 0, by rw [h1, h2]⟩
  · exact ⟨_, cap, h1⟩
end Go.Proofs.YtjelacjggijmfaaGreatDoor

namespace Go.Proofs.YtjelacjggijmfaaGreatDoor
open Go.RowKit

theorem own_cell {w : World} {B e n g cap : Nat} {xs : List Value} (h : w.ownsRow B e 1 (.slice (some ⟨g, 0, none⟩) n cap) n xs) (i : Nat) (hi : i < xs.length) : w.cell? ⟨g, i, none⟩ = some xs[i] := by
  have hl := h.1
  rcases h.2 with ⟨h1, _⟩ | ⟨g', cap', cur, h1, h2, h3, h4, h5, h6, h7⟩
  · cases h1
  · cases h1
    have hs : cur[i]? = some xs[i] := by
      have : (cur.toList.take (n * 1))[i]? = some xs[i] := by rw [h7]; simp [hi]
      rw [List.getElem?_take_of_lt (by omega)] at this
      simpa using this
    simp [World.cell?, h3, hs]
theorem wrap_small {x : Int} (h0 : 0 ≤ x) (h1 : x ≤ 4611686018427387904) : IntKind.i64.wrap x = x := by
  simp [IntKind.wrap, IntKind.bits, IntKind.signed]
  omega
theorem addr_add0 (g j : Nat) : (⟨g, 0, none⟩ : Addr).add j = ⟨g, j, none⟩ := by unfold Addr.add; split <;> simp_all
theorem own_cap {w : World} {B e n g cap : Nat} {xs : List Value} (h : w.ownsRow B e 1 (.slice (some ⟨g, 0, none⟩) n cap) n xs) : n ≤ cap := by
  rcases h.2 with ⟨h1, _⟩ | ⟨g', cap', cur, h1, h2, h3, h4, h5, h6, h7⟩
  · cases h1
  · cases h1; omega
end Go.Proofs.YtjelacjggijmfaaGreatDoor
namespace Go.Proofs.YtjelacjggijmfaaGreatDoor
open Go.RowKit Go.MapKept Go.ChangeMaps Go.Maps

def fileV (f : Pl.File) : Value := .agg #[.string ⟨f.path.toArray⟩, .string ⟨f.text.toArray⟩, .int .i64 f.time]
def fEnts (fs : List Pl.File) : Ents := fs.map (fun f => (f.path, fileV f))
theorem mget_f (fs : List Pl.File) (p : Pl.Bs) : mget (fEnts fs) p = (Pl.look fs p).map fileV := by
  unfold mget fEnts Pl.look
  rw [List.find?_map, show ((fun x : Pl.Bs × Value => x.1 == p) ∘ fun f : Pl.File => (f.path, fileV f)) = (fun f => f.path == p) from rfl]
  cases fs.find? (fun f => f.path == p) with
  | none => rfl
  | some f => rfl
theorem mput_f (fs : List Pl.File) (f : Pl.File) : mput (fEnts fs) f.path (fileV f) = fEnts (Pl.putF fs f) := by
  induction fs with
  | nil => rfl
  | cons g r ih =>
    unfold Pl.putF
    show mput ((g.path, fileV g) :: fEnts r) f.path (fileV f) = _
    rw [mput]
    by_cases h : g.path == f.path
    · rw [if_pos h, if_pos h]; rfl
    · rw [if_neg h, if_neg h, ih]; rfl
theorem put_new {fs : List Pl.File} {f : Pl.File} (h : Pl.look fs f.path = none) : Pl.putF fs f = fs ++ [f] := by
  induction fs with
  | nil => rfl
  | cons g r ih =>
    rw [Pl.look_none] at h
    simp only [List.map_cons, List.mem_cons, not_or] at h
    have hg : ¬ (g.path == f.path) = true := by simpa using fun e => h.1 e.symm
    rw [Pl.putF, if_neg hg, ih (Pl.look_none.2 h.2)]
    rfl
theorem add_old {fs : List Pl.File} {f g : Pl.File} (h : Pl.look fs f.path = some g) : Pl.addF fs f = fs := by unfold Pl.addF; rw [h]; rfl
theorem add_new {fs : List Pl.File} {f : Pl.File} (h : Pl.look fs f.path = none) : Pl.addF fs f = Pl.putF fs f := by rw [put_new h]; unfold Pl.addF; rw [h]; rfl
theorem zeroFile (w : World) : (zeroValue 65).run Tryz.prog w = .ok (.agg #[.string ⟨#[]⟩, .string ⟨#[]⟩, .int .i64 0]) w := by kernel_rfl
theorem turned_below {w w' : World} {B b : Nat} (h : w.mapTurned w' b) (hB : B ≤ b) : Below B w w' := by
  have hg := h.grown
  exact ⟨hg.os, hg.tape, hg.output, hg.size, fun k hk => by
    by_cases hs : k < w.heap.size
    · exact hg.block k hs (fun e => by cases e; omega)
    · obtain ⟨es, clock, es', clock', h1, rfl⟩ := h
      have : (setBlock w b (.map es' clock')).heap.size = w.heap.size := by simp [setBlock]
      rw [Array.getElem?_eq_none (by omega), Array.getElem?_eq_none (by omega)]⟩
set_option maxHeartbeats 2000000 in
set_option maxRecDepth 20000 in
theorem firstFiles_any (fs : List Pl.File) (a : Option Addr) (cap b o : Nat) (w : World) (ha : 0 < fs.length → a = some ⟨b, o, none⟩) (hr : RdF w b o fs) (hbw : b < w.heap.size) (hl : fs.length ≤ 8388608) :
    Calls Tryz.prog 85 #[.slice a fs.length cap] w fun e w' => e = .returned (.map (some w.heap.size)) ∧ SMap w' w.heap.size (fEnts (fs.foldl Pl.addF [])) ∧ Below w.heap.size w w' := by
  have HR := hide hr
  have HAA := hide ha
  have HS0 := hide (SMap.made w)
  have HB0 := hide ((Below.refl _ w).alloc (Nat.le_refl _) (.map #[] 0))
  have hmm := @run_makeMap Tryz.prog
  clear hr ha
  go_enter Tryz.func85, Tryz.ntmps85
  go_wp2_with fail
  go_loopw [11] (fun i wr => ∃ k : Nat, i = .int .i64 k ∧ k ≤ fs.length ∧ Hid (SMap wr w.heap.size (fEnts ((fs.take k).foldl Pl.addF []))) ∧ Hid (Below w.heap.size w wr)) (fun i _ => fs.length - intN i)
  case atStart => exact ⟨0, rfl, Nat.zero_le _, HS0, HB0⟩
  case round =>
    clear HS0 HB0
    obtain ⟨k, rfl, hkl, HS, HB⟩ := hrel
    by_cases hk : k < fs.length
    · obtain rfl := unhide HAA (by omega)
      have hrd := (unhide HR).below (unhide HB) hbw
      obtain ⟨p0, p1, p2⟩ := hrd k hk
      have HAD := hide (add_files fs k hk)
      have hacc : ((fs.take k).foldl Pl.addF []).length ≤ 8388608 := by have := add_len (fs.take k) []; simp at this; omega
      have hlt := (unhide HS).lt
      generalize hfk : fs[k] = fk at *
      generalize (fs.take k).foldl Pl.addF [] = acc at *
      unfold strV at p0 p1
      have t1 : (k : Int) < (fs.length : Int) := by omega
      have HF1 : Hid (∀ o : Obj, SMap (wr.alloc o) w.heap.size (fEnts acc)) := fun o => (unhide HS).later ((Below.refl _ wr).alloc (Nat.le_refl _) o)
      have HF2 : Hid (∀ o q : Obj, SMap ((wr.alloc o).alloc q) w.heap.size (fEnts acc)) := fun o q => (unhide HF1 o).later ((Below.refl _ _).alloc (Nat.le_refl _) q)
      have HB2 : Hid (∀ o q : Obj, Below w.heap.size w ((wr.alloc o).alloc q)) := fun o q => ((unhide HB).alloc (by omega) o).alloc (by rw [World.size_alloc]; omega) q
      have hfl : (fEnts acc).length ≤ 8388608 := by unfold fEnts; rw [List.length_map]; exact hacc
      clear hrd hfk hmm
      cases hlk : Pl.look acc fk.path with
      | some g =>
        have hmg : mget (fEnts acc) fk.path = some (fileV g) := by rw [mget_f, hlk]; rfl
        have HNX : Hid ((fs.take (k + 1)).foldl Pl.addF [] = acc) := by show _ = _; rw [unhide HAD, add_old hlk]
        have HMG := hide hmg
        clear hlk HAD hmg
        as_aux_lemma =>
          go_wp2_with (first
            | (at_lookup; refine wpList_look_ok_yes _ rfl _ _ 177 rfl 9 65 Tryz.underlying177 Tryz.underlying9 _ (zeroFile _) w.heap.size (fEnts acc) rfl (unhide HF1 _) fk.path rfl (fileV g) (unhide HMG) ?_; unfold fileV)
            | fail)
          go_roundw
          case rel => exact ⟨k + 1, by go_num, by omega, by rw [unhide HNX]; exact unhide HF2 _ _, unhide HB2 _ _⟩
          case measure => simp only [intN]; omega
      | none =>
        have hmg : mget (fEnts acc) fk.path = none := by rw [mget_f, hlk]; rfl
        have HNX : Hid (fEnts ((fs.take (k + 1)).foldl Pl.addF []) = mput (fEnts acc) fk.path (fileV fk)) := by show _ = _; rw [unhide HAD, add_new hlk, mput_f]
        have HMG := hide hmg
        clear hlk HAD hmg
        as_aux_lemma =>
          go_wp2_with (first
            | (at_lookup; refine wpList_look_ok_no _ rfl _ _ 177 rfl 9 65 Tryz.underlying177 Tryz.underlying9 _ (zeroFile _) w.heap.size (fEnts acc) rfl (unhide HF1 _) fk.path rfl (unhide HMG) ?_)
            | (refine wpList_put_s _ rfl _ _ _ 177 rfl 9 65 Tryz.underlying177 Tryz.underlying9 w.heap.size (fEnts acc) rfl (unhide HF2 _ _) (by unfold maxLen; omega) fk.path rfl (fileV fk) rfl ?_; intro w1 hs1 ht1; have HS1 := hide hs1; have HT1 := hide ((unhide HB2 _ _).trans (turned_below ht1 (Nat.le_refl _))); clear hs1 ht1)
            | fail)
          go_roundw
          case rel => exact ⟨k + 1, by go_num, by omega, by rw [unhide HNX]; exact unhide HS1, HT1⟩
          case measure => simp only [intN]; omega
    · have hke : fs.take k = fs := List.take_of_length_le (by omega)
      rw [hke] at HS
      clear hke hmm
      go_wp2_with fail
      go_ret
      exact ⟨rfl, unhide HS, unhide HB⟩
end Go.Proofs.YtjelacjggijmfaaGreatDoor
