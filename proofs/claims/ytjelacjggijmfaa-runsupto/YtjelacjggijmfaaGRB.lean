/-
  Files in memory.
  The document's own answer: where a file lies in a list.
  The document's own world in memory.
-/
import Derived.Test.YtjelacjggijmfaaGSPure
import Derived.Test.YtjelacjggijmfaaGSR3
namespace Go.Proofs.Ytjelacjggijmfaa
open Go.RowKit

def fileC (f : Pl.File) : List Value := [strV f.path, strV f.text, .int .i64 f.time]
def filesC (fs : List Pl.File) : List Value := fs.flatMap fileC
theorem filesC_length (fs : List Pl.File) : (filesC fs).length = fs.length * 3 := by
  induction fs with
  | nil => rfl
  | cons f r ih => unfold filesC at *; rw [List.flatMap_cons, List.length_append, ih, List.length_cons]; simp [fileC]; omega
theorem filesC_get (fs : List Pl.File) : ∀ (i : Nat) (h : i < fs.length), (filesC fs)[i * 3]? = some (strV fs[i].path) ∧ (filesC fs)[i * 3 + 1]? = some (strV fs[i].text) ∧ (filesC fs)[i * 3 + 2]? = some (.int .i64 fs[i].time) := by
  induction fs with
  | nil => intro i h; simp at h
  | cons f r ih =>
    intro i h
    unfold filesC
    rw [List.flatMap_cons]
    cases i with
    | zero => simp [fileC]
    | succ i =>
      have := ih i (by simpa using h)
      unfold filesC at this
      have hl : (fileC f).length = 3 := rfl
      rw [List.getElem?_append_right (by omega), List.getElem?_append_right (by omega), List.getElem?_append_right (by omega), hl]
      rw [show (i + 1) * 3 - 3 = i * 3 from by omega, show (i + 1) * 3 + 1 - 3 = i * 3 + 1 from by omega, show (i + 1) * 3 + 2 - 3 = i * 3 + 2 from by omega]
      exact this
/-- Files that can be read from a place on. -/
def RdF (w : World) (b o : Nat) (fs : List Pl.File) : Prop :=
  ∀ i (h : i < fs.length), w.cell? ⟨b, o + i * 3, none⟩ = some (strV fs[i].path) ∧ w.cell? ⟨b, o + i * 3 + 1, none⟩ = some (strV fs[i].text) ∧ w.cell? ⟨b, o + i * 3 + 2, none⟩ = some (.int .i64 fs[i].time)
theorem RdF.below {w w' : World} {b o n : Nat} {fs : List Pl.File} (h : RdF w b o fs) (hb : Below n w w') (hn : b < n) : RdF w' b o fs := fun i hi =>
  ⟨(hb.cell (p := ⟨b, _, none⟩) hn).trans (h i hi).1, (hb.cell (p := ⟨b, _, none⟩) hn).trans (h i hi).2.1, (hb.cell (p := ⟨b, _, none⟩) hn).trans (h i hi).2.2⟩
def at? (fs : List Pl.File) (p : Pl.Bs) : Option Nat := fs.findIdx? (fun f => f.path == p)
def idxI (fs : List Pl.File) (p : Pl.Bs) : Int := match at? fs p with
  | some k => k
  | none => -1
theorem idx_here {fs : List Pl.File} {p : Pl.Bs} {k : Nat} (hk : k < fs.length) (hn : ∀ j (h : j < k), fs[j].path ≠ p) (he : fs[k].path = p) : idxI fs p = k := by
  have : at? fs p = some k := by
    unfold at?
    rw [List.findIdx?_eq_some_iff_getElem]
    exact ⟨hk, by simpa using he, fun j hj => by simpa using hn j hj⟩
  unfold idxI; rw [this]
theorem idx_not {fs : List Pl.File} {p : Pl.Bs} (hn : ∀ j (h : j < fs.length), fs[j].path ≠ p) : idxI fs p = -1 := by
  have : at? fs p = none := by
    unfold at?
    rw [List.findIdx?_eq_none_iff]
    intro x hx
    obtain ⟨j, hj, rfl⟩ := List.getElem_of_mem hx
    simpa using hn j hj
  unfold idxI; rw [this]
end Go.Proofs.Ytjelacjggijmfaa
namespace Go.Proofs.Ytjelacjggijmfaa
open Go.RowKit

set_option maxHeartbeats 1000000 in
set_option maxRecDepth 20000 in
theorem refFile_any (fs : List Pl.File) (nm : Pl.Bs) (a : Option Addr) (cap b o : Nat) (w : World) (ha : 0 < fs.length → a = some ⟨b, o, none⟩) (hr : RdF w b o fs) (hl : fs.length ≤ 2097152) :
    Calls Try.prog 25 #[.slice a fs.length cap, strV nm] w fun e w' => e = .returned (.int .i64 (idxI fs nm)) ∧ w = w' := by
  have HR := hide hr
  have HAA := hide ha
  clear hr ha
  unfold strV
  go_enter Try.func25, Try.ntmps25
  go_wp2_with fail
  go_loopw [5] (fun i wr => ∃ k : Nat, i = .int .i64 k ∧ k ≤ fs.length ∧ Hid (∀ j (h : j < fs.length), j < k → fs[j].path ≠ nm) ∧ wr = w) (fun i _ => fs.length - intN i)
  case atStart => exact ⟨0, rfl, Nat.zero_le _, fun j _ h => by omega, rfl⟩
  case round =>
    obtain ⟨k, rfl, hkl, hn, rfl⟩ := hrel
    by_cases hk : k < fs.length
    · obtain rfl := unhide HAA (by omega)
      obtain ⟨c0, -, -⟩ := unhide HR k hk
      unfold strV at c0
      by_cases he : fs[k].path = nm
      · have HE := hide (idx_here hk (fun j hj => unhide hn j (by omega) hj) he)
        have t : (fs[k].path == nm) = true := by simpa using he
        clear he
        go_wp2_with fail
        go_ret
        exact ⟨ret_int (unhide HE).symm, rfl⟩
      · have t : (fs[k].path == nm) = false := by simpa using he
        have HN : Hid (∀ j (h : j < fs.length), j < k + 1 → fs[j].path ≠ nm) := by
          intro j h hj
          by_cases e : j = k
          · subst e; exact he
          · exact unhide hn j h (by omega)
        clear he hn
        go_wp2_with fail
        go_roundw
        case rel => exact ⟨k + 1, by go_num, by omega, HN, trivial⟩
        case measure => simp only [intN]; omega
    · have HE := hide (idx_not (fun j hj => unhide hn j hj (by omega)))
      clear hn
      go_wp2_with fail
      go_ret
      exact ⟨ret_int (unhide HE).symm, rfl⟩
end Go.Proofs.Ytjelacjggijmfaa
namespace Go.Proofs.Ytjelacjggijmfaa
open Go.RowKit

theorem owns_set {w : World} {B e size n cap g : Nat} {xs : List Value} (h : w.ownsRow B e size (.slice (some ⟨g, 0, none⟩) n cap) n xs) (j : Nat) (u : Value) :
    (w.setCell ⟨g, j, none⟩ u).ownsRow B e size (.slice (some ⟨g, 0, none⟩) n cap) n (xs.set j u) := by
  have h0 := h.1
  rcases h.2 with ⟨h1, h2⟩ | ⟨g', cap', cur, h1, h2, h3, h4, h5, h6, h7⟩
  · cases h1
  · simp only [Value.slice.injEq, Option.some.injEq, Addr.mk.injEq, and_true, true_and] at h1
    obtain ⟨rfl, rfl⟩ := h1
    refine ⟨by simpa using h0, .inr ⟨g, cap, cur.set! j u, rfl, h2, ?_, h4, h5, by simpa using h6, ?_⟩⟩
    · simp [World.setCell, Array.getElem?_modify, h3]
    · rw [← h7]
      simp [List.take_set]
theorem owns_other {w : World} {B e size n : Nat} {v : Value} {xs : List Value} (h : w.ownsRow B e size v n xs) {c : Nat} (hc : some c ≠ v.ownBlock) (j : Nat) (u : Value) : (w.setCell ⟨c, j, none⟩ u).ownsRow B e size v n xs :=
  h.kept (row := some c) ⟨rfl, rfl, rfl, by simp [World.setCell], fun k _ hk => Below.heap_setCell w ⟨c, j, none⟩ u k (fun e => hk (by rw [show k = c from e]))⟩ (.inr (fun e => hc e.symm))
/-- Files of the call's own. -/
def Fls (w : World) (B : Nat) (v : Value) (fs : List Pl.File) : Prop := w.ownsRow B 62 3 v fs.length (filesC fs)
theorem Fls.nil (w : World) (B : Nat) : Fls w B (.slice none 0 0) [] := World.ownsRow_nil _ _ _ _
theorem Fls.later {w w' : World} {B : Nat} {v : Value} {fs : List Pl.File} (h : Fls w B v fs) (hb : Below w.heap.size w w') : Fls w' B v fs := h.kept (row := none) ⟨hb.os, hb.tape, hb.output, hb.size, fun k hk _ => hb.block k hk⟩ (by cases v.ownBlock <;> simp)
theorem Fls.rd {w : World} {B : Nat} {v : Value} {fs : List Pl.File} (h : Fls w B v fs) : ∃ a cap g, v = .slice a fs.length cap ∧ (0 < fs.length → a = some ⟨g, 0, none⟩) ∧ RdF w g 0 fs ∧ (0 < fs.length → B ≤ g ∧ g < w.heap.size ∧ ∀ j, w.frozen? ⟨g, j, none⟩ = false) := by
  have hcell := fun g hg => World.ownsRow.cells (g := g) h hg
  rcases h.2 with ⟨h1, h2⟩ | ⟨g, cap, cur, h1, h2, h3, h4, h5, h6, h7⟩
  · exact ⟨none, 0, 0, by rw [h1, h2], fun k => by omega, fun i hi => by omega, fun k => by omega⟩
  · refine ⟨_, cap, g, h1, fun _ => rfl, fun i hi => ?_, fun _ => ⟨h2, (Array.getElem?_eq_some_iff.1 h3).1, fun j => by simp [World.frozen?, h3]⟩⟩
    have hg : v.ownBlock = some g := by rw [h1]; rfl
    obtain ⟨k0, k1, k2⟩ := filesC_get fs i hi
    have q0 := hcell g hg _ _ k0
    have q1 := hcell g hg _ _ k1
    have q2 := hcell g hg _ _ k2
    have e : ∀ j, (⟨g, 0, none⟩ : Addr).add j = ⟨g, 0 + j, none⟩ := fun j => by unfold Addr.add; split <;> simp_all
    rw [e] at q0 q1 q2
    exact ⟨q0, q1, q2⟩
theorem filesC_set (fs : List Pl.File) (f : Pl.File) : ∀ (k : Nat) (_ : k < fs.length), (((filesC fs).set (k * 3) (strV f.path)).set (k * 3 + 1) (strV f.text)).set (k * 3 + 2) (.int .i64 f.time) = filesC (fs.set k f) := by
  induction fs with
  | nil => intro k h; simp at h
  | cons g r ih =>
    intro k h
    cases k with
    | zero => simp [filesC, fileC]
    | succ k =>
      have := ih k (by simpa using h)
      unfold filesC at *
      rw [List.set_cons_succ, List.flatMap_cons, List.flatMap_cons]
      have hl : (fileC g).length = 3 := rfl
      rw [List.set_append_right _ _ (by omega), List.set_append_right _ _ (by omega), List.set_append_right _ _ (by omega), hl]
      rw [show (k + 1) * 3 - 3 = k * 3 from by omega, show (k + 1) * 3 + 1 - 3 = k * 3 + 1 from by omega, show (k + 1) * 3 + 2 - 3 = k * 3 + 2 from by omega, this]
theorem Fls.set {w : World} {B cap g : Nat} {fs : List Pl.File} (h : Fls w B (.slice (some ⟨g, 0, none⟩) fs.length cap) fs) (k : Nat) (hk : k < fs.length) (f : Pl.File) :
    Fls (((w.setCell ⟨g, k * 3, none⟩ (strV f.path)).setCell ⟨g, k * 3 + 1, none⟩ (strV f.text)).setCell ⟨g, k * 3 + 2, none⟩ (.int .i64 f.time)) B (.slice (some ⟨g, 0, none⟩) fs.length cap) (fs.set k f) := by
  unfold Fls at *
  have := owns_set (owns_set (owns_set h (k * 3) (strV f.path)) (k * 3 + 1) (strV f.text)) (k * 3 + 2) (.int .i64 f.time)
  rw [filesC_set fs f k hk] at this
  simpa using this
/-- Two rows of memory whose elements are of two types lie apart. -/
theorem apart {w : World} {B e f a b n m : Nat} {v u : Value} {xs ys : List Value} (h1 : w.ownsRow B e a v n xs) (h2 : w.ownsRow B f b u m ys) (hef : e ≠ f) : v.ownBlock = none ∨ v.ownBlock ≠ u.ownBlock := by
  rcases h1.2 with ⟨rfl, _⟩ | ⟨g, cap, cur, rfl, _, h3, _⟩
  · exact .inl rfl
  · right
    rcases h2.2 with ⟨rfl, _⟩ | ⟨g', cap', cur', rfl, _, h3', _⟩
    · simp [Value.ownBlock]
    · intro e1
      have : g = g' := by simpa [Value.ownBlock] using e1
      subst this
      rw [h3] at h3'
      cases h3'; exact hef rfl
/-- Effects that can be read from a place on: their memory lies below a bound. -/
structure RdEff (w : World) (L b o : Nat) (e : Pl.Eff) : Prop where
  cmd : w.cell? ⟨b, o, none⟩ = some (strV e.cmd)
  exit : w.cell? ⟨b, o + 2, none⟩ = some (.int .i64 e.exit)
  writes : ∃ aw cw bw ow, w.cell? ⟨b, o + 1, none⟩ = some (.slice aw e.writes.length cw) ∧ (0 < e.writes.length → aw = some ⟨bw, ow, none⟩) ∧ RdF w bw ow e.writes ∧ bw < L
def RdE (w : World) (L b o : Nat) (ef : List Pl.Eff) : Prop := b < L ∧ ∀ i (h : i < ef.length), RdEff w L b (o + i * 3) ef[i]
theorem RdEff.below {w w' : World} {L b o : Nat} {e : Pl.Eff} (h : RdEff w L b o e) (hb : Below L w w') (hl : b < L) : RdEff w' L b o e := by
  obtain ⟨h1, h2, aw, cw, bw, ow, h3, h4, h5, h6⟩ := h
  exact ⟨(hb.cell (p := ⟨b, _, none⟩) hl).trans h1, (hb.cell (p := ⟨b, _, none⟩) hl).trans h2, aw, cw, bw, ow, (hb.cell (p := ⟨b, _, none⟩) hl).trans h3, h4, h5.below hb h6, h6⟩
theorem RdE.below {w w' : World} {L b o : Nat} {ef : List Pl.Eff} (h : RdE w L b o ef) (hb : Below L w w') : RdE w' L b o ef := ⟨h.1, fun i hi => (h.2 i hi).below hb h.1⟩
/-- The document's own world: the cells behind a pointer to it. B: from there on lies what the call has made. -/
structure RW (w : World) (B bx : Nat) (ve vf vc : Value) (X : Pl.Wd) : Prop where
  row : Row w bx 76 [vf, .int .i64 X.clock, ve, vc, .int .i64 X.exit]
  files : Fls w B vf X.files
  cmds : Strs w B vc X.cmds
  lt : bx < B
theorem RW.later {w w' : World} {B bx : Nat} {ve vf vc : Value} {X : Pl.Wd} (h : RW w B bx ve vf vc X) (hb : Below w.heap.size w w') : RW w' B bx ve vf vc X := ⟨h.row.later hb, h.files.later hb, h.cmds.later hb, h.lt⟩
end Go.Proofs.Ytjelacjggijmfaa
