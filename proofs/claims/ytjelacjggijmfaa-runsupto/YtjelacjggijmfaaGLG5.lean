/-
  The law's own: is a result full of the n-th mark?
  Effects as the program wants them: how they lie in memory.
-/
import Derived.Test.YtjelacjggijmfaaGLG4
import Derived.Deep.RegionWith
namespace Go.Proofs.Ytjelacjggijmfaa
open Go.RowKit

def keptF (n : Nat) : Pl.File := ⟨kept, [], (n : Int)⟩
theorem Boxed.below' {w W W' : World} {N : Nat} {t : TypeId} {v0 v1 v2 v3 : Value} (h : Boxed w N t v0 v1 v2 v3 W) (hb : Below W.heap.size W W') : Boxed w N t v0 v1 v2 v3 W' := ⟨h.row.later hb, h.below.trans (hb.mono h.below.size)⟩
theorem box_one (w : World) (t : TypeId) (v0 v1 v2 v3 : Value) : Boxed w w.heap.size t v0 v1 v2 v3 (w.alloc (.cells #[v0, v1, v2, v3] t)) := ⟨Row.new w t [v0, v1, v2, v3], (Below.refl _ w).alloc (Nat.le_refl _) _⟩
theorem Boxed.drew {w W : World} {N : Nat} {t : TypeId} {v0 v1 v2 v3 : Value} (h : Boxed w N t v0 v1 v2 v3 W) : Boxed w N t v0 v1 v2 v3 W.drew := ⟨h.row, h.below.drew⟩
set_option maxHeartbeats 2000000 in
set_option maxRecDepth 20000 in
theorem marked_any (n : Nat) (hn : n < 3) (nc nf : Nat) (ex ck : Int) (a1 a2 : Option Addr) (k1 k2 b1 b2 o1 o2 : Nat) (w : World)
    (h1 : 0 < nc → a1 = some ⟨b1, o1, none⟩) (h2 : 0 < nf → a2 = some ⟨b2, o2, none⟩)
    (r1 : RdS w b1 o1 (List.replicate nc (markB n))) (r2 : RdF w b2 o2 (List.replicate nf (keptF n)))
    (l1 : 0 < nc → b1 < w.heap.size) (l2 : 0 < nf → b2 < w.heap.size) (hc : nc ≤ 2097152) (hf : nf ≤ 2097152) :
    Calls Try.prog 32 #[.agg #[.slice a1 nc k1, .slice a2 nf k2, .int .i64 ex, .int .i64 ck], .int .i64 n] w fun e w' => e = .returned (.bool true) ∧ Below w.heap.size w w' := by
  have H1 := hide h1
  have H2 := hide h2
  have R1 := hide r1
  have R2 := hide r2
  have L1 := hide l1
  have L2 := hide l2
  have HX := hide (box_one w 41 (.slice a1 nc k1) (.slice a2 nf k2) (.int .i64 ex) (.int .i64 ck))
  have CM := hide (fun W => mark_any n hn W)
  clear h1 h2 r1 r2 l1 l2
  go_enter Try.func32, Try.ntmps32
  go_wp2_with fail
  generalize (w.alloc (.cells #[(.slice a1 nc k1), (.slice a2 nf k2), (.int .i64 ex), (.int .i64 ck)] 41)) = W0 at *
  go_loopw [5] (fun i wr => ∃ k : Nat, i = .int .i64 k ∧ k ≤ nc ∧ Hid (Boxed w w.heap.size 41 (.slice a1 nc k1) (.slice a2 nf k2) (.int .i64 ex) (.int .i64 ck) wr)) (fun i _ => nc - intN i)
  case atStart => exact ⟨0, rfl, Nat.zero_le _, HX⟩
  case round =>
    clear HX
    obtain ⟨k, rfl, hkl, HX⟩ := hrel
    obtain ⟨x0, x1, x2, x3⟩ := (unhide HX).cells
    by_cases hk : k < nc
    · obtain rfl := unhide H1 (by omega)
      have p := (unhide R1).below (unhide HX).below (unhide L1 (by omega)) k (by simpa using hk)
      rw [List.getElem_replicate] at p
      have HP : Hid (∀ W', Below wr.heap.size wr W' → W'.cell? ⟨b1, o1 + k, none⟩ = some (strV (markB n)) ∧ W'.cell? ⟨w.heap.size, 0, none⟩ = some (.slice (some ⟨b1, o1, none⟩) nc k1) ∧ Hid (Boxed w w.heap.size 41 (.slice (some ⟨b1, o1, none⟩) nc k1) (.slice a2 nf k2) (.int .i64 ex) (.int .i64 ck) W')) := fun W' hb => by
        have hB := (unhide HX).below' hb
        have := (unhide R1).below hB.below (unhide L1 (by omega)) k (by simpa using hk)
        rw [List.getElem_replicate] at this
        exact ⟨this, hB.cells.1, hB⟩
      have t1 : (k : Int) < (nc : Int) := by omega
      generalize markB n = mk at *
      unfold strV at p CM HP
      go_wp2_with fail
      go_region_with (go_at_call 31; refine (unhide CM _).mono ?_; rintro e w1 ⟨rfl, hb1⟩; obtain ⟨y0, y1, HX1⟩ := unhide HP _ ((Below.drew (Below.refl _ wr)).trans (hb1.mono (Nat.le_refl _))))
      all_goals go_wp2_with fail
      all_goals go_roundw
      all_goals first
        | exact ⟨k + 1, by go_num, by omega, HX1⟩
        | (simp only [intN]; omega)
    · have t1 : ¬ (k : Int) < (nc : Int) := by omega
      clear CM
      go_wp2_with fail
      clear x0 x1 x2 x3
      go_loopw [6] (fun i wr => ∃ k : Nat, i = .int .i64 k ∧ k ≤ nf ∧ Hid (Boxed w w.heap.size 41 (.slice a1 nc k1) (.slice a2 nf k2) (.int .i64 ex) (.int .i64 ck) wr)) (fun i _ => nf - intN i)
      case atStart => exact ⟨0, rfl, Nat.zero_le _, HX⟩
      case round =>
        clear HX
        obtain ⟨k', rfl, hkl', HX⟩ := hrel
        obtain ⟨x0, x1, x2, x3⟩ := (unhide HX).cells
        by_cases hk' : k' < nf
        · obtain rfl := unhide H2 (by omega)
          obtain ⟨p0, p1, p2⟩ := (unhide R2).below (unhide HX).below (unhide L2 (by omega)) k' (by simpa using hk')
          rw [List.getElem_replicate] at p0 p1 p2
          unfold strV keptF kept at p0 p1
          unfold keptF at p2
          simp only at p0 p1 p2
          have t2 : (k' : Int) < (nf : Int) := by omega
          go_wp2_with fail
          go_roundw
          case rel => exact ⟨k' + 1, by go_num, by omega, HX⟩
          case measure => simp only [intN]; omega
        · have t2 : ¬ (k' : Int) < (nf : Int) := by omega
          go_wp2_with fail
          go_ret
          exact ⟨rfl, (unhide HX).below⟩
end Go.Proofs.Ytjelacjggijmfaa
namespace Go.Proofs.Ytjelacjggijmfaa
open Go.RowKit

theorem Try.infoAEff : (Try.prog.info? 64).map (fun i => (i.zero, i.size, i.bytes)) = some (some (.agg #[.string ⟨#[]⟩, .slice none 0 0, .int .i64 0]), 3, 48) := by kernel_rfl
/-- An effect as the program wants it: its command, its slice of files, its exit. -/
structure Hd where
  cmd : Pl.Bs
  wr : Value
  exit : Int
def hdC (h : Hd) : List Value := [strV h.cmd, h.wr, .int .i64 h.exit]
def hdsC (hs : List Hd) : List Value := hs.flatMap hdC
def zh : Hd := ⟨[], .slice none 0 0, 0⟩
def spareH : Hd := ⟨callers, .slice none 0 0, 0⟩
theorem hdsC_length (hs : List Hd) : (hdsC hs).length = hs.length * 3 := by
  induction hs with
  | nil => rfl
  | cons f r ih => unfold hdsC at *; rw [List.flatMap_cons, List.length_append, ih, List.length_cons]; simp [hdC]; omega
theorem hdsC_get (hs : List Hd) : ∀ (i : Nat) (h : i < hs.length), (hdsC hs)[i * 3]? = some (strV hs[i].cmd) ∧ (hdsC hs)[i * 3 + 1]? = some hs[i].wr ∧ (hdsC hs)[i * 3 + 2]? = some (.int .i64 hs[i].exit) := by
  induction hs with
  | nil => intro i h; simp at h
  | cons f r ih =>
    intro i h
    unfold hdsC
    rw [List.flatMap_cons]
    cases i with
    | zero => simp [hdC]
    | succ i =>
      have := ih i (by simpa using h)
      unfold hdsC at this
      have hl : (hdC f).length = 3 := rfl
      rw [List.getElem?_append_right (by omega), List.getElem?_append_right (by omega), List.getElem?_append_right (by omega), hl]
      rw [show (i + 1) * 3 - 3 = i * 3 from by omega, show (i + 1) * 3 + 1 - 3 = i * 3 + 1 from by omega, show (i + 1) * 3 + 2 - 3 = i * 3 + 2 from by omega]
      exact this
theorem hdsC_set (hs : List Hd) (f : Hd) : ∀ (k : Nat) (_ : k < hs.length), (((hdsC hs).set (k * 3) (strV f.cmd)).set (k * 3 + 1) f.wr).set (k * 3 + 2) (.int .i64 f.exit) = hdsC (hs.set k f) := by
  induction hs with
  | nil => intro k h; simp at h
  | cons g r ih =>
    intro k h
    cases k with
    | zero => simp [hdsC, hdC]
    | succ k =>
      have := ih k (by simpa using h)
      unfold hdsC at *
      rw [List.set_cons_succ, List.flatMap_cons, List.flatMap_cons]
      have hl : (hdC g).length = 3 := rfl
      rw [List.set_append_right _ _ (by omega), List.set_append_right _ _ (by omega), List.set_append_right _ _ (by omega), hl]
      rw [show (k + 1) * 3 - 3 = k * 3 from by omega, show (k + 1) * 3 + 1 - 3 = k * 3 + 1 from by omega, show (k + 1) * 3 + 2 - 3 = k * 3 + 2 from by omega, this]
theorem made_hds (n : Nat) : madeCells (Value.agg #[.string ⟨#[]⟩, .slice none 0 0, .int .i64 0]).cells (n * 3) = (hdsC (List.replicate n zh)).toArray := by
  have hlen := hdsC_length (List.replicate n zh)
  rw [List.length_replicate] at hlen
  apply Array.ext
  · rw [size_madeCells]; simp [hlen]
  · intro i h1 h2
    rw [size_madeCells] at h1
    have hq : i / 3 < n := by omega
    obtain ⟨k0, k1, k2⟩ := hdsC_get (List.replicate n zh) (i / 3) (by simpa using hq)
    simp only [List.getElem_replicate] at k0 k1 k2
    have hr : i % 3 = 0 ∨ i % 3 = 1 ∨ i % 3 = 2 := by omega
    have hget : ∀ v, (hdsC (List.replicate n zh))[i]? = some v → (hdsC (List.replicate n zh)).toArray[i] = v := fun v hv => by
      simp only [List.getElem_toArray]
      exact (List.getElem?_eq_some_iff.1 hv).2
    have hm : (madeCells (Value.agg #[.string ⟨#[]⟩, .slice none 0 0, .int .i64 0]).cells (n * 3))[i]'(by rw [size_madeCells]; exact h1) = (#[Value.string ⟨#[]⟩, .slice none 0 0, .int .i64 0])[i % 3]! := by
      simp [madeCells, Value.cells]
    rcases hr with hr | hr | hr
    · rw [hget _ (show _ = some (strV zh.cmd) from by rw [← k0]; congr 1; omega)]
      rw [hm, hr]; rfl
    · rw [hget _ (show _ = some zh.wr from by rw [← k1]; congr 1; omega)]
      rw [hm, hr]; rfl
    · rw [hget _ (show _ = some (.int .i64 zh.exit) from by rw [← k2]; congr 1; omega)]
      rw [hm, hr]; rfl
def HR (w : World) (N : Nat) (hs : List Hd) : Prop := Row w N 64 (hdsC hs)
def setH (w : World) (N k : Nat) (h : Hd) : World := ((w.setCell ⟨N, k * 3, none⟩ (strV h.cmd)).setCell ⟨N, k * 3 + 1, none⟩ h.wr).setCell ⟨N, k * 3 + 2, none⟩ (.int .i64 h.exit)
theorem HR.set {w : World} {N : Nat} {hs : List Hd} (h : HR w N hs) (k : Nat) (hk : k < hs.length) (f : Hd) : HR (setH w N k f) N (hs.set k f) := by
  unfold HR setH
  rw [← hdsC_set hs f k hk]
  exact ((Row.set h _ _).set _ _).set _ _
theorem HR.cells {w : World} {N : Nat} {hs : List Hd} (h : HR w N hs) (k : Nat) (hk : k < hs.length) :
    w.cell? ⟨N, k * 3, none⟩ = some (strV hs[k].cmd) ∧ w.cell? ⟨N, k * 3 + 1, none⟩ = some hs[k].wr ∧ w.cell? ⟨N, k * 3 + 2, none⟩ = some (.int .i64 hs[k].exit) := by
  obtain ⟨k0, k1, k2⟩ := hdsC_get hs k hk
  obtain ⟨h0, e0⟩ := List.getElem?_eq_some_iff.1 k0
  obtain ⟨h1, e1⟩ := List.getElem?_eq_some_iff.1 k1
  obtain ⟨h2, e2⟩ := List.getElem?_eq_some_iff.1 k2
  exact ⟨by rw [← e0]; exact Row.cell h _ h0, by rw [← e1]; exact Row.cell h _ h1, by rw [← e2]; exact Row.cell h _ h2⟩
theorem below_setH {w W : World} {N : Nat} (h : Below N w W) (k : Nat) (f : Hd) : Below N w (setH W N k f) :=
  ((h.setCell (p := ⟨N, _, none⟩) (Nat.le_refl _) _).setCell (p := ⟨N, _, none⟩) (Nat.le_refl _) _).setCell (p := ⟨N, _, none⟩) (Nat.le_refl _) _
theorem CR.setH {w : World} {N g k : Nat} {t : TypeId} {fs : List Pl.File} (h : CR w g t fs) (hne : g ≠ N) (f : Hd) : CR (setH w N k f) g t fs := by
  unfold CR Go.Proofs.Ytjelacjggijmfaa.setH
  exact ((Row.other h hne _ _).other hne _ _).other hne _ _
/-- What an effect that was handed in is: its files lie in a block of their own. -/
structure HdOf (W : World) (N : Nat) (ef : List Pl.Eff) (i : Nat) (h : Hd) : Prop where
  one : ∀ hi : i < ef.length, ∃ g, N < g ∧ CR W g 61 (ef[i].writes ++ spareF ef[i].writes.length) ∧ h = ⟨ef[i].cmd, .slice (some ⟨g, 0, none⟩) ef[i].writes.length (ef[i].writes.length + 8), ef[i].exit⟩
  spare : ef.length ≤ i → h = spareH
theorem HdOf.later {W W' : World} {N : Nat} {ef : List Pl.Eff} {i : Nat} {h : Hd} (H : HdOf W N ef i h) (hb : Below W.heap.size W W') : HdOf W' N ef i h :=
  ⟨fun hi => by obtain ⟨g, h1, h2, h3⟩ := H.one hi; exact ⟨g, h1, Row.later h2 hb, h3⟩, H.spare⟩
theorem HdOf.set {W : World} {N k : Nat} {ef : List Pl.Eff} {i : Nat} {h : Hd} (H : HdOf W N ef i h) (f : Hd) : HdOf (setH W N k f) N ef i h :=
  ⟨fun hi => by obtain ⟨g, h1, h2, h3⟩ := H.one hi; exact ⟨g, h1, h2.setH (by omega) f, h3⟩, H.spare⟩
/-- Effects that were handed in, up to the k-th. -/
structure EffM (N : Nat) (ef : List Pl.Eff) (k : Nat) (W : World) : Prop where
  hds : ∃ hs, HR W N hs ∧ hs.length = ef.length + 8 ∧ ∀ i (h : i < hs.length), i < k → HdOf W N ef i hs[i]
theorem EffM.later {N : Nat} {ef : List Pl.Eff} {k : Nat} {W W' : World} (h : EffM N ef k W) (hb : Below W.heap.size W W') : EffM N ef k W' := by
  obtain ⟨hs, h1, h2, h3⟩ := h.hds
  exact ⟨hs, Row.later h1 hb, h2, fun i hi hk => (h3 i hi hk).later hb⟩
theorem EffM.lt {N : Nat} {ef : List Pl.Eff} {k : Nat} {W : World} (h : EffM N ef k W) : N < W.heap.size := by
  obtain ⟨hs, h1, _⟩ := h.hds
  exact Row.lt h1
theorem EffM.pre {N : Nat} {ef : List Pl.Eff} {k : Nat} {W : World} (h : EffM N ef k W) (hk : k < ef.length + 8) (f : Hd) : EffM N ef k (setH W N k f) := by
  obtain ⟨hs, h1, h2, h3⟩ := h.hds
  refine ⟨hs.set k f, h1.set k (by omega) f, by simpa using h2, fun i hi hk' => ?_⟩
  rw [List.getElem_set_ne (by omega)]
  exact (h3 i (by simpa using hi) hk').set f
theorem EffM.step {N : Nat} {ef : List Pl.Eff} {k : Nat} {W : World} (h : EffM N ef k W) (hk : k < ef.length + 8) {f : Hd} (hf : HdOf W N ef k f) : EffM N ef (k + 1) (setH W N k f) := by
  obtain ⟨hs, h1, h2, h3⟩ := h.hds
  refine ⟨hs.set k f, h1.set k (by omega) f, by simpa using h2, fun i hi hk' => ?_⟩
  by_cases e : i = k
  · subst e; rw [List.getElem_set_self]; exact hf.set f
  · rw [List.getElem_set_ne (by omega)]
    exact (h3 i (by simpa using hi) (by omega)).set f
theorem EffM.cells {N : Nat} {ef : List Pl.Eff} {k : Nat} {W : World} (h : EffM N ef k W) (i : Nat) (hi : i < ef.length + 8) :
    (∃ v0 v1 v2, W.cell? ⟨N, i * 3, none⟩ = some v0 ∧ W.cell? ⟨N, i * 3 + 1, none⟩ = some v1 ∧ W.cell? ⟨N, i * 3 + 2, none⟩ = some v2) ∧ ∀ j, W.frozen? ⟨N, j, none⟩ = false := by
  obtain ⟨hs, h1, h2, h3⟩ := h.hds
  exact ⟨⟨_, _, _, h1.cells i (by omega)⟩, fun j => Row.frozen h1 j⟩
theorem EffM.first (w : World) (ef : List Pl.Eff) : EffM w.heap.size ef 0 (w.alloc (.cells (hdsC (List.replicate (ef.length + 8) zh)).toArray 64)) :=
  ⟨_, Row.new w 64 _, by simp, fun i _ h => by omega⟩
end Go.Proofs.Ytjelacjggijmfaa
