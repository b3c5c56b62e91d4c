/-
  The law's own: is it the document's result?
-/
import Derived.Test.YtjelacjggijmfaaGLG3
import Derived.Deep.Cut
namespace Go.Proofs.Ytjelacjggijmfaa
open Go.RowKit

/-- Strings that lie in memory. -/
def RdS (w : World) (b o : Nat) (cs : List Pl.Bs) : Prop := ∀ i (h : i < cs.length), w.cell? ⟨b, o + i, none⟩ = some (strV cs[i])
theorem RdS.below {w w' : World} {n b o : Nat} {cs : List Pl.Bs} (h : RdS w b o cs) (hb : Below n w w') (hn : b < n) : RdS w' b o cs := fun i hi => by
  rw [hb.cell (p := ⟨b, o + i, none⟩) hn]; exact h i hi
/-- Two results that were handed over, in boxes of their own. -/
structure Boxed (w : World) (N : Nat) (t : TypeId) (v0 v1 v2 v3 : Value) (W : World) : Prop where
  row : Row W N t [v0, v1, v2, v3]
  below : Below w.heap.size w W
theorem Boxed.cells {w W : World} {N : Nat} {t : TypeId} {v0 v1 v2 v3 : Value} (h : Boxed w N t v0 v1 v2 v3 W) : W.cell? ⟨N, 0, none⟩ = some v0 ∧ W.cell? ⟨N, 1, none⟩ = some v1 ∧ W.cell? ⟨N, 2, none⟩ = some v2 ∧ W.cell? ⟨N, 3, none⟩ = some v3 :=
  ⟨h.row.cell 0 (by simp), h.row.cell 1 (by simp), h.row.cell 2 (by simp), h.row.cell 3 (by simp)⟩
theorem Boxed.drewN {w W : World} {N : Nat} {t : TypeId} {v0 v1 v2 v3 : Value} (h : Boxed w N t v0 v1 v2 v3 W) (n : Nat) : Boxed w N t v0 v1 v2 v3 (W.drewN n) := ⟨h.row.later (Below.drewN (Below.refl _ _) n), Below.drewN h.below n⟩
theorem box_two (w : World) (t u : TypeId) (v0 v1 v2 v3 y0 y1 y2 y3 : Value) : Boxed w w.heap.size t v0 v1 v2 v3 ((w.alloc (.cells #[v0, v1, v2, v3] t)).alloc (.cells #[y0, y1, y2, y3] u)) ∧ Boxed w (w.heap.size + 1) u y0 y1 y2 y3 ((w.alloc (.cells #[v0, v1, v2, v3] t)).alloc (.cells #[y0, y1, y2, y3] u)) := by
  have hb : Below w.heap.size w ((w.alloc (.cells #[v0, v1, v2, v3] t)).alloc (.cells #[y0, y1, y2, y3] u)) := ((Below.refl _ w).alloc (Nat.le_refl _) _).alloc (by rw [World.size_alloc]; omega) _
  refine ⟨⟨(Row.new w t [v0, v1, v2, v3]).later ((Below.refl _ _).alloc (Nat.le_refl _) _), hb⟩, ⟨?_, hb⟩⟩
  have := Row.new (w.alloc (.cells #[v0, v1, v2, v3] t)) u [y0, y1, y2, y3]
  rw [World.size_alloc] at this
  exact this
set_option maxHeartbeats 2000000 in
set_option maxRecDepth 20000 in
theorem same_any (cs : List Pl.Bs) (fs : List Pl.File) (ex ck : Int) (a1 a2 a3 a4 : Option Addr) (k1 k2 k3 k4 b1 b2 b3 b4 o1 o2 o3 o4 : Nat) (w : World)
    (h1 : 0 < cs.length → a1 = some ⟨b1, o1, none⟩) (h2 : 0 < fs.length → a2 = some ⟨b2, o2, none⟩) (h3 : 0 < cs.length → a3 = some ⟨b3, o3, none⟩) (h4 : 0 < fs.length → a4 = some ⟨b4, o4, none⟩)
    (r1 : RdS w b1 o1 cs) (r2 : RdF w b2 o2 fs) (r3 : RdS w b3 o3 cs) (r4 : RdF w b4 o4 fs)
    (l1 : 0 < cs.length → b1 < w.heap.size) (l2 : 0 < fs.length → b2 < w.heap.size) (l3 : 0 < cs.length → b3 < w.heap.size) (l4 : 0 < fs.length → b4 < w.heap.size) (hc : cs.length ≤ 1048576) (hf : fs.length ≤ 1048576) :
    Calls Try.prog 13 #[.agg #[.slice a1 cs.length k1, .slice a2 fs.length k2, .int .i64 ex, .int .i64 ck], .agg #[.slice a3 cs.length k3, .slice a4 fs.length k4, .int .i64 ex, .int .i64 ck]] w fun e w' => e = .returned (.bool true) ∧ Below w.heap.size w w' := by
  have H1 := hide h1
  have H2 := hide h2
  have H3 := hide h3
  have H4 := hide h4
  have R1 := hide r1
  have R2 := hide r2
  have R3 := hide r3
  have R4 := hide r4
  have L1 := hide l1
  have L2 := hide l2
  have L3 := hide l3
  have L4 := hide l4
  clear h1 h2 h3 h4 r1 r2 r3 r4 l1 l2 l3 l4
  go_enter Try.func13, Try.ntmps13
  go_wp2_with fail
  obtain ⟨hx, hy⟩ := box_two w 41 45 (.slice a1 cs.length k1) (.slice a2 fs.length k2) (.int .i64 ex) (.int .i64 ck) (.slice a3 cs.length k3) (.slice a4 fs.length k4) (.int .i64 ex) (.int .i64 ck)
  have HX := hide hx
  have HY := hide hy
  clear hx hy
  generalize ((w.alloc (.cells #[(.slice a1 cs.length k1), (.slice a2 fs.length k2), (.int .i64 ex), (.int .i64 ck)] 41)).alloc (.cells #[(.slice a3 cs.length k3), (.slice a4 fs.length k4), (.int .i64 ex), (.int .i64 ck)] 45)) = W0 at *
  go_loopw [5] (fun i wr => ∃ k : Nat, i = .int .i64 k ∧ k ≤ cs.length ∧ Hid (Boxed w w.heap.size 41 (.slice a1 cs.length k1) (.slice a2 fs.length k2) (.int .i64 ex) (.int .i64 ck) wr) ∧ Hid (Boxed w (w.heap.size + 1) 45 (.slice a3 cs.length k3) (.slice a4 fs.length k4) (.int .i64 ex) (.int .i64 ck) wr)) (fun i _ => cs.length - intN i)
  case atStart => exact ⟨0, rfl, Nat.zero_le _, HX, HY⟩
  case round =>
    clear HX HY
    obtain ⟨k, rfl, hkl, HX, HY⟩ := hrel
    obtain ⟨x0, x1, x2, x3⟩ := (unhide HX).cells
    obtain ⟨y0, y1, y2, y3⟩ := (unhide HY).cells
    by_cases hk : k < cs.length
    · obtain rfl := unhide H1 (by omega)
      obtain rfl := unhide H3 (by omega)
      have p := (unhide R1).below (unhide HX).below (unhide L1 (by omega)) k hk
      have q := (unhide R3).below (unhide HX).below (unhide L3 (by omega)) k hk
      generalize cs[k] = ck0 at *
      unfold strV at p q
      have t1 : (k : Int) < (cs.length : Int) := by omega
      go_wp2_with fail
      go_quiet (fail)
      go_wp2_with fail
      go_roundw
      case rel => exact ⟨k + 1, by go_num, by omega, (unhide HX).drewN _, (unhide HY).drewN _⟩
      case measure => simp only [intN]; omega
    · have t1 : ¬ (k : Int) < (cs.length : Int) := by omega
      go_wp2_with fail
      clear x0 x1 x2 x3 y0 y1 y2 y3
      go_loopw [6] (fun i wr => ∃ k : Nat, i = .int .i64 k ∧ k ≤ fs.length ∧ Hid (Boxed w w.heap.size 41 (.slice a1 cs.length k1) (.slice a2 fs.length k2) (.int .i64 ex) (.int .i64 ck) wr) ∧ Hid (Boxed w (w.heap.size + 1) 45 (.slice a3 cs.length k3) (.slice a4 fs.length k4) (.int .i64 ex) (.int .i64 ck) wr)) (fun i _ => fs.length - intN i)
      case atStart => exact ⟨0, rfl, Nat.zero_le _, HX, HY⟩
      case round =>
        clear HX HY
        obtain ⟨k', rfl, hkl', HX, HY⟩ := hrel
        obtain ⟨x0, x1, x2, x3⟩ := (unhide HX).cells
        obtain ⟨y0, y1, y2, y3⟩ := (unhide HY).cells
        by_cases hk' : k' < fs.length
        · obtain rfl := unhide H2 (by omega)
          obtain rfl := unhide H4 (by omega)
          obtain ⟨p0, p1, p2⟩ := (unhide R2).below (unhide HX).below (unhide L2 (by omega)) k' hk'
          obtain ⟨q0, q1, q2⟩ := (unhide R4).below (unhide HX).below (unhide L4 (by omega)) k' hk'
          generalize fs[k'] = fk at *
          unfold strV at p0 p1 q0 q1
          have t2 : (k' : Int) < (fs.length : Int) := by omega
          go_wp2_with fail
          go_quiet (fail)
          go_wp2_with fail
          go_roundw
          case rel => exact ⟨k' + 1, by go_num, by omega, (unhide HX).drewN _, (unhide HY).drewN _⟩
          case measure => simp only [intN]; omega
        · have t2 : ¬ (k' : Int) < (fs.length : Int) := by omega
          go_wp2_with fail
          go_ret
          exact ⟨rfl, (unhide HX).below⟩
end Go.Proofs.Ytjelacjggijmfaa
