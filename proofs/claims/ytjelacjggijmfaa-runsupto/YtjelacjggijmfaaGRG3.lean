/-
  The document's own answer: a plan runs.
  The document's own answer: a plan runs: what lies in memory ahead of the loop.
  Rows of a call's own: their cells; small numbers.
-/
import Derived.Test.YtjelacjggijmfaaGRG2
import Derived.Test.YtjelacjggijmfaaGRF8
import Derived.Test.YtjelacjggijmfaaGSP9
namespace Go.Proofs.Ytjelacjggijmfaa
open Go.RowKit

def zRes : Value := .agg #[.slice none 0 0, .slice none 0 0, .int .i64 0, .int .i64 0]
/-- What Run leaves. -/
structure RunPost (l : Pl.Bs) (fs : List Pl.File) (ef : List Pl.Eff) (clock : Int) (w : World) (e : Ending) (w' : World) : Prop where
  below : Below w.heap.size w w'
  res : (¬ Pl.checkOf l ∧ e = .returned (.tuple #[zRes, .int .i64 9])) ∨
    ∃ ss c vc vr, Pl.load l = some (ss, c) ∧ Pl.checkOf l ∧ e = .returned (.tuple #[.agg #[vc, vr, .int .i64 (Pl.runW c ss ef (Pl.newW fs clock)).exit, .int .i64 (Pl.runW c ss ef (Pl.newW fs clock)).clock], .int .i64 0]) ∧
      Strs w' w.heap.size vc (Pl.runW c ss ef (Pl.newW fs clock)).cmds ∧ Fls w' w.heap.size vr (Pl.sortF (Pl.runW c ss ef (Pl.newW fs clock)).files)
set_option maxHeartbeats 4000000 in
set_option maxRecDepth 20000 in
theorem refRun_no (l : Pl.Bs) (hl : l.length ≤ 1048576) (hno : ¬ Pl.checkOf l) (fs : List Pl.File) (ef : List Pl.Eff) (v1 v2 : Value) (clock : Int) (w : World) :
    Calls Try.prog 12 #[.string ⟨l.toArray⟩, v1, v2, .int .i64 clock] w fun e w' => RunPost l fs ef clock w e w' := by
  have HNO := hide hno
  have CC := hide (fun W => refCheck_any l W hl)
  clear hno
  go_enter Try.func12, Try.ntmps12
  go_wp2_with (first | (go_at_call 7; refine (unhide CC _).mono ?_; rintro e w1 ⟨⟨z, rfl, hz⟩, hb1⟩; obtain ⟨rfl, -⟩ := hz.resolve_left (fun h => unhide HNO h.2); have hr1 := (Row.new w 45 [.slice none 0 0, .slice none 0 0, .int .i64 0, .int .i64 0]).later hb1; have r0 := hr1.cell 0 (by simp); have r1 := hr1.cell 1 (by simp); have r2 := hr1.cell 2 (by simp); have r3 := hr1.cell 3 (by simp); have f0 := hr1.frozen 0; have f1 := hr1.frozen 1; have f2 := hr1.frozen 2; have f3 := hr1.frozen 3; simp only [List.getElem_cons_zero, List.getElem_cons_succ] at r0 r1 r2 r3; have HB1 := hide (((Below.refl _ w).alloc (Nat.le_refl _) (.cells #[.slice none 0 0, .slice none 0 0, .int .i64 0, .int .i64 0] 45)).trans (hb1.mono (by rw [World.size_alloc]; omega))); have HR1 := hide hr1; clear hz hr1 hb1) | fail)
  have hR := ((((unhide HR1).set 0 (.slice none 0 0)).set 1 (.slice none 0 0)).set 2 (.int .i64 0)).set 3 (.int .i64 0)
  have o0 := hR.cell 0 (by simp)
  have o1 := hR.cell 1 (by simp)
  have o2 := hR.cell 2 (by simp)
  have o3 := hR.cell 3 (by simp)
  simp only [List.set_cons_zero, List.set_cons_succ, List.getElem_cons_zero, List.getElem_cons_succ] at o0 o1 o2 o3
  refine bodyPost_ret (v := .tuple #[zRes, .int .i64 9]) ?_ rfl ⟨((((unhide HB1).setCell (p := ⟨w.heap.size, 0, none⟩) (Nat.le_refl _) _).setCell (p := ⟨w.heap.size, 1, none⟩) (Nat.le_refl _) _).setCell (p := ⟨w.heap.size, 2, none⟩) (Nat.le_refl _) _).setCell (p := ⟨w.heap.size, 3, none⟩) (Nat.le_refl _) _, .inl ⟨unhide HNO, rfl⟩⟩
  simp [results, Try.results12, go_sem, o0, o1, o2, o3, zRes]
end Go.Proofs.Ytjelacjggijmfaa
namespace Go.Proofs.Ytjelacjggijmfaa
open Go.RowKit

theorem Strs.rds {w : World} {B : Nat} {v : Value} {ss : List Pl.Bs} (h : Strs w B v ss) : ∃ a cap, v = .slice a ss.length cap ∧ ∃ g, (0 < ss.length → a = some ⟨g, 0, none⟩ ∧ g < w.heap.size) ∧ RdS w g 0 ss := by
  rcases h.2 with ⟨h1, h2⟩ | ⟨g, cap, cur, h1, h2, h3, h4, h5, h6, h7⟩
  · exact ⟨none, 0, by rw [h1, h2], 0, fun hp => by omega, fun i hi => by omega⟩
  · refine ⟨_, cap, h1, g, fun _ => ⟨rfl, (Array.getElem?_eq_some_iff.1 h3).1⟩, fun i hi => ?_⟩
    have hs : cur[i]? = some (strV ss[i]) := by
      have : (cur.toList.take (ss.length * 1))[i]? = some (strV ss[i]) := by rw [h7]; simp [hi]
      rw [List.getElem?_take_of_lt (by omega)] at this
      simpa using this
    simp [World.cell?, h3, hs]
theorem runM_start {w0 w1 w2 w3 : World} {pb : Nat} {vp ve vf vc : Value} {c : Pl.Bs} {ss : List Pl.Bs} {X : Pl.Wd} (hb1 : Below w0.heap.size w0 w1) (hb2 : Below w1.heap.size w1 w2) (hb3 : Below w2.heap.size w2 w3) (hpb : w1.heap.size ≤ pb)
    (hpl : Row w2 pb 74 [vp, .string ⟨c.toArray⟩]) (hst : Strs w2 (pb + 1) vp ss) (hrw : RW w3 (w2.heap.size + 1) w2.heap.size ve vf vc X) :
    ∃ ap cp, vp = .slice ap ss.length cp ∧ RunM w0 pb w2.heap.size w3.heap.size ap cp c ss ve vf vc (.slice none 0 0) [] (fun _ => false) X (w3.alloc (.cells (madeCells #[.bool false] 256) 4)) := by
  obtain ⟨ap, cp, rfl, g, h1, h2⟩ := hst.rds
  have hba : Below w3.heap.size w3 (w3.alloc (.cells (madeCells #[.bool false] 256) 4)) := (Below.refl _ w3).alloc (Nat.le_refl _) _
  have hb4 := hb3.trans (hba.mono hb3.size)
  have s1 := hb1.size
  have s2 := hb2.size
  have s3 := hb3.size
  refine ⟨ap, cp, rfl, hpl.later hb4, ⟨g, h1, rds_same h2 (fun hp => hb4.block g (h1 hp).2)⟩, hrw.later hba, World.ownsRow_nil _ _ _ _, BRow.made w3 255, hb1.trans ((hb2.mono s1).trans (hb4.mono (by omega))), hpl.lt, by omega, hrw.row.lt⟩
theorem Fit.adds {S : List Pl.Bs} : ∀ (ws : List Pl.File) {fs : List Pl.File}, Fit S fs → (∀ f ∈ ws, f.path ∈ S) → Fit S (ws.foldl Pl.addF fs)
  | [], _, h, _ => h
  | f :: r, fs, h, hs => by
    rw [List.foldl_cons]
    exact Fit.adds r (h.add (hs f (by simp))) (fun g hg => hs g (by simp [hg]))
theorem load_code {l : Pl.Bs} {ss : List Pl.Bs} {c : Pl.Bs} (h : Pl.load l = some (ss, c)) : c.length ≤ l.length := by
  unfold Pl.load at h
  split at h
  · have := (Pl.strs_len _ _ _ h).2
    simp only [List.length_drop] at this
    omega
  · cases h
theorem own_mono {w : World} {B B' e size n : Nat} {v : Value} {xs : List Value} (h : w.ownsRow B e size v n xs) (hB : B' ≤ B) : w.ownsRow B' e size v n xs := by
  refine ⟨h.1, ?_⟩
  rcases h.2 with h1 | ⟨g, cap, cur, h1, h2, h3⟩
  · exact .inl h1
  · exact .inr ⟨g, cap, cur, h1, by omega, h3⟩
theorem box_row {w0 wr w5 : World} {pb xb ob : Nat} {ap : Option Addr} {cp : Nat} {c : Pl.Bs} {ss : List Pl.Bs} {ve vf vc vs : Value} {st : List Bool} {fl : Nat → Bool} {X : Pl.Wd} {ts : List Value} {N : Nat}
    (h0 : Row w0 N 45 ts) (hrm : RunM w0 pb xb ob ap cp c ss ve vf vc vs st fl X wr) (hb5 : Below wr.heap.size wr w5) : Row w5 N 45 ts := (h0.later hrm.below).later hb5
theorem runPost_told {l : Pl.Bs} {fs : List Pl.File} {ef : List Pl.Eff} {clock : Int} {w w0 wr w5 : World} {pb xb ob : Nat} {ap : Option Addr} {cp : Nat} {c : Pl.Bs} {ss : List Pl.Bs} {ve vf vc vs vr : Value} {st : List Bool} {fl : Nat → Bool} {X R : Pl.Wd} {ts : List Value}
    (hld : Pl.load l = some (ss, c)) (hy : Pl.checkOf l) (hR : Pl.runW c ss ef (Pl.newW fs clock) = R) (hX : X = R) (h0 : Row w0 w.heap.size 45 ts) (hB0 : Below w.heap.size w w0) (hrm : RunM w0 pb xb ob ap cp c ss ve vf vc vs st fl X wr)
    (hfl : Fls w5 (wr.heap.size + 2) vr (Pl.sortF X.files)) (hb5 : Below wr.heap.size wr w5) :
    RunPost l fs ef clock w (.returned (.tuple #[.agg #[vc, vr, .int .i64 X.exit, .int .i64 X.clock], .int .i64 0])) ((((w5.setCell ⟨w.heap.size, 0, none⟩ vc).setCell ⟨w.heap.size, 1, none⟩ vr).setCell ⟨w.heap.size, 2, none⟩ (.int .i64 X.exit)).setCell ⟨w.heap.size, 3, none⟩ (.int .i64 X.clock)) := by
  subst hX
  have s0 := h0.lt
  have s1 := hrm.below.size
  have s2 := hrm.hw
  have s3 := hrm.hp
  have hcm := hrm.world.cmds.later hb5
  have n1 := own_ne hcm (N := w.heap.size) (by omega)
  have n2 := own_ne hfl (N := w.heap.size) (by omega)
  have hb := hB0.trans ((hrm.below.mono hB0.size).trans (hb5.mono (by omega)))
  refine ⟨(((hb.setCell (p := ⟨w.heap.size, 0, none⟩) (Nat.le_refl _) _).setCell (p := ⟨w.heap.size, 1, none⟩) (Nat.le_refl _) _).setCell (p := ⟨w.heap.size, 2, none⟩) (Nat.le_refl _) _).setCell (p := ⟨w.heap.size, 3, none⟩) (Nat.le_refl _) _, .inr ⟨ss, c, vc, vr, hld, hy, by rw [hR], ?_, ?_⟩⟩
  · rw [hR]; exact own_mono (owns_other (owns_other (owns_other (owns_other hcm n1 _ _) n1 _ _) n1 _ _) n1 _ _) (by omega)
  · rw [hR]; exact own_mono (owns_other (owns_other (owns_other (owns_other hfl n2 _ _) n2 _ _) n2 _ _) n2 _ _) (by omega)
theorem own_shape {w : World} {B e size n : Nat} {v : Value} {xs : List Value} (h : w.ownsRow B e size v n xs) : ∃ a cap, v = .slice a n cap := by
  rcases h.2 with ⟨h1, h2⟩ | ⟨g, cap, cur, h1, _⟩
  · exact ⟨none, 0, by rw [h1, h2]⟩
  · exact ⟨_, cap, h1⟩
end Go.Proofs.Ytjelacjggijmfaa
namespace Go.Proofs.Ytjelacjggijmfaa
open Go.RowKit

theorem one_int (x : Int) : ∀ u ∈ [Value.int .i64 x], u.oneCell' = true := by intro u hu; simp at hu; subst hu; rfl
theorem own_cell {w : World} {B e n g cap : Nat} {xs : List Value} (h : w.ownsRow B e 1 (.slice (some ⟨g, 0, none⟩) n cap) n xs) (i : Nat) (hi : i < xs.length) : w.cell? ⟨g, i, none⟩ = some xs[i] := by
  have hl := h.1
  rcases h.2 with ⟨h1, _⟩ | ⟨g', cap', cur, h1, h2, h3, h4, h5, h6, h7⟩
  · cases h1
  · cases h1
    have hs : cur[i]? = some xs[i] := by
      have : (cur.toList.take (n * 1))[i]? = some xs[i] := by rw [h7]; simp [hi]
      rw [List.getElem?_take_of_lt (by omega)] at this
      simpa using this
    simp [World.cell?, h3, hs]
theorem wrap_small {x : Int} (h0 : 0 ≤ x) (h1 : x ≤ 4611686018427387904) : IntKind.i64.wrap x = x := by
  simp [IntKind.wrap, IntKind.bits, IntKind.signed]
  omega
theorem addr_add0 (g j : Nat) : (⟨g, 0, none⟩ : Addr).add j = ⟨g, j, none⟩ := by unfold Addr.add; split <;> simp_all
theorem own_cap {w : World} {B e n g cap : Nat} {xs : List Value} (h : w.ownsRow B e 1 (.slice (some ⟨g, 0, none⟩) n cap) n xs) : n ≤ cap := by
  rcases h.2 with ⟨h1, _⟩ | ⟨g', cap', cur, h1, h2, h3, h4, h5, h6, h7⟩
  · cases h1
  · cases h1; omega
end Go.Proofs.Ytjelacjggijmfaa
