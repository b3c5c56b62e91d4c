/-
  For Runs: how long a result is; what was handed in, as the program reads it.
  Runs of package makerlaw, on what was handed in.
  Runs of package makerlaw.
-/
import Derived.Test.YtjelacjggijmfaaGKP4
import Derived.Test.YtjelacjggijmfaaGKP1
import Derived.Test.YtjelacjggijmfaaGMR1
import Derived.Test.YtjelacjggijmfaaGRG5
namespace Go.Proofs.Ytjelacjggijmfaa
open Go.RowKit

theorem exec_cmds (c : Pl.Bs) (ss : List Pl.Bs) (ef : List Pl.Eff) : ∀ (f p : Nat) (st : List Bool) (fl : Nat → Bool) (X : Pl.Wd), (Pl.exec c ss ef f p st fl X).cmds.length ≤ X.cmds.length + f
  | 0, _, _, _, X => Nat.le_refl _
  | f + 1, p, st, fl, X => by
    rw [Pl.exec]
    split
    · have h1 := exec_cmds c ss ef f (Pl.act ss ef (Pl.mkIns c p) st fl X).1 (Pl.act ss ef (Pl.mkIns c p) st fl X).2.1 (Pl.act ss ef (Pl.mkIns c p) st fl X).2.2.1 (Pl.act ss ef (Pl.mkIns c p) st fl X).2.2.2
      have h2 : (Pl.act ss ef (Pl.mkIns c p) st fl X).2.2.2 = X ∨ ∃ d, (Pl.act ss ef (Pl.mkIns c p) st fl X).2.2.2 = Pl.giveW ef X d := by
        unfold Pl.act
        repeat' split
        all_goals first | exact .inl rfl | exact .inr ⟨_, rfl⟩
      rcases h2 with e | ⟨d, e⟩
      · rw [e] at h1 ⊢; omega
      · rw [e] at h1 ⊢
        rw [give_cmds] at h1
        omega
    · omega
theorem load_short {l : Pl.Bs} {ss : List Pl.Bs} {c : Pl.Bs} (h : Pl.load l = some (ss, c)) : c.length + 4 ≤ l.length := by
  unfold Pl.load at h
  split at h
  · rename_i h4
    have := (Pl.strs_len _ _ _ h).2
    simp only [List.length_drop] at this
    omega
  · cases h
theorem run_cmds {l : Pl.Bs} {ss : List Pl.Bs} {c : Pl.Bs} (h : Pl.load l = some (ss, c)) (fs : List Pl.File) (ef : List Pl.Eff) (clock : Int) : (Pl.runW c ss ef (Pl.newW fs clock)).cmds.length ≤ l.length := by
  have h1 := exec_cmds c ss ef (c.length + 1) 0 [] (fun _ => false) (Pl.newW fs clock)
  have h2 := load_short h
  have h3 : (Pl.newW fs clock).cmds.length = 0 := rfl
  unfold Pl.runW
  omega
theorem run_files (S : List Pl.Bs) (c : Pl.Bs) (ss : List Pl.Bs) (fs : List Pl.File) (ef : List Pl.Eff) (clock : Int) (hfS : ∀ f ∈ fs, f.path ∈ S) (hEs : ∀ e ∈ ef, ∀ f ∈ e.writes, f.path ∈ S) : (Pl.sortF (Pl.runW c ss ef (Pl.newW fs clock)).files).length ≤ S.length := by
  rw [sort_len]
  refine Fit.len ?_
  unfold Pl.runW
  exact exec_fit S c ss ef hEs _ _ _ _ _ (Fit.adds fs ⟨by simp [Pl.Uniq], by simp⟩ hfS)
/-- Effects that were handed in, as they are read. -/
theorem EffM.rd {N : Nat} {ef : List Pl.Eff} {W : World} (h : EffM N ef (ef.length + 8) W) : RdE W W.heap.size N 0 ef := by
  refine ⟨h.lt, fun i hi => ?_⟩
  obtain ⟨g, h1, h2, h3, h4⟩ := h.at i hi (by omega)
  refine ⟨by simpa using h2, by simpa using h4, _, _, g, 0, by simpa using h3, fun _ => rfl, fun j hj => ?_, Row.lt h1⟩
  have := h1.cells j (by simp; omega)
  rw [List.getElem_append_left hj] at this
  simpa using this
theorem CR.rdf {W : World} {N : Nat} {t : TypeId} {fs gs : List Pl.File} (h : CR W N t (fs ++ gs)) : RdF W N 0 fs := fun j hj => by
  have := h.cells j (by simp; omega)
  rw [List.getElem_append_left hj] at this
  simpa using this
theorem own_read {w : World} {B e size n : Nat} {v : Value} {xs : List Value} (h : w.ownsRow B e size v n xs) : ∃ a cap b, v = .slice a n cap ∧ (0 < n → a = some ⟨b, 0, none⟩) ∧ (0 < n → b < w.heap.size) ∧ ∀ i u, xs[i]? = some u → w.cell? ⟨b, i, none⟩ = some u := by
  rcases h.2 with ⟨h1, h2⟩ | ⟨g, cap, cur, h1, h2, h3, h4, h5, h6, h7⟩
  · refine ⟨none, 0, 0, ?_, fun h => by omega, fun h => by omega, fun i u hu => ?_⟩
    · rw [h1, h2]
    · have := h.1
      subst h2
      simp only [Nat.zero_mul, List.length_eq_zero_iff] at this
      subst this
      simp at hu
  · have hr : Row w g e cur.toList := by unfold Row; simpa using h3
    refine ⟨some ⟨g, 0, none⟩, cap, g, h1, fun _ => rfl, fun _ => hr.lt, fun i u hu => hr.cell? ?_⟩
    rw [← h7, List.getElem?_take] at hu
    split at hu
    · exact hu
    · cases hu
theorem Strs.rd {w : World} {B : Nat} {v : Value} {ss : List Pl.Bs} (h : Strs w B v ss) : ∃ a cap b, v = .slice a ss.length cap ∧ (0 < ss.length → a = some ⟨b, 0, none⟩) ∧ (0 < ss.length → b < w.heap.size) ∧ RdS w b 0 ss := by
  obtain ⟨a, cap, b, h1, h2, h3, h4⟩ := own_read h
  exact ⟨a, cap, b, h1, h2, h3, fun i hi => h4 (0 + i) _ (by simp [hi])⟩
theorem own_files {w : World} {B t : Nat} {v : Value} {fs : List Pl.File} (h : w.ownsRow B t 3 v fs.length (filesC fs)) : ∃ a cap b, v = .slice a fs.length cap ∧ (0 < fs.length → a = some ⟨b, 0, none⟩) ∧ (0 < fs.length → b < w.heap.size) ∧ RdF w b 0 fs := by
  obtain ⟨a, cap, b, h1, h2, h3, h4⟩ := own_read h
  refine ⟨a, cap, b, h1, h2, h3, fun i hi => ?_⟩
  obtain ⟨k0, k1, k2⟩ := filesC_get fs i hi
  rw [Nat.zero_add]
  exact ⟨h4 _ _ k0, h4 _ _ k1, h4 _ _ k2⟩
theorem RdE.wide {w : World} {L L' b o : Nat} {ef : List Pl.Eff} (h : RdE w L b o ef) (hL : L ≤ L') : RdE w L' b o ef := ⟨Nat.lt_of_lt_of_le h.1 hL, fun i hi => by
  obtain ⟨h1, h2, aw, cw, bw, ow, h3, h4, h5, h6⟩ := h.2 i hi
  exact ⟨h1, h2, aw, cw, bw, ow, h3, h4, h5, Nat.lt_of_lt_of_le h6 hL⟩⟩
end Go.Proofs.Ytjelacjggijmfaa
namespace Go.Proofs.Ytjelacjggijmfaa
open Go.RowKit

/-- The two results of a round, as they lie: the program's and the document's. -/
structure TwoR (w : World) (vc vr vc' vr' : Value) (cs : List Pl.Bs) (fs : List Pl.File) (W : World) : Prop where
  below : Below w.heap.size w W
  cm : Strs W w.heap.size vc cs
  fi : AFls W w.heap.size vr fs
  cm' : Strs W w.heap.size vc' cs
  fi' : Fls W w.heap.size vr' fs
theorem TwoR.later {w W Z : World} {vc vr vc' vr' : Value} {cs : List Pl.Bs} {fs : List Pl.File} (h : TwoR w vc vr vc' vr' cs fs W) (hb : Below W.heap.size W Z) : TwoR w vc vr vc' vr' cs fs Z :=
  ⟨h.below.trans (hb.mono h.below.size), own_same h.cm (fun k hk => hb.block k (World.ownsRow.lt h.cm k hk).2), own_same h.fi (fun k hk => hb.block k (World.ownsRow.lt h.fi k hk).2), own_same h.cm' (fun k hk => hb.block k (World.ownsRow.lt h.cm' k hk).2), own_same h.fi' (fun k hk => hb.block k (World.ownsRow.lt h.fi' k hk).2)⟩
theorem TwoR.same {w W : World} {vc vr vc' vr' : Value} {cs : List Pl.Bs} {fs : List Pl.File} (h : TwoR w vc vr vc' vr' cs fs W) (ex ck : Int) (hc : cs.length ≤ 1048576) (hf : fs.length ≤ 1048576) :
    Calls Try.prog 13 #[.agg #[vc, vr, .int .i64 ex, .int .i64 ck], .agg #[vc', vr', .int .i64 ex, .int .i64 ck]] W fun e w' => e = .returned (.bool true) ∧ Below W.heap.size W w' := by
  obtain ⟨a1, c1, b1, rfl, p1, q1, r1⟩ := Strs.rd h.cm
  obtain ⟨a2, c2, b2, rfl, p2, q2, r2⟩ := own_files h.fi
  obtain ⟨a3, c3, b3, rfl, p3, q3, r3⟩ := Strs.rd h.cm'
  obtain ⟨a4, c4, b4, rfl, p4, q4, r4⟩ := own_files h.fi'
  exact same_any cs fs ex ck a1 a2 a3 a4 c1 c2 c3 c4 b1 b2 b3 b4 0 0 0 0 W p1 p2 p3 p4 r1 r2 r3 r4 q1 q2 q3 q4 hc hf
theorem own_none (w : World) (B t s : Nat) : w.ownsRow B t s (.slice none 0 0) 0 [] := ⟨by simp, .inl ⟨rfl, rfl⟩⟩
/-- What a Run answers. -/
structure Out where
  er : Int
  ex : Int
  ck : Int
  cs : List Pl.Bs
  fl : List Pl.File
/-- The answer of a plan in a world. -/
def OutIs (l : Pl.Bs) (fs : List Pl.File) (ef : List Pl.Eff) (clock : Int) (O : Out) : Prop :=
  (¬ Pl.checkOf l ∧ O = ⟨9, 0, 0, [], []⟩) ∨ ∃ ss c, Pl.checkOf l ∧ Pl.load l = some (ss, c) ∧ O = ⟨0, (Pl.runW c ss ef (Pl.newW fs clock)).exit, (Pl.runW c ss ef (Pl.newW fs clock)).clock, (Pl.runW c ss ef (Pl.newW fs clock)).cmds, Pl.sortF (Pl.runW c ss ef (Pl.newW fs clock)).files⟩
theorem out_some (l : Pl.Bs) (fs : List Pl.File) (ef : List Pl.Eff) (clock : Int) : ∃ O, OutIs l fs ef clock O := by
  by_cases h : Pl.checkOf l
  · have h' := h
    obtain ⟨x, h1, _⟩ := h'
    exact ⟨_, .inr ⟨x.1, x.2, h, h1, rfl⟩⟩
  · exact ⟨_, .inl ⟨h, rfl⟩⟩
theorem OutIs.len {l : Pl.Bs} {fs : List Pl.File} {ef : List Pl.Eff} {S : List Pl.Bs} {clock : Int} {O : Out} (hO : OutIs l fs ef clock O) (hl : l.length ≤ 1048576) (hfS : ∀ f ∈ fs, f.path ∈ S) (hEs : ∀ e ∈ ef, ∀ f ∈ e.writes, f.path ∈ S) (hS : S.length ≤ 1048576) : O.cs.length ≤ 1048576 ∧ O.fl.length ≤ 1048576 := by
  rcases hO with ⟨_, rfl⟩ | ⟨ss, c, _, hld, rfl⟩
  · simp
  · exact ⟨Nat.le_trans (run_cmds hld fs ef clock) hl, Nat.le_trans (run_files S c ss fs ef clock hfS hEs) hS⟩
/-- An answer, and where it lies. -/
def OutAt (O : Out) (t B : Nat) (e : Ending) (W : World) : Prop :=
  ∃ a1 c1 a2 c2, e = .returned (.tuple #[.agg #[.slice a1 O.cs.length c1, .slice a2 O.fl.length c2, .int .i64 O.ex, .int .i64 O.ck], .int .i64 O.er]) ∧ Strs W B (.slice a1 O.cs.length c1) O.cs ∧ W.ownsRow B t 3 (.slice a2 O.fl.length c2) O.fl.length (filesC O.fl)
theorem ARunPost.out {l : Pl.Bs} {fs : List Pl.File} {ef : List Pl.Eff} {clock : Int} {w w' : World} {e : Ending} {O : Out} (h : ARunPost l fs ef clock w e w') (hO : OutIs l fs ef clock O) : OutAt O 61 w.heap.size e w' := by
  rcases h.res with ⟨h1, rfl⟩ | ⟨ss, c, vc, vr, h1, h2, rfl, h4, h5⟩
  · rcases hO with ⟨_, rfl⟩ | ⟨_, _, k, _, _⟩
    · exact ⟨none, 0, none, 0, rfl, own_none _ _ _ _, own_none _ _ _ _⟩
    · exact absurd k h1
  · rcases hO with ⟨k, _⟩ | ⟨ss', c', _, k2, rfl⟩
    · exact absurd h2 k
    · rw [h1] at k2
      cases k2
      obtain ⟨a1, c1, rfl⟩ := own_sh h4
      obtain ⟨a2, c2, rfl⟩ := own_sh h5
      exact ⟨a1, c1, a2, c2, rfl, h4, h5⟩
theorem RunPost.out {l : Pl.Bs} {fs : List Pl.File} {ef : List Pl.Eff} {clock : Int} {w w' : World} {e : Ending} {O : Out} (h : RunPost l fs ef clock w e w') (hO : OutIs l fs ef clock O) : OutAt O 62 w.heap.size e w' := by
  rcases h.res with ⟨h1, rfl⟩ | ⟨ss, c, vc, vr, h1, h2, rfl, h4, h5⟩
  · rcases hO with ⟨_, rfl⟩ | ⟨_, _, k, _, _⟩
    · exact ⟨none, 0, none, 0, rfl, own_none _ _ _ _, own_none _ _ _ _⟩
    · exact absurd k h1
  · rcases hO with ⟨k, _⟩ | ⟨ss', c', _, k2, rfl⟩
    · exact absurd h2 k
    · rw [h1] at k2
      cases k2
      obtain ⟨a1, c1, rfl⟩ := own_sh h4
      obtain ⟨a2, c2, rfl⟩ := own_sh h5
      exact ⟨a1, c1, a2, c2, rfl, h4, h5⟩
/-- What was handed in, and what was made of it, as it lies. -/
structure Hand (fs : List Pl.File) (ef : List Pl.Eff) (a ae : Option Addr) (b o L be oe hN jN : Nat) (W : World) : Prop where
  ha : 0 < fs.length → a = some ⟨b, o, none⟩
  rd : RdF W b o fs
  lt : b < W.heap.size
  hae : 0 < ef.length → ae = some ⟨be, oe, none⟩
  rde : RdE W L be oe ef
  lL : L ≤ W.heap.size
  cr : CR W hN 61 (fs ++ spareF fs.length)
  em : EffM jN ef (ef.length + 8) W
theorem Hand.later {fs : List Pl.File} {ef : List Pl.Eff} {a ae : Option Addr} {b o L be oe hN jN : Nat} {W Z : World} (h : Hand fs ef a ae b o L be oe hN jN W) (hb : Below W.heap.size W Z) : Hand fs ef a ae b o L be oe hN jN Z :=
  ⟨h.ha, h.rd.below hb h.lt, Nat.lt_of_lt_of_le h.lt hb.size, h.hae, h.rde.below (hb.mono h.lL), Nat.le_trans h.lL hb.size, Row.later h.cr hb, h.em.later hb⟩
section
variable {l : Pl.Bs} {fs : List Pl.File} {ef : List Pl.Eff} {S : List Pl.Bs} {a ae : Option Addr} {cap b o ce L be oe hN jN : Nat} {W : World}
theorem Hand.run (h : Hand fs ef a ae b o L be oe hN jN W) (hl : l.length ≤ 1048576) (hfl : fs.length ≤ 1048576) (hel : ef.length ≤ 1048576) (hwl : ∀ e ∈ ef, e.writes.length ≤ 1048576) (hSl : S.length ≤ 1048576) (hfS : ∀ f ∈ fs, f.path ∈ S) (hEs : ∀ e ∈ ef, ∀ f ∈ e.writes, f.path ∈ S) (hSp : ∀ p ∈ S, p.length ≤ maxLen) {clock : Int} {O : Out} (hO : OutIs l fs ef clock O) :
    Calls Try.prog 11 #[.string ⟨l.toArray⟩, .slice (some ⟨hN, 0, none⟩) fs.length (fs.length + 8), .slice (some ⟨jN, 0, none⟩) ef.length (ef.length + 8), .int .i64 clock] W fun e w' => OutAt O 61 W.heap.size e w' ∧ Below W.heap.size W w' := by
  refine (makerRun_any l hl fs ef S (some ⟨hN, 0, none⟩) (some ⟨jN, 0, none⟩) (fs.length + 8) hN 0 (ef.length + 8) W.heap.size jN 0 clock W (fun _ => rfl) (CR.rdf h.cr) (Row.lt h.cr) hfl ⟨fun _ => rfl, h.em.rd, hEs, hel, hwl, hSl⟩ (Nat.le_refl _) hfS hSp).mono ?_
  intro e w' hp
  exact ⟨hp.out hO, hp.below⟩
theorem Hand.ref (h : Hand fs ef a ae b o L be oe hN jN W) (hl : l.length ≤ 1048576) (hfl : fs.length ≤ 1048576) (hel : ef.length ≤ 1048576) (hwl : ∀ e ∈ ef, e.writes.length ≤ 1048576) (hSl : S.length ≤ 1048576) (hfS : ∀ f ∈ fs, f.path ∈ S) (hEs : ∀ e ∈ ef, ∀ f ∈ e.writes, f.path ∈ S) {clock : Int} {O : Out} (hO : OutIs l fs ef clock O) :
    Calls Try.prog 12 #[.string ⟨l.toArray⟩, .slice a fs.length cap, .slice ae ef.length ce, .int .i64 clock] W fun e w' => OutAt O 62 W.heap.size e w' ∧ Below W.heap.size W w' := by
  by_cases hc : Pl.checkOf l
  · refine (refRun_yes l hl hc fs ef a ae cap b o ce L be oe clock W h.ha h.rd h.lt hfl h.hae h.rde h.lL hel hwl S hSl hfS hEs).mono ?_
    intro e w' hp
    exact ⟨hp.out hO, hp.below⟩
  · refine (refRun_no l hl hc fs ef _ _ clock W).mono ?_
    intro e w' hp
    exact ⟨hp.out hO, hp.below⟩
theorem Hand.still (h : Hand fs ef a ae b o L be oe hN jN W) (hfl : fs.length ≤ 1048576) :
    Calls Try.prog 16 #[.slice (some ⟨hN, 0, none⟩) fs.length (fs.length + 8), .slice a fs.length cap] W fun e w' => e = .returned (.bool true) ∧ Below W.heap.size W w' :=
  still_any fs a cap b o hN W h.ha h.rd h.lt hfl h.cr
theorem Hand.effs (h : Hand fs ef a ae b o L be oe hN jN W) (hel : ef.length ≤ 1048576) (hwl : ∀ e ∈ ef, e.writes.length ≤ 1048576) :
    Calls Try.prog 17 #[.slice (some ⟨jN, 0, none⟩) ef.length (ef.length + 8), .slice ae ef.length ce] W fun e w' => e = .returned (.bool true) ∧ Below W.heap.size W w' :=
  effectsStill_any ef ae ce L be oe jN W h.hae h.rde h.lL hel hwl h.em
end
end Go.Proofs.Ytjelacjggijmfaa
namespace Go.Proofs.Ytjelacjggijmfaa
open Go.RowKit

/-- The empty book. -/
theorem BookO.first {W : World} {bb : Nat} (h : Row W bb 38 [.slice none 0 0, .slice none 0 0]) : BookO W bb (fun _ => 0) 0 0 (.slice none 0 0) (.slice none 0 0) :=
  ⟨h, ⟨[], own_none _ _ _ _, fun i hi => by omega⟩, ⟨[], own_none _ _ _ _, fun i hi => by omega⟩⟩
/-- What holds ahead of each round. -/
structure RunsM (w3 : World) (bb i : Nat) (W : World) : Prop where
  below : Below bb w3 W
  book : ∃ E vres vgr, BookO W bb E i i vres vgr ∧ ∀ j, j < i → E j ≤ W.heap.size
theorem RunsM.later {w3 W Z : World} {bb i : Nat} (h : RunsM w3 bb i W) (hbb : bb < W.heap.size) (hb : Below W.heap.size W Z) : RunsM w3 bb i Z := by
  obtain ⟨E, vres, vgr, h1, h2⟩ := h.book
  exact ⟨h.below.trans (hb.mono (by omega)), E, vres, vgr, h1.later hb, fun j hj => Nat.le_trans (h2 j hj) hb.size⟩
set_option maxHeartbeats 4000000 in
set_option maxRecDepth 20000 in
theorem runs_any (l : Pl.Bs) (hl : l.length ≤ 1048576) (fs : List Pl.File) (ef : List Pl.Eff) (S : List Pl.Bs) (a ae : Option Addr) (cap b o ce L be oe : Nat) (clock : Int) (w : World)
    (ha : 0 < fs.length → a = some ⟨b, o, none⟩) (hr : 0 < fs.length → RdF w b o fs ∧ b < w.heap.size) (hfl : fs.length ≤ 1048576) (hae : 0 < ef.length → ae = some ⟨be, oe, none⟩) (hE : 0 < ef.length → RdE w L be oe ef ∧ L ≤ w.heap.size) (hel : ef.length ≤ 1048576) (hwl : ∀ e ∈ ef, e.writes.length ≤ 1048576) (hSl : S.length ≤ 1048576) (hfS : ∀ f ∈ fs, f.path ∈ S) (hEs : ∀ e ∈ ef, ∀ f ∈ e.writes, f.path ∈ S) (hSp : ∀ p ∈ S, p.length ≤ maxLen) :
    Calls Try.prog 4 #[.string ⟨l.toArray⟩, .slice a fs.length cap, .slice ae ef.length ce, .int .i64 clock] w fun e w' => e = .returned (.bool true) ∧ Below w.heap.size w w' := by
  -- what was handed in, behind the first call
  have hin : ∀ w1, Below w.heap.size w w1 → 0 < w1.heap.size → ∃ b' L' be', (0 < fs.length → a = some ⟨b', o, none⟩) ∧ RdF w1 b' o fs ∧ b' < w1.heap.size ∧ (0 < ef.length → ae = some ⟨be', oe, none⟩) ∧ RdE w1 L' be' oe ef ∧ L' ≤ w1.heap.size := fun w1 hb h0 => by
    have h1 : ∃ b', (0 < fs.length → a = some ⟨b', o, none⟩) ∧ RdF w1 b' o fs ∧ b' < w1.heap.size := by
      by_cases hf : 0 < fs.length
      · exact ⟨b, ha, (hr hf).1.below hb (hr hf).2, Nat.lt_of_lt_of_le (hr hf).2 hb.size⟩
      · exact ⟨0, fun h => absurd h hf, fun i hi => by omega, h0⟩
    have h2 : ∃ L' be', (0 < ef.length → ae = some ⟨be', oe, none⟩) ∧ RdE w1 L' be' oe ef ∧ L' ≤ w1.heap.size := by
      by_cases hf : 0 < ef.length
      · exact ⟨L, be, hae, (hE hf).1.below (hb.mono (hE hf).2), Nat.le_trans (hE hf).2 hb.size⟩
      · exact ⟨w1.heap.size, 0, fun h => absurd h hf, ⟨h0, fun i hi => by omega⟩, Nat.le_refl _⟩
    obtain ⟨b', p1, p2, p3⟩ := h1
    obtain ⟨L', be', p4, p5, p6⟩ := h2
    exact ⟨b', L', be', p1, p2, p3, p4, p5, p6⟩
  have HIN := hide hin
  have C2 : Hid (∀ w1, Below w.heap.size w w1 → 0 < w1.heap.size → Calls Try.prog 9 #[.slice a fs.length cap] w1 fun e w' => e = .returned (.slice (some ⟨w1.heap.size, 0, none⟩) fs.length (fs.length + 8)) ∧ CR w' w1.heap.size 61 (fs ++ spareF fs.length) ∧ Below w1.heap.size w1 w') := fun w1 hb h0 => by
    obtain ⟨b', L', be', p1, p2, p3, -⟩ := hin w1 hb h0
    exact given_any fs a cap b' o w1 p1 p2 p3 hfl
  have C3 : Hid (∀ w1 w2, Below w.heap.size w w1 → 0 < w1.heap.size → CR w2 w1.heap.size 61 (fs ++ spareF fs.length) → Below w1.heap.size w1 w2 → Calls Try.prog 10 #[.slice ae ef.length ce] w2 fun e w' => e = .returned (.slice (some ⟨w2.heap.size, 0, none⟩) ef.length (ef.length + 8)) ∧ Below w.heap.size w w' ∧ ∃ b' L' be', Hand fs ef a ae b' o L' be' oe w1.heap.size w2.heap.size w') := fun w1 w2 hb h0 hcr hb2 => by
    obtain ⟨b', L', be', p1, p2, p3, p4, p5, p6⟩ := hin w1 hb h0
    have hs := hb2.size
    refine (effects_any ef ae ce L' be' oe w2 p4 (p5.below (hb2.mono p6)) (by omega) hel hwl).mono ?_
    rintro e w' ⟨rfl, hem, hb3⟩
    have hb23 : Below w1.heap.size w1 w' := hb2.trans (hb3.mono hs)
    exact ⟨rfl, hb.trans (hb23.mono hb.size), b', L', be', p1, p2.below hb23 p3, Nat.lt_of_lt_of_le p3 hb23.size, p4, p5.below (hb23.mono p6), Nat.le_trans p6 hb23.size, Row.later hcr hb3, hem⟩
  clear hin ha hr hae hE
  have HFS := hide hfS
  have HES := hide hEs
  have HSP := hide hSp
  have HWL := hide hwl
  clear hfS hEs hSp hwl
  go_enter Try.func4, Try.ntmps4
  go_wp2_with (first
    | (go_at_call 8; refine (ran_any _).mono ?_; rintro e w1 ⟨rfl, hb1, hp1⟩; have HB1 := hide hb1; clear hb1)
    | (go_at_call 9; refine (unhide C2 _ (unhide HB1) hp1).mono ?_; rintro e w2 ⟨rfl, hcr, hb2⟩; have HCR := hide hcr; have HB2 := hide hb2; clear hcr hb2)
    | (go_at_call 10; refine (unhide C3 _ _ (unhide HB1) hp1 (unhide HCR) (unhide HB2)).mono ?_; rintro e w3 ⟨rfl, hb3, hh⟩; have HB3 := hide hb3; have HH := hide hh; clear hb3 hh)
    | fail)
  have HM0 : Hid (RunsM w3 w3.heap.size 0 (w3.alloc (.cells #[.slice none 0 0, .slice none 0 0] 38))) := ⟨(Below.refl _ _).alloc (Nat.le_refl _) _, _, _, _, BookO.first (Row.new w3 38 [.slice none 0 0, .slice none 0 0]), fun j hj => by omega⟩
  obtain ⟨O, hO⟩ := out_some l fs ef clock
  obtain ⟨hOc, hOf⟩ := hO.len hl (unhide HFS) (unhide HES) hSl
  have HHW : Hid (∀ W, Below w3.heap.size w3 W → ∃ b' L' be', Hand fs ef a ae b' o L' be' oe w1.heap.size w2.heap.size W) := fun W hb => by
    obtain ⟨b', L', be', h⟩ := unhide HH
    exact ⟨b', L', be', h.later hb⟩
  have CR1 : Hid (∀ W, Below w3.heap.size w3 W → Calls Try.prog 11 #[.string ⟨l.toArray⟩, .slice (some ⟨w1.heap.size, 0, none⟩) fs.length (fs.length + 8), .slice (some ⟨w2.heap.size, 0, none⟩) ef.length (ef.length + 8), .int .i64 clock] W fun e w' => OutAt O 61 W.heap.size e w' ∧ Below W.heap.size W w') := fun W hb => by
    obtain ⟨b', L', be', h⟩ := unhide HHW W hb
    exact h.run hl hfl hel (unhide HWL) hSl (unhide HFS) (unhide HES) (unhide HSP) hO
  have CR2 : Hid (∀ W, Below w3.heap.size w3 W → Calls Try.prog 12 #[.string ⟨l.toArray⟩, .slice a fs.length cap, .slice ae ef.length ce, .int .i64 clock] W fun e w' => OutAt O 62 W.heap.size e w' ∧ Below W.heap.size W w') := fun W hb => by
    obtain ⟨b', L', be', h⟩ := unhide HHW W hb
    exact h.ref hl hfl hel (unhide HWL) hSl (unhide HFS) (unhide HES) hO
  have CR3 : Hid (∀ W, Below w3.heap.size w3 W → Calls Try.prog 16 #[.slice (some ⟨w1.heap.size, 0, none⟩) fs.length (fs.length + 8), .slice a fs.length cap] W fun e w' => e = .returned (.bool true) ∧ Below W.heap.size W w') := fun W hb => by
    obtain ⟨b', L', be', h⟩ := unhide HHW W hb
    exact h.still hfl
  have CR4 : Hid (∀ W, Below w3.heap.size w3 W → Calls Try.prog 17 #[.slice (some ⟨w2.heap.size, 0, none⟩) ef.length (ef.length + 8), .slice ae ef.length ce] W fun e w' => e = .returned (.bool true) ∧ Below W.heap.size W w') := fun W hb => by
    obtain ⟨b', L', be', h⟩ := unhide HHW W hb
    exact h.effs hel (unhide HWL)
  clear hO
  go_loopw [9, 13] (fun ok iv wr => ∃ i : Nat, ok = .bool true ∧ iv = .int .i64 i ∧ i ≤ 2 ∧ Hid (RunsM w3 w3.heap.size i wr)) (fun _ iv _ => 2 - intN iv)
  case atStart => exact ⟨0, rfl, rfl, by omega, HM0⟩
  case round =>
    clear HM0
    obtain ⟨i, rfl, rfl, hi2, HM⟩ := hrel
    have hbw : w3.heap.size < wr.heap.size := by
      obtain ⟨E, vres, vgr, h1, -⟩ := (unhide HM).book
      exact h1.row.lt
    by_cases hi : i < 2
    · have t1 : (i : Int) < 2 := by omega
      have hbel : Hid (∀ W, Below wr.heap.size wr W → Below w3.heap.size w3 W) := fun W hb => (unhide HM).below.trans (hb.mono (by omega))
      have CK : Hid (∀ (W : World) (vc vr : Value), Below wr.heap.size wr W → Strs W wr.heap.size vc O.cs → W.ownsRow wr.heap.size 61 3 vr O.fl.length (filesC O.fl) → Calls Try.prog 14 #[.pointer (some ⟨w3.heap.size, 0, none⟩), .agg #[vc, vr, .int .i64 O.ex, .int .i64 O.ck]] W fun e w' => e = .returned (.tuple #[]) ∧ RunsM w3 w3.heap.size (i + 1) w') := fun W vc vr hb h1 h2 => by
        obtain ⟨E, vres, vgr, k1, k2⟩ := (unhide HM).book
        refine (keep_any i w3.heap.size wr.heap.size E vres vgr vc vr O.cs.length O.fl.length _ _ O.ex O.ck W hi (k1.later hb) k2 hbw hb.size h1 h2 hOc (by omega)).mono ?_
        rintro e w' ⟨rfl, ⟨E', vres', vgr', q1, q2⟩, hb'⟩
        exact ⟨rfl, (unhide hbel W hb).trans hb', E', vres', vgr', q1, q2⟩
      have CL : Hid (∀ W Z, RunsM w3 w3.heap.size (i + 1) W → Below W.heap.size W Z → RunsM w3 w3.heap.size (i + 1) Z) := fun W Z h hb => h.later (by
        obtain ⟨E, vres, vgr, k1, -⟩ := h.book
        exact k1.row.lt) hb
      have CW : Hid (∀ W, RunsM w3 w3.heap.size (i + 1) W → Calls Try.prog 15 #[.pointer (some ⟨w3.heap.size, 0, none⟩)] W fun e w' => e = .returned (.bool true) ∧ RunsM w3 w3.heap.size (i + 1) w') := fun W h => by
        obtain ⟨E, vres, vgr, k1, -⟩ := h.book
        refine (whole_any (i + 1) w3.heap.size (by omega) W k1.bookM).mono ?_
        rintro e w' ⟨rfl, hb⟩
        exact ⟨rfl, unhide CL _ _ h hb⟩
      have CS : Hid (∀ W, RunsM w3 w3.heap.size (i + 1) W → Calls Try.prog 16 #[.slice (some ⟨w1.heap.size, 0, none⟩) fs.length (fs.length + 8), .slice a fs.length cap] W fun e w' => e = .returned (.bool true) ∧ RunsM w3 w3.heap.size (i + 1) w') := fun W h => by
        refine (unhide CR3 W h.below).mono ?_
        rintro e w' ⟨rfl, hb⟩
        exact ⟨rfl, unhide CL _ _ h hb⟩
      have CE : Hid (∀ W, RunsM w3 w3.heap.size (i + 1) W → Calls Try.prog 17 #[.slice (some ⟨w2.heap.size, 0, none⟩) ef.length (ef.length + 8), .slice ae ef.length ce] W fun e w' => e = .returned (.bool true) ∧ RunsM w3 w3.heap.size (i + 1) w') := fun W h => by
        refine (unhide CR4 W h.below).mono ?_
        rintro e w' ⟨rfl, hb⟩
        exact ⟨rfl, unhide CL _ _ h hb⟩
      -- the two results, each in its box
      have CT : Hid (∀ (w4 w5 : World) (v1 v2 v3 v4 : Value) (ob : Obj), Below wr.heap.size wr w4 → Strs w4 wr.heap.size v1 O.cs → w4.ownsRow wr.heap.size 61 3 v2 O.fl.length (filesC O.fl) → Below (w4.alloc ob).heap.size (w4.alloc ob) w5 → Strs w5 (w4.alloc ob).heap.size v3 O.cs → w5.ownsRow (w4.alloc ob).heap.size 62 3 v4 O.fl.length (filesC O.fl) → TwoR wr v1 v2 v3 v4 O.cs O.fl w5) := fun w4 w5 v1 v2 v3 v4 ob hb4 hs1 hf1 hb5 hs2 hf2 => by
        have hz := hb4.size
        have hA : Below w4.heap.size w4 w5 := ((Below.refl _ w4).alloc (Nat.le_refl _) ob).trans (hb5.mono (by rw [World.size_alloc]; omega))
        have hz2 : wr.heap.size ≤ (w4.alloc ob).heap.size := by rw [World.size_alloc]; omega
        exact ⟨hb4.trans (hA.mono hz), own_same hs1 (fun k hk => hA.block k (World.ownsRow.lt hs1 k hk).2), own_same hf1 (fun k hk => hA.block k (World.ownsRow.lt hf1 k hk).2), own_mono hs2 hz2, own_mono hf2 hz2⟩
      have t2 : (O.er == O.er) = true := by simp
      go_wp2_with (first
        | (go_at_call 11; refine (unhide CR1 _ (unhide HM).below).mono ?_; rintro e w4 ⟨⟨a1, c1, a2, c2, rfl, hs1, hf1⟩, hb4⟩; have HS1 := hide hs1; have HF1 := hide hf1; have HB4 := hide hb4; clear hs1 hf1 hb4)
        | (go_at_call 12; refine (unhide CR2 _ ?_).mono ?_; exact unhide hbel _ ((unhide HB4).alloc (unhide HB4).size _); rintro e w5 ⟨⟨a3, c3, a4, c4, rfl, hs2, hf2⟩, hb5⟩; have HT := hide (unhide CT _ _ _ _ _ _ _ (unhide HB4) (unhide HS1) (unhide HF1) hb5 hs2 hf2); have r14 := (Row.new w4 41 [.slice a1 O.cs.length c1, .slice a2 O.fl.length c2, .int .i64 O.ex, .int .i64 O.ck]).later hb5; have HR14 := hide r14; have x0 := r14.cell? (i := 0) rfl; have x1 := r14.cell? (i := 1) rfl; have x2 := r14.cell? (i := 2) rfl; have x3 := r14.cell? (i := 3) rfl; have j14 := r14.lt; clear hs2 hf2 hb5 r14)
        | (go_at_call 13; refine (TwoR.same ((unhide HT).later ((Below.refl _ _).alloc (Nat.le_refl _) _)) O.ex O.ck hOc hOf).mono ?_; rintro e w6 ⟨rfl, hb6⟩; have HT6 := hide (((unhide HT).later ((Below.refl _ _).alloc (Nat.le_refl _) _)).later hb6); have r6 := ((unhide HR14).alloc _).later hb6; have y0 := r6.cell? (i := 0) rfl; have y1 := r6.cell? (i := 1) rfl; have y2 := r6.cell? (i := 2) rfl; have y3 := r6.cell? (i := 3) rfl; clear hb6 r6)
        | (go_at_call 6; refine (num_any _ _).mono ?_; rintro e w7 ⟨rfl, rfl⟩)
        | (go_at_call 14; refine (unhide CK _ _ _ (unhide HT6).below (unhide HT6).cm (unhide HT6).fi).mono ?_; rintro e w8 ⟨rfl, hm8⟩; have HM8 := hide hm8; clear hm8)
        | (go_at_call 15; refine (unhide CW _ (unhide HM8)).mono ?_; rintro e w9 ⟨rfl, hm9⟩; have HM9 := hide hm9; clear hm9)
        | (go_at_call 16; refine (unhide CS _ (unhide HM9)).mono ?_; rintro e w10 ⟨rfl, hm10⟩; have HM10 := hide hm10; clear hm10)
        | (go_at_call 17; refine (unhide CE _ (unhide HM10)).mono ?_; rintro e w11 ⟨rfl, hm11⟩; have HM11 := hide hm11; clear hm11)
        | fail)
      all_goals go_roundw
      case rel => exact ⟨i + 1, rfl, by go_num, by omega, HM11⟩
      case measure => simp only [intN]; omega
    · have t1 : ¬ (i : Int) < 2 := by omega
      go_wp2_with fail
      go_ret
      exact ⟨rfl, (unhide HB3).trans ((unhide HM).below.mono (unhide HB3).size)⟩
end Go.Proofs.Ytjelacjggijmfaa
