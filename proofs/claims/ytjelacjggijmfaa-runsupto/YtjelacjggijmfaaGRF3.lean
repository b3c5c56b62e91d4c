/-
  The document's own answer: which of two files is newer.
  The document's own answer: a new world.
-/
import Derived.Test.YtjelacjggijmfaaGRB
namespace Go.Proofs.Ytjelacjggijmfaa
open Go.RowKit

theorem look_at {fs : List Pl.File} {p : Pl.Bs} : (idxI fs p = -1 ∧ Pl.look fs p = none) ∨ ∃ (k : Nat) (h : k < fs.length), idxI fs p = k ∧ Pl.look fs p = some fs[k] := by
  unfold idxI
  cases e : at? fs p with
  | none =>
    left
    refine ⟨rfl, ?_⟩
    unfold at? at e
    unfold Pl.look
    rw [List.findIdx?_eq_none_iff] at e
    rw [List.find?_eq_none]
    intro x hx
    simpa using e x hx
  | some k =>
    right
    unfold at? at e
    rw [List.findIdx?_eq_some_iff_getElem] at e
    obtain ⟨hk, h1, h2⟩ := e
    refine ⟨k, hk, rfl, ?_⟩
    unfold Pl.look
    rw [List.find?_eq_some_iff_getElem]
    exact ⟨h1, k, hk, rfl, fun j hj => by simpa using h2 j hj⟩
set_option maxHeartbeats 1000000 in
set_option maxRecDepth 20000 in
theorem refNewer_any (s t : Pl.Bs) (B bx : Nat) (ve vf vc : Value) (X : Pl.Wd) (w : World) (h : RW w B bx ve vf vc X) (hl : X.files.length ≤ 2097152) :
    Calls Try.prog 28 #[.pointer (some ⟨bx, 0, none⟩), strV s, strV t] w fun e w' => e = .returned (.bool (Pl.newer X.files s t)) ∧ Below w.heap.size w w' := by
  obtain ⟨a, cap, g, rfl, ha, hrd, -⟩ := h.files.rd
  have c0 := h.row.cell 0 (by simp)
  simp only [List.getElem_cons_zero] at c0
  have C1 := hide (refFile_any X.files s a cap g 0 w ha hrd hl)
  have C2 := hide (refFile_any X.files t a cap g 0 w ha hrd hl)
  unfold strV at C1 C2 ⊢
  have hs : Hid (Pl.newer X.files s t = match Pl.look X.files s, Pl.look X.files t with
    | some a, some b => decide (a.time < b.time)
    | _, _ => false) := rfl
  have HRD := hide hrd
  clear h hrd
  rcases look_at (fs := X.files) (p := s) with ⟨e1, l1⟩ | ⟨k1, hk1, e1, l1⟩
  · rw [e1] at C1
    have HV : Hid (Pl.newer X.files s t = false) := by show _ = _; rw [unhide hs, l1]
    generalize idxI X.files t = z at *
    clear e1 l1 hs
    go_enter Try.func28, Try.ntmps28
    go_wp2_with fail
    refine (unhide C1).mono ?_
    rintro e w1 ⟨rfl, rfl⟩
    go_wp2_with fail
    refine (unhide C2).mono ?_
    rintro e w1 ⟨rfl, rfl⟩
    go_wp2_with fail
    go_quiet (fail)
    go_wp2_with fail
    go_ret
    exact ⟨ret_bool (unhide HV).symm, Below.drewN (Below.refl _ _) _⟩
  · rw [e1] at C1
    rcases look_at (fs := X.files) (p := t) with ⟨e2, l2⟩ | ⟨k2, hk2, e2, l2⟩
    · rw [e2] at C2
      have HV : Hid (Pl.newer X.files s t = false) := by show _ = _; rw [unhide hs, l1, l2]
      clear e1 l1 e2 l2 hs
      go_enter Try.func28, Try.ntmps28
      go_wp2_with fail
      refine (unhide C1).mono ?_
      rintro e w1 ⟨rfl, rfl⟩
      go_wp2_with fail
      refine (unhide C2).mono ?_
      rintro e w1 ⟨rfl, rfl⟩
      go_wp2_with fail
      go_quiet (fail)
      go_wp2_with fail
      go_ret
      exact ⟨ret_bool (unhide HV).symm, Below.drewN (Below.refl _ _) _⟩
    · rw [e2] at C2
      have HV : Hid (Pl.newer X.files s t = decide (X.files[k1].time < X.files[k2].time)) := by show _ = _; rw [unhide hs, l1, l2]
      obtain rfl := ha (by omega)
      obtain ⟨-, -, d1⟩ := unhide HRD k1 hk1
      obtain ⟨-, -, d2⟩ := unhide HRD k2 hk2
      simp only [Nat.zero_add] at d1 d2
      generalize X.files[k1].time = t1 at *
      generalize X.files[k2].time = t2 at *
      have i1 : (k1 : Int) < (X.files.length : Int) := by omega
      have i2 : (k2 : Int) < (X.files.length : Int) := by omega
      clear e1 l1 e2 l2 hs
      go_enter Try.func28, Try.ntmps28
      go_wp2_with fail
      refine (unhide C1).mono ?_
      rintro e w1 ⟨rfl, rfl⟩
      go_wp2_with fail
      refine (unhide C2).mono ?_
      rintro e w1 ⟨rfl, rfl⟩
      go_wp2_with fail
      go_quiet (fail)
      go_wp2_with fail
      go_ret
      exact ⟨ret_bool (unhide HV).symm, Below.drewN (Below.refl _ _) _⟩
end Go.Proofs.Ytjelacjggijmfaa
namespace Go.Proofs.Ytjelacjggijmfaa
open Go.RowKit

theorem Try.infoRFile : (Try.prog.info? 62).map (fun i => (i.zero, i.size, i.bytes)) = some (some (.agg #[.string ⟨#[]⟩, .string ⟨#[]⟩, .int .i64 0]), 3, 40) := by kernel_rfl
theorem grown_alloc1 {wr w1 : World} {o : Obj} {r : Option Nat} (h : (wr.alloc o).drew.grownBy w1 r) : wr.grownBy w1 r := (World.grownBy_alloc wr o r).trans ⟨h.os, h.tape, h.output, h.size, h.block⟩
theorem cells_new (w : World) (t : TypeId) (vs : List Value) (j : Nat) (u : Value) (h : vs[j]? = some u) : (w.alloc (.cells vs.toArray t)).cell? ((⟨w.heap.size, 0, none⟩ : Addr).add j) = some u := by
  obtain ⟨hj, rfl⟩ := List.getElem?_eq_some_iff.1 h
  have := (Row.new w t vs).cell j hj
  have e : (⟨w.heap.size, 0, none⟩ : Addr).add j = ⟨w.heap.size, j, none⟩ := by unfold Addr.add; split <;> simp_all
  rw [e]; exact this
theorem add_files (fs : List Pl.File) (k : Nat) (h : k < fs.length) : (fs.take (k + 1)).foldl Pl.addF [] = Pl.addF ((fs.take k).foldl Pl.addF []) fs[k] := by
  rw [List.take_succ_eq_append_getElem h, List.foldl_append]; rfl
theorem add_len (fs : List Pl.File) : ∀ (acc : List Pl.File), (fs.foldl Pl.addF acc).length ≤ acc.length + fs.length := by
  induction fs with
  | nil => intro acc; simp
  | cons f r ih =>
    intro acc
    rw [List.foldl_cons]
    have := ih (Pl.addF acc f)
    have h2 : (Pl.addF acc f).length ≤ acc.length + 1 := by unfold Pl.addF; split <;> simp
    simp only [List.length_cons]
    omega
theorem filesC_snoc (fs : List Pl.File) (f : Pl.File) : filesC (fs ++ [f]) = filesC fs ++ fileC f := by unfold filesC; simp
/-- Between two files: what lies in memory. -/
structure NewM (w : World) (ve vf : Value) (clock : Int) (acc : List Pl.File) (W : World) : Prop where
  rw : RW W (w.heap.size + 1) w.heap.size ve vf (.slice none 0 0) ⟨acc, clock, [], 0⟩
  below : Below w.heap.size w W
theorem RW.push {w : World} {B bx : Nat} {ve vf vf' vc : Value} {X : Pl.Wd} {Y : World} {f : Pl.File} (h : RW w B bx ve vf vc X) (hg : w.grownBy Y vf.ownBlock) (hown : Y.ownsRow B 62 3 vf' (X.files.length + 1) (filesC X.files ++ fileC f)) :
    RW (Y.setCell ⟨bx, 0, none⟩ vf') B bx ve vf' vc ⟨X.files ++ [f], X.clock, X.cmds, X.exit⟩ := by
  have hlt := h.lt
  have hne := own_ne h.files (N := bx) hlt
  refine ⟨(h.row.grown hg hne).set 0 vf', ?_, ?_, hlt⟩
  · unfold Fls
    rw [filesC_snoc]
    have : (X.files ++ [f]).length = X.files.length + 1 := by simp
    rw [this]
    exact owns_other hown (own_ne hown hlt) 0 _
  · have hc : Strs Y B vc X.cmds := by
      rcases apart h.cmds h.files (by decide) with e | e
      · exact World.ownsRow.kept h.cmds hg (.inl e)
      · exact World.ownsRow.kept h.cmds hg (.inr e)
    exact owns_other hc (own_ne hc hlt) 0 _
theorem NewM.push {w : World} {ve vf vf' : Value} {clock : Int} {acc : List Pl.File} {X Y : World} {f : Pl.File} (h : NewM w ve vf clock acc X) (hg : X.grownBy Y vf.ownBlock) (hown : Y.ownsRow (w.heap.size + 1) 62 3 vf' (acc.length + 1) (filesC acc ++ fileC f)) :
    NewM w ve vf' clock (acc ++ [f]) (Y.setCell ⟨w.heap.size, 0, none⟩ vf') := by
  refine ⟨h.rw.push hg hown, ?_⟩
  have hb : Below w.heap.size w Y := h.below.trans ⟨hg.os, hg.tape, hg.output, hg.size, fun k hk => hg.block k (by have := h.rw.row.lt; omega) (own_ne h.rw.files (by omega))⟩
  exact hb.setCell (p := ⟨w.heap.size, 0, none⟩) (Nat.le_refl _) _
theorem NewM.later {w : World} {ve vf : Value} {clock : Int} {acc : List Pl.File} {X Y : World} (h : NewM w ve vf clock acc X) (hb : Below X.heap.size X Y) : NewM w ve vf clock acc Y :=
  ⟨h.rw.later hb, h.below.trans (hb.mono (by have := h.rw.row.lt; omega))⟩
set_option maxHeartbeats 2000000 in
set_option maxRecDepth 20000 in
theorem newWorld_any (fs : List Pl.File) (a ae : Option Addr) (cap b o ne ce : Nat) (clock : Int) (w : World) (ha : 0 < fs.length → a = some ⟨b, o, none⟩) (hr : RdF w b o fs) (hbw : b < w.heap.size) (hl : fs.length ≤ 1048576) :
    Calls Try.prog 23 #[.slice a fs.length cap, .slice ae ne ce, .int .i64 clock] w fun e w' => e = .returned (.pointer (some ⟨w.heap.size, 0, none⟩)) ∧
      ∃ vf vc, RW w' (w.heap.size + 1) w.heap.size (.slice ae ne ce) vf vc (Pl.newW fs clock) ∧ Below w.heap.size w w' := by
  have HR := hide hr
  have HAA := hide ha
  obtain ⟨i0, hi, hz0, hz1, hz2⟩ := info_parts Try.infoRFile
  have HI0 := hide hi
  have HZ0 := hide hz0
  have HZ1 := hide hz1
  have HZ2 := hide hz2
  have HW0 : Hid (NewM w (.slice ae ne ce) (.slice none 0 0) clock [] (w.alloc (.cells #[.slice none 0 0, .int .i64 clock, .slice ae ne ce, .slice none 0 0, .int .i64 0] 76))) :=
    ⟨⟨Row.new w 76 [.slice none 0 0, .int .i64 clock, .slice ae ne ce, .slice none 0 0, .int .i64 0], Fls.nil _ _, Strs.nil _ _, Nat.lt_succ_self _⟩, (Below.refl _ w).alloc (Nat.le_refl _) _⟩
  clear hr ha hi hz0 hz1 hz2
  go_enter Try.func23, Try.ntmps23
  go_wp2_with fail
  go_loopw [8] (fun i wr => ∃ (k : Nat) (vf : Value), i = .int .i64 k ∧ k ≤ fs.length ∧ Hid (NewM w (.slice ae ne ce) vf clock ((fs.take k).foldl Pl.addF []) wr)) (fun i _ => fs.length - intN i)
  case atStart => exact ⟨0, _, rfl, Nat.zero_le _, HW0⟩
  case round =>
    obtain ⟨k, vf, rfl, hkl, hM⟩ := hrel
    by_cases hk : k < fs.length
    · obtain rfl := unhide HAA (by omega)
      have hrd := (unhide HR).below (unhide hM).below hbw
      obtain ⟨p0, p1, p2⟩ := hrd k hk
      have HAD := hide (add_files fs k hk)
      have hacc : ((fs.take k).foldl Pl.addF []).length ≤ 1048576 := by have := add_len (fs.take k) []; simp at this; omega
      obtain ⟨av, cv, gv, rfl, hav, hrv, -⟩ := (unhide hM).rw.files.rd
      have CF := hide (fun n => refFile_any ((fs.take k).foldl Pl.addF []) fs[k].path av cv gv 0 (wr.drewN n) hav hrv (by omega))
      have hlk := look_at (fs := (fs.take k).foldl Pl.addF []) (p := fs[k].path)
      have c0 := (unhide hM).rw.row.cell 0 (by simp)
      have f0 := (unhide hM).rw.row.frozen 0
      simp only [List.getElem_cons_zero] at c0
      have HOW := hide (unhide hM).rw.files
      have hlt := (unhide hM).rw.row.lt
      generalize hfk : fs[k] = fk at *
      generalize (fs.take k).foldl Pl.addF [] = acc at *
      unfold strV at p0 p1 CF
      have t1 : (k : Int) < (fs.length : Int) := by omega
      rcases hlk with ⟨e1, l1⟩ | ⟨j, hj, e1, l1⟩
      · rw [e1] at CF
        have HNX : Hid ((fs.take (k + 1)).foldl Pl.addF [] = acc ++ [fk]) := by
          show _ = _
          rw [unhide HAD]; unfold Pl.addF; rw [l1]; rfl
        clear e1 l1 hrv hav hrd hfk HAD
        go_wp2_with fail
        go_quiet (first | (go_at_call 25; exact Calls.quiet_of_same ((unhide CF _).mono (fun _ _ h => ⟨h.1, h.2.symm⟩))))
        go_wp2_with fail
        have hM2 := (unhide hM).later (Below.drewN (Below.refl _ wr) nq)
        have q0 : (wr.drewN nq).cell? ⟨b, o + k * 3, none⟩ = _ := p0
        have q1 : (wr.drewN nq).cell? ⟨b, o + k * 3 + 1, none⟩ = _ := p1
        have q2 : (wr.drewN nq).cell? ⟨b, o + k * 3 + 2, none⟩ = _ := p2
        have d0 : (wr.drewN nq).cell? ⟨w.heap.size, 0, none⟩ = _ := c0
        have g0 : (wr.drewN nq).frozen? ⟨w.heap.size, 0, none⟩ = _ := f0
        have HO2 := hide hM2.rw.files
        have hlt2 := hM2.rw.row.lt
        have HM2 := hide hM2
        clear hM hM2 CF p0 p1 p2 c0 f0 HOW hlt
        generalize wr.drewN nq = W2 at *
        go_region_law (refine step_append_own rfl (.tmp 34) (.tmp 39) 27 rfl (w.heap.size + 1) 62 i0 _ 3 40 Try.underlying27 (unhide HI0) (unhide HZ0) (unhide HZ1) (unhide HZ2) rfl (by decide) _ acc.length _ (by simp [Act.eval]) ((unhide HO2).alloc _) ⟨_, 0, none⟩ 1 1 (fileC fk) (by simp [Act.eval]) rfl (cells_new _ _ (fileC fk)) (by intro u hu; simp [fileC] at hu; rcases hu with rfl | rfl | rfl <;> rfl) (by unfold maxLen; omega) (by omega) (by simp; omega) ?_; intro v1 w1 hown1 hgrow1; obtain ⟨g1, cp1, rfl, hg1, hg2⟩ := owns_form hown1 (by omega); have HG1 := hide (grown_alloc1 hgrow1); have hp1 := (unhide HM2).rw.row.grown (unhide HG1) (own_ne (unhide HO2) (Nat.lt_succ_self _)); have e0 := hp1.cell 0 (by simp); have h0 := hp1.frozen 0; simp only [List.getElem_cons_zero] at e0; have HO1 := hide hown1; clear hown1 hgrow1 hp1)
        all_goals go_wp2_with fail
        all_goals go_roundw
        all_goals first
          | exact ⟨k + 1, _, by go_num, by omega, by rw [unhide HNX]; exact (unhide HM2).push (unhide HG1) (unhide HO1)⟩
          | (simp only [intN]; omega)
      · rw [e1] at CF
        have HNX : Hid ((fs.take (k + 1)).foldl Pl.addF [] = acc) := by
          show _ = _
          rw [unhide HAD]; unfold Pl.addF; rw [l1]; rfl
        have hj0 : ¬ (j : Int) < 0 := by omega
        clear e1 l1 hrv hav hrd hfk HAD
        go_wp2_with fail
        go_quiet (first | (go_at_call 25; exact Calls.quiet_of_same ((unhide CF _).mono (fun _ _ h => ⟨h.1, h.2.symm⟩))))
        go_wp2_with fail
        go_roundw
        case rel => exact ⟨k + 1, _, by go_num, by omega, by rw [unhide HNX]; exact (unhide hM).later (Below.drewN (Below.refl _ _) _)⟩
        case measure => simp only [intN]; omega
    · have hke : fs.take k = fs := List.take_of_length_le (by omega)
      rw [hke] at hM
      clear hke
      go_wp2_with fail
      go_ret
      exact ⟨rfl, _, _, (unhide hM).rw, (unhide hM).below⟩
end Go.Proofs.Ytjelacjggijmfaa
