/-
  Run of package maker.
  The program runs a plan.
-/
import Derived.Test.YtjelacjggijmfaaGreatDoorVMP5
import Derived.Test.YtjelacjggijmfaaGreatDoorVIter
import Derived.Test.YtjelacjggijmfaaGreatDoorVRG1
import Derived.Test.YtjelacjggijmfaaGreatDoorVXT
import Derived.Deep.WholeRow
namespace Go.Proofs.YtjelacjggijmfaaGreatDoor
open Go.RowKit Go.Shelf Go.MapKept Go.ChangeMaps Go.Maps
attribute [local go_sem ↓] Go.wp_at_zero Go.wp_at_succ

/-- What run.Text leaves. -/
structure TextPost (l : Pl.Bs) (ef : List Pl.Eff) (X : Pl.Wd) (bx bf : Nat) (w : World) (e : Ending) (w' : World) : Prop where
  tn : Tn (fun k => k = bx ∨ k = bf) w w'
  res : (¬ Pl.checkOf l ∧ e = .returned (.tuple #[zRes, .int .i64 9])) ∨
    ∃ ss c vc vr, Pl.load l = some (ss, c) ∧ Pl.checkOf l ∧ e = .returned (.tuple #[.agg #[vc, vr, .int .i64 (Pl.runW c ss ef X).exit, .int .i64 (Pl.runW c ss ef X).clock], .int .i64 0]) ∧
      Strs w' w.heap.size vc (Pl.runW c ss ef X).cmds ∧ AFls w' w.heap.size vr (Pl.sortF (Pl.runW c ss ef X).files)
set_option maxHeartbeats 4000000 in
set_option maxRecDepth 20000 in
theorem runText_no (l : Pl.Bs) (hl : l.length ≤ 8388608) (hno : ¬ Pl.checkOf l) (ef : List Pl.Eff) (X : Pl.Wd) (bx bf : Nat) (w : World) :
    Calls Tryz.prog 60 #[.string ⟨l.toArray⟩, .pointer (some ⟨bx, 0, none⟩)] w fun e w' => TextPost l ef X bx bf w e w' := by
  have HNO := hide hno
  have CC := hide (fun W => read_any l W hl)
  clear hno
  go_enter Tryz.func60, Tryz.ntmps60
  go_wp2_with (first
    | (go_at_call 59; refine (unhide CC _).mono ?_; rintro e w1 ⟨hres, hb1⟩; obtain ⟨-, rfl⟩ := hres.resolve_right (fun h => by obtain ⟨ss, c, b, h1, h2, _⟩ := h; exact unhide HNO ⟨_, h1, h2⟩); have hr1 := (Row.new w 48 [.slice none 0 0, .slice none 0 0, .int .i64 0, .int .i64 0]).later hb1; have HB1 := hide (((Below.refl _ w).alloc (Nat.le_refl _) (.cells #[.slice none 0 0, .slice none 0 0, .int .i64 0, .int .i64 0] 48)).trans (hb1.mono (by rw [World.size_alloc]; omega))); have HR1 := hide (hr1.later ((Below.refl _ w1).alloc (Nat.le_refl _) (.cells #[.slice none 0 0, .string ⟨#[]⟩] 120))); have r0 := (unhide HR1).cell 0 (by simp); have r1 := (unhide HR1).cell 1 (by simp); have r2 := (unhide HR1).cell 2 (by simp); have r3 := (unhide HR1).cell 3 (by simp); have f0 := (unhide HR1).frozen 0; have f1 := (unhide HR1).frozen 1; have f2 := (unhide HR1).frozen 2; have f3 := (unhide HR1).frozen 3; simp only [List.getElem_cons_zero, List.getElem_cons_succ] at r0 r1 r2 r3; clear hres hr1 hb1)
    | fail)
  have hR := ((((unhide HR1).set 0 (.slice none 0 0)).set 1 (.slice none 0 0)).set 2 (.int .i64 0)).set 3 (.int .i64 0)
  have o0 := hR.cell 0 (by simp)
  have o1 := hR.cell 1 (by simp)
  have o2 := hR.cell 2 (by simp)
  have o3 := hR.cell 3 (by simp)
  simp only [List.set_cons_zero, List.set_cons_succ, List.getElem_cons_zero, List.getElem_cons_succ] at o0 o1 o2 o3
  have hba : Below w1.heap.size w1 (w1.alloc (.cells #[.slice none 0 0, .string ⟨#[]⟩] 120)) := (Below.refl _ w1).alloc (Nat.le_refl _) _
  have hbb := (unhide HB1).trans (hba.mono (unhide HB1).size)
  refine bodyPost_ret (v := .tuple #[zRes, .int .i64 9]) ?_ rfl ⟨Tn.later (((((hbb.setCell (p := ⟨w.heap.size, 0, none⟩) (Nat.le_refl _) _).setCell (p := ⟨w.heap.size, 1, none⟩) (Nat.le_refl _) _).setCell (p := ⟨w.heap.size, 2, none⟩) (Nat.le_refl _) _).setCell (p := ⟨w.heap.size, 3, none⟩) (Nat.le_refl _) _)), .inl ⟨unhide HNO, rfl⟩⟩
  simp [results, Tryz.results60, go_sem, o0, o1, o2, o3, zRes]
theorem zero_machine (bx : Nat) (ap : Option Addr) (n : Nat) : (Tryz.zeroCells176.toList.set 0 (.pointer (some ⟨bx, 0, none⟩))).set 1 (.slice ap n n) = mCells bx ap n n (.slice none 0 0) (fun _ => false) 0 (.slice none 0 0) 0 := by kernel_rfl
theorem one_machine (bx : Nat) (ap : Option Addr) (n : Nat) : (mCells bx ap n n (.slice none 0 0) (fun _ => false) 0 (.slice none 0 0) 0).toArray.all (·.oneCell') = true := by
  rw [List.all_toArray]
  unfold mCells
  simp only [List.all_cons, List.all_append, List.all_map, List.all_nil]
  have : (List.range 256).all ((fun x : Value => x.oneCell') ∘ fun _ => Value.bool false) = true := by rw [List.all_eq_true]; intro x _; rfl
  rw [this]
  rfl
theorem store_machine (w : World) (N : Nat) (hN : w.heap.size = N) (bx : Nat) (ap : Option Addr) (n : Nat) :
    Sem.run Tryz.prog (storeCells ⟨N, 0, none⟩ ((Tryz.zeroCells176.toList.set 0 (.pointer (some ⟨bx, 0, none⟩))).set 1 (.slice ap n n))) (w.alloc (.cells Tryz.zeroCells176 176)) =
      .ok () (w.alloc (.cells (mCells bx ap n n (.slice none 0 0) (fun _ => false) 0 (.slice none 0 0) 0).toArray 176)) := by
  subst hN
  rw [zero_machine]
  have := run_storeCells_new (P := Tryz.prog) w 176 Tryz.zeroCells176 (mCells bx ap n n (.slice none 0 0) (fun _ => false) 0 (.slice none 0 0) 0).toArray (by kernel_rfl) (by kernel_rfl) (one_machine bx ap n)
  exact this
theorem exec_fit (S : List Pl.Bs) (c : Pl.Bs) (ss : List Pl.Bs) (ef : List Pl.Eff) (hEs : ∀ e ∈ ef, ∀ f ∈ e.writes, f.path ∈ S) : ∀ (f p : Nat) (st : List Bool) (fl : Nat → Bool) (X : Pl.Wd), Fit S X.files → Fit S (Pl.exec c ss ef f p st fl X).files
  | 0, _, _, _, _, h => h
  | f + 1, p, st, fl, X, h => by
    rw [Pl.exec]
    split
    · refine exec_fit S c ss ef hEs f _ _ _ _ ?_
      have : (Pl.act ss ef (Pl.mkIns c p) st fl X).2.2.2 = X ∨ ∃ d, (Pl.act ss ef (Pl.mkIns c p) st fl X).2.2.2 = Pl.giveW ef X d := by
        unfold Pl.act
        repeat' split
        all_goals first | exact .inl rfl | exact .inr ⟨_, rfl⟩
      rcases this with e | ⟨d, e⟩
      · rw [e]; exact h
      · rw [e]
        unfold Pl.giveW
        split
        · exact h
        · rename_i e' he'
          exact Fit.puts _ _ h (hEs e' (List.mem_of_find?_eq_some he'))
    · exact h
theorem machine_start {w w1 : World} {o0 : Obj} {bx bf bi b : Nat} {ve : Value} {ef : List Pl.Eff} {X : Pl.Wd} {ss : List Pl.Bs} {c : Pl.Bs} (hpw : PW w bx bf bi ve ef X.files X.clock) (hx : X.exit = 0) (hc : X.cmds = []) (hb1 : Below (w.alloc o0).heap.size (w.alloc o0) w1) (hrow : Row w1 b 9 (ss.map strV)) (hbw : (w.alloc o0).heap.size ≤ b) :
    MM ((w1.alloc (.cells #[.slice (some ⟨b, 0, none⟩) ss.length ss.length, .string ⟨c.toArray⟩] 120)).alloc (.cells (mCells bx (some ⟨b, 0, none⟩) ss.length ss.length (.slice none 0 0) (fun _ => false) 0 (.slice none 0 0) 0).toArray 176)) (w1.heap.size + 2) (w1.heap.size + 1) bx bf bi (some ⟨b, 0, none⟩) ss.length ss ve ef (.slice none 0 0) (.slice none 0 0) [] (fun _ => false) 0 X ∧
    Below w.heap.size w ((w1.alloc (.cells #[.slice (some ⟨b, 0, none⟩) ss.length ss.length, .string ⟨c.toArray⟩] 120)).alloc (.cells (mCells bx (some ⟨b, 0, none⟩) ss.length ss.length (.slice none 0 0) (fun _ => false) 0 (.slice none 0 0) 0).toArray 176)) := by
  have l1 := hpw.row.lt
  have l2 := hpw.files.lt
  have l3 := hpw.first.elim (fun l h => h.1.lt)
  have hs0 : (w.alloc o0).heap.size = w.heap.size + 1 := World.size_alloc _ _
  have hs1 := hb1.size
  have hbl := hrow.lt
  have ha0 : Below w.heap.size w (w.alloc o0) := (Below.refl _ w).alloc (Nat.le_refl _) _
  have hbw1 : Below w.heap.size w w1 := ha0.trans (hb1.mono (by omega))
  have ha2 : Below w1.heap.size w1 ((w1.alloc (.cells #[.slice (some ⟨b, 0, none⟩) ss.length ss.length, .string ⟨c.toArray⟩] 120)).alloc (.cells (mCells bx (some ⟨b, 0, none⟩) ss.length ss.length (.slice none 0 0) (fun _ => false) 0 (.slice none 0 0) 0).toArray 176)) := ((Below.refl _ w1).alloc (Nat.le_refl _) _).alloc (by rw [World.size_alloc]; omega) _
  have hall := hbw1.trans (ha2.mono (by omega))
  have hrow2 := hrow.later ha2
  have hbm := Row.new (w1.alloc (.cells #[.slice (some ⟨b, 0, none⟩) ss.length ss.length, .string ⟨c.toArray⟩] 120)) 176 (mCells bx (some ⟨b, 0, none⟩) ss.length ss.length (.slice none 0 0) (fun _ => false) 0 (.slice none 0 0) 0)
  rw [World.size_alloc] at hbm
  refine ⟨⟨by rw [hx]; exact hbm, hpw.later hall, ⟨b, fun _ => ⟨rfl, by omega, by omega, by omega, by omega⟩, fun i hi => ?_⟩, World.ownsRow_nil _ _ _ _, by rw [hc]; exact World.ownsRow_nil _ _ _ _, by omega, by omega, by omega, by omega, by simp only [World.size_alloc]; omega, by omega, by omega, by omega⟩, hall⟩
  have := hrow2.cell i (by simpa using hi)
  rw [Nat.zero_add, this]
  simp
set_option maxHeartbeats 4000000 in
set_option maxRecDepth 20000 in
theorem runText_yes (l : Pl.Bs) (hl : l.length ≤ 8388608) (hyes : Pl.checkOf l) (ae : Option Addr) (ce L be oe : Nat) (S : List Pl.Bs) (bx bf bi : Nat) (ef : List Pl.Eff) (X : Pl.Wd) (w : World)
    (hpw : PW w bx bf bi (.slice ae ef.length ce) ef X.files X.clock) (hx : X.exit = 0) (hc : X.cmds = []) (hE : EffOk w L be oe ae ef S) (hL1 : L ≤ bx) (hL2 : L ≤ bf) (hfit : Fit S X.files) (hSp : ∀ p ∈ S, p.length ≤ maxLen) :
    Calls Tryz.prog 60 #[.string ⟨l.toArray⟩, .pointer (some ⟨bx, 0, none⟩)] w fun e w' => TextPost l ef X bx bf w e w' := by
  have CC := hide (fun W => read_any l W hl)
  have HY := hide hyes
  have HPW := hide hpw
  have HE := hide hE
  have HFT := hide hfit
  have HSP := hide hSp
  have HL := hide hl
  have lx := hpw.row.lt
  have lf := hpw.files.lt
  have H0 := hide (Row.new w 48 [.slice none 0 0, .slice none 0 0, .int .i64 0, .int .i64 0])
  clear hyes hpw hE hfit hSp hl
  go_enter Tryz.func60, Tryz.ntmps60
  go_wp2_with (first
    | (go_at_call 59; refine (unhide CC _).mono ?_; rintro e w1 ⟨hres, hb1⟩; obtain ⟨ss, c, b, hld, hsp, rfl, hrow, hbw⟩ := hres.resolve_left (fun h => h.1 (unhide HY)); have hsm := store_machine (w1.alloc (.cells #[.slice (some ⟨b, 0, none⟩) ss.length ss.length, .string ⟨c.toArray⟩] 120)) (w1.heap.size + 1) (by rw [World.size_alloc]) bx (some ⟨b, 0, none⟩) ss.length; have HMS := hide (machine_start (c := c) (unhide HPW) hx hc hb1 hrow hbw); have hw1 := hb1.size; rw [World.size_alloc] at hw1; have HR1 := hide ((unhide H0).later hb1); have HLD := hide hld; have HSN := hide hsp; clear hres hld hsp hrow hbw hb1)
    | fail)
  have HR2 := hide (((unhide HR1).later ((Below.refl _ w1).alloc (Nat.le_refl _) (.cells #[.slice (some ⟨b, 0, none⟩) ss.length ss.length, .string ⟨c.toArray⟩] 120))).later ((Below.refl _ _).alloc (Nat.le_refl _) (.cells (mCells bx (some ⟨b, 0, none⟩) ss.length ss.length (.slice none 0 0) (fun _ => false) 0 (.slice none 0 0) 0).toArray 176)))
  have hW2 : ((w1.alloc (.cells #[.slice (some ⟨b, 0, none⟩) ss.length ss.length, .string ⟨c.toArray⟩] 120)).alloc (.cells (mCells bx (some ⟨b, 0, none⟩) ss.length ss.length (.slice none 0 0) (fun _ => false) 0 (.slice none 0 0) 0).toArray 176)).heap.size = w1.heap.size + 2 := by simp only [World.size_alloc]
  clear hsm H0 HR1
  generalize (w1.alloc (.cells #[.slice (some ⟨b, 0, none⟩) ss.length ss.length, .string ⟨c.toArray⟩] 120)).alloc (.cells (mCells bx (some ⟨b, 0, none⟩) ss.length ss.length (.slice none 0 0) (fun _ => false) 0 (.slice none 0 0) 0).toArray 176) = W2 at *
  have hcl := (load_len (unhide HLD)).1
  have hll := unhide HL
  have hlw : L ≤ w.heap.size := by omega
  have CR := hide (callsIn_wide.1 (mrun_in ⟨c.toArray⟩ (by rw [size_mk]; omega) ae ce L be oe S (w1.heap.size + 1) bx bf bi (some ⟨b, 0, none⟩) ss.length ss ef X W2 (by rw [hW2]; exact (unhide HMS).1) ⟨_, unhide HSN⟩ hx hc ((unhide HE).tn (Tn.later (p := fun _ => False) (unhide HMS).2) hlw (fun k e => e.elim)) (by omega) hL1 hL2 (unhide HFT)))
  refine (unhide CR).mono ?_
  rintro e W3 ⟨rfl, hX⟩
  have hct : (⟨c.toArray⟩ : ByteArray).data.toList = c := by simp
  rw [hct] at hX
  obtain ⟨⟨vs, vg, st, fl, go, hm⟩, ht⟩ := hX
  rw [hW2] at hm
  obtain ⟨ag, cg, hvg⟩ := own_sh hm.given
  have hFR : Fit S (Pl.runW c ss ef X).files := exec_fit S c ss ef (unhide HE).names _ _ _ _ _ (unhide HFT)
  have hfl := hFR.len
  have hfew := (unhide HE).few
  generalize hRR : Pl.runW c ss ef X = R at *
  subst hvg
  have hrow3 := (unhide HR2).tn ht (by omega)
  have htw : Tn (fun k => k = bx ∨ k = bf) w W3 := ⟨ht.os.trans (unhide HMS).2.os, ht.tape.trans (unhide HMS).2.tape, ht.output.trans (unhide HMS).2.output, Nat.le_trans (unhide HMS).2.size ht.size, fun k hk hp => (ht.block k (by omega) (fun e => by
    rcases e with e | e
    · omega
    · exact hp e)).trans ((unhide HMS).2.block k hk)⟩
  have HP0 : Hid (MM W3.drew (w1.heap.size + 2 + 2) (w1.heap.size + 1) bx bf bi (some ⟨b, 0, none⟩) ss.length ss (.slice ae ef.length ce) ef vs (.slice ag R.cmds.length cg) st fl go R ∧ Row W3.drew w.heap.size 48 [.slice none 0 0, .slice none 0 0, .int .i64 0, .int .i64 0] ∧ Tn (fun k => k = bx ∨ k = bf) w W3.drew) := ⟨hm.later (Below.refl _ W3).drew, hrow3, htw.trans (Tn.later (Below.refl _ W3).drew)⟩
  have g5 := hm.row.cell? (i := 260) (mCells_tail 1)
  have g6 := hm.row.cell? (i := 261) (mCells_tail 2)
  have CF : Hid (∀ W, (MM W (w1.heap.size + 2 + 2) (w1.heap.size + 1) bx bf bi (some ⟨b, 0, none⟩) ss.length ss (.slice ae ef.length ce) ef vs (.slice ag R.cmds.length cg) st fl go R ∧ Row W w.heap.size 48 [.slice none 0 0, .slice none 0 0, .int .i64 0, .int .i64 0] ∧ Tn (fun k => k = bx ∨ k = bf) w W) →
      Calls Tryz.prog 83 #[.pointer (some ⟨bx, 0, none⟩)] W fun e w' => (∃ av cv, e = .returned (.slice av (Pl.sortF R.files).length cv) ∧ AFls w' (w.heap.size + 1) (.slice av (Pl.sortF R.files).length cv) (Pl.sortF R.files)) ∧
        (MM w' (w1.heap.size + 2 + 2) (w1.heap.size + 1) bx bf bi (some ⟨b, 0, none⟩) ss.length ss (.slice ae ef.length ce) ef vs (.slice ag R.cmds.length cg) st fl go R ∧ Row w' w.heap.size 48 [.slice none 0 0, .slice none 0 0, .int .i64 0, .int .i64 0] ∧ Tn (fun k => k = bx ∨ k = bf) w w') ∧
        w'.cell? ⟨w1.heap.size + 1, 260, none⟩ = some (.slice ag R.cmds.length cg) ∧ w'.cell? ⟨w1.heap.size + 1, 261, none⟩ = some (.int .i64 R.exit)) := fun W hp => by
    refine (files_any bx bf bi _ _ _ _ W hp.1.pw hFR.1 (by omega) (fun f hf => unhide HSP _ (hFR.2 _ (List.mem_map_of_mem hf)))).mono ?_
    rintro e w' ⟨⟨v, he, hv⟩, hb'⟩
    obtain ⟨av, cv, rfl⟩ := own_sh hv
    have hm' := hp.1.later hb'
    exact ⟨⟨av, cv, he, own_mono hv (by have := hp.2.1.lt; omega)⟩, ⟨hm', hp.2.1.later hb', hp.2.2.trans (Tn.later hb')⟩, hm'.row.cell? (i := 260) (mCells_tail 1), hm'.row.cell? (i := 261) (mCells_tail 2)⟩
  have CK : Hid (∀ W, (MM W (w1.heap.size + 2 + 2) (w1.heap.size + 1) bx bf bi (some ⟨b, 0, none⟩) ss.length ss (.slice ae ef.length ce) ef vs (.slice ag R.cmds.length cg) st fl go R ∧ Row W w.heap.size 48 [.slice none 0 0, .slice none 0 0, .int .i64 0, .int .i64 0] ∧ Tn (fun k => k = bx ∨ k = bf) w W) →
      Calls Tryz.prog 84 #[.pointer (some ⟨bx, 0, none⟩)] W fun e w' => e = .returned (.int .i64 R.clock) ∧ W = w') := fun W hp => wclock_any bx bf bi _ _ _ _ W hp.1.pw
  clear hm ht hrow3 htw hFR
  have HRR := hide hRR
  clear hRR CR CC hct
  have hne1 : ¬ w1.heap.size + 1 = w.heap.size := by omega
  have hne2 : ¬ w.heap.size = w1.heap.size + 1 := by omega
  go_wp2_with fail
  go_region_held3 (fun w' => w'.cell? ⟨w1.heap.size + 1, 260, none⟩ = some (.slice ag R.cmds.length cg) ∧ w'.cell? ⟨w1.heap.size + 1, 261, none⟩ = some (.int .i64 R.exit)) (go_keep) (first
    | (go_at_call 83; refine (unhide CF _ ?_).mono ?_; exact unhide HP0; rintro e w5 ⟨⟨av, cv, rfl, hv⟩, hp5, z0, z1⟩; have HP5 := hide hp5; have HV5 := hide hv; have r0 := hp5.2.1.cell 0 (by simp); have r1 := hp5.2.1.cell 1 (by simp); have r2 := hp5.2.1.cell 2 (by simp); have r3 := hp5.2.1.cell 3 (by simp); have f0 := hp5.2.1.frozen 0; have f1 := hp5.2.1.frozen 1; have f2 := hp5.2.1.frozen 2; have f3 := hp5.2.1.frozen 3; simp only [List.getElem_cons_zero, List.getElem_cons_succ] at r0 r1 r2 r3; clear hp5 hv)
    | (go_at_call 84; refine (unhide CK _ ?_).mono ?_; (first | exact unhide HP5 | exact unhide HP0); rintro e w6 ⟨rfl, rfl⟩))
  all_goals go_wp2_with fail
  have hp5 := unhide HP5
  have hR := (((hp5.2.1.set 0 (.slice ag R.cmds.length cg)).set 1 (.slice av (Pl.sortF R.files).length cv)).set 2 (.int .i64 R.exit)).set 3 (.int .i64 R.clock)
  have o0 := hR.cell 0 (by simp)
  have o1 := hR.cell 1 (by simp)
  have o2 := hR.cell 2 (by simp)
  have o3 := hR.cell 3 (by simp)
  simp only [List.set_cons_zero, List.set_cons_succ, List.getElem_cons_zero, List.getElem_cons_succ] at o0 o1 o2 o3
  have n1 := own_ne hp5.1.given (N := w.heap.size) (by omega)
  have n2 := own_ne (unhide HV5) (N := w.heap.size) (by omega)
  have htn : ∀ (W : World) (j : Nat) (u : Value), Tn (fun k => k = bx ∨ k = bf) w W → Tn (fun k => k = bx ∨ k = bf) w (W.setCell ⟨w.heap.size, j, none⟩ u) := fun W j u ht => ⟨((Below.refl 0 W).setCell (p := ⟨w.heap.size, j, none⟩) (Nat.zero_le _) u).os.trans ht.os, ((Below.refl 0 W).setCell (p := ⟨w.heap.size, j, none⟩) (Nat.zero_le _) u).tape.trans ht.tape, ((Below.refl 0 W).setCell (p := ⟨w.heap.size, j, none⟩) (Nat.zero_le _) u).output.trans ht.output, Nat.le_trans ht.size ((Below.refl 0 W).setCell (p := ⟨w.heap.size, j, none⟩) (Nat.zero_le _) u).size, fun k hk hp => (Below.heap_setCell W ⟨w.heap.size, j, none⟩ u k (by show k ≠ w.heap.size; omega)).trans (ht.block k hk hp)⟩
  refine bodyPost_ret (v := .tuple #[.agg #[.slice ag R.cmds.length cg, .slice av (Pl.sortF R.files).length cv, .int .i64 R.exit, .int .i64 R.clock], .int .i64 0]) ?_ rfl ⟨htn _ _ _ (htn _ _ _ (htn _ _ _ (htn _ _ _ hp5.2.2))), .inr ⟨ss, c, _, _, unhide HLD, unhide HY, by rw [unhide HRR], ?_, ?_⟩⟩
  · simp [results, Tryz.results60, go_sem, o0, o1, o2, o3]
  · rw [unhide HRR]; exact own_mono (owns_other (owns_other (owns_other (owns_other hp5.1.given n1 _ _) n1 _ _) n1 _ _) n1 _ _) (by omega)
  · rw [unhide HRR]; exact own_mono (owns_other (owns_other (owns_other (owns_other (unhide HV5) n2 _ _) n2 _ _) n2 _ _) n2 _ _) (by omega)
end Go.Proofs.YtjelacjggijmfaaGreatDoor
namespace Go.Proofs.YtjelacjggijmfaaGreatDoor
open Go.RowKit Go.Shelf Go.MapKept Go.ChangeMaps Go.Maps

/-- What the program's Run leaves. -/
structure ARunPost (l : Pl.Bs) (fs : List Pl.File) (ef : List Pl.Eff) (clock : Int) (w : World) (e : Ending) (w' : World) : Prop where
  below : Below w.heap.size w w'
  res : (¬ Pl.checkOf l ∧ e = .returned (.tuple #[zRes, .int .i64 9])) ∨
    ∃ ss c vc vr, Pl.load l = some (ss, c) ∧ Pl.checkOf l ∧ e = .returned (.tuple #[.agg #[vc, vr, .int .i64 (Pl.runW c ss ef (Pl.newW fs clock)).exit, .int .i64 (Pl.runW c ss ef (Pl.newW fs clock)).clock], .int .i64 0]) ∧
      Strs w' w.heap.size vc (Pl.runW c ss ef (Pl.newW fs clock)).cmds ∧ AFls w' w.heap.size vr (Pl.sortF (Pl.runW c ss ef (Pl.newW fs clock)).files)
theorem runText_any (l : Pl.Bs) (hl : l.length ≤ 8388608) (ae : Option Addr) (ce L be oe : Nat) (S : List Pl.Bs) (bx bf bi : Nat) (ef : List Pl.Eff) (X : Pl.Wd) (w : World)
    (hpw : PW w bx bf bi (.slice ae ef.length ce) ef X.files X.clock) (hx : X.exit = 0) (hc : X.cmds = []) (hE : EffOk w L be oe ae ef S) (hL1 : L ≤ bx) (hL2 : L ≤ bf) (hfit : Fit S X.files) (hSp : ∀ p ∈ S, p.length ≤ maxLen) :
    Calls Tryz.prog 60 #[.string ⟨l.toArray⟩, .pointer (some ⟨bx, 0, none⟩)] w fun e w' => TextPost l ef X bx bf w e w' := by
  by_cases h : Pl.checkOf l
  · exact runText_yes l hl h ae ce L be oe S bx bf bi ef X w hpw hx hc hE hL1 hL2 hfit hSp
  · exact runText_no l hl h ef X bx bf w
set_option maxHeartbeats 2000000 in
set_option maxRecDepth 20000 in
theorem makerRun_gen (l : Pl.Bs) (hl : l.length ≤ 8388608) (fs : List Pl.File) (ef : List Pl.Eff) (S : List Pl.Bs) (a ae : Option Addr) (cap b o ce L be oe : Nat) (clock : Int) (w : World)
    (ha : 0 < fs.length → a = some ⟨b, o, none⟩) (hr : RdF (w.alloc (.cells #[.slice none 0 0, .slice none 0 0, .int .i64 0, .int .i64 0] 48)) b o fs) (hbw : b < w.heap.size + 1) (hfl : fs.length ≤ 8388608) (hE : EffOk (w.alloc (.cells #[.slice none 0 0, .slice none 0 0, .int .i64 0, .int .i64 0] 48)) L be oe ae ef S) (hL : L ≤ w.heap.size + 1) (hfS : ∀ f ∈ fs, f.path ∈ S) (hSp : ∀ p ∈ S, p.length ≤ maxLen) :
    Calls Tryz.prog 30 #[.string ⟨l.toArray⟩, .slice a fs.length cap, .slice ae ef.length ce, .int .i64 clock] w fun e w' => ARunPost l fs ef clock w e w' := by
  have hb0 : Below w.heap.size w (w.alloc (.cells #[.slice none 0 0, .slice none 0 0, .int .i64 0, .int .i64 0] 48)) := (Below.refl _ w).alloc (Nat.le_refl _) _
  have hR0 := Row.new w 48 [.slice none 0 0, .slice none 0 0, .int .i64 0, .int .i64 0]
  have hs0 : (w.alloc (.cells #[.slice none 0 0, .slice none 0 0, .int .i64 0, .int .i64 0] 48)).heap.size = w.heap.size + 1 := World.size_alloc _ _
  have CN := hide (worldNew_any fs ef a ae cap b o ce L be oe clock (w.alloc (.cells #[.slice none 0 0, .slice none 0 0, .int .i64 0, .int .i64 0] 48)) ha hr (by omega) hfl hE.at' hE.rd (by omega) hE.many)
  have hft : Fit S (Pl.newW fs clock).files := Fit.adds fs ⟨by simp [Pl.Uniq], by simp⟩ hfS
  have HFT := hide hft
  have CT : Hid (∀ (W : World) (bx bf bi : Nat), PW W bx bf bi (.slice ae ef.length ce) ef (Pl.newW fs clock).files clock → Below (w.heap.size + 1) (w.alloc (.cells #[.slice none 0 0, .slice none 0 0, .int .i64 0, .int .i64 0] 48)) W → w.heap.size + 1 ≤ bx → w.heap.size + 1 ≤ bf → Calls Tryz.prog 60 #[.string ⟨l.toArray⟩, .pointer (some ⟨bx, 0, none⟩)] W fun e w' => ∃ a1 n1 c1 a2 n2 c2 ex ck er, e = .returned (.tuple #[.agg #[.slice a1 n1 c1, .slice a2 n2 c2, .int .i64 ex, .int .i64 ck], .int .i64 er]) ∧
      Row w' w.heap.size 48 [.slice none 0 0, .slice none 0 0, .int .i64 0, .int .i64 0] ∧ ARunPost l fs ef clock w (.returned (.tuple #[.agg #[.slice a1 n1 c1, .slice a2 n2 c2, .int .i64 ex, .int .i64 ck], .int .i64 er])) ((((w'.setCell ⟨w.heap.size, 0, none⟩ (.slice a1 n1 c1)).setCell ⟨w.heap.size, 1, none⟩ (.slice a2 n2 c2)).setCell ⟨w.heap.size, 2, none⟩ (.int .i64 ex)).setCell ⟨w.heap.size, 3, none⟩ (.int .i64 ck))) := fun W bx bf bi hp hb h1 h2 => by
    have hz := hb.size
    rw [hs0] at hz
    have hbW : Below w.heap.size w W := hb0.trans (hb.mono (Nat.le_add_right _ _))
    refine (runText_any l hl ae ce L be oe S bx bf bi ef (Pl.newW fs clock) W hp rfl rfl (hE.tn (Tn.later (p := fun _ => False) (by rw [hs0]; exact hb)) (by omega) (fun k e => e.elim)) (by omega) (by omega) (unhide HFT) hSp).mono ?_
    rintro e w' ⟨ht, hres⟩
    have hrow : Row w' w.heap.size 48 [.slice none 0 0, .slice none 0 0, .int .i64 0, .int .i64 0] := (hR0.below hb (by omega)).tn ht (by omega)
    have hb2 : Below w.heap.size w w' := hbW.trans (ht.below (by omega) (fun k e => by omega))
    have hset : ∀ u0 u1 u2 u3, Below w.heap.size w ((((w'.setCell ⟨w.heap.size, 0, none⟩ u0).setCell ⟨w.heap.size, 1, none⟩ u1).setCell ⟨w.heap.size, 2, none⟩ u2).setCell ⟨w.heap.size, 3, none⟩ u3) := fun u0 u1 u2 u3 => (((hb2.setCell (p := ⟨w.heap.size, 0, none⟩) (Nat.le_refl _) u0).setCell (p := ⟨w.heap.size, 1, none⟩) (Nat.le_refl _) u1).setCell (p := ⟨w.heap.size, 2, none⟩) (Nat.le_refl _) u2).setCell (p := ⟨w.heap.size, 3, none⟩) (Nat.le_refl _) u3
    rcases hres with ⟨h, rfl⟩ | ⟨ss, c, vc, vr, q1, q2, rfl, q4, q5⟩
    · exact ⟨none, 0, 0, none, 0, 0, 0, 0, 9, rfl, hrow, hset _ _ _ _, .inl ⟨h, rfl⟩⟩
    · obtain ⟨a1, c1, rfl⟩ := own_sh q4
      obtain ⟨a2, c2, rfl⟩ := own_sh q5
      have n1 := own_ne q4 (N := w.heap.size) (by omega)
      have n2 := own_ne q5 (N := w.heap.size) (by omega)
      exact ⟨a1, _, c1, a2, _, c2, _, _, 0, rfl, hrow, hset _ _ _ _, .inr ⟨ss, c, _, _, q1, q2, rfl, own_mono (owns_other (owns_other (owns_other (owns_other q4 n1 _ _) n1 _ _) n1 _ _) n1 _ _) (by omega), own_mono (owns_other (owns_other (owns_other (owns_other q5 n2 _ _) n2 _ _) n2 _ _) n2 _ _) (by omega)⟩⟩
  clear ha hr hE hfS hSp hft
  go_enter Tryz.func30, Tryz.ntmps30
  go_wp2_with (first
    | (go_at_call 61; refine (unhide CN).mono ?_; rintro e w1 ⟨bx, bf, bi, rfl, hp, hb, h1, h2, h3⟩; rw [hs0] at hb h1 h2; have HP := hide hp; have HB := hide hb; clear hp hb)
    | (go_at_call 60; refine (unhide CT _ bx bf bi (unhide HP) (unhide HB) h1 h2).mono ?_; rintro e w2 ⟨a1, n1, c1, a2, n2, c2, ex, ck, er, rfl, hrow, hpost⟩; have HPO := hide hpost; have HRO := hide hrow; have r0 := hrow.cell 0 (by simp); have r1 := hrow.cell 1 (by simp); have r2 := hrow.cell 2 (by simp); have r3 := hrow.cell 3 (by simp); have f0 := hrow.frozen 0; have f1 := hrow.frozen 1; have f2 := hrow.frozen 2; have f3 := hrow.frozen 3; simp only [List.getElem_cons_zero, List.getElem_cons_succ] at r0 r1 r2 r3; clear hpost hrow)
    | fail)
  have hR := ((((unhide HRO).set 0 (.slice a1 n1 c1)).set 1 (.slice a2 n2 c2)).set 2 (.int .i64 ex)).set 3 (.int .i64 ck)
  have o0 := hR.cell 0 (by simp)
  have o1 := hR.cell 1 (by simp)
  have o2 := hR.cell 2 (by simp)
  have o3 := hR.cell 3 (by simp)
  simp only [List.set_cons_zero, List.set_cons_succ, List.getElem_cons_zero, List.getElem_cons_succ] at o0 o1 o2 o3
  refine bodyPost_ret (v := .tuple #[.agg #[.slice a1 n1 c1, .slice a2 n2 c2, .int .i64 ex, .int .i64 ck], .int .i64 er]) ?_ rfl (unhide HPO)
  simp [results, Tryz.results30, go_sem, o0, o1, o2, o3]
theorem makerRun_any (l : Pl.Bs) (hl : l.length ≤ 8388608) (fs : List Pl.File) (ef : List Pl.Eff) (S : List Pl.Bs) (a ae : Option Addr) (cap b o ce L be oe : Nat) (clock : Int) (w : World)
    (ha : 0 < fs.length → a = some ⟨b, o, none⟩) (hr : RdF w b o fs) (hbw : b < w.heap.size) (hfl : fs.length ≤ 8388608) (hE : EffOk w L be oe ae ef S) (hL : L ≤ w.heap.size) (hfS : ∀ f ∈ fs, f.path ∈ S) (hSp : ∀ p ∈ S, p.length ≤ maxLen) :
    Calls Tryz.prog 30 #[.string ⟨l.toArray⟩, .slice a fs.length cap, .slice ae ef.length ce, .int .i64 clock] w fun e w' => ARunPost l fs ef clock w e w' := by
  have hb0 : Below w.heap.size w (w.alloc (.cells #[.slice none 0 0, .slice none 0 0, .int .i64 0, .int .i64 0] 48)) := (Below.refl _ w).alloc (Nat.le_refl _) _
  exact makerRun_gen l hl fs ef S a ae cap b o ce L be oe clock w ha (hr.below hb0 hbw) (by omega) hfl (hE.tn (Tn.later (p := fun _ => False) hb0) hL (fun k e => e.elim)) (by omega) hfS hSp
/-- With nothing handed in. -/
theorem makerRun_nil (l : Pl.Bs) (hl : l.length ≤ 8388608) (clock : Int) (w : World) : Calls Tryz.prog 30 #[.string ⟨l.toArray⟩, .slice none 0 0, .slice none 0 0, .int .i64 clock] w fun e w' => ARunPost l [] [] clock w e w' :=
  makerRun_gen l hl [] [] [] none none 0 0 0 0 1 0 0 clock w (fun h => by simp at h) (fun i hi => by simp at hi) (by omega) (by simp) ⟨fun h => by simp at h, ⟨by omega, fun i hi => by simp at hi⟩, by simp, by simp, by simp, by simp⟩ (by omega) (by simp) (by simp)
end Go.Proofs.YtjelacjggijmfaaGreatDoor
