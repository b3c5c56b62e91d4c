/-
  The program's machine does an instruction.
-/
import Derived.Test.YtjelacjggijmfaaGreatDoorVMP1
namespace Go.Proofs.YtjelacjggijmfaaGreatDoor
open Go.RowKit Go.MapKept Go.ChangeMaps Go.Maps
attribute [local go_sem ↓] Go.wp_at_zero Go.wp_at_succ

def insL (op at_ nx F G : Nat) : List Value := [.int .u8 op, .int .i64 at_, .int .i64 nx, .int .i64 F, .int .i64 G]
section
variable {w Z : World} {B bm bx bf bi : Nat} {ap : Option Addr} {cp : Nat} {ss : List Pl.Bs} {ve : Value} {ef : List Pl.Eff} {vs vg vs' vg' : Value} {st : List Bool} {fl : Nat → Bool} {go : Nat} {X : Pl.Wd}
/-- A row that was made behind the machine's own memory stays where the machine turns. -/
theorem MM.far (h : MM w B bm bx bf bi ap cp ss ve ef vs vg st fl go X) {W : World} {N : Nat} {t : TypeId} {vs0 : List Value} (hN : w.heap.size ≤ N) (hr : Row W N t vs0) (ht : MTn bm bx bf vs vg vs' vg' W Z) : Row Z N t vs0 := by
  have l1 := h.lm
  have l2 := h.lx
  have l3 := h.lf
  have l5 := h.lw
  refine hr.tn ht.tn (fun e => ?_)
  rcases e with e | e | e | e | e
  · omega
  · omega
  · omega
  · have := (h.stack.lt N e.symm).2; omega
  · have := (h.given.lt N e.symm).2; omega
end
set_option maxHeartbeats 4000000 in
set_option maxRecDepth 20000 in
theorem do1_any (at_ nx F G : Nat) (B bm bx bf bi : Nat) (ap : Option Addr) (cp : Nat) (ss : List Pl.Bs) (ve : Value) (ef : List Pl.Eff) (vs vg : Value) (st : List Bool) (fl : Nat → Bool) (go : Nat) (X : Pl.Wd) (w : World) (h : MM w B bm bx bf bi ap cp ss ve ef vs vg st fl go X) (hst : st.length ≤ 18) (hF : F ≤ 1) :
    Calls Tryz.prog 133 #[.pointer (some ⟨bm, 0, none⟩), .agg #[.int .u8 1, .int .i64 at_, .int .i64 nx, .int .i64 F, .int .i64 G]] w fun e w' => e = .returned (.tuple #[]) ∧ ∃ vs' vg', MM w' B bm bx bf bi ap cp ss ve ef vs' vg' (st ++ [F == 1]) fl go X ∧ MTn bm bx bf vs vg vs' vg' w w' := by
  have hbw : Below w.heap.size w (w.alloc (.cells #[.int .u8 1, .int .i64 at_, .int .i64 nx, .int .i64 F, .int .i64 G] 254)) := (Below.refl _ w).alloc (Nat.le_refl _) _
  have HM0 := hide (h.later hbw)
  have HT0 : Hid (MTn bm bx bf vs vg vs vg w (w.alloc (.cells #[.int .u8 1, .int .i64 at_, .int .i64 nx, .int .i64 F, .int .i64 G] 254))) := MTn.later hbw
  have HR0 : Hid (Row (w.alloc (.cells #[.int .u8 1, .int .i64 at_, .int .i64 nx, .int .i64 F, .int .i64 G] 254)) w.heap.size 254 (insL 1 at_ nx F G)) := Row.new w 254 [.int .u8 1, .int .i64 at_, .int .i64 nx, .int .i64 F, .int .i64 G]
  have hF2 : F = 0 ∨ F = 1 := by omega
  have CP := hide (fun x => push_any x _ _ _ _ _ _ _ _ _ _ _ _ _ _ _ _ _ (unhide HM0) (by omega : st.length ≤ 20))
  clear h hbw
  rcases hF2 with rfl | rfl
  · go_enter Tryz.func133, Tryz.ntmps133
    go_wp2_with (first | (go_at_call 173; refine (unhide CP _).mono ?_; rintro e w1 ⟨rfl, vs1, hm1, ht1⟩; have HM1 := hide hm1; have HT1 := hide ht1; clear hm1 ht1) | fail)
    go_end0
    exact ⟨rfl, _, _, unhide HM1, (unhide HT0).trans (unhide HT1)⟩
  · go_enter Tryz.func133, Tryz.ntmps133
    go_wp2_with (first | (go_at_call 173; refine (unhide CP _).mono ?_; rintro e w1 ⟨rfl, vs1, hm1, ht1⟩; have HM1 := hide hm1; have HT1 := hide ht1; clear hm1 ht1) | fail)
    go_end0
    exact ⟨rfl, _, _, unhide HM1, (unhide HT0).trans (unhide HT1)⟩
set_option maxHeartbeats 4000000 in
set_option maxRecDepth 20000 in
theorem do5_any (r : List Bool) (x y : Bool) (at_ nx F G : Nat) (B bm bx bf bi : Nat) (ap : Option Addr) (cp : Nat) (ss : List Pl.Bs) (ve : Value) (ef : List Pl.Eff) (vs vg : Value) (fl : Nat → Bool) (go : Nat) (X : Pl.Wd) (w : World) (h : MM w B bm bx bf bi ap cp ss ve ef vs vg (r ++ [x, y]) fl go X) (hst : r.length ≤ 16) :
    Calls Tryz.prog 133 #[.pointer (some ⟨bm, 0, none⟩), .agg #[.int .u8 5, .int .i64 at_, .int .i64 nx, .int .i64 F, .int .i64 G]] w fun e w' => e = .returned (.tuple #[]) ∧ ∃ vs' vg', MM w' B bm bx bf bi ap cp ss ve ef vs' vg' (r ++ [y || x]) fl go X ∧ MTn bm bx bf vs vg vs' vg' w w' := by
  have hbw : Below w.heap.size w (w.alloc (.cells #[.int .u8 5, .int .i64 at_, .int .i64 nx, .int .i64 F, .int .i64 G] 254)) := (Below.refl _ w).alloc (Nat.le_refl _) _
  have HM0 := hide (h.later hbw)
  rw [show r ++ [x, y] = (r ++ [x]) ++ [y] by simp] at HM0
  have HT0 : Hid (MTn bm bx bf vs vg vs vg w (w.alloc (.cells #[.int .u8 5, .int .i64 at_, .int .i64 nx, .int .i64 F, .int .i64 G] 254))) := MTn.later hbw
  have HR0 : Hid (Row (w.alloc (.cells #[.int .u8 5, .int .i64 at_, .int .i64 nx, .int .i64 F, .int .i64 G] 254)) w.heap.size 254 (insL 5 at_ nx F G)) := Row.new w 254 [.int .u8 5, .int .i64 at_, .int .i64 nx, .int .i64 F, .int .i64 G]
  have C1 := hide (pop_any y (r ++ [x]) _ _ _ _ _ _ _ _ _ _ _ _ _ _ _ _ (unhide HM0) (by simp; omega))
  have C2 : Hid (∀ (W : World) (v : Value), MM W B bm bx bf bi ap cp ss ve ef v vg (r ++ [x]) fl go X → Calls Tryz.prog 176 #[.pointer (some ⟨bm, 0, none⟩)] W fun e w' => e = .returned (.bool x) ∧ ∃ vs', MM w' B bm bx bf bi ap cp ss ve ef vs' vg r fl go X ∧ MTn bm bx bf v vg vs' vg W w') := fun W v hm => pop_any x r _ _ _ _ _ _ _ _ _ _ _ _ _ _ _ W hm (by omega)
  have C3 : Hid (∀ (W : World) (v : Value) (z : Bool), MM W B bm bx bf bi ap cp ss ve ef v vg r fl go X → Calls Tryz.prog 173 #[.pointer (some ⟨bm, 0, none⟩), .bool z] W fun e w' => e = .returned (.tuple #[]) ∧ ∃ vs', MM w' B bm bx bf bi ap cp ss ve ef vs' vg (r ++ [z]) fl go X ∧ MTn bm bx bf v vg vs' vg W w') := fun W v z hm => push_any z _ _ _ _ _ _ _ _ _ _ _ _ _ _ _ _ W hm (by omega)
  clear h hbw
  cases x <;> cases y
  all_goals go_enter Tryz.func133, Tryz.ntmps133
  all_goals go_wp2_with (first
    | (go_at_call 176; refine (unhide C1).mono ?_; rintro e w1 ⟨rfl, vs1, hm1, ht1⟩; have HM1 := hide hm1; have HT1 := hide ((unhide HT0).trans ht1); clear hm1 ht1)
    | (go_at_call 176; refine (unhide C2 _ _ (unhide HM1)).mono ?_; rintro e w2 ⟨rfl, vs2, hm2, ht2⟩; have HM2 := hide hm2; have HT2 := hide ((unhide HT1).trans ht2); clear hm2 ht2)
    | (go_at_call 173; refine (unhide C3 _ _ _ (unhide HM2)).mono ?_; rintro e w3 ⟨rfl, vs3, hm3, ht3⟩; have HM3 := hide hm3; have HT3 := hide ((unhide HT2).trans ht3); clear hm3 ht3)
    | fail)
  all_goals go_end0
  all_goals exact ⟨rfl, _, _, unhide HM3, unhide HT3⟩
set_option maxHeartbeats 4000000 in
set_option maxRecDepth 20000 in
theorem do6_any (r : List Bool) (y : Bool) (at_ nx F G : Nat) (B bm bx bf bi : Nat) (ap : Option Addr) (cp : Nat) (ss : List Pl.Bs) (ve : Value) (ef : List Pl.Eff) (vs vg : Value) (fl : Nat → Bool) (go : Nat) (X : Pl.Wd) (w : World) (h : MM w B bm bx bf bi ap cp ss ve ef vs vg (r ++ [y]) fl go X) (hst : r.length ≤ 17) (hn : nx ≤ 8388608) (hF : F ≤ 65535) :
    Calls Tryz.prog 133 #[.pointer (some ⟨bm, 0, none⟩), .agg #[.int .u8 6, .int .i64 at_, .int .i64 nx, .int .i64 F, .int .i64 G]] w fun e w' => e = .returned (.tuple #[]) ∧ ∃ vs' vg', MM w' B bm bx bf bi ap cp ss ve ef vs' vg' r fl (if y then go else nx + F) X ∧ MTn bm bx bf vs vg vs' vg' w w' := by
  have hbw : Below w.heap.size w (w.alloc (.cells #[.int .u8 6, .int .i64 at_, .int .i64 nx, .int .i64 F, .int .i64 G] 254)) := (Below.refl _ w).alloc (Nat.le_refl _) _
  have HM0 := hide (h.later hbw)
  have HT0 : Hid (MTn bm bx bf vs vg vs vg w (w.alloc (.cells #[.int .u8 6, .int .i64 at_, .int .i64 nx, .int .i64 F, .int .i64 G] 254))) := MTn.later hbw
  have HR0 : Hid (Row (w.alloc (.cells #[.int .u8 6, .int .i64 at_, .int .i64 nx, .int .i64 F, .int .i64 G] 254)) w.heap.size 254 (insL 6 at_ nx F G)) := Row.new w 254 [.int .u8 6, .int .i64 at_, .int .i64 nx, .int .i64 F, .int .i64 G]
  have C1 := hide (pop_any y r _ _ _ _ _ _ _ _ _ _ _ _ _ _ _ _ (unhide HM0) (by omega))
  have HFR : Hid (∀ (Z : World) (v : Value), MTn bm bx bf vs vg v vg (w.alloc (.cells #[.int .u8 6, .int .i64 at_, .int .i64 nx, .int .i64 F, .int .i64 G] 254)) Z → Row Z w.heap.size 254 (insL 6 at_ nx F G)) := fun Z v ht => h.far (Nat.le_refl _) (unhide HR0) ht
  clear h hbw
  cases y
  · go_enter Tryz.func133, Tryz.ntmps133
    go_wp2_with (first
      | (go_at_call 176; refine (unhide C1).mono ?_; rintro e w1 ⟨rfl, vs1, hm1, ht1⟩; have hr1 := unhide HFR _ _ ht1; have d2 := hr1.cell? (i := 2) rfl; have d3 := hr1.cell? (i := 3) rfl; have e2 := hm1.row.cell? (i := 259) (mCells_tail 0); have e3 := hm1.row.frozen 259; have HMG := hide (hm1.goOn (nx + F)); have HT1 := hide ((unhide HT0).trans ht1); clear hm1 ht1 hr1)
      | fail)
    go_end0
    have := unhide HMG
    exact ⟨rfl, _, _, this.1, (unhide HT1).trans this.2⟩
  · go_enter Tryz.func133, Tryz.ntmps133
    go_wp2_with (first
      | (go_at_call 176; refine (unhide C1).mono ?_; rintro e w1 ⟨rfl, vs1, hm1, ht1⟩; have HM1 := hide hm1; have HT1 := hide ((unhide HT0).trans ht1); clear hm1 ht1)
      | fail)
    go_end0
    exact ⟨rfl, _, _, unhide HM1, unhide HT1⟩
end Go.Proofs.YtjelacjggijmfaaGreatDoor
