/-
  The program's machine does an instruction that names strings or flags.
-/
import Derived.Test.YtjelacjggijmfaaGreatDoorVMP3
namespace Go.Proofs.YtjelacjggijmfaaGreatDoor
open Go.RowKit Go.MapKept Go.ChangeMaps Go.Maps
attribute [local go_sem ↓] Go.wp_at_zero Go.wp_at_succ

set_option maxHeartbeats 4000000 in
set_option maxRecDepth 20000 in
theorem do2_any (at_ nx F G : Nat) (B bm bx bf bi : Nat) (ap : Option Addr) (cp : Nat) (ss : List Pl.Bs) (ve : Value) (ef : List Pl.Eff) (vs vg : Value) (st : List Bool) (fl : Nat → Bool) (go : Nat) (X : Pl.Wd) (w : World) (h : MM w B bm bx bf bi ap cp ss ve ef vs vg st fl go X) (hst : st.length ≤ 18) (hF : F < ss.length) :
    Calls Tryz.prog 133 #[.pointer (some ⟨bm, 0, none⟩), .agg #[.int .u8 2, .int .i64 at_, .int .i64 nx, .int .i64 F, .int .i64 G]] w fun e w' => e = .returned (.tuple #[]) ∧ ∃ vs' vg', MM w' B bm bx bf bi ap cp ss ve ef vs' vg' (st ++ [(Pl.look X.files ss[F]).isNone]) fl go X ∧ MTn bm bx bf vs vg vs' vg' w w' := by
  obtain ⟨b, hb, -⟩ := h.str (by omega)
  subst hb
  have hbw : Below w.heap.size w (w.alloc (.cells #[.int .u8 2, .int .i64 at_, .int .i64 nx, .int .i64 F, .int .i64 G] 254)) := (Below.refl _ w).alloc (Nat.le_refl _) _
  have HM0 := hide (h.later hbw)
  have HT0 : Hid (MTn bm bx bf vs vg vs vg w (w.alloc (.cells #[.int .u8 2, .int .i64 at_, .int .i64 nx, .int .i64 F, .int .i64 G] 254))) := MTn.later hbw
  have HR0 : Hid (Row (w.alloc (.cells #[.int .u8 2, .int .i64 at_, .int .i64 nx, .int .i64 F, .int .i64 G] 254)) w.heap.size 254 (insL 2 at_ nx F G)) := Row.new w 254 [.int .u8 2, .int .i64 at_, .int .i64 nx, .int .i64 F, .int .i64 G]
  have HS : Hid (∀ (W : World) (vs1 vg1 : Value) (st1 : List Bool) (X1 : Pl.Wd), MM W B bm bx bf bi (some ⟨b, 0, none⟩) cp ss ve ef vs1 vg1 st1 fl go X1 → Row W w.heap.size 254 (insL 2 at_ nx F G) → W.cell? ⟨bm, 0, none⟩ = some (.pointer (some ⟨bx, 0, none⟩)) ∧ W.cell? ⟨bm, 1, none⟩ = some (.slice (some ⟨b, 0, none⟩) ss.length cp) ∧ W.cell? ⟨w.heap.size, 3, none⟩ = some (.int .i64 F) ∧ W.cell? ⟨b, F, none⟩ = some (.string ⟨ss[F].toArray⟩)) := fun W vs1 vg1 st1 X1 hm hr => ⟨hm.row.cell? (i := 0) rfl, hm.row.cell? (i := 1) rfl, hr.cell? (i := 3) rfl, by obtain ⟨b', hb', hc'⟩ := hm.str (by omega); cases hb'; exact hc' F hF⟩
  have HFR : Hid (∀ (W Z : World) (v1 v2 : Value), Row W w.heap.size 254 (insL 2 at_ nx F G) → MTn bm bx bf vs vg v1 v2 W Z → Row Z w.heap.size 254 (insL 2 at_ nx F G)) := fun W Z v1 v2 hr ht => h.far (Nat.le_refl _) hr ht
  have CP : Hid (∀ (W : World) (z : Bool), (MM W B bm bx bf bi (some ⟨b, 0, none⟩) cp ss ve ef vs vg st fl go X ∧ Row W w.heap.size 254 (insL 2 at_ nx F G) ∧ MTn bm bx bf vs vg vs vg w W) → Calls Tryz.prog 173 #[.pointer (some ⟨bm, 0, none⟩), .bool z] W fun e w' => e = .returned (.tuple #[]) ∧ (∃ vs', MM w' B bm bx bf bi (some ⟨b, 0, none⟩) cp ss ve ef vs' vg (st ++ [z]) fl go X ∧ MTn bm bx bf vs vg vs' vg w w') ∧ w'.cell? ⟨bm, 0, none⟩ = some (.pointer (some ⟨bx, 0, none⟩)) ∧ w'.cell? ⟨bm, 1, none⟩ = some (.slice (some ⟨b, 0, none⟩) ss.length cp) ∧ w'.cell? ⟨w.heap.size, 3, none⟩ = some (.int .i64 F) ∧ w'.cell? ⟨b, F, none⟩ = some (.string ⟨ss[F].toArray⟩)) := fun W z hp => by
    refine (push_any z _ _ _ _ _ _ _ _ _ _ _ _ _ _ _ _ W hp.1 (by omega)).mono ?_
    rintro e w' ⟨he, vs', hm, ht⟩
    exact ⟨he, ⟨vs', hm, hp.2.2.trans ht⟩, unhide HS _ _ _ _ _ hm (unhide HFR _ _ _ _ hp.2.1 ht)⟩
  have CH : Hid (∀ W, (MM W B bm bx bf bi (some ⟨b, 0, none⟩) cp ss ve ef vs vg st fl go X ∧ Row W w.heap.size 254 (insL 2 at_ nx F G) ∧ MTn bm bx bf vs vg vs vg w W) → Calls Tryz.prog 174 #[.pointer (some ⟨bx, 0, none⟩), .string ⟨ss[F].toArray⟩] W fun e w' => e = .returned (.bool (Pl.look X.files ss[F]).isSome) ∧ (MM w' B bm bx bf bi (some ⟨b, 0, none⟩) cp ss ve ef vs vg st fl go X ∧ Row w' w.heap.size 254 (insL 2 at_ nx F G) ∧ MTn bm bx bf vs vg vs vg w w') ∧ w'.cell? ⟨bm, 0, none⟩ = some (.pointer (some ⟨bx, 0, none⟩)) ∧ w'.cell? ⟨bm, 1, none⟩ = some (.slice (some ⟨b, 0, none⟩) ss.length cp) ∧ w'.cell? ⟨w.heap.size, 3, none⟩ = some (.int .i64 F) ∧ w'.cell? ⟨b, F, none⟩ = some (.string ⟨ss[F].toArray⟩)) := fun W hp => by
    refine (has_any bx bf bi _ _ _ _ _ W hp.1.pw).mono ?_
    rintro e w' ⟨he, hb'⟩
    exact ⟨he, ⟨hp.1.later hb', hp.2.1.later hb', hp.2.2.trans (MTn.later hb')⟩, unhide HS _ _ _ _ _ (hp.1.later hb') (hp.2.1.later hb')⟩
  have hq : (Pl.look X.files ss[F]).isNone = !(Pl.look X.files ss[F]).isSome := by cases Pl.look X.files ss[F] <;> rfl
  rw [hq]
  generalize (Pl.look X.files ss[F]).isSome = q at *
  clear hq
  have s0 := unhide HS _ _ _ _ _ (unhide HM0) (unhide HR0)
  have hne := h.lm
  have hlw := h.lw
  clear h hbw
  have i1 : (F : Int) < (ss.length : Int) := by omega
  have i2 : (0 : Int) ≤ (F : Int) := by omega
  obtain ⟨x0, x1, x2, x3⟩ := s0
  have HW0 : Hid (MM (w.alloc (.cells #[.int .u8 2, .int .i64 at_, .int .i64 nx, .int .i64 F, .int .i64 G] 254)) B bm bx bf bi (some ⟨b, 0, none⟩) cp ss ve ef vs vg st fl go X ∧ Row (w.alloc (.cells #[.int .u8 2, .int .i64 at_, .int .i64 nx, .int .i64 F, .int .i64 G] 254)) w.heap.size 254 (insL 2 at_ nx F G) ∧ MTn bm bx bf vs vg vs vg w (w.alloc (.cells #[.int .u8 2, .int .i64 at_, .int .i64 nx, .int .i64 F, .int .i64 G] 254))) := ⟨unhide HM0, unhide HR0, unhide HT0⟩
  go_enter Tryz.func133, Tryz.ntmps133
  go_wp2_with fail
  generalize w.alloc (.cells #[.int .u8 2, .int .i64 at_, .int .i64 nx, .int .i64 F, .int .i64 G] 254) = V at *
  have HV1 : Hid (MM V.drew B bm bx bf bi (some ⟨b, 0, none⟩) cp ss ve ef vs vg st fl go X ∧ Row V.drew w.heap.size 254 (insL 2 at_ nx F G) ∧ MTn bm bx bf vs vg vs vg w V.drew) := ⟨(unhide HW0).1.later (Below.refl _ V).drew, (unhide HW0).2.1, (unhide HW0).2.2.trans (MTn.later (Below.refl _ V).drew)⟩
  go_region_held3 (fun w' => w'.cell? ⟨bm, 0, none⟩ = some (.pointer (some ⟨bx, 0, none⟩)) ∧ w'.cell? ⟨bm, 1, none⟩ = some (.slice (some ⟨b, 0, none⟩) ss.length cp) ∧ w'.cell? ⟨w.heap.size, 3, none⟩ = some (.int .i64 F) ∧ w'.cell? ⟨b, F, none⟩ = some (.string ⟨ss[F].toArray⟩)) (go_keep) (first
    | (go_at_call 174; refine (unhide CH _ ?_).mono ?_; exact unhide HV1; rintro e w2 ⟨rfl, hp2, z0, z1, z2, z3⟩; have HP2 := hide hp2; clear hp2)
    | (go_at_call 173; refine (unhide CP _ _ ?_).mono ?_; exact unhide HP2; rintro e w3 ⟨rfl, hm3, y0, y1, y2, y3⟩; have HM3 := hide hm3; clear hm3))
  all_goals go_wp2_with fail
  all_goals go_end0
  all_goals (obtain ⟨vs3, hm3, ht3⟩ := unhide HM3; exact ⟨rfl, vs3, vg, hm3, ht3⟩)
set_option maxHeartbeats 4000000 in
set_option maxRecDepth 20000 in
theorem do3_any (at_ nx F G : Nat) (B bm bx bf bi : Nat) (ap : Option Addr) (cp : Nat) (ss : List Pl.Bs) (ve : Value) (ef : List Pl.Eff) (vs vg : Value) (st : List Bool) (fl : Nat → Bool) (go : Nat) (X : Pl.Wd) (w : World) (h : MM w B bm bx bf bi ap cp ss ve ef vs vg st fl go X) (hst : st.length ≤ 18) (hF : F < ss.length) (hG : G < ss.length) :
    Calls Tryz.prog 133 #[.pointer (some ⟨bm, 0, none⟩), .agg #[.int .u8 3, .int .i64 at_, .int .i64 nx, .int .i64 F, .int .i64 G]] w fun e w' => e = .returned (.tuple #[]) ∧ ∃ vs' vg', MM w' B bm bx bf bi ap cp ss ve ef vs' vg' (st ++ [Pl.newer X.files ss[F] ss[G]]) fl go X ∧ MTn bm bx bf vs vg vs' vg' w w' := by
  obtain ⟨b, hb, -⟩ := h.str (by omega)
  subst hb
  have hbw : Below w.heap.size w (w.alloc (.cells #[.int .u8 3, .int .i64 at_, .int .i64 nx, .int .i64 F, .int .i64 G] 254)) := (Below.refl _ w).alloc (Nat.le_refl _) _
  have HM0 := hide (h.later hbw)
  have HT0 : Hid (MTn bm bx bf vs vg vs vg w (w.alloc (.cells #[.int .u8 3, .int .i64 at_, .int .i64 nx, .int .i64 F, .int .i64 G] 254))) := MTn.later hbw
  have HR0 : Hid (Row (w.alloc (.cells #[.int .u8 3, .int .i64 at_, .int .i64 nx, .int .i64 F, .int .i64 G] 254)) w.heap.size 254 (insL 3 at_ nx F G)) := Row.new w 254 [.int .u8 3, .int .i64 at_, .int .i64 nx, .int .i64 F, .int .i64 G]
  have HS : Hid (∀ (W : World) (vs1 vg1 : Value) (st1 : List Bool) (X1 : Pl.Wd), MM W B bm bx bf bi (some ⟨b, 0, none⟩) cp ss ve ef vs1 vg1 st1 fl go X1 → Row W w.heap.size 254 (insL 3 at_ nx F G) → W.cell? ⟨bm, 0, none⟩ = some (.pointer (some ⟨bx, 0, none⟩)) ∧ W.cell? ⟨bm, 1, none⟩ = some (.slice (some ⟨b, 0, none⟩) ss.length cp) ∧ W.cell? ⟨w.heap.size, 3, none⟩ = some (.int .i64 F) ∧ W.cell? ⟨w.heap.size, 4, none⟩ = some (.int .i64 G) ∧ W.cell? ⟨b, F, none⟩ = some (.string ⟨ss[F].toArray⟩) ∧ W.cell? ⟨b, G, none⟩ = some (.string ⟨ss[G].toArray⟩)) := fun W vs1 vg1 st1 X1 hm hr => ⟨hm.row.cell? (i := 0) rfl, hm.row.cell? (i := 1) rfl, hr.cell? (i := 3) rfl, hr.cell? (i := 4) rfl, by obtain ⟨b', hb', hc'⟩ := hm.str (by omega); cases hb'; exact ⟨hc' F hF, hc' G hG⟩⟩
  have HFR : Hid (∀ (W Z : World) (v1 v2 : Value), Row W w.heap.size 254 (insL 3 at_ nx F G) → MTn bm bx bf vs vg v1 v2 W Z → Row Z w.heap.size 254 (insL 3 at_ nx F G)) := fun W Z v1 v2 hr ht => h.far (Nat.le_refl _) hr ht
  have CP : Hid (∀ (W : World) (z : Bool), (MM W B bm bx bf bi (some ⟨b, 0, none⟩) cp ss ve ef vs vg st fl go X ∧ Row W w.heap.size 254 (insL 3 at_ nx F G) ∧ MTn bm bx bf vs vg vs vg w W) → Calls Tryz.prog 173 #[.pointer (some ⟨bm, 0, none⟩), .bool z] W fun e w' => e = .returned (.tuple #[]) ∧ (∃ vs', MM w' B bm bx bf bi (some ⟨b, 0, none⟩) cp ss ve ef vs' vg (st ++ [z]) fl go X ∧ MTn bm bx bf vs vg vs' vg w w') ∧ w'.cell? ⟨bm, 0, none⟩ = some (.pointer (some ⟨bx, 0, none⟩)) ∧ w'.cell? ⟨bm, 1, none⟩ = some (.slice (some ⟨b, 0, none⟩) ss.length cp) ∧ w'.cell? ⟨w.heap.size, 3, none⟩ = some (.int .i64 F) ∧ w'.cell? ⟨w.heap.size, 4, none⟩ = some (.int .i64 G) ∧ w'.cell? ⟨b, F, none⟩ = some (.string ⟨ss[F].toArray⟩) ∧ w'.cell? ⟨b, G, none⟩ = some (.string ⟨ss[G].toArray⟩)) := fun W z hp => by
    refine (push_any z _ _ _ _ _ _ _ _ _ _ _ _ _ _ _ _ W hp.1 (by omega)).mono ?_
    rintro e w' ⟨he, vs', hm, ht⟩
    exact ⟨he, ⟨vs', hm, hp.2.2.trans ht⟩, unhide HS _ _ _ _ _ hm (unhide HFR _ _ _ _ hp.2.1 ht)⟩
  have CH : Hid (∀ W, (MM W B bm bx bf bi (some ⟨b, 0, none⟩) cp ss ve ef vs vg st fl go X ∧ Row W w.heap.size 254 (insL 3 at_ nx F G) ∧ MTn bm bx bf vs vg vs vg w W) → Calls Tryz.prog 175 #[.pointer (some ⟨bx, 0, none⟩), .string ⟨ss[F].toArray⟩, .string ⟨ss[G].toArray⟩] W fun e w' => e = .returned (.bool (Pl.newer X.files ss[F] ss[G])) ∧ (MM w' B bm bx bf bi (some ⟨b, 0, none⟩) cp ss ve ef vs vg st fl go X ∧ Row w' w.heap.size 254 (insL 3 at_ nx F G) ∧ MTn bm bx bf vs vg vs vg w w') ∧ w'.cell? ⟨bm, 0, none⟩ = some (.pointer (some ⟨bx, 0, none⟩)) ∧ w'.cell? ⟨bm, 1, none⟩ = some (.slice (some ⟨b, 0, none⟩) ss.length cp) ∧ w'.cell? ⟨w.heap.size, 3, none⟩ = some (.int .i64 F) ∧ w'.cell? ⟨w.heap.size, 4, none⟩ = some (.int .i64 G) ∧ w'.cell? ⟨b, F, none⟩ = some (.string ⟨ss[F].toArray⟩) ∧ w'.cell? ⟨b, G, none⟩ = some (.string ⟨ss[G].toArray⟩)) := fun W hp => by
    refine (newer_any bx bf bi _ _ _ _ _ _ W hp.1.pw).mono ?_
    rintro e w' ⟨he, hb'⟩
    exact ⟨he, ⟨hp.1.later hb', hp.2.1.later hb', hp.2.2.trans (MTn.later hb')⟩, unhide HS _ _ _ _ _ (hp.1.later hb') (hp.2.1.later hb')⟩
  generalize Pl.newer X.files ss[F] ss[G] = q at *
  have s0 := unhide HS _ _ _ _ _ (unhide HM0) (unhide HR0)
  have hne := h.lm
  have hlw := h.lw
  clear h hbw
  have i1 : (F : Int) < (ss.length : Int) := by omega
  have i2 : (0 : Int) ≤ (F : Int) := by omega
  have i3 : (G : Int) < (ss.length : Int) := by omega
  have i4 : (0 : Int) ≤ (G : Int) := by omega
  obtain ⟨x0, x1, x2, x3, x4, x5⟩ := s0
  have HW0 : Hid (MM (w.alloc (.cells #[.int .u8 3, .int .i64 at_, .int .i64 nx, .int .i64 F, .int .i64 G] 254)) B bm bx bf bi (some ⟨b, 0, none⟩) cp ss ve ef vs vg st fl go X ∧ Row (w.alloc (.cells #[.int .u8 3, .int .i64 at_, .int .i64 nx, .int .i64 F, .int .i64 G] 254)) w.heap.size 254 (insL 3 at_ nx F G) ∧ MTn bm bx bf vs vg vs vg w (w.alloc (.cells #[.int .u8 3, .int .i64 at_, .int .i64 nx, .int .i64 F, .int .i64 G] 254))) := ⟨unhide HM0, unhide HR0, unhide HT0⟩
  go_enter Tryz.func133, Tryz.ntmps133
  go_wp2_with fail
  generalize w.alloc (.cells #[.int .u8 3, .int .i64 at_, .int .i64 nx, .int .i64 F, .int .i64 G] 254) = V at *
  have HV1 : Hid (MM V.drew B bm bx bf bi (some ⟨b, 0, none⟩) cp ss ve ef vs vg st fl go X ∧ Row V.drew w.heap.size 254 (insL 3 at_ nx F G) ∧ MTn bm bx bf vs vg vs vg w V.drew) := ⟨(unhide HW0).1.later (Below.refl _ V).drew, (unhide HW0).2.1, (unhide HW0).2.2.trans (MTn.later (Below.refl _ V).drew)⟩
  go_region_held3 (fun w' => w'.cell? ⟨bm, 0, none⟩ = some (.pointer (some ⟨bx, 0, none⟩)) ∧ w'.cell? ⟨bm, 1, none⟩ = some (.slice (some ⟨b, 0, none⟩) ss.length cp) ∧ w'.cell? ⟨w.heap.size, 3, none⟩ = some (.int .i64 F) ∧ w'.cell? ⟨w.heap.size, 4, none⟩ = some (.int .i64 G) ∧ w'.cell? ⟨b, F, none⟩ = some (.string ⟨ss[F].toArray⟩) ∧ w'.cell? ⟨b, G, none⟩ = some (.string ⟨ss[G].toArray⟩)) (go_keep) (first
    | (go_at_call 175; refine (unhide CH _ ?_).mono ?_; exact unhide HV1; rintro e w2 ⟨rfl, hp2, z0, z1, z2, z3, z4, z5⟩; have HP2 := hide hp2; clear hp2)
    | (go_at_call 173; refine (unhide CP _ _ ?_).mono ?_; exact unhide HP2; rintro e w3 ⟨rfl, hm3, y0, y1, y2, y3, y4, y5⟩; have HM3 := hide hm3; clear hm3))
  all_goals go_wp2_with fail
  all_goals go_end0
  all_goals (obtain ⟨vs3, hm3, ht3⟩ := unhide HM3; exact ⟨rfl, vs3, vg, hm3, ht3⟩)
set_option maxHeartbeats 4000000 in
set_option maxRecDepth 20000 in
theorem do4_any (at_ nx F G : Nat) (B bm bx bf bi : Nat) (ap : Option Addr) (cp : Nat) (ss : List Pl.Bs) (ve : Value) (ef : List Pl.Eff) (vs vg : Value) (st : List Bool) (fl : Nat → Bool) (go : Nat) (X : Pl.Wd) (w : World) (h : MM w B bm bx bf bi ap cp ss ve ef vs vg st fl go X) (hst : st.length ≤ 18) (hF : F < 256) :
    Calls Tryz.prog 133 #[.pointer (some ⟨bm, 0, none⟩), .agg #[.int .u8 4, .int .i64 at_, .int .i64 nx, .int .i64 F, .int .i64 G]] w fun e w' => e = .returned (.tuple #[]) ∧ ∃ vs' vg', MM w' B bm bx bf bi ap cp ss ve ef vs' vg' (st ++ [fl F]) fl go X ∧ MTn bm bx bf vs vg vs' vg' w w' := by
  have hbw : Below w.heap.size w (w.alloc (.cells #[.int .u8 4, .int .i64 at_, .int .i64 nx, .int .i64 F, .int .i64 G] 254)) := (Below.refl _ w).alloc (Nat.le_refl _) _
  have HM0 := hide (h.later hbw)
  have HT0 : Hid (MTn bm bx bf vs vg vs vg w (w.alloc (.cells #[.int .u8 4, .int .i64 at_, .int .i64 nx, .int .i64 F, .int .i64 G] 254))) := MTn.later hbw
  have HR0 : Hid (Row (w.alloc (.cells #[.int .u8 4, .int .i64 at_, .int .i64 nx, .int .i64 F, .int .i64 G] 254)) w.heap.size 254 (insL 4 at_ nx F G)) := Row.new w 254 [.int .u8 4, .int .i64 at_, .int .i64 nx, .int .i64 F, .int .i64 G]
  have HS : Hid (∀ (W : World) (vs1 vg1 : Value) (st1 : List Bool) (X1 : Pl.Wd), MM W B bm bx bf bi ap cp ss ve ef vs1 vg1 st1 fl go X1 → Row W w.heap.size 254 (insL 4 at_ nx F G) → W.cell? ⟨w.heap.size, 3, none⟩ = some (.int .i64 F) ∧ W.cell? ⟨bm, 3 + F, none⟩ = some (.bool (fl F))) := fun W vs1 vg1 st1 X1 hm hr => ⟨hr.cell? (i := 3) rfl, hm.row.cell? (mCells_flag F hF)⟩
  have HFR : Hid (∀ (W Z : World) (v1 v2 : Value), Row W w.heap.size 254 (insL 4 at_ nx F G) → MTn bm bx bf vs vg v1 v2 W Z → Row Z w.heap.size 254 (insL 4 at_ nx F G)) := fun W Z v1 v2 hr ht => h.far (Nat.le_refl _) hr ht
  have CP : Hid (∀ (W : World) (z : Bool), (MM W B bm bx bf bi ap cp ss ve ef vs vg st fl go X ∧ Row W w.heap.size 254 (insL 4 at_ nx F G) ∧ MTn bm bx bf vs vg vs vg w W) → Calls Tryz.prog 173 #[.pointer (some ⟨bm, 0, none⟩), .bool z] W fun e w' => e = .returned (.tuple #[]) ∧ (∃ vs', MM w' B bm bx bf bi ap cp ss ve ef vs' vg (st ++ [z]) fl go X ∧ MTn bm bx bf vs vg vs' vg w w') ∧ w'.cell? ⟨w.heap.size, 3, none⟩ = some (.int .i64 F) ∧ w'.cell? ⟨bm, 3 + F, none⟩ = some (.bool (fl F))) := fun W z hp => by
    refine (push_any z _ _ _ _ _ _ _ _ _ _ _ _ _ _ _ _ W hp.1 (by omega)).mono ?_
    rintro e w' ⟨he, vs', hm, ht⟩
    exact ⟨he, ⟨vs', hm, hp.2.2.trans ht⟩, unhide HS _ _ _ _ _ hm (unhide HFR _ _ _ _ hp.2.1 ht)⟩
  have s0 := unhide HS _ _ _ _ _ (unhide HM0) (unhide HR0)
  have hne := h.lm
  have hlw := h.lw
  clear h hbw
  have i1 : (F : Int) < 256 := by omega
  have i2 : (0 : Int) ≤ (F : Int) := by omega
  obtain ⟨x0, x1⟩ := s0
  have HW0 : Hid (MM (w.alloc (.cells #[.int .u8 4, .int .i64 at_, .int .i64 nx, .int .i64 F, .int .i64 G] 254)) B bm bx bf bi ap cp ss ve ef vs vg st fl go X ∧ Row (w.alloc (.cells #[.int .u8 4, .int .i64 at_, .int .i64 nx, .int .i64 F, .int .i64 G] 254)) w.heap.size 254 (insL 4 at_ nx F G) ∧ MTn bm bx bf vs vg vs vg w (w.alloc (.cells #[.int .u8 4, .int .i64 at_, .int .i64 nx, .int .i64 F, .int .i64 G] 254))) := ⟨unhide HM0, unhide HR0, unhide HT0⟩
  go_enter Tryz.func133, Tryz.ntmps133
  go_wp2_with fail
  generalize w.alloc (.cells #[.int .u8 4, .int .i64 at_, .int .i64 nx, .int .i64 F, .int .i64 G] 254) = V at *
  have HV1 : Hid (MM V.drew B bm bx bf bi ap cp ss ve ef vs vg st fl go X ∧ Row V.drew w.heap.size 254 (insL 4 at_ nx F G) ∧ MTn bm bx bf vs vg vs vg w V.drew) := ⟨(unhide HW0).1.later (Below.refl _ V).drew, (unhide HW0).2.1, (unhide HW0).2.2.trans (MTn.later (Below.refl _ V).drew)⟩
  go_region_held3 (fun w' => w'.cell? ⟨w.heap.size, 3, none⟩ = some (.int .i64 F) ∧ w'.cell? ⟨bm, 3 + F, none⟩ = some (.bool (fl F))) (go_keep) (first
    | (go_at_call 173; refine (unhide CP _ _ ?_).mono ?_; exact unhide HV1; rintro e w3 ⟨rfl, hm3, y0, y1⟩; have HM3 := hide hm3; clear hm3))
  all_goals go_wp2_with fail
  all_goals go_end0
  all_goals (obtain ⟨vs3, hm3, ht3⟩ := unhide HM3; exact ⟨rfl, vs3, vg, hm3, ht3⟩)
set_option maxHeartbeats 4000000 in
set_option maxRecDepth 20000 in
theorem do7_any (at_ nx F G : Nat) (B bm bx bf bi : Nat) (ap : Option Addr) (cp : Nat) (ss : List Pl.Bs) (ae : Option Addr) (ce L be oe : Nat) (S : List Pl.Bs) (ef : List Pl.Eff) (vs vg : Value) (st : List Bool) (fl : Nat → Bool) (go : Nat) (X : Pl.Wd) (w : World) (h : MM w B bm bx bf bi ap cp ss (.slice ae ef.length ce) ef vs vg st fl go X) (hF : F < ss.length) (hx : X.exit = 0) (hae : 0 < ef.length → ae = some ⟨be, oe, none⟩)
    (hE : RdE w L be oe ef) (hL0 : L ≤ bm) (hL1 : L ≤ bx) (hL2 : L ≤ bf) (hfit : Fit S X.files) (hS : S.length ≤ 8388608) (hEs : ∀ e ∈ ef, ∀ f ∈ e.writes, f.path ∈ S) (hel : ef.length ≤ 8388608) (hwl : ∀ e ∈ ef, e.writes.length ≤ 8388608) (hcl : X.cmds.length ≤ 8388608) :
    Calls Tryz.prog 133 #[.pointer (some ⟨bm, 0, none⟩), .agg #[.int .u8 7, .int .i64 at_, .int .i64 nx, .int .i64 F, .int .i64 G]] w fun e w' => e = .returned (.tuple #[]) ∧ ∃ vs' vg', MM w' B bm bx bf bi ap cp ss (.slice ae ef.length ce) ef vs' vg' st fl go (Pl.giveW ef X ss[F]) ∧ MTn bm bx bf vs vg vs' vg' w w' := by
  obtain ⟨b, hb, -⟩ := h.str (by omega)
  subst hb
  have hbw : Below w.heap.size w (w.alloc (.cells #[.int .u8 7, .int .i64 at_, .int .i64 nx, .int .i64 F, .int .i64 G] 254)) := (Below.refl _ w).alloc (Nat.le_refl _) _
  have HM0 := hide (h.later hbw)
  have HT0 : Hid (MTn bm bx bf vs vg vs vg w (w.alloc (.cells #[.int .u8 7, .int .i64 at_, .int .i64 nx, .int .i64 F, .int .i64 G] 254))) := MTn.later hbw
  have HR0 : Hid (Row (w.alloc (.cells #[.int .u8 7, .int .i64 at_, .int .i64 nx, .int .i64 F, .int .i64 G] 254)) w.heap.size 254 (insL 7 at_ nx F G)) := Row.new w 254 [.int .u8 7, .int .i64 at_, .int .i64 nx, .int .i64 F, .int .i64 G]
  have HS : Hid (∀ (W : World) (vs1 vg1 : Value) (st1 : List Bool) (X1 : Pl.Wd), MM W B bm bx bf bi (some ⟨b, 0, none⟩) cp ss (.slice ae ef.length ce) ef vs1 vg1 st1 fl go X1 → Row W w.heap.size 254 (insL 7 at_ nx F G) → W.cell? ⟨bm, 1, none⟩ = some (.slice (some ⟨b, 0, none⟩) ss.length cp) ∧ W.cell? ⟨w.heap.size, 3, none⟩ = some (.int .i64 F) ∧ W.cell? ⟨b, F, none⟩ = some (.string ⟨ss[F].toArray⟩)) := fun W vs1 vg1 st1 X1 hm hr => ⟨hm.row.cell? (i := 1) rfl, hr.cell? (i := 3) rfl, by obtain ⟨b', hb', hc'⟩ := hm.str (by omega); cases hb'; exact hc' F hF⟩
  have HFR : Hid (∀ (W Z : World) (v1 v2 : Value), Row W w.heap.size 254 (insL 7 at_ nx F G) → MTn bm bx bf vs vg v1 v2 W Z → Row Z w.heap.size 254 (insL 7 at_ nx F G)) := fun W Z v1 v2 hr ht => h.far (Nat.le_refl _) hr ht
  have CG : Hid (∀ W, (MM W B bm bx bf bi (some ⟨b, 0, none⟩) cp ss (.slice ae ef.length ce) ef vs vg st fl go X ∧ Row W w.heap.size 254 (insL 7 at_ nx F G) ∧ MTn bm bx bf vs vg vs vg w W) → Calls Tryz.prog 177 #[.pointer (some ⟨bm, 0, none⟩), .string ⟨ss[F].toArray⟩] W fun e w' => e = .returned (.tuple #[]) ∧ (∃ vg', MM w' B bm bx bf bi (some ⟨b, 0, none⟩) cp ss (.slice ae ef.length ce) ef vs vg' st fl go (Pl.giveW ef X ss[F]) ∧ MTn bm bx bf vs vg vs vg' w w') ∧ w'.cell? ⟨bm, 1, none⟩ = some (.slice (some ⟨b, 0, none⟩) ss.length cp) ∧ w'.cell? ⟨w.heap.size, 3, none⟩ = some (.int .i64 F) ∧ w'.cell? ⟨b, F, none⟩ = some (.string ⟨ss[F].toArray⟩)) := fun W hp => by
    have hEW : RdE W L be oe ef := hE.below (hp.2.2.tn.below (B := L) (by have := h.lm; have := h.lw; omega) (fun k e => by
      rcases e with rfl | rfl | rfl | e | e
      · exact hL0
      · exact hL1
      · exact hL2
      · have := (h.stack.lt k e.symm).1; have := h.lm; omega
      · have := (h.given.lt k e.symm).1; have := h.lm; omega))
    refine (mgive_any ss[F] S L be oe ce ae _ _ _ _ _ _ _ _ _ _ _ _ _ _ _ W hp.1 hx hae hEW hL0 hL1 hL2 hfit hS hEs hel hwl hcl).mono ?_
    rintro e w' ⟨he, vg', hm, ht⟩
    exact ⟨he, ⟨vg', hm, hp.2.2.trans ht⟩, unhide HS _ _ _ _ _ hm (unhide HFR _ _ _ _ hp.2.1 ht)⟩
  clear hE hEs hwl hfit hae
  have s0 := unhide HS _ _ _ _ _ (unhide HM0) (unhide HR0)
  have hne := h.lm
  have hlw := h.lw
  clear h hbw
  have i1 : (F : Int) < (ss.length : Int) := by omega
  have i2 : (0 : Int) ≤ (F : Int) := by omega
  obtain ⟨x0, x1, x2⟩ := s0
  have HW0 : Hid (MM (w.alloc (.cells #[.int .u8 7, .int .i64 at_, .int .i64 nx, .int .i64 F, .int .i64 G] 254)) B bm bx bf bi (some ⟨b, 0, none⟩) cp ss (.slice ae ef.length ce) ef vs vg st fl go X ∧ Row (w.alloc (.cells #[.int .u8 7, .int .i64 at_, .int .i64 nx, .int .i64 F, .int .i64 G] 254)) w.heap.size 254 (insL 7 at_ nx F G) ∧ MTn bm bx bf vs vg vs vg w (w.alloc (.cells #[.int .u8 7, .int .i64 at_, .int .i64 nx, .int .i64 F, .int .i64 G] 254))) := ⟨unhide HM0, unhide HR0, unhide HT0⟩
  go_enter Tryz.func133, Tryz.ntmps133
  go_wp2_with fail
  generalize w.alloc (.cells #[.int .u8 7, .int .i64 at_, .int .i64 nx, .int .i64 F, .int .i64 G] 254) = V at *
  have HV1 : Hid (MM V.drew B bm bx bf bi (some ⟨b, 0, none⟩) cp ss (.slice ae ef.length ce) ef vs vg st fl go X ∧ Row V.drew w.heap.size 254 (insL 7 at_ nx F G) ∧ MTn bm bx bf vs vg vs vg w V.drew) := ⟨(unhide HW0).1.later (Below.refl _ V).drew, (unhide HW0).2.1, (unhide HW0).2.2.trans (MTn.later (Below.refl _ V).drew)⟩
  go_region_held3 (fun w' => w'.cell? ⟨bm, 1, none⟩ = some (.slice (some ⟨b, 0, none⟩) ss.length cp) ∧ w'.cell? ⟨w.heap.size, 3, none⟩ = some (.int .i64 F) ∧ w'.cell? ⟨b, F, none⟩ = some (.string ⟨ss[F].toArray⟩)) (go_keep) (first
    | (go_at_call 177; refine (unhide CG _ ?_).mono ?_; exact unhide HV1; rintro e w3 ⟨rfl, hm3, y0, y1, y2⟩; have HM3 := hide hm3; clear hm3))
  all_goals go_wp2_with fail
  all_goals go_end0
  all_goals (obtain ⟨vg3, hm3, ht3⟩ := unhide HM3; exact ⟨rfl, vs, vg3, hm3, ht3⟩)
set_option maxHeartbeats 4000000 in
set_option maxRecDepth 20000 in
theorem do8_any (at_ nx F G : Nat) (B bm bx bf bi : Nat) (ap : Option Addr) (cp : Nat) (ss : List Pl.Bs) (ve : Value) (ef : List Pl.Eff) (vs vg : Value) (st : List Bool) (fl : Nat → Bool) (go : Nat) (X : Pl.Wd) (w : World) (h : MM w B bm bx bf bi ap cp ss ve ef vs vg st fl go X) (hF : F < 256) :
    Calls Tryz.prog 133 #[.pointer (some ⟨bm, 0, none⟩), .agg #[.int .u8 8, .int .i64 at_, .int .i64 nx, .int .i64 F, .int .i64 G]] w fun e w' => e = .returned (.tuple #[]) ∧ ∃ vs' vg', MM w' B bm bx bf bi ap cp ss ve ef vs' vg' st (fset fl F) go X ∧ MTn bm bx bf vs vg vs' vg' w w' := by
  have hbw : Below w.heap.size w (w.alloc (.cells #[.int .u8 8, .int .i64 at_, .int .i64 nx, .int .i64 F, .int .i64 G] 254)) := (Below.refl _ w).alloc (Nat.le_refl _) _
  have HM0 := hide (h.later hbw)
  have HT0 : Hid (MTn bm bx bf vs vg vs vg w (w.alloc (.cells #[.int .u8 8, .int .i64 at_, .int .i64 nx, .int .i64 F, .int .i64 G] 254))) := MTn.later hbw
  have HR0 : Hid (Row (w.alloc (.cells #[.int .u8 8, .int .i64 at_, .int .i64 nx, .int .i64 F, .int .i64 G] 254)) w.heap.size 254 (insL 8 at_ nx F G)) := Row.new w 254 [.int .u8 8, .int .i64 at_, .int .i64 nx, .int .i64 F, .int .i64 G]
  have HS : Hid (∀ (W : World) (vs1 vg1 : Value) (st1 : List Bool) (X1 : Pl.Wd), MM W B bm bx bf bi ap cp ss ve ef vs1 vg1 st1 fl go X1 → Row W w.heap.size 254 (insL 8 at_ nx F G) → W.cell? ⟨w.heap.size, 3, none⟩ = some (.int .i64 F)) := fun W vs1 vg1 st1 X1 hm hr => hr.cell? (i := 3) rfl
  have HFR : Hid (∀ (W Z : World) (v1 v2 : Value), Row W w.heap.size 254 (insL 8 at_ nx F G) → MTn bm bx bf vs vg v1 v2 W Z → Row Z w.heap.size 254 (insL 8 at_ nx F G)) := fun W Z v1 v2 hr ht => h.far (Nat.le_refl _) hr ht
  have HSE : Hid (∀ W, (MM W B bm bx bf bi ap cp ss ve ef vs vg st fl go X ∧ Row W w.heap.size 254 (insL 8 at_ nx F G) ∧ MTn bm bx bf vs vg vs vg w W) → MM (W.setCell ⟨bm, 3 + F, none⟩ (.bool true)) B bm bx bf bi ap cp ss ve ef vs vg st (fset fl F) go X ∧ MTn bm bx bf vs vg vs vg w (W.setCell ⟨bm, 3 + F, none⟩ (.bool true))) := fun W hp => ⟨(hp.1.mark F hF).1, hp.2.2.trans (hp.1.mark F hF).2⟩
  have g1 := (unhide HM0).row.cell? (mCells_flag F hF)
  have g2 := (unhide HM0).row.frozen (3 + F)
  have s0 := unhide HS _ _ _ _ _ (unhide HM0) (unhide HR0)
  have hne := h.lm
  have hlw := h.lw
  clear h hbw
  have i1 : (F : Int) < 256 := by omega
  have i2 : (0 : Int) ≤ (F : Int) := by omega
  have hne2 : ¬ w.heap.size = bm := by omega
  have HW0 : Hid (MM (w.alloc (.cells #[.int .u8 8, .int .i64 at_, .int .i64 nx, .int .i64 F, .int .i64 G] 254)) B bm bx bf bi ap cp ss ve ef vs vg st fl go X ∧ Row (w.alloc (.cells #[.int .u8 8, .int .i64 at_, .int .i64 nx, .int .i64 F, .int .i64 G] 254)) w.heap.size 254 (insL 8 at_ nx F G) ∧ MTn bm bx bf vs vg vs vg w (w.alloc (.cells #[.int .u8 8, .int .i64 at_, .int .i64 nx, .int .i64 F, .int .i64 G] 254))) := ⟨unhide HM0, unhide HR0, unhide HT0⟩
  go_enter Tryz.func133, Tryz.ntmps133
  go_wp2_with fail
  generalize w.alloc (.cells #[.int .u8 8, .int .i64 at_, .int .i64 nx, .int .i64 F, .int .i64 G] 254) = V at *
  have HV1 : Hid (MM V.drew B bm bx bf bi ap cp ss ve ef vs vg st fl go X ∧ Row V.drew w.heap.size 254 (insL 8 at_ nx F G) ∧ MTn bm bx bf vs vg vs vg w V.drew) := ⟨(unhide HW0).1.later (Below.refl _ V).drew, (unhide HW0).2.1, (unhide HW0).2.2.trans (MTn.later (Below.refl _ V).drew)⟩
  have k1 := ((unhide HW0).2.1.other hne2 (3 + F) (.bool true)).cell? (i := 3) rfl
  go_region_held3 (fun w' => w'.cell? ⟨w.heap.size, 3, none⟩ = some (.int .i64 F)) (go_keep) (fail)
  all_goals go_wp2_with fail
  all_goals go_end0
  all_goals exact ⟨rfl, vs, vg, unhide HSE _ (unhide HV1)⟩
end Go.Proofs.YtjelacjggijmfaaGreatDoor
