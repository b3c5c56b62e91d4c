/-
  The program's machine: its stack; a command is given.
  The program's machine does an instruction.
-/
import Derived.Test.YtjelacjggijmfaaGMP1
import Derived.Maps.AppendAt
namespace Go.Proofs.Ytjelacjggijmfaa
open Go.RowKit Go.MapKept Go.ChangeMaps Go.Maps
attribute [local go_sem ↓] Go.wp_at_zero Go.wp_at_succ

theorem one_bool (x : Bool) : ∀ u ∈ [Value.bool x], u.oneCell' = true := by intro u hu; simp at hu; subst hu; rfl
theorem fresh_at {w : World} {o : Obj} {v v' : Value} (h : v'.ownBlock = v.ownBlock ∨ v'.ownBlock = some (w.alloc o).heap.size) : Fresh w v v' := fun k hk => by
  rcases h with e | e
  · exact .inl (e ▸ hk)
  · rw [e] at hk
    cases hk
    exact .inr (by rw [World.size_alloc]; omega)
theorem own_sh {w : World} {B e size n : Nat} {v : Value} {xs : List Value} (h : w.ownsRow B e size v n xs) : ∃ a cap, v = .slice a n cap := own_shape h
set_option maxHeartbeats 2000000 in
set_option maxRecDepth 20000 in
theorem push_any (x : Bool) (B bm bx bf bi : Nat) (ap : Option Addr) (cp : Nat) (ss : List Pl.Bs) (ve : Value) (ef : List Pl.Eff) (vs vg : Value) (st : List Bool) (fl : Nat → Bool) (go : Nat) (X : Pl.Wd) (w : World) (h : MM w B bm bx bf bi ap cp ss ve ef vs vg st fl go X) (hst : st.length ≤ 20) :
    Calls Try.prog 57 #[.pointer (some ⟨bm, 0, none⟩), .bool x] w fun e w' => e = .returned (.tuple #[]) ∧ ∃ vs', MM w' B bm bx bf bi ap cp ss ve ef vs' vg (st ++ [x]) fl go X ∧ MTn bm bx bf vs vg vs' vg w w' := by
  obtain ⟨i0, hi0, hz0, hz1, hz2⟩ := info_parts Try.infoBool
  obtain ⟨sa, sc, hvs⟩ := own_sh h.stack
  subst hvs
  have c2 := h.row.cell? (i := 2) rfl
  have hlw := h.lw
  have hlm := h.lm
  have HM := hide h
  clear h
  go_enter Try.func57, Try.ntmps57
  go_wp2_with (first
    | (at_builtin; refine wpList_append_own_at _ rfl (.tmp 8) (.tmp 10) 73 rfl B 4 i0 (.bool false) 1 1 Try.underlying73 hi0 hz0 hz1 hz2 rfl (by decide) _ st.length _ rfl (World.ownsRow.alloc (unhide HM).stack _) ⟨_, 0, none⟩ 1 1 [.bool x] rfl rfl (cells_new _ _ [_]) (one_bool _) (by unfold maxLen; omega) (by omega) (by rw [World.size_alloc]; omega) ?_; intro v1 w1 hown1 hgrow1 hnil1 hat1; obtain ⟨q1, q2, rfl, -, -⟩ := owns_form hown1 (by omega); have HT := hide ((unhide HM).turn (st' := st ++ [x]) ((World.grownBy_alloc w _ _).trans hgrow1) (.inr rfl) (by simpa using hown1) (fresh_at hat1)); have hlt := (unhide HT).1.row.lt; have hr1 := (unhide HT).1.row; have hg1 := (World.grownBy_alloc w _ _).trans hgrow1; have hr2 := (unhide HM).row.grown hg1 (own_ne (unhide HM).stack hlm); have d2 := hr2.cell? (i := 2) rfl; have e2 := hr2.frozen 2; clear hown1 hgrow1 hnil1 hat1 hr1 hr2 hg1)
    | fail)
  go_end0
  exact ⟨rfl, _, unhide HT⟩
set_option maxHeartbeats 2000000 in
set_option maxRecDepth 20000 in
theorem pop_any (x : Bool) (r : List Bool) (B bm bx bf bi : Nat) (ap : Option Addr) (cp : Nat) (ss : List Pl.Bs) (ve : Value) (ef : List Pl.Eff) (vs vg : Value) (fl : Nat → Bool) (go : Nat) (X : Pl.Wd) (w : World) (h : MM w B bm bx bf bi ap cp ss ve ef vs vg (r ++ [x]) fl go X) (hst : r.length ≤ 20) :
    Calls Try.prog 60 #[.pointer (some ⟨bm, 0, none⟩)] w fun e w' => e = .returned (.bool x) ∧ ∃ vs', MM w' B bm bx bf bi ap cp ss ve ef vs' vg r fl go X ∧ MTn bm bx bf vs vg vs' vg w w' := by
  have hlen : (r ++ [x]).length = r.length + 1 := by simp
  have hso := h.stack
  rw [hlen] at hso
  obtain ⟨g, sc, hvs, -⟩ := owns_form hso (by omega)
  subst hvs
  have c2 := h.row.cell? (i := 2) rfl
  have f2 := h.row.frozen 2
  have hcap := own_cap hso
  have hc := own_cell hso r.length (by simp)
  simp only [List.map_append, List.map_cons, List.map_nil] at hc
  rw [List.getElem_append_right (by simp)] at hc
  simp only [List.length_map, Nat.sub_self, List.getElem_cons_zero] at hc
  have hct := own_cut hso r.length (by omega)
  have htk : ((r ++ [x]).map Value.bool).take r.length = r.map Value.bool := by rw [List.map_append, ← List.length_map Value.bool, List.take_left]
  rw [htk] at hct
  have HT := hide (h.turn (st' := r) (World.grownBy.refl w none) (.inl rfl) hct (fun _ e => .inl e))
  have i1 : (r.length : Int) ≤ 20 := by omega
  have i2 : (r.length : Int) ≤ (sc : Int) := by omega
  have hrs : r.length ≤ sc := by omega
  generalize r.length = m at *
  clear h hso hct htk hlen
  go_enter Try.func60, Try.ntmps60
  go_wp2_with fail
  go_ret
  exact ⟨rfl, _, unhide HT⟩
section
variable {w Z : World} {B bm bx bf bi : Nat} {ap : Option Addr} {cp : Nat} {ss : List Pl.Bs} {ve : Value} {ef : List Pl.Eff} {vs vg : Value} {st : List Bool} {fl : Nat → Bool} {go : Nat} {X : Pl.Wd}
/-- A command is kept; and what the world does by it. -/
theorem MM.keep {vg' : Value} {c : Pl.Bs} (h : MM w B bm bx bf bi ap cp ss ve ef vs vg st fl go X) (hg : w.grownBy Z vg.ownBlock) (hs : Z.ownsRow B 9 1 vg' (X.cmds.length + 1) (X.cmds.map strV ++ [strV c])) (hf : Fresh w vg vg') :
    MM (Z.setCell ⟨bm, 260, none⟩ vg') B bm bx bf bi ap cp ss ve ef vs vg' st fl go ⟨X.files, X.clock, X.cmds ++ [c], X.exit⟩ ∧ MTn bm bx bf vs vg vs vg' w (Z.setCell ⟨bm, 260, none⟩ vg') := by
  obtain ⟨b, h1, h2⟩ := h.strs
  have l1 := h.lm
  have l2 := h.lx
  have l3 := h.lf
  have l4 := h.li
  have l5 := h.lw
  have hrB : ∀ k, vg.ownBlock = some k → B ≤ k := fun k e => (h.given.lt k e).1
  have hlow : ∀ k, k < B → Z.heap[k]? = w.heap[k]? := fun k hk => hg.block k (by omega) (fun e => by have := hrB k e.symm; omega)
  have hstk : Z.ownsRow B 4 1 vs st.length (st.map Value.bool) := by
    rcases apart h.stack h.given (by decide) with e | e
    · exact World.ownsRow.kept h.stack hg (.inl e)
    · exact World.ownsRow.kept h.stack hg (.inr e)
  have htn : Tn (fun k => B ≤ k ∨ k = bm) w (Z.setCell ⟨bm, 260, none⟩ vg') := (Tn.grown hg (fun k e => .inl (hrB k e))).trans (Tn.set Z ⟨bm, 260, none⟩ vg' (.inr rfl))
  have htn' : Tn (fun k => some k = vg.ownBlock ∨ k = bm) w (Z.setCell ⟨bm, 260, none⟩ vg') := (Tn.grown hg (fun k e => .inl e.symm)).trans (Tn.set Z ⟨bm, 260, none⟩ vg' (.inr rfl))
  have hs' : Z.ownsRow B 9 1 vg' (X.cmds ++ [c]).length ((X.cmds ++ [c]).map strV) := by simpa using hs
  refine ⟨⟨?_, h.pw.tn htn (by have := h.n1; omega) (by have := h.n2; omega) (by have := h.n3; omega), ⟨b, h1, rds_same h2 (fun hp => (htn.block b (by have := (h1 hp).2.1; omega) (by have := (h1 hp).2; omega)))⟩, owns_other hstk (own_ne hstk l1) 260 _, owns_other hs' (own_ne hs' l1) 260 _, l1, l2, l3, l4, Nat.le_trans l5 htn.size, h.n1, h.n2, h.n3⟩, htn'.mono (fun k e => e.elim (fun e => .inr (.inr (.inr (.inr e)))) .inl), fun _ e => .inl e, hf⟩
  have hrow : Row Z bm 92 (mCells bx ap ss.length cp vs fl go vg X.exit) := (hlow bm l1).trans h.row
  have := hrow.set 260 vg'
  rw [mCells_setGiven] at this
  exact this
theorem MM.did {Y : Pl.Wd} (h : MM w B bm bx bf bi ap cp ss ve ef vs vg st fl go X) (hp : GiveP bx bf bi ve ef Y w Z) (hc : Y.cmds = X.cmds) : MM (Z.setCell ⟨bm, 261, none⟩ (.int .i64 Y.exit)) B bm bx bf bi ap cp ss ve ef vs vg st fl go Y ∧ MTn bm bx bf vs vg vs vg w (Z.setCell ⟨bm, 261, none⟩ (.int .i64 Y.exit)) := by
  obtain ⟨b, h1, h2⟩ := h.strs
  have l1 := h.lm
  have l2 := h.lx
  have l3 := h.lf
  have l5 := h.lw
  have ht := hp.tn
  have hs1 : Z.ownsRow B 4 1 vs st.length (st.map Value.bool) := own_same h.stack (fun k hk => ht.block k (h.stack.lt k hk).2 (by have := (h.stack.lt k hk).1; omega))
  have hs2 : Z.ownsRow B 9 1 vg Y.cmds.length (Y.cmds.map strV) := by rw [hc]; exact own_same h.given (fun k hk => ht.block k (h.given.lt k hk).2 (by have := (h.given.lt k hk).1; omega))
  have hsz := ht.size
  have htn2 : Tn (fun k => k = bm) Z (Z.setCell ⟨bm, 261, none⟩ (.int .i64 Y.exit)) := Tn.set Z ⟨bm, 261, none⟩ _ rfl
  refine ⟨⟨?_, hp.pw.tn htn2 (fun e => h.n1 e.symm) (fun e => h.n2 e.symm) (fun e => h.n3 e.symm), ⟨b, h1, rds_same h2 (fun hp' => ?_)⟩, owns_other hs1 (own_ne hs1 l1) 261 _, owns_other hs2 (own_ne hs2 l1) 261 _, l1, l2, l3, h.li, Nat.le_trans (Nat.le_trans l5 hsz) htn2.size, h.n1, h.n2, h.n3⟩, (ht.mono (fun k e => e.elim (fun e => .inr (.inl e)) (fun e => .inr (.inr (.inl e))))).trans (htn2.mono (fun k e => .inl e)), fun _ e => .inl e, fun _ e => .inl e⟩
  · have := ((h.row.tn ht (by have := h.n1; have := h.n2; omega))).set 261 (.int .i64 Y.exit)
    rw [mCells_setExit] at this
    exact this
  · have hb := (h1 hp').2
    exact (htn2.block b (by omega) (by omega)).trans (ht.block b (by omega) (by omega))
end
theorem give_same (ef : List Pl.Eff) (X : Pl.Wd) (c : Pl.Bs) (cs : List Pl.Bs) : (Pl.giveW ef ⟨X.files, X.clock, cs, X.exit⟩ c).files = (Pl.giveW ef X c).files ∧ (Pl.giveW ef ⟨X.files, X.clock, cs, X.exit⟩ c).clock = (Pl.giveW ef X c).clock ∧ (Pl.giveW ef ⟨X.files, X.clock, cs, X.exit⟩ c).exit = (Pl.giveW ef X c).exit := by
  unfold Pl.giveW
  simp only
  split <;> exact ⟨rfl, rfl, rfl⟩
theorem give_cmds' (ef : List Pl.Eff) (X : Pl.Wd) (c : Pl.Bs) : (Pl.giveW ef X c).cmds = X.cmds ++ [c] := by unfold Pl.giveW; split <;> rfl
set_option maxHeartbeats 2000000 in
set_option maxRecDepth 20000 in
theorem mgive_any (c : Pl.Bs) (S : List Pl.Bs) (L be oe ce : Nat) (ae : Option Addr) (B bm bx bf bi : Nat) (ap : Option Addr) (cp : Nat) (ss : List Pl.Bs) (ef : List Pl.Eff) (vs vg : Value) (st : List Bool) (fl : Nat → Bool) (go : Nat) (X : Pl.Wd) (w : World)
    (h : MM w B bm bx bf bi ap cp ss (.slice ae ef.length ce) ef vs vg st fl go X) (hx : X.exit = 0) (hae : 0 < ef.length → ae = some ⟨be, oe, none⟩)
    (hE : RdE w L be oe ef) (hL0 : L ≤ bm) (hL1 : L ≤ bx) (hL2 : L ≤ bf) (hfit : Fit S X.files) (hS : S.length ≤ 1048576) (hEs : ∀ e ∈ ef, ∀ f ∈ e.writes, f.path ∈ S) (hel : ef.length ≤ 1048576) (hwl : ∀ e ∈ ef, e.writes.length ≤ 1048576) (hcl : X.cmds.length ≤ 1048576) :
    Calls Try.prog 61 #[.pointer (some ⟨bm, 0, none⟩), .string ⟨c.toArray⟩] w fun e w' => e = .returned (.tuple #[]) ∧ ∃ vg', MM w' B bm bx bf bi ap cp ss (.slice ae ef.length ce) ef vs vg' st fl go (Pl.giveW ef X c) ∧ MTn bm bx bf vs vg vs vg' w w' := by
  obtain ⟨i0, hi0, hz0, hz1, hz2⟩ := info_parts Try.infoStr
  obtain ⟨sa, sc, hvs⟩ := own_sh h.given
  subst hvs
  have c5 := h.row.cell? (i := 260) (mCells_tail 1)
  have c0 := h.row.cell? (i := 0) rfl
  have hlw := h.lw
  have hlm := h.lm
  have HM := hide h
  have CG : Hid (∀ (W : World) (vg' : Value), MM W B bm bx bf bi ap cp ss (.slice ae ef.length ce) ef vs vg' st fl go ⟨X.files, X.clock, X.cmds ++ [c], X.exit⟩ → MTn bm bx bf vs (.slice sa X.cmds.length sc) vs vg' w W → Calls Try.prog 67 #[.pointer (some ⟨bx, 0, none⟩), .string ⟨c.toArray⟩] W fun e w' => e = .returned (.int .i64 (Pl.giveW ef X c).exit) ∧ Row w' bm 92 (mCells bx ap ss.length cp vs fl go vg' X.exit) ∧
      (MM (w'.setCell ⟨bm, 261, none⟩ (.int .i64 (Pl.giveW ef X c).exit)) B bm bx bf bi ap cp ss (.slice ae ef.length ce) ef vs vg' st fl go (Pl.giveW ef X c) ∧ MTn bm bx bf vs (.slice sa X.cmds.length sc) vs vg' w (w'.setCell ⟨bm, 261, none⟩ (.int .i64 (Pl.giveW ef X c).exit)))) := fun W vg' hm ht => by
    have hEW : RdE W L be oe ef := hE.below (ht.tn.below (B := L) (by omega) (fun k e => by
      rcases e with rfl | rfl | rfl | e | e
      · exact hL0
      · exact hL1
      · exact hL2
      · have := (h.stack.lt k e.symm).1; omega
      · have := (h.given.lt k e.symm).1; omega))
    obtain ⟨g1, g2, g3⟩ := give_same ef X c (X.cmds ++ [c])
    refine (give_any c S ef L bx bf bi be oe ce ae ⟨X.files, X.clock, X.cmds ++ [c], X.exit⟩ W hm.pw hx hae hEW hL1 hL2 hfit hS hEs hel hwl).mono ?_
    rintro e w' ⟨rfl, hp⟩
    have hp' : GiveP bx bf bi (.slice ae ef.length ce) ef (Pl.giveW ef X c) W w' := ⟨by have := hp.pw; rw [g1, g2] at this; exact this, hp.tn⟩
    have hd := hm.did hp' (give_cmds' ef X c)
    refine ⟨by rw [g3], hm.row.tn hp.tn (by have := h.n1; have := h.n2; omega), hd.1, ht.trans hd.2⟩
  clear h hE hfit hEs hwl hae
  go_enter Try.func61, Try.ntmps61
  go_wp2_with (first
    | (at_builtin; refine wpList_append_own_at _ rfl (.tmp 8) (.tmp 10) 39 rfl B 9 i0 (.string ⟨#[]⟩) 1 16 Try.underlying39 hi0 hz0 hz1 hz2 rfl (by decide) _ X.cmds.length _ rfl (World.ownsRow.alloc (unhide HM).given _) ⟨_, 0, none⟩ 1 1 [.string ⟨c.toArray⟩] rfl rfl (cells_new _ _ [_]) (one_one _) (by unfold maxLen; omega) (by omega) (by rw [World.size_alloc]; omega) ?_; intro v1 w1 hown1 hgrow1 hnil1 hat1; obtain ⟨q1, q2, rfl, -, -⟩ := owns_form hown1 (by omega); have HT := hide ((unhide HM).keep (c := c) ((World.grownBy_alloc w _ _).trans hgrow1) hown1 (fresh_at hat1)); have hg1 := (World.grownBy_alloc w _ _).trans hgrow1; have hr2 := (unhide HM).row.grown hg1 (own_ne (unhide HM).given hlm); have e5 := hr2.frozen 260; have d0 := (unhide HT).1.row.cell? (i := 0) rfl; have d5 := hr2.cell? (i := 260) (mCells_tail 1); clear hown1 hgrow1 hnil1 hat1 hr2 hg1)
    | (go_at_call 67; refine (unhide CG _ _ (unhide HT).1 (unhide HT).2).mono ?_; rintro e w2 ⟨rfl, hr2, hm2⟩; have HT2 := hide hm2; have y1 := hr2.cell? (i := 261) (mCells_tail 2); have y2 := hr2.frozen 261; clear hr2 hm2)
    | fail)
  go_end0
  exact ⟨rfl, _, unhide HT2⟩
end Go.Proofs.Ytjelacjggijmfaa
namespace Go.Proofs.Ytjelacjggijmfaa
open Go.RowKit Go.MapKept Go.ChangeMaps Go.Maps
attribute [local go_sem ↓] Go.wp_at_zero Go.wp_at_succ

def insL (op at_ nx F G : Nat) : List Value := [.int .u8 op, .int .i64 at_, .int .i64 nx, .int .i64 F, .int .i64 G]
section
variable {w Z : World} {B bm bx bf bi : Nat} {ap : Option Addr} {cp : Nat} {ss : List Pl.Bs} {ve : Value} {ef : List Pl.Eff} {vs vg vs' vg' : Value} {st : List Bool} {fl : Nat → Bool} {go : Nat} {X : Pl.Wd}
/-- A row that was made behind the machine's own memory stays where the machine turns. -/
theorem MM.far (h : MM w B bm bx bf bi ap cp ss ve ef vs vg st fl go X) {W : World} {N : Nat} {t : TypeId} {vs0 : List Value} (hN : w.heap.size ≤ N) (hr : Row W N t vs0) (ht : MTn bm bx bf vs vg vs' vg' W Z) : Row Z N t vs0 := by
  have l1 := h.lm
  have l2 := h.lx
  have l3 := h.lf
  have l5 := h.lw
  refine hr.tn ht.tn (fun e => ?_)
  rcases e with e | e | e | e | e
  · omega
  · omega
  · omega
  · have := (h.stack.lt N e.symm).2; omega
  · have := (h.given.lt N e.symm).2; omega
end
set_option maxHeartbeats 4000000 in
set_option maxRecDepth 20000 in
theorem do1_any (at_ nx F G : Nat) (B bm bx bf bi : Nat) (ap : Option Addr) (cp : Nat) (ss : List Pl.Bs) (ve : Value) (ef : List Pl.Eff) (vs vg : Value) (st : List Bool) (fl : Nat → Bool) (go : Nat) (X : Pl.Wd) (w : World) (h : MM w B bm bx bf bi ap cp ss ve ef vs vg st fl go X) (hst : st.length ≤ 18) (hF : F ≤ 1) :
    Calls Try.prog 48 #[.pointer (some ⟨bm, 0, none⟩), .agg #[.int .u8 1, .int .i64 at_, .int .i64 nx, .int .i64 F, .int .i64 G]] w fun e w' => e = .returned (.tuple #[]) ∧ ∃ vs' vg', MM w' B bm bx bf bi ap cp ss ve ef vs' vg' (st ++ [F == 1]) fl go X ∧ MTn bm bx bf vs vg vs' vg' w w' := by
  have hbw : Below w.heap.size w (w.alloc (.cells #[.int .u8 1, .int .i64 at_, .int .i64 nx, .int .i64 F, .int .i64 G] 116)) := (Below.refl _ w).alloc (Nat.le_refl _) _
  have HM0 := hide (h.later hbw)
  have HT0 : Hid (MTn bm bx bf vs vg vs vg w (w.alloc (.cells #[.int .u8 1, .int .i64 at_, .int .i64 nx, .int .i64 F, .int .i64 G] 116))) := MTn.later hbw
  have HR0 : Hid (Row (w.alloc (.cells #[.int .u8 1, .int .i64 at_, .int .i64 nx, .int .i64 F, .int .i64 G] 116)) w.heap.size 116 (insL 1 at_ nx F G)) := Row.new w 116 [.int .u8 1, .int .i64 at_, .int .i64 nx, .int .i64 F, .int .i64 G]
  have hF2 : F = 0 ∨ F = 1 := by omega
  have CP := hide (fun x => push_any x _ _ _ _ _ _ _ _ _ _ _ _ _ _ _ _ _ (unhide HM0) (by omega : st.length ≤ 20))
  clear h hbw
  rcases hF2 with rfl | rfl
  · go_enter Try.func48, Try.ntmps48
    go_wp2_with (first | (go_at_call 57; refine (unhide CP _).mono ?_; rintro e w1 ⟨rfl, vs1, hm1, ht1⟩; have HM1 := hide hm1; have HT1 := hide ht1; clear hm1 ht1) | fail)
    go_end0
    exact ⟨rfl, _, _, unhide HM1, (unhide HT0).trans (unhide HT1)⟩
  · go_enter Try.func48, Try.ntmps48
    go_wp2_with (first | (go_at_call 57; refine (unhide CP _).mono ?_; rintro e w1 ⟨rfl, vs1, hm1, ht1⟩; have HM1 := hide hm1; have HT1 := hide ht1; clear hm1 ht1) | fail)
    go_end0
    exact ⟨rfl, _, _, unhide HM1, (unhide HT0).trans (unhide HT1)⟩
set_option maxHeartbeats 4000000 in
set_option maxRecDepth 20000 in
theorem do5_any (r : List Bool) (x y : Bool) (at_ nx F G : Nat) (B bm bx bf bi : Nat) (ap : Option Addr) (cp : Nat) (ss : List Pl.Bs) (ve : Value) (ef : List Pl.Eff) (vs vg : Value) (fl : Nat → Bool) (go : Nat) (X : Pl.Wd) (w : World) (h : MM w B bm bx bf bi ap cp ss ve ef vs vg (r ++ [x, y]) fl go X) (hst : r.length ≤ 16) :
    Calls Try.prog 48 #[.pointer (some ⟨bm, 0, none⟩), .agg #[.int .u8 5, .int .i64 at_, .int .i64 nx, .int .i64 F, .int .i64 G]] w fun e w' => e = .returned (.tuple #[]) ∧ ∃ vs' vg', MM w' B bm bx bf bi ap cp ss ve ef vs' vg' (r ++ [y || x]) fl go X ∧ MTn bm bx bf vs vg vs' vg' w w' := by
  have hbw : Below w.heap.size w (w.alloc (.cells #[.int .u8 5, .int .i64 at_, .int .i64 nx, .int .i64 F, .int .i64 G] 116)) := (Below.refl _ w).alloc (Nat.le_refl _) _
  have HM0 := hide (h.later hbw)
  rw [show r ++ [x, y] = (r ++ [x]) ++ [y] by simp] at HM0
  have HT0 : Hid (MTn bm bx bf vs vg vs vg w (w.alloc (.cells #[.int .u8 5, .int .i64 at_, .int .i64 nx, .int .i64 F, .int .i64 G] 116))) := MTn.later hbw
  have HR0 : Hid (Row (w.alloc (.cells #[.int .u8 5, .int .i64 at_, .int .i64 nx, .int .i64 F, .int .i64 G] 116)) w.heap.size 116 (insL 5 at_ nx F G)) := Row.new w 116 [.int .u8 5, .int .i64 at_, .int .i64 nx, .int .i64 F, .int .i64 G]
  have C1 := hide (pop_any y (r ++ [x]) _ _ _ _ _ _ _ _ _ _ _ _ _ _ _ _ (unhide HM0) (by simp; omega))
  have C2 : Hid (∀ (W : World) (v : Value), MM W B bm bx bf bi ap cp ss ve ef v vg (r ++ [x]) fl go X → Calls Try.prog 60 #[.pointer (some ⟨bm, 0, none⟩)] W fun e w' => e = .returned (.bool x) ∧ ∃ vs', MM w' B bm bx bf bi ap cp ss ve ef vs' vg r fl go X ∧ MTn bm bx bf v vg vs' vg W w') := fun W v hm => pop_any x r _ _ _ _ _ _ _ _ _ _ _ _ _ _ _ W hm (by omega)
  have C3 : Hid (∀ (W : World) (v : Value) (z : Bool), MM W B bm bx bf bi ap cp ss ve ef v vg r fl go X → Calls Try.prog 57 #[.pointer (some ⟨bm, 0, none⟩), .bool z] W fun e w' => e = .returned (.tuple #[]) ∧ ∃ vs', MM w' B bm bx bf bi ap cp ss ve ef vs' vg (r ++ [z]) fl go X ∧ MTn bm bx bf v vg vs' vg W w') := fun W v z hm => push_any z _ _ _ _ _ _ _ _ _ _ _ _ _ _ _ _ W hm (by omega)
  clear h hbw
  cases x <;> cases y
  all_goals go_enter Try.func48, Try.ntmps48
  all_goals go_wp2_with (first
    | (go_at_call 60; refine (unhide C1).mono ?_; rintro e w1 ⟨rfl, vs1, hm1, ht1⟩; have HM1 := hide hm1; have HT1 := hide ((unhide HT0).trans ht1); clear hm1 ht1)
    | (go_at_call 60; refine (unhide C2 _ _ (unhide HM1)).mono ?_; rintro e w2 ⟨rfl, vs2, hm2, ht2⟩; have HM2 := hide hm2; have HT2 := hide ((unhide HT1).trans ht2); clear hm2 ht2)
    | (go_at_call 57; refine (unhide C3 _ _ _ (unhide HM2)).mono ?_; rintro e w3 ⟨rfl, vs3, hm3, ht3⟩; have HM3 := hide hm3; have HT3 := hide ((unhide HT2).trans ht3); clear hm3 ht3)
    | fail)
  all_goals go_end0
  all_goals exact ⟨rfl, _, _, unhide HM3, unhide HT3⟩
set_option maxHeartbeats 4000000 in
set_option maxRecDepth 20000 in
theorem do6_any (r : List Bool) (y : Bool) (at_ nx F G : Nat) (B bm bx bf bi : Nat) (ap : Option Addr) (cp : Nat) (ss : List Pl.Bs) (ve : Value) (ef : List Pl.Eff) (vs vg : Value) (fl : Nat → Bool) (go : Nat) (X : Pl.Wd) (w : World) (h : MM w B bm bx bf bi ap cp ss ve ef vs vg (r ++ [y]) fl go X) (hst : r.length ≤ 17) (hn : nx ≤ 1048576) (hF : F ≤ 65535) :
    Calls Try.prog 48 #[.pointer (some ⟨bm, 0, none⟩), .agg #[.int .u8 6, .int .i64 at_, .int .i64 nx, .int .i64 F, .int .i64 G]] w fun e w' => e = .returned (.tuple #[]) ∧ ∃ vs' vg', MM w' B bm bx bf bi ap cp ss ve ef vs' vg' r fl (if y then go else nx + F) X ∧ MTn bm bx bf vs vg vs' vg' w w' := by
  have hbw : Below w.heap.size w (w.alloc (.cells #[.int .u8 6, .int .i64 at_, .int .i64 nx, .int .i64 F, .int .i64 G] 116)) := (Below.refl _ w).alloc (Nat.le_refl _) _
  have HM0 := hide (h.later hbw)
  have HT0 : Hid (MTn bm bx bf vs vg vs vg w (w.alloc (.cells #[.int .u8 6, .int .i64 at_, .int .i64 nx, .int .i64 F, .int .i64 G] 116))) := MTn.later hbw
  have HR0 : Hid (Row (w.alloc (.cells #[.int .u8 6, .int .i64 at_, .int .i64 nx, .int .i64 F, .int .i64 G] 116)) w.heap.size 116 (insL 6 at_ nx F G)) := Row.new w 116 [.int .u8 6, .int .i64 at_, .int .i64 nx, .int .i64 F, .int .i64 G]
  have C1 := hide (pop_any y r _ _ _ _ _ _ _ _ _ _ _ _ _ _ _ _ (unhide HM0) (by omega))
  have HFR : Hid (∀ (Z : World) (v : Value), MTn bm bx bf vs vg v vg (w.alloc (.cells #[.int .u8 6, .int .i64 at_, .int .i64 nx, .int .i64 F, .int .i64 G] 116)) Z → Row Z w.heap.size 116 (insL 6 at_ nx F G)) := fun Z v ht => h.far (Nat.le_refl _) (unhide HR0) ht
  clear h hbw
  cases y
  · go_enter Try.func48, Try.ntmps48
    go_wp2_with (first
      | (go_at_call 60; refine (unhide C1).mono ?_; rintro e w1 ⟨rfl, vs1, hm1, ht1⟩; have hr1 := unhide HFR _ _ ht1; have d2 := hr1.cell? (i := 2) rfl; have d3 := hr1.cell? (i := 3) rfl; have e2 := hm1.row.cell? (i := 259) (mCells_tail 0); have e3 := hm1.row.frozen 259; have HMG := hide (hm1.goOn (nx + F)); have HT1 := hide ((unhide HT0).trans ht1); clear hm1 ht1 hr1)
      | fail)
    go_end0
    have := unhide HMG
    exact ⟨rfl, _, _, this.1, (unhide HT1).trans this.2⟩
  · go_enter Try.func48, Try.ntmps48
    go_wp2_with (first
      | (go_at_call 60; refine (unhide C1).mono ?_; rintro e w1 ⟨rfl, vs1, hm1, ht1⟩; have HM1 := hide hm1; have HT1 := hide ((unhide HT0).trans ht1); clear hm1 ht1)
      | fail)
    go_end0
    exact ⟨rfl, _, _, unhide HM1, unhide HT1⟩
end Go.Proofs.Ytjelacjggijmfaa
