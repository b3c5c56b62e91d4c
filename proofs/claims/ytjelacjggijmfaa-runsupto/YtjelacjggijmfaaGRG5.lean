/-
  The document's own answer: a plan runs.
-/
import Derived.Test.YtjelacjggijmfaaGRG3
import Derived.Test.YtjelacjggijmfaaGRF6
import Derived.Test.YtjelacjggijmfaaGSR5
import Derived.Deep.RegionHeld3
import Derived.Deep.DrawnRows
namespace Go.Proofs.Ytjelacjggijmfaa
open Go.RowKit
attribute [local go_sem ↓] Go.wp_at_zero Go.wp_at_succ

section
variable {w : World} {pb xb ob : Nat} {ap : Option Addr} {cp : Nat} {c : Pl.Bs} {ss : List Pl.Bs} {ve vf vc vs : Value} {st : List Bool} {fl : Nat → Bool} {X : Pl.Wd} {W Z : World}
theorem RunM.push {v' x : Value} {o : Obj} (h : RunM w pb xb ob ap cp c ss ve vf vc vs st fl X W) (hg : (W.alloc o).grownBy Z vs.ownBlock) (b : Bool) (hx : x = bitV b) (hs : Z.ownsRow (xb + 1) 3 1 v' (st.length + 1) (st.map bitV ++ [x])) :
    RunM w pb xb ob ap cp c ss ve vf vc v' (st ++ [b]) fl X Z :=
  h.turn ((World.grownBy_alloc W o _).trans hg) (.inr rfl) (by subst hx; simpa using hs)
theorem RunM.str (h : RunM w pb xb ob ap cp c ss ve vf vc vs st fl X W) (hs : 0 < ss.length) : ∃ b, ap = some ⟨b, 0, none⟩ ∧ ∀ n (hn : n < ss.length), W.cell? ⟨b, n, none⟩ = some (.string ⟨ss[n].toArray⟩) := by
  obtain ⟨b, h1, h2⟩ := h.strs
  refine ⟨b, (h1 hs).1, fun n hn => ?_⟩
  have := h2 n hn
  rw [Nat.zero_add] at this
  exact this
end
theorem rise_le {op h : Nat} (ht : Pl.taken op ≤ h) (hr : Pl.rise op h ≤ 16) : h ≤ 18 := by
  unfold Pl.rise at hr
  have : Pl.taken op ≤ 2 := by unfold Pl.taken; split <;> (try split) <;> omega
  omega
theorem bit_one {n : Nat} (h : n ≤ 1) : Value.int .i64 (n : Int) = bitV (n == 1) := by
  unfold bitV
  have : n = 0 ∨ n = 1 := by omega
  rcases this with rfl | rfl <;> rfl

theorem two_last {st : List Bool} (h : 2 ≤ st.length) : ∃ r x y, st = r ++ [x, y] := by
  rcases List.eq_nil_or_concat st with rfl | ⟨s1, y, rfl⟩
  · simp at h
  · rcases List.eq_nil_or_concat s1 with rfl | ⟨r, x, rfl⟩
    · simp at h
    · exact ⟨r, x, y, by simp⟩
theorem one_last {st : List Bool} (h : 1 ≤ st.length) : ∃ r y, st = r ++ [y] := by
  rcases List.eq_nil_or_concat st with rfl | ⟨s1, y, rfl⟩
  · simp at h
  · exact ⟨s1, y, by simp⟩
theorem two_le (c : Pl.Bs) (i : Nat) : Pl.two c i ≤ 65535 := by
  unfold Pl.two
  have h1 := (c.getD i 0).toNat_lt
  have h2 := (c.getD (i + 1) 0).toNat_lt
  omega
theorem drop_two (r : List Bool) (x y : Bool) : (r ++ [x, y]).dropLast.dropLast = r := by
  rw [show r ++ [x, y] = (r ++ [x]) ++ [y] by simp, List.dropLast_concat, List.dropLast_concat]
theorem last_two (r : List Bool) (x y : Bool) : (r ++ [x, y]).getLast?.getD false = y := by simp
theorem last_one (r : List Bool) (x y : Bool) : (r ++ [x, y]).dropLast.getLast?.getD false = x := by
  rw [show r ++ [x, y] = (r ++ [x]) ++ [y] by simp, List.dropLast_concat]; simp
theorem give_cmds (ef : List Pl.Eff) (X : Pl.Wd) (c : Pl.Bs) : (Pl.giveW ef X c).cmds.length = X.cmds.length + 1 := by
  unfold Pl.giveW; split <;> simp
theorem Fit.give {S : List Pl.Bs} {ef : List Pl.Eff} {X : Pl.Wd} {c : Pl.Bs} (h : Fit S X.files) (hE : ∀ e ∈ ef, ∀ f ∈ e.writes, f.path ∈ S) : Fit S (Pl.giveW ef X c).files := by
  unfold Pl.giveW
  split
  · exact h
  · rename_i e he
    exact Fit.puts _ _ h (hE e (List.mem_of_find?_eq_some he))
set_option maxHeartbeats 16000000 in
set_option maxRecDepth 20000 in
theorem refRun_yes (l : Pl.Bs) (hl : l.length ≤ 1048576) (hyes : Pl.checkOf l) (fs : List Pl.File) (ef : List Pl.Eff) (a ae : Option Addr) (cap b o ce L be oe : Nat) (clock : Int) (w : World)
    (ha : 0 < fs.length → a = some ⟨b, o, none⟩) (hr : RdF w b o fs) (hbw : b < w.heap.size) (hfl : fs.length ≤ 1048576)
    (hae : 0 < ef.length → ae = some ⟨be, oe, none⟩) (hE : RdE w L be oe ef) (hL : L ≤ w.heap.size) (hel : ef.length ≤ 1048576) (hwl : ∀ e ∈ ef, e.writes.length ≤ 1048576)
    (S : List Pl.Bs) (hS : S.length ≤ 1048576) (hfS : ∀ f ∈ fs, f.path ∈ S) (hEs : ∀ e ∈ ef, ∀ f ∈ e.writes, f.path ∈ S) :
    Calls Try.prog 12 #[.string ⟨l.toArray⟩, .slice a fs.length cap, .slice ae ef.length ce, .int .i64 clock] w fun e w' => RunPost l fs ef clock w e w' := by
  obtain ⟨i0, hi0, hz0, hz1, hz2⟩ := info_parts Try.infoInt
  have HI0 := hide hi0
  have HZ0 := hide hz0
  have HZ1 := hide hz1
  have HZ2 := hide hz2
  clear hi0 hz0 hz1 hz2
  have HY := hide hyes
  have CC := hide (fun W => refCheck_any l W hl)
  have CL := hide (fun W => load_any l W hl)
  have HR := hide hr
  have HA := hide ha
  have HE := hide hE
  have HAE := hide hae
  have HWL := hide hwl
  have HES := hide hEs
  have HF0 : Hid (Fit S (Pl.newW fs clock).files) := Fit.adds fs ⟨by simp [Pl.Uniq], by simp⟩ hfS
  have CW := hide (fun W (hb : Below w.heap.size w W) => newWorld_any fs a ae cap b o ef.length ce clock W ha (hr.below hb hbw) (Nat.lt_of_lt_of_le hbw hb.size) hfl)
  have H0 := hide (Row.new w 45 [.slice none 0 0, .slice none 0 0, .int .i64 0, .int .i64 0])
  have HB0 := hide ((Below.refl _ w).alloc (Nat.le_refl _) (.cells #[.slice none 0 0, .slice none 0 0, .int .i64 0, .int .i64 0] 45))
  have hmb : ∀ w, (Instr.makeSlice 73 (.int .i64 256) (.int .i64 256)).run Try.prog w = .ok (.slice (some ⟨w.heap.size, 0, none⟩) 256 256) (w.alloc (.cells (madeCells #[.bool false] 256) 4)) :=
    run_make_row' (P := Try.prog) 73 4 (.bool false) 1 Try.underlying73 Try.infoBool rfl .i64 .i64 256 (by omega) (by omega)
  clear hyes hr ha hE hae hwl hfS hEs
  go_enter Try.func12, Try.ntmps12
  go_wp2_with (first
    | (go_at_call 7; refine (unhide CC _).mono ?_; rintro e w1 ⟨⟨z, rfl, hz⟩, hb1⟩; obtain ⟨rfl, -⟩ := hz.resolve_right (fun h => h.2 (unhide HY)); have HB1 := hide hb1; clear hz hb1)
    | (go_at_call 19; refine (unhide CL _).mono ?_; rintro e w2 ⟨h2, hb2⟩; obtain ⟨ss, c, pb, vp, hld, rfl, hpl, hst, hpb⟩ := h2.resolve_left (fun h => by obtain ⟨x, hx, _⟩ := unhide HY; rw [h.1] at hx; cases hx); have HB2 := hide hb2; have HLD := hide hld; have HPL := hide hpl; have HST := hide hst; clear hb2 hld hpl hst h2)
    | (go_at_call 23; refine (unhide CW _ ((unhide HB0).trans (((unhide HB1).mono (unhide HB0).size).trans ((unhide HB2).mono (Nat.le_trans (unhide HB0).size (unhide HB1).size))))).mono ?_; rintro e w3 ⟨rfl, vf, vc, hrw, hb3⟩; have HB3 := hide hb3; have HRW := hide hrw; clear hb3 hrw)
    | fail)
  obtain ⟨ap, cp, rfl, hrm⟩ := runM_start (unhide HB1) (unhide HB2) (unhide HB3) hpb (unhide HPL) (unhide HST) (unhide HRW)
  have hsn : Pl.Sn c ss.length 0 0 := by
    obtain ⟨x, hx, hs⟩ := unhide HY
    rw [unhide HLD] at hx
    cases hx
    exact ⟨_, hs⟩
  have HSN := hide hsn
  have HRM := hide hrm
  have hcl : c.length ≤ 1048576 := Nat.le_trans (load_code (unhide HLD)) hl
  have hsz := size_mk c
  have HEN := hide (Pl.Ends.start c ss ef (Pl.newW fs clock))
  generalize hR : Pl.runW c ss ef (Pl.newW fs clock) = R at HEN
  have HRR := hide hR
  generalize w3.alloc (.cells (madeCells #[.bool false] 256) 4) = W0 at *
  generalize (w.alloc (.cells #[.slice none 0 0, .slice none 0 0, .int .i64 0, .int .i64 0] 45)) = w0 at *
  generalize w2.heap.size = xb at *
  generalize w3.heap.size = ob at *
  clear hsn hrm CC CL CW hmb hR HB1 HB2 HB3 HPL HST HRW hpb
  go_loopw [14, 16] (fun vs i wr => ∃ (p : Nat) (st : List Bool) (fl : Nat → Bool) (X : Pl.Wd) (vf vc : Value), i = .int .i64 p ∧ Hid (Pl.Sn c ss.length p st.length) ∧ Hid (Pl.Ends c ss ef p st fl X R) ∧ Hid (RunM w0 pb xb ob ap cp c ss (.slice ae ef.length ce) vf vc vs st fl X wr) ∧ Hid (Fit S X.files) ∧ X.cmds.length ≤ p) (fun _ i _ => c.length - intN i)
  case atStart => exact ⟨0, [], _, _, vf, vc, rfl, HSN, HEN, HRM, HF0, Nat.zero_le _⟩
  case round =>
    clear HSN HEN HRM
    clear HF0
    obtain ⟨p, st, fl, X, vf', vc', rfl, HSN, HEN, HRM, HFT, hcm⟩ := hrel
    have k1 := (unhide HRM).plan.cell 1 (by simp)
    have k4 := (unhide HRM).world.row.cell 4 (by simp)
    simp only [List.getElem_cons_zero, List.getElem_cons_succ] at k1 k4
    by_cases hend : p < c.length ∧ X.exit = 0
    · obtain ⟨hp, hx0⟩ := hend
      obtain ⟨s, hsc⟩ : ∃ s : ByteArray, s = ⟨c.toArray⟩ := ⟨_, rfl⟩
      have hcs : c = s.data.toList := by rw [hsc]
      have HSC := hide hsc
      rw [← hsc] at k1 hsz
      have hps : p < s.size := by rw [hsz]; exact hp
      have ho := opAt_get s p hps
      rw [← hcs] at ho
      have hfit := (unhide HSN).fits hp
      obtain ⟨hn1, hn2⟩ := (unhide HSN).next (ss := ss) (ef := ef) (fl := fl) (X := X) hp
      have hen := (unhide HEN).step hp hx0 hn2
      have t1 : (p : Int) < (s.size : Int) := by omega
      rw [hx0] at k4
      obtain ⟨sa, sc, hvs⟩ := own_shape (unhide HRM).stack
      subst hvs
      have h16 : st.length ≤ 18 := rise_le hfit.taken hfit.rise
      have i16 : (st.length : Int) ≤ 18 := by omega
      rcases Pl.isz_ops hfit.whole.1 with h | h | h | h | h | h | h | h
      · have hz : Pl.isz (Pl.opAt c p) = 2 := by rw [h]; rfl
        have hnx : (Pl.mkIns c p).next = p + 2 := by show p + _ = _; rw [hz]
        have hfs : (Pl.mkIns c p).first = Pl.opAt c (p + 1) := by unfold Pl.mkIns; simp [hz]
        have hact : Pl.act ss ef (Pl.mkIns c p) st fl X = (p + 2, st ++ [Pl.opAt c (p + 1) == 1], fl, X) := by
          unfold Pl.act
          rw [show (Pl.mkIns c p).op = 1 from h, hnx, hfs]
          rfl
        rw [hact] at hn1 hen
        have hle := hfit.ops.1 h
        rw [hfs] at hle
        have hwl2 := hfit.whole.2
        rw [hz] at hwl2
        have hp1 : p + 1 < s.size := by rw [hsz]; omega
        have ho1 := opAt_get s (p + 1) hp1
        rw [← hcs] at ho1
        have hs8 : s[p].toNat = 1 := by rw [← ho]; exact h
        have CS : Hid (∀ W, Calls Try.prog 24 #[.int .i64 1] W fun e w' => e = .returned (.int .i64 2) ∧ Below W.heap.size W w') := fun W => refSize_any 1 (by omega) W
        rw [ho1] at hn1 hen hle
        have HBT := hide (bit_one hle)
        have t2 : (p : Int) + 1 < (s.size : Int) := by omega
        have t3 : ((s[p + 1].toNat : Nat) : Int) ≤ 1 := by omega
        have HS1 := hide hn1
        have HE1 := hide hen
        clear ho ho1 hact hnx hfs hz hn1 hn2 hen hwl2 hfit hcs hsc HSN HEN h hle
        as_aux_lemma =>
          go_wp2_with (first
            | (go_at_call 24; refine (unhide CS _).mono ?_; rintro e w5 ⟨rfl, hb5⟩; have HM5 := hide ((unhide HRM).later hb5); have q1 := (unhide HM5).plan.cell 1 (by simp); simp only [List.getElem_cons_zero, List.getElem_cons_succ] at q1; rw [← unhide HSC] at q1; have hz5 := (unhide HM5).world.row.lt; clear hb5)
            | (at_builtin; refine wpList_append_own _ rfl (.tmp 70) (.tmp 79) 72 rfl (xb + 1) 3 i0 (.int .i64 0) 1 8 Try.underlying72 (unhide HI0) (unhide HZ0) (unhide HZ1) (unhide HZ2) rfl (by decide) _ st.length _ rfl (World.ownsRow.alloc (unhide HM5).stack _) ⟨_, 0, none⟩ 1 1 [.int .i64 s[p + 1].toNat] rfl rfl (cells_new _ _ [_]) (one_int _) (by unfold maxLen; omega) (by omega) (by rw [World.size_alloc]; omega) ?_; intro v1 w1 hown1 hgrow1 hnil1; have HMM := hide ((unhide HM5).push hgrow1 _ (unhide HBT) hown1); clear hown1 hgrow1 hnil1)
            | fail)
          go_roundw
          case rel => exact ⟨p + 2, _, fl, X, vf', vc', by go_num, HS1, HE1, HMM, HFT, by omega⟩
          case measure => simp only [intN]; omega
      · have hz : Pl.isz (Pl.opAt c p) = 3 := by rw [h]; rfl
        have hnx : (Pl.mkIns c p).next = p + 3 := by show p + _ = _; rw [hz]
        have hfs : (Pl.mkIns c p).first = Pl.two c (p + 1) := by unfold Pl.mkIns; simp [hz]
        have hop : (Pl.mkIns c p).op = 2 := h
        have hle := hfit.ops.2.1 (.inl hop)
        have hwl2 := hfit.whole.2
        rw [hz] at hwl2
        have hact : Pl.act ss ef (Pl.mkIns c p) st fl X = (p + 3, st ++ [(Pl.look X.files (ss.getD (Pl.two c (p + 1)) [])).isNone], fl, X) := by
          unfold Pl.act
          rw [hop, hnx, hfs]
          rfl
        rw [hact] at hn1 hen
        rw [hfs] at hle
        have hs8 : s[p].toNat = 2 := by rw [← ho]; exact h
        have CS : Hid (∀ W, Calls Try.prog 24 #[.int .i64 2] W fun e w' => e = .returned (.int .i64 3) ∧ Below W.heap.size W w') := fun W => refSize_any 2 (by omega) W
        have CT : Hid (∀ W, Calls Try.prog 26 #[.string s, .int .i64 ((p : Int) + 1)] W fun e w' => e = .returned (.int .i64 (Pl.two c (p + 1))) ∧ W.drew = w') := fun W => by have := refTwo_any s (p + 1) W (by omega) (by omega); rw [← hcs] at this; exact this
        generalize hn0 : Pl.two c (p + 1) = n at *
        have hg0 : ss.getD n [] = ss[n] := by rw [List.getD_eq_getElem?_getD, List.getElem?_eq_getElem hle]; rfl
        rw [hg0] at hn1 hen
        have HBT : Hid ((idxI X.files ss[n] = -1 ∧ (Pl.look X.files ss[n]).isNone = true) ∨ ∃ k : Nat, idxI X.files ss[n] = k ∧ (Pl.look X.files ss[n]).isNone = false) := by
          rcases look_at (fs := X.files) (p := ss[n]) with ⟨e1, e2⟩ | ⟨k, hk, e1, e2⟩
          · exact .inl ⟨e1, by rw [e2]; rfl⟩
          · exact .inr ⟨k, e1, by rw [e2]; rfl⟩
        have hfl := (unhide HFT).len
        obtain ⟨bs, rfl, -⟩ := (unhide HRM).str (by omega)
        have HS1 := hide hn1
        have HE1 := hide hen
        clear ho hact hnx hfs hz hn1 hn2 hen hfit hcs hsc HSN HEN h hop hn0 hg0
        as_aux_lemma =>
          go_wp2_with (first
            | (go_at_call 24; refine (unhide CS _).mono ?_; rintro e w5 ⟨rfl, hb5⟩; have HM5 := hide ((unhide HRM).later hb5); have q1 := (unhide HM5).plan.cell 1 (by simp); have q0 := (unhide HM5).plan.cell 0 (by simp); have x0 := (unhide HM5).world.row.cell 0 (by simp); simp only [List.getElem_cons_zero, List.getElem_cons_succ] at q0 q1 x0; rw [← unhide HSC] at q1; obtain ⟨bs', hbs, hcs'⟩ := (unhide HM5).str (by omega); cases hbs; have q2 := hcs' n hle; have hz5 := (unhide HM5).world.row.lt; obtain ⟨av, cv, gv, rfl, hav, hrv, -⟩ := (unhide HM5).world.files.rd; have CF := hide (fun m => refFile_any X.files ss[n] av cv gv 0 (w5.drewN m) hav hrv (by omega)); unfold strV at CF; clear hb5 hcs' hav hrv)
            | fail)
          have HBZ : Hid (∃ (z : Int) (b : Bool), idxI X.files ss[n] = z ∧ (Pl.look X.files ss[n]).isNone = b ∧ ((z < 0 ∧ Value.int .i64 1 = bitV b) ∨ (¬ z < 0 ∧ Value.int .i64 0 = bitV b))) := by
            rcases unhide HBT with ⟨e1, e2⟩ | ⟨k, e1, e2⟩
            · exact ⟨_, _, e1, e2, .inl ⟨by omega, rfl⟩⟩
            · exact ⟨_, _, e1, e2, .inr ⟨by omega, rfl⟩⟩
          clear HBT
          obtain ⟨z, bz, e1, e2, hzb⟩ := unhide HBZ
          rw [e1] at CF
          rw [e2] at HS1 HE1
          clear HBZ e1 e2
          go_quiet (first | (go_at_call 25; exact Calls.quiet_of_same ((unhide CF _).mono (fun _ _ h => ⟨h.1, h.2.symm⟩))) | (go_at_call 26; exact Calls.quiet_of ((unhide CT _).mono (fun _ _ h => ⟨h.1, 1, h.2.symm⟩))))
          have HM6 := hide ((unhide HM5).later (Below.drewN (Below.refl _ w5) nq))
          have hz6 := (unhide HM6).world.row.lt
          rcases hzb with ⟨hzn, hbt⟩ | ⟨hzn, hbt⟩
          all_goals have HBT := hide hbt
          all_goals clear hbt
          all_goals go_wp2_with (first
            | (go_at_call 27; refine (refNumber_any _ _).mono ?_; rintro e w7 ⟨rfl, rfl⟩)
            | (at_builtin; refine wpList_append_own _ rfl (.tmp 101) (.tmp 105) 72 rfl (xb + 1) 3 i0 (.int .i64 0) 1 8 Try.underlying72 (unhide HI0) (unhide HZ0) (unhide HZ1) (unhide HZ2) rfl (by decide) _ st.length _ rfl (World.ownsRow.alloc (unhide HM6).stack _) ⟨_, 0, none⟩ 1 1 [_] rfl rfl (cells_new _ _ [_]) (one_int _) (by unfold maxLen; omega) (by omega) (by rw [World.size_alloc]; omega) ?_; intro v1 w1 hown1 hgrow1 hnil1; have HMM := hide ((unhide HM6).push hgrow1 _ (unhide HBT) hown1); clear hown1 hgrow1 hnil1)
            | fail)
          all_goals go_roundw
          all_goals first
            | exact ⟨p + 3, _, fl, X, _, vc', by go_num, HS1, HE1, HMM, HFT, by omega⟩
            | (simp only [intN]; omega)
      · have hz : Pl.isz (Pl.opAt c p) = 5 := by rw [h]; rfl
        have hnx : (Pl.mkIns c p).next = p + 5 := by show p + _ = _; rw [hz]
        have hop : (Pl.mkIns c p).op = 3 := h
        have hwl2 := hfit.whole.2
        rw [hz] at hwl2
        have hs8 : s[p].toNat = 3 := by rw [← ho]; exact h
        have CS : Hid (∀ W, Calls Try.prog 24 #[.int .i64 3] W fun e w' => e = .returned (.int .i64 5) ∧ Below W.heap.size W w') := fun W => refSize_any 3 (by omega) W
        have hfs : (Pl.mkIns c p).first = Pl.two c (p + 1) := by unfold Pl.mkIns; simp [hz]
        have hse : (Pl.mkIns c p).second = Pl.two c (p + 3) := by unfold Pl.mkIns; simp [hz]
        obtain ⟨hl1, hl2⟩ := hfit.ops.2.2 hop
        have hact : Pl.act ss ef (Pl.mkIns c p) st fl X = (p + 5, st ++ [Pl.newer X.files (ss.getD (Pl.two c (p + 1)) []) (ss.getD (Pl.two c (p + 3)) [])], fl, X) := by
          unfold Pl.act
          rw [hop, hnx, hfs, hse]
          rfl
        rw [hact] at hn1 hen
        rw [hfs] at hl1
        rw [hse] at hl2
        obtain ⟨u1, hu1⟩ : ∃ q : Nat, q = p + 1 := ⟨_, rfl⟩
        have CT1 : Hid (∀ W, Calls Try.prog 26 #[.string s, .int .i64 (u1 : Int)] W fun e w' => e = .returned (.int .i64 (Pl.two c (p + 1))) ∧ W.drew = w') := fun W => by have := refTwo_any s u1 W (by omega) (by omega); rw [← hcs, hu1] at this; rw [hu1]; exact this
        have hwCT1 : IntKind.i64.wrap ((p : Int) + 1) = (u1 : Int) := by rw [wrap_small (by omega) (by omega), hu1]; rfl
        clear hu1
        obtain ⟨u3, hu3⟩ : ∃ q : Nat, q = p + 3 := ⟨_, rfl⟩
        have CT3 : Hid (∀ W, Calls Try.prog 26 #[.string s, .int .i64 (u3 : Int)] W fun e w' => e = .returned (.int .i64 (Pl.two c (p + 3))) ∧ W.drew = w') := fun W => by have := refTwo_any s u3 W (by omega) (by omega); rw [← hcs, hu3] at this; rw [hu3]; exact this
        have hwCT3 : IntKind.i64.wrap ((p : Int) + 3) = (u3 : Int) := by rw [wrap_small (by omega) (by omega), hu3]; rfl
        clear hu3
        generalize hn0 : Pl.two c (p + 1) = n1 at *
        generalize hn3 : Pl.two c (p + 3) = n2 at *
        have hg1 : ss.getD n1 [] = ss[n1] := by rw [List.getD_eq_getElem?_getD, List.getElem?_eq_getElem hl1]; rfl
        have hg2 : ss.getD n2 [] = ss[n2] := by rw [List.getD_eq_getElem?_getD, List.getElem?_eq_getElem hl2]; rfl
        rw [hg1, hg2] at hn1 hen
        have hfl := (unhide HFT).len
        obtain ⟨bs, rfl, -⟩ := (unhide HRM).str (by omega)
        have CN : Hid (∀ W, RunM w0 pb xb ob (some ⟨bs, 0, none⟩) cp c ss (.slice ae ef.length ce) vf' vc' (.slice sa st.length sc) st fl X W → Calls Try.prog 28 #[.pointer (some ⟨xb, 0, none⟩), .string ⟨ss[n1].toArray⟩, .string ⟨ss[n2].toArray⟩] W fun e w' => e = .returned (.bool (Pl.newer X.files ss[n1] ss[n2])) ∧ RunM w0 pb xb ob (some ⟨bs, 0, none⟩) cp c ss (.slice ae ef.length ce) vf' vc' (.slice sa st.length sc) st fl X w') :=
          fun W hm => (refNewer_any ss[n1] ss[n2] _ _ _ _ _ _ W hm.world (by omega)).mono (fun e w' hh => ⟨hh.1, hm.later hh.2⟩)
        generalize Pl.newer X.files ss[n1] ss[n2] = nb at *
        have HBT : Hid (Value.int .i64 (if nb then 1 else 0) = bitV nb) := rfl
        have HS1 := hide hn1
        have HE1 := hide hen
        clear ho hact hnx hfs hse hz hn1 hn2 hen hfit hcs hsc HSN HEN h hop hn0 hn3 hg1 hg2
        as_aux_lemma =>
          go_wp2_with (first
            | (go_at_call 24; refine (unhide CS _).mono ?_; rintro e w5 ⟨rfl, hb5⟩; have HM5 := hide ((unhide HRM).later hb5); have q1 := (unhide HM5).plan.cell 1 (by simp); simp only [List.getElem_cons_zero, List.getElem_cons_succ] at q1; rw [← unhide HSC] at q1; have hz5 := (unhide HM5).world.row.lt; have q0 := (unhide HM5).plan.cell 0 (by simp); simp only [List.getElem_cons_zero] at q0; obtain ⟨bs', hbs, hcs'⟩ := (unhide HM5).str (by omega); cases hbs; have q2 := hcs' n1 hl1; have q3 := hcs' n2 hl2; clear hcs'; clear hb5)
            | fail)
          have i1 : (n1 : Int) < (ss.length : Int) := by omega
          have i2 : (n2 : Int) < (ss.length : Int) := by omega
          have i3 : (0 : Int) ≤ (n1 : Int) := by omega
          have i4 : (0 : Int) ≤ (n2 : Int) := by omega
          go_region_held3 (fun w' => w'.cell? ⟨pb, 0, none⟩ = some (.slice (some ⟨bs, 0, none⟩) ss.length cp) ∧ w'.cell? ⟨pb, 1, none⟩ = some (.string s) ∧ w'.cell? ⟨bs, n1, none⟩ = some (.string ⟨ss[n1].toArray⟩) ∧ w'.cell? ⟨bs, n2, none⟩ = some (.string ⟨ss[n2].toArray⟩)) (go_keep) (first
            | (go_at_call_of 26 (u1 : Int); refine (unhide CT1 _).mono ?_; rintro e w6 ⟨rfl, rfl⟩)
            | (go_at_call_of 26 (u3 : Int); refine (unhide CT3 _).mono ?_; rintro e w6 ⟨rfl, rfl⟩)
            | (go_at_call 28; refine (unhide CN _ ?_).mono ?_; exact (unhide HM5).later (((Below.refl _ w5).drew).drew).drew; rintro e w6 ⟨rfl, hm6⟩; have HM6 := hide hm6; have hz6 := hm6.world.row.lt; have y0 := hm6.plan.cell 0 (by simp); have y1 := hm6.plan.cell 1 (by simp); simp only [List.getElem_cons_zero, List.getElem_cons_succ] at y0 y1; rw [← unhide HSC] at y1; obtain ⟨bs6, hbs6, hcs6⟩ := hm6.str (by omega); cases hbs6; have y2 := hcs6 n1 hl1; have y3 := hcs6 n2 hl2; clear hcs6 hm6))
          all_goals go_wp2_with (first
            | (go_at_call 27; refine (refNumber_any _ _).mono ?_; rintro e w7 ⟨rfl, rfl⟩)
            | (at_builtin; refine wpList_append_own _ rfl (.tmp 137) (.tmp 140) 72 rfl (xb + 1) 3 i0 (.int .i64 0) 1 8 Try.underlying72 (unhide HI0) (unhide HZ0) (unhide HZ1) (unhide HZ2) rfl (by decide) _ st.length _ rfl (World.ownsRow.alloc (unhide HM6).stack _) ⟨_, 0, none⟩ 1 1 [_] rfl rfl (cells_new _ _ [_]) (one_int _) (by unfold maxLen; omega) (by omega) (by rw [World.size_alloc]; omega) ?_; intro v1 w1 hown1 hgrow1 hnil1; have HMM := hide ((unhide HM6).push hgrow1 _ (unhide HBT) hown1); clear hown1 hgrow1 hnil1)
            | fail)
          all_goals go_roundw
          all_goals first
            | exact ⟨p + 5, _, fl, X, _, vc', by go_num, HS1, HE1, HMM, HFT, by omega⟩
            | (simp only [intN]; omega)
      · have hz : Pl.isz (Pl.opAt c p) = 2 := by rw [h]; rfl
        have hnx : (Pl.mkIns c p).next = p + 2 := by show p + _ = _; rw [hz]
        have hop : (Pl.mkIns c p).op = 4 := h
        have hwl2 := hfit.whole.2
        rw [hz] at hwl2
        have hs8 : s[p].toNat = 4 := by rw [← ho]; exact h
        have CS : Hid (∀ W, Calls Try.prog 24 #[.int .i64 4] W fun e w' => e = .returned (.int .i64 2) ∧ Below W.heap.size W w') := fun W => refSize_any 4 (by omega) W
        have hfs : (Pl.mkIns c p).first = Pl.opAt c (p + 1) := by unfold Pl.mkIns; simp [hz]
        have hact : Pl.act ss ef (Pl.mkIns c p) st fl X = (p + 2, st ++ [fl (Pl.opAt c (p + 1))], fl, X) := by
          unfold Pl.act
          rw [hop, hnx, hfs]
          rfl
        rw [hact] at hn1 hen
        have hp1 : p + 1 < s.size := by rw [hsz]; omega
        have ho1 := opAt_get s (p + 1) hp1
        rw [← hcs] at ho1
        have hi := Pl.opAt_lt c (p + 1)
        rw [ho1] at hn1 hen hi
        have t2 : (p : Int) + 1 < (s.size : Int) := by omega
        have t3 : ((s[p + 1].toNat : Nat) : Int) < 256 := by omega
        have HBT : Hid (Value.int .i64 (if fl s[p + 1].toNat then 1 else 0) = bitV (fl s[p + 1].toNat)) := rfl
        have HS1 := hide hn1
        have HE1 := hide hen
        clear ho ho1 hact hnx hfs hz hn1 hn2 hen hfit hcs hsc HSN HEN h hop
        as_aux_lemma =>
          go_wp2_with (first
            | (go_at_call 24; refine (unhide CS _).mono ?_; rintro e w5 ⟨rfl, hb5⟩; have HM5 := hide ((unhide HRM).later hb5); have q1 := (unhide HM5).plan.cell 1 (by simp); simp only [List.getElem_cons_zero, List.getElem_cons_succ] at q1; rw [← unhide HSC] at q1; have hz5 := (unhide HM5).world.row.lt; have q2 := BRow.cell (unhide HM5).on s[p + 1].toNat (by omega); clear hb5)
            | (go_at_call 27; refine (refNumber_any _ _).mono ?_; rintro e w7 ⟨rfl, rfl⟩)
            | (at_builtin; refine wpList_append_own _ rfl (.tmp 144) (.tmp 156) 72 rfl (xb + 1) 3 i0 (.int .i64 0) 1 8 Try.underlying72 (unhide HI0) (unhide HZ0) (unhide HZ1) (unhide HZ2) rfl (by decide) _ st.length _ rfl (World.ownsRow.alloc (unhide HM5).stack _) ⟨_, 0, none⟩ 1 1 [_] rfl rfl (cells_new _ _ [_]) (one_int _) (by unfold maxLen; omega) (by omega) (by rw [World.size_alloc]; omega) ?_; intro v1 w1 hown1 hgrow1 hnil1; have HMM := hide ((unhide HM5).push hgrow1 _ (unhide HBT) hown1); clear hown1 hgrow1 hnil1)
            | fail)
          go_roundw
          case rel => exact ⟨p + 2, _, fl, X, vf', vc', by go_num, HS1, HE1, HMM, HFT, by omega⟩
          case measure => simp only [intN]; omega
      · have hz : Pl.isz (Pl.opAt c p) = 1 := by rw [h]; rfl
        have hnx : (Pl.mkIns c p).next = p + 1 := by show p + _ = _; rw [hz]
        have hop : (Pl.mkIns c p).op = 5 := h
        have hwl2 := hfit.whole.2
        rw [hz] at hwl2
        have hs8 : s[p].toNat = 5 := by rw [← ho]; exact h
        have CS : Hid (∀ W, Calls Try.prog 24 #[.int .i64 5] W fun e w' => e = .returned (.int .i64 1) ∧ Below W.heap.size W w') := fun W => refSize_any 5 (by omega) W
        have htk := hfit.taken
        rw [h] at htk
        have htk2 : 2 ≤ st.length := htk
        obtain ⟨r, x, y, hst⟩ := two_last htk2
        have hact : Pl.act ss ef (Pl.mkIns c p) st fl X = (p + 1, r ++ [y || x], fl, X) := by
          unfold Pl.act
          rw [hop, hnx, hst, drop_two, last_two, last_one]
          rfl
        rw [hact] at hn1 hen
        obtain ⟨m, hm⟩ : ∃ m, st.length = m + 2 := ⟨st.length - 2, by omega⟩
        have hrm : r.length = m := by rw [hst] at hm; simp at hm; exact hm
        obtain ⟨g, hg⟩ : ∃ g, sa = some ⟨g, 0, none⟩ := by
          obtain ⟨g, cp', he, -⟩ := owns_form (unhide HRM).stack (by omega)
          cases he
          exact ⟨g, rfl⟩
        subst hg
        have hcap := own_cap (unhide HRM).stack
        have HCE : Hid (∀ W, RunM w0 pb xb ob ap cp c ss (.slice ae ef.length ce) vf' vc' (.slice (some ⟨g, 0, none⟩) (m + 2) sc) st fl X W → W.cell? ⟨g, m, none⟩ = some (bitV x) ∧ W.cell? ⟨g, m + 1, none⟩ = some (bitV y)) := fun W hM => by
          have hs := hM.stack
          rw [hm, hst] at hs
          have c0 := own_cell hs m (by simp; omega)
          have c1 := own_cell hs (m + 1) (by simp; omega)
          rw [c0, c1]
          simp [hrm, List.getElem_append_right]
        have HOL : Hid (∀ W, RunM w0 pb xb ob ap cp c ss (.slice ae ef.length ce) vf' vc' (.slice (some ⟨g, 0, none⟩) (m + 2) sc) st fl X W → ∀ j u, (r.map bitV)[j]? = some u → W.cell? ((⟨g, 0, none⟩ : Addr).add j) = some u) := fun W hM j u hj => by
          have hs := hM.stack
          rw [hm, hst] at hs
          have hjl : j < r.length := by
            have := (List.getElem?_eq_some_iff.1 hj).1
            simpa using this
          have c0 := own_cell hs j (by simp; omega)
          rw [show (⟨g, 0, none⟩ : Addr).add j = ⟨g, j, none⟩ from addr_add0 g j, c0, ← hj]
          simp [hjl]
        have HTU : Hid (∀ W Z v', RunM w0 pb xb ob ap cp c ss (.slice ae ef.length ce) vf' vc' (.slice (some ⟨g, 0, none⟩) (m + 2) sc) st fl X W → W.grownBy Z none → ∀ B, xb + 1 ≤ B → Z.ownsRow B 3 1 v' (m + 1) (r.map bitV ++ [bitV (y || x)]) → RunM w0 pb xb ob ap cp c ss (.slice ae ef.length ce) vf' vc' v' (r ++ [y || x]) fl X Z) := fun W Z v' hM hg B hB ho =>
          hM.turn hg (.inl rfl) (own_mono (by simpa [hrm] using ho) hB)
        have HRL : Hid ((r.map bitV).length = m) := by show _ = _; rw [List.length_map, hrm]
        rw [hm] at HRM h16 i16 hcap
        have HS1 := hide hn1
        have HE1 := hide hen
        clear ho hact hnx hz hn1 hn2 hen hfit hcs hsc HSN HEN h hop htk htk2 hst hrm
        generalize hsl : st.length = N at *
        subst hm
        have hm16 : (m : Int) ≤ 16 := by omega
        have hcap2 : m ≤ sc := by omega
        have hcap3 : (m : Int) ≤ (sc : Int) := by omega
        clear hsl
        cases x <;> cases y
        all_goals simp only [Bool.or_false, Bool.or_true] at HS1 HE1 HTU
        all_goals as_aux_lemma =>
          go_wp2_with (first
            | (go_at_call 24; refine (unhide CS _).mono ?_; rintro e w5 ⟨rfl, hb5⟩; have HM5 := hide ((unhide HRM).later hb5); have q1 := (unhide HM5).plan.cell 1 (by simp); simp only [List.getElem_cons_zero, List.getElem_cons_succ] at q1; rw [← unhide HSC] at q1; have hz5 := (unhide HM5).world.row.lt; obtain ⟨z0, z1⟩ := unhide HCE _ (unhide HM5); unfold bitV at z0 z1; try simp only [if_true] at z0 z1; try simp only [if_false, Bool.false_eq_true] at z0 z1; clear hb5)
            | (go_at_call 27; refine (refNumber_any _ _).mono ?_; rintro e w7 ⟨rfl, rfl⟩)
            | (at_builtin; refine wpList_append_grows _ rfl (.tmp 179) (.tmp 181) 72 rfl 3 i0 (.int .i64 0) 1 8 Try.underlying72 (unhide HI0) (unhide HZ0) (unhide HZ1) (unhide HZ2) rfl (by decide) _ m m (r.map bitV) rfl (fun h => by cases h) (by rw [unhide HRL]; omega) (fun b hb => by cases hb; exact unhide HOL _ ((unhide HM5).later ((Below.refl _ _).alloc (Nat.le_refl _) _))) ⟨_, 0, none⟩ 1 1 [_] rfl rfl (cells_new _ _ [_]) (one_int _) (by omega) (by unfold maxLen; omega) (by omega) ?_; intro v1 w1 hown1 hgrow1; have HMM := hide (unhide HTU _ _ _ ((unhide HM5).later ((Below.refl _ _).alloc (Nat.le_refl _) _)) hgrow1 _ (by rw [World.size_alloc]; omega) hown1); clear hown1 hgrow1)
            | fail)
          go_roundw
          case rel => exact ⟨p + 1, _, fl, X, vf', vc', by go_num, HS1, HE1, HMM, HFT, by omega⟩
          case measure => simp only [intN]; omega
      · have hz : Pl.isz (Pl.opAt c p) = 3 := by rw [h]; rfl
        have hnx : (Pl.mkIns c p).next = p + 3 := by show p + _ = _; rw [hz]
        have hop : (Pl.mkIns c p).op = 6 := h
        have hwl2 := hfit.whole.2
        rw [hz] at hwl2
        have hs8 : s[p].toNat = 6 := by rw [← ho]; exact h
        have CS : Hid (∀ W, Calls Try.prog 24 #[.int .i64 6] W fun e w' => e = .returned (.int .i64 3) ∧ Below W.heap.size W w') := fun W => refSize_any 6 (by omega) W
        have hfs : (Pl.mkIns c p).first = Pl.two c (p + 1) := by unfold Pl.mkIns; simp [hz]
        have htk := hfit.taken
        rw [h] at htk
        have htk2 : 1 ≤ st.length := htk
        obtain ⟨r, y, hst⟩ := one_last htk2
        have hact : Pl.act ss ef (Pl.mkIns c p) st fl X = (if y then p + 3 else p + 3 + Pl.two c (p + 1), r, fl, X) := by
          unfold Pl.act
          rw [hop, hnx, hfs, hst]
          simp
        rw [hact] at hn1 hen
        obtain ⟨u1, hu1⟩ : ∃ q : Nat, q = p + 1 := ⟨_, rfl⟩
        have CT1 : Hid (∀ W, Calls Try.prog 26 #[.string s, .int .i64 (u1 : Int)] W fun e w' => e = .returned (.int .i64 (Pl.two c (p + 1))) ∧ W.drew = w') := fun W => by have := refTwo_any s u1 W (by omega) (by omega); rw [← hcs, hu1] at this; rw [hu1]; exact this
        have hwCT1 : IntKind.i64.wrap ((p : Int) + 1) = (u1 : Int) := by rw [wrap_small (by omega) (by omega), hu1]; rfl
        clear hu1
        generalize hn0 : Pl.two c (p + 1) = n at *
        have hn0' : n ≤ 65535 := by rw [← hn0]; exact two_le c (p + 1)
        obtain ⟨m, hm⟩ : ∃ m, st.length = m + 1 := ⟨st.length - 1, by omega⟩
        have hrm : r.length = m := by rw [hst] at hm; simp at hm; exact hm
        obtain ⟨g, hg⟩ : ∃ g, sa = some ⟨g, 0, none⟩ := by
          obtain ⟨g, cp', he, -⟩ := owns_form (unhide HRM).stack (by omega)
          cases he
          exact ⟨g, rfl⟩
        subst hg
        have hcap := own_cap (unhide HRM).stack
        have HCE : Hid (∀ W, RunM w0 pb xb ob ap cp c ss (.slice ae ef.length ce) vf' vc' (.slice (some ⟨g, 0, none⟩) (m + 1) sc) st fl X W → W.cell? ⟨g, m, none⟩ = some (bitV y)) := fun W hM => by
          have hs := hM.stack
          rw [hm, hst] at hs
          have c0 := own_cell hs m (by simp; omega)
          rw [c0]
          simp [hrm, List.getElem_append_right]
        have HTU : Hid (∀ W, RunM w0 pb xb ob ap cp c ss (.slice ae ef.length ce) vf' vc' (.slice (some ⟨g, 0, none⟩) (m + 1) sc) st fl X W → RunM w0 pb xb ob ap cp c ss (.slice ae ef.length ce) vf' vc' (.slice (some ⟨g, 0, none⟩) m sc) r fl X W) := fun W hM => by
          have hs := hM.stack
          rw [hm, hst] at hs
          have h2 := own_cut hs m (by omega)
          refine hM.turn (World.grownBy.refl W none) (.inl rfl) ?_
          rw [hrm]
          have e : ((r ++ [y]).map bitV).take m = r.map bitV := by rw [List.map_append, ← hrm, ← List.length_map bitV, List.take_left]
          rw [e] at h2
          exact h2
        rw [hm] at HRM h16 i16 hcap
        have HS1 := hide hn1
        have HE1 := hide hen
        clear ho hact hnx hfs hz hn1 hn2 hen hfit hcs hsc HSN HEN h hop htk htk2 hst hrm hn0
        generalize hsl : st.length = N at *
        subst hm
        have hm16 : (m : Int) ≤ 17 := by omega
        have hcap2 : m ≤ sc := by omega
        have hcap3 : (m : Int) ≤ (sc : Int) := by omega
        clear hsl
        cases y
        all_goals try simp only [if_true] at HS1 HE1
        all_goals try simp only [if_false, Bool.false_eq_true] at HS1 HE1
        · as_aux_lemma =>
            go_wp2_with (first
              | (go_at_call 24; refine (unhide CS _).mono ?_; rintro e w5 ⟨rfl, hb5⟩; have HM5 := hide ((unhide HRM).later hb5); have q1 := (unhide HM5).plan.cell 1 (by simp); simp only [List.getElem_cons_zero, List.getElem_cons_succ] at q1; rw [← unhide HSC] at q1; have hz5 := (unhide HM5).world.row.lt; have z0 := unhide HCE _ (unhide HM5); unfold bitV at z0; try simp only [if_true] at z0; try simp only [if_false, Bool.false_eq_true] at z0; clear hb5)
              | (go_at_call 26; refine (unhide CT1 _).mono ?_; rintro e w7 ⟨rfl, rfl⟩)
              | fail)
            have HMM := hide (unhide HTU _ ((unhide HM5).later (Below.refl _ w5).drew))
            go_roundw
            case rel => exact ⟨p + 3 + n, r, fl, X, vf', vc', by go_num, HS1, HE1, HMM, HFT, by omega⟩
            case measure => simp only [intN]; omega
        · as_aux_lemma =>
            go_wp2_with (first
              | (go_at_call 24; refine (unhide CS _).mono ?_; rintro e w5 ⟨rfl, hb5⟩; have HM5 := hide ((unhide HRM).later hb5); have q1 := (unhide HM5).plan.cell 1 (by simp); simp only [List.getElem_cons_zero, List.getElem_cons_succ] at q1; rw [← unhide HSC] at q1; have hz5 := (unhide HM5).world.row.lt; have z0 := unhide HCE _ (unhide HM5); unfold bitV at z0; try simp only [if_true] at z0; try simp only [if_false, Bool.false_eq_true] at z0; clear hb5)
              | fail)
            have HMM := hide (unhide HTU _ (unhide HM5))
            go_roundw
            case rel => exact ⟨p + 3, r, fl, X, vf', vc', by go_num, HS1, HE1, HMM, HFT, by omega⟩
            case measure => simp only [intN]; omega
      · have hz : Pl.isz (Pl.opAt c p) = 3 := by rw [h]; rfl
        have hnx : (Pl.mkIns c p).next = p + 3 := by show p + _ = _; rw [hz]
        have hop : (Pl.mkIns c p).op = 7 := h
        have hwl2 := hfit.whole.2
        rw [hz] at hwl2
        have hs8 : s[p].toNat = 7 := by rw [← ho]; exact h
        have CS : Hid (∀ W, Calls Try.prog 24 #[.int .i64 7] W fun e w' => e = .returned (.int .i64 3) ∧ Below W.heap.size W w') := fun W => refSize_any 7 (by omega) W
        have hfs : (Pl.mkIns c p).first = Pl.two c (p + 1) := by unfold Pl.mkIns; simp [hz]
        have hle := hfit.ops.2.1 (.inr hop)
        have hact : Pl.act ss ef (Pl.mkIns c p) st fl X = (p + 3, st, fl, Pl.giveW ef X (ss.getD (Pl.two c (p + 1)) [])) := by
          unfold Pl.act
          rw [hop, hnx, hfs]
          rfl
        rw [hact] at hn1 hen
        rw [hfs] at hle
        obtain ⟨u1, hu1⟩ : ∃ q : Nat, q = p + 1 := ⟨_, rfl⟩
        have CT1 : Hid (∀ W, Calls Try.prog 26 #[.string s, .int .i64 (u1 : Int)] W fun e w' => e = .returned (.int .i64 (Pl.two c (p + 1))) ∧ W.drew = w') := fun W => by have := refTwo_any s u1 W (by omega) (by omega); rw [← hcs, hu1] at this; rw [hu1]; exact this
        have hwCT1 : IntKind.i64.wrap ((p : Int) + 1) = (u1 : Int) := by rw [wrap_small (by omega) (by omega), hu1]; rfl
        clear hu1
        generalize hn0 : Pl.two c (p + 1) = n at *
        have hg0 : ss.getD n [] = ss[n] := by rw [List.getD_eq_getElem?_getD, List.getElem?_eq_getElem hle]; rfl
        rw [hg0] at hn1 hen
        obtain ⟨bs, rfl, -⟩ := (unhide HRM).str (by omega)
        have CG : Hid (∀ W, RunM w0 pb xb ob (some ⟨bs, 0, none⟩) cp c ss (.slice ae ef.length ce) vf' vc' (.slice sa st.length sc) st fl X W → Calls Try.prog 29 #[.pointer (some ⟨xb, 0, none⟩), .string ⟨ss[n].toArray⟩] W fun e w' => (∃ v, e = .returned v) ∧ ∃ vf'' vc'', RunM w0 pb xb ob (some ⟨bs, 0, none⟩) cp c ss (.slice ae ef.length ce) vf'' vc'' (.slice sa st.length sc) st fl (Pl.giveW ef X ss[n]) w') := fun W hm => by
          have s0 := (unhide HB0).size
          have s1 := hm.hp
          have s2 := hm.hw
          have s3 := hm.world.row.lt
          refine (refGive_any ss[n] S ef L (xb + 1) xb be oe ce ae vf' vc' X W hm.world (unhide HAE) ((unhide HE).below (((unhide HB0).mono hL).trans (hm.below.mono (by omega)))) (by omega) (unhide HFT) hS (unhide HES) (by omega) hel (by omega) (unhide HWL)).mono ?_
          rintro e w' ⟨h1, vf'', vc'', h2, h3, h4⟩
          exact ⟨h1, vf'', vc'', hm.give h2 h3 h4⟩
        have HFG := hide ((unhide HFT).give (c := ss[n]) (unhide HES))
        have hcg := give_cmds ef X ss[n]
        generalize Pl.giveW ef X ss[n] = Y at *
        have HS1 := hide hn1
        have HE1 := hide hen
        clear ho hact hnx hfs hz hn1 hn2 hen hfit hcs hsc HSN HEN h hop hn0 hg0
        as_aux_lemma =>
          go_wp2_with (first
            | (go_at_call 24; refine (unhide CS _).mono ?_; rintro e w5 ⟨rfl, hb5⟩; have HM5 := hide ((unhide HRM).later hb5); have q1 := (unhide HM5).plan.cell 1 (by simp); simp only [List.getElem_cons_zero, List.getElem_cons_succ] at q1; rw [← unhide HSC] at q1; have hz5 := (unhide HM5).world.row.lt; have q0 := (unhide HM5).plan.cell 0 (by simp); simp only [List.getElem_cons_zero] at q0; obtain ⟨bs', hbs, hcs'⟩ := (unhide HM5).str (by omega); cases hbs; have q2 := hcs' n hle; clear hcs'; clear hb5)
            | fail)
          have i1 : (n : Int) < (ss.length : Int) := by omega
          have i3 : (0 : Int) ≤ (n : Int) := by omega
          go_region_held3 (fun w' => w'.cell? ⟨pb, 0, none⟩ = some (.slice (some ⟨bs, 0, none⟩) ss.length cp) ∧ w'.cell? ⟨pb, 1, none⟩ = some (.string s) ∧ w'.cell? ⟨bs, n, none⟩ = some (.string ⟨ss[n].toArray⟩)) (go_keep) (first
            | (go_at_call 26; refine (unhide CT1 _).mono ?_; rintro e w6 ⟨rfl, rfl⟩)
            | (go_at_call 29; refine (unhide CG _ ?_).mono ?_; exact (unhide HM5).later ((Below.refl _ w5).drew).drew; rintro e w6 ⟨⟨v6, rfl⟩, vf6, vc6, hm6⟩; have HM6 := hide hm6; have y0 := hm6.plan.cell 0 (by simp); have y1 := hm6.plan.cell 1 (by simp); simp only [List.getElem_cons_zero, List.getElem_cons_succ] at y0 y1; rw [← unhide HSC] at y1; obtain ⟨bs6, hbs6, hcs6⟩ := hm6.str (by omega); cases hbs6; have y2 := hcs6 n hle; clear hcs6 hm6))
          all_goals go_wp2_with fail
          all_goals go_roundw
          all_goals first
            | exact ⟨p + 3, st, fl, Y, _, _, by go_num, HS1, HE1, HM6, HFG, by omega⟩
            | (simp only [intN]; omega)
      · have hz : Pl.isz (Pl.opAt c p) = 2 := by rw [h]; rfl
        have hnx : (Pl.mkIns c p).next = p + 2 := by show p + _ = _; rw [hz]
        have hfs : (Pl.mkIns c p).first = Pl.opAt c (p + 1) := by unfold Pl.mkIns; simp [hz]
        have hact : Pl.act ss ef (Pl.mkIns c p) st fl X = (p + 2, st, fset fl (Pl.opAt c (p + 1)), X) := by
          unfold Pl.act
          rw [show (Pl.mkIns c p).op = 8 from h, hnx, hfs]
          rfl
        rw [hact] at hn1 hen
        have hwl2 := hfit.whole.2
        rw [hz] at hwl2
        have hp1 : p + 1 < s.size := by rw [hsz]; omega
        have ho1 := opAt_get s (p + 1) hp1
        rw [← hcs] at ho1
        have hi := Pl.opAt_lt c (p + 1)
        have hs8 : s[p].toNat = 8 := by rw [← ho]; exact h
        have CS : Hid (∀ W, Calls Try.prog 24 #[.int .i64 8] W fun e w' => e = .returned (.int .i64 2) ∧ Below W.heap.size W w') := fun W => refSize_any 8 (by omega) W
        rw [ho1] at hn1 hen hi
        have t2 : (p : Int) + 1 < (s.size : Int) := by omega
        have t3 : ((s[p + 1].toNat : Nat) : Int) < 256 := by omega
        have HS1 := hide hn1
        have HE1 := hide hen
        clear ho ho1 hact hnx hfs hz hn1 hn2 hen hwl2 hfit hcs hsc HSN HEN h
        as_aux_lemma =>
          go_wp2_with (first
            | (go_at_call 24; refine (unhide CS _).mono ?_; rintro e w5 ⟨rfl, hb5⟩; have HM5 := hide ((unhide HRM).later hb5); have q1 := (unhide HM5).plan.cell 1 (by simp); have q2 := (unhide HM5).on.cell s[p + 1].toNat (by omega); have q3 := Row.frozen (unhide HM5).on s[p + 1].toNat; simp only [List.getElem_cons_zero, List.getElem_cons_succ] at q1; rw [← unhide HSC] at q1; clear hb5)
            | fail)
          have HMM := hide ((unhide HM5).mark s[p + 1].toNat)
          go_wp2_with fail
          go_roundw
          case rel => exact ⟨p + 2, st, fset fl s[p + 1].toNat, X, vf', vc', by go_num, HS1, HE1, HMM, HFT, by omega⟩
          case measure => simp only [intN]; omega
    · have HXR := hide ((unhide HEN).stop hend)
      obtain ⟨ac, cc, hvc⟩ := (unhide HRM).world.cmds.shape
      subst hvc
      have CT := hide (refTold_any _ _ _ _ _ _ _ _ _ (unhide HRM).world (Nat.le_trans (unhide HFT).len hS))
      generalize hcb : (⟨c.toArray⟩ : ByteArray) = cb at *
      by_cases hp : p < c.length
      · have t1 : (p : Int) < (cb.size : Int) := by rw [hsz]; omega
        have t2 : ¬ X.exit = 0 := fun e => hend ⟨hp, e⟩
        clear hsz
        go_wp2_with (first | (go_at_call 30; refine (unhide CT).mono ?_; rintro e w5 ⟨⟨vr, rfl, hfl5⟩, hb5⟩; obtain ⟨av, cv, gv, hvr, -⟩ := hfl5.rd; subst hvr; have hr1 := box_row (unhide H0) (unhide HRM) hb5; have HPO := hide (runPost_told (unhide HLD) (unhide HY) (unhide HRR) (unhide HXR) (unhide H0) (unhide HB0) (unhide HRM) hfl5 hb5); have r0 := hr1.cell 0 (by simp); have r1 := hr1.cell 1 (by simp); have r2 := hr1.cell 2 (by simp); have r3 := hr1.cell 3 (by simp); have f0 := hr1.frozen 0; have f1 := hr1.frozen 1; have f2 := hr1.frozen 2; have f3 := hr1.frozen 3; simp only [List.getElem_cons_zero, List.getElem_cons_succ] at r0 r1 r2 r3; have HR1 := hide hr1; clear hr1 hb5 hfl5) | fail)
        have hR := ((((unhide HR1).set 0 (.slice ac X.cmds.length cc)).set 1 (.slice av (Pl.sortF X.files).length cv)).set 2 (.int .i64 X.exit)).set 3 (.int .i64 X.clock)
        have o0 := hR.cell 0 (by simp)
        have o1 := hR.cell 1 (by simp)
        have o2 := hR.cell 2 (by simp)
        have o3 := hR.cell 3 (by simp)
        simp only [List.set_cons_zero, List.set_cons_succ, List.getElem_cons_zero, List.getElem_cons_succ] at o0 o1 o2 o3
        refine bodyPost_ret (v := .tuple #[.agg #[.slice ac X.cmds.length cc, .slice av (Pl.sortF X.files).length cv, .int .i64 X.exit, .int .i64 X.clock], .int .i64 0]) ?_ rfl (unhide HPO)
        simp [results, Try.results12, go_sem, o0, o1, o2, o3]
      · have t1 : ¬ (p : Int) < (cb.size : Int) := by rw [hsz]; omega
        clear hsz
        go_wp2_with (first | (go_at_call 30; refine (unhide CT).mono ?_; rintro e w5 ⟨⟨vr, rfl, hfl5⟩, hb5⟩; obtain ⟨av, cv, gv, hvr, -⟩ := hfl5.rd; subst hvr; have hr1 := box_row (unhide H0) (unhide HRM) hb5; have HPO := hide (runPost_told (unhide HLD) (unhide HY) (unhide HRR) (unhide HXR) (unhide H0) (unhide HB0) (unhide HRM) hfl5 hb5); have r0 := hr1.cell 0 (by simp); have r1 := hr1.cell 1 (by simp); have r2 := hr1.cell 2 (by simp); have r3 := hr1.cell 3 (by simp); have f0 := hr1.frozen 0; have f1 := hr1.frozen 1; have f2 := hr1.frozen 2; have f3 := hr1.frozen 3; simp only [List.getElem_cons_zero, List.getElem_cons_succ] at r0 r1 r2 r3; have HR1 := hide hr1; clear hr1 hb5 hfl5) | fail)
        have hR := ((((unhide HR1).set 0 (.slice ac X.cmds.length cc)).set 1 (.slice av (Pl.sortF X.files).length cv)).set 2 (.int .i64 X.exit)).set 3 (.int .i64 X.clock)
        have o0 := hR.cell 0 (by simp)
        have o1 := hR.cell 1 (by simp)
        have o2 := hR.cell 2 (by simp)
        have o3 := hR.cell 3 (by simp)
        simp only [List.set_cons_zero, List.set_cons_succ, List.getElem_cons_zero, List.getElem_cons_succ] at o0 o1 o2 o3
        refine bodyPost_ret (v := .tuple #[.agg #[.slice ac X.cmds.length cc, .slice av (Pl.sortF X.files).length cv, .int .i64 X.exit, .int .i64 X.clock], .int .i64 0]) ?_ rfl (unhide HPO)
        simp [results, Try.results12, go_sem, o0, o1, o2, o3]
end Go.Proofs.Ytjelacjggijmfaa
