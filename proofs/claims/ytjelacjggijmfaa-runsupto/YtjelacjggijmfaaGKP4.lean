/-
  The law's own: a result is kept.
-/
import Derived.Test.YtjelacjggijmfaaGKR
import Derived.Deep.CutRange
namespace Go.Proofs.Ytjelacjggijmfaa
open Go.RowKit

set_option maxHeartbeats 4000000 in
set_option maxRecDepth 20000 in
theorem keep_any (n bb H : Nat) (E : Nat → Nat) (vres vgr vc vr : Value) (nc nf : Nat) (xs ys : List Value) (ex ck : Int) (w : World) (hn : n < 2) (hB : BookO w bb E n n vres vgr) (hE : ∀ i, i < n → E i ≤ H) (hbb : bb < H) (hH : H ≤ w.heap.size)
    (hc : w.ownsRow H 9 1 vc nc xs) (hf : w.ownsRow H 61 3 vr nf ys) (hnc : nc ≤ 1048576) (hnf : nf ≤ 2097000) :
    Calls Try.prog 14 #[.pointer (some ⟨bb, 0, none⟩), .agg #[vc, vr, .int .i64 ex, .int .i64 ck]] w fun e w' => e = .returned (.tuple #[]) ∧ (∃ E' vres' vgr', BookO w' bb E' (n + 1) (n + 1) vres' vgr' ∧ ∀ i, i < n + 1 → E' i ≤ w'.heap.size) ∧ Below bb w w' := by
  obtain ⟨a1, k1, rfl⟩ := own_shape hc
  obtain ⟨a2, k2, rfl⟩ := own_shape hf
  obtain ⟨cs, hcs, hfull⟩ := hB.res
  obtain ⟨av, cv, hvr⟩ := own_shape hcs
  subst hvr
  have b0 := hB.row.cell 0 (by simp)
  have b1 := hB.row.cell 1 (by simp)
  simp only [List.getElem_cons_zero, List.getElem_cons_succ] at b0 b1
  have hbl := hB.row.lt
  have hb0 : Below w.heap.size w (w.alloc (.cells #[.slice a1 nc k1, .slice a2 nf k2, .int .i64 ex, .int .i64 ck] 41)) := (Below.refl _ w).alloc (Nat.le_refl _) _
  have HR0 := hide (Row.new w 41 [.slice a1 nc k1, .slice a2 nf k2, .int .i64 ex, .int .i64 ck])
  have HA0 : Hid (KA w bb H w.heap.size E n (.slice av n cv) vgr (.slice a1 nc k1) nc (.slice a2 nf k2) nf ex ck 0 0 ((w.alloc (.cells #[.slice a1 nc k1, .slice a2 nf k2, .int .i64 ex, .int .i64 ck] 41)).alloc (.cells #[.string ⟨#[107, 101, 112, 116]⟩, .string ⟨#[]⟩, .int .i64 n] 61))) := by
    have hb1 : Below (w.alloc (.cells #[.slice a1 nc k1, .slice a2 nf k2, .int .i64 ex, .int .i64 ck] 41)).heap.size (w.alloc (.cells #[.slice a1 nc k1, .slice a2 nf k2, .int .i64 ex, .int .i64 ck] 41)) ((w.alloc (.cells #[.slice a1 nc k1, .slice a2 nf k2, .int .i64 ex, .int .i64 ck] 41)).alloc (.cells #[.string ⟨#[107, 101, 112, 116]⟩, .string ⟨#[]⟩, .int .i64 n] 61)) := (Below.refl _ _).alloc (Nat.le_refl _) _
    have hb2 := hb0.trans (hb1.mono hb0.size)
    have hfb := Row.new (w.alloc (.cells #[.slice a1 nc k1, .slice a2 nf k2, .int .i64 ex, .int .i64 ck] 41)) 61 [.string ⟨#[107, 101, 112, 116]⟩, .string ⟨#[]⟩, .int .i64 n]
    rw [World.size_alloc] at hfb
    exact ⟨hB.later hb2, (unhide HR0).later hb1, hfb, ⟨xs, own_same hc (fun k hk => hb2.block k (hc.lt k hk).2), fun j hj => by omega⟩, ⟨ys, own_same hf (fun k hk => hb2.block k (hf.lt k hk).2), fun j hj => by omega⟩, hb2.mono (by omega)⟩
  have hg1 : ∀ g, a1 = some ⟨g, 0, none⟩ → g < w.heap.size := fun g e => by subst e; exact (hc.lt g rfl).2
  have hg2 : ∀ g, a2 = some ⟨g, 0, none⟩ → g < w.heap.size := fun g e => by subst e; exact (hf.lt g rfl).2
  have hg3 : ∀ g, (Value.slice av n cv).ownBlock = some g → g < w.heap.size := fun g e => (hcs.lt g e).2
  have HG3 := hide hg3
  have HEE := hide hE
  clear hg3
  clear hB hc hf hcs hfull hE HR0 hb0
  go_enter Try.func14, Try.ntmps14
  go_wp2_with fail
  generalize (w.alloc (.cells #[.slice a1 nc k1, .slice a2 nf k2, .int .i64 ex, .int .i64 ck] 41)).alloc (.cells #[.string ⟨#[107, 101, 112, 116]⟩, .string ⟨#[]⟩, .int .i64 n] 61) = W0 at *
  go_loopw [6] (fun q wr => ∃ i : Nat, q = .int .i64 i ∧ i ≤ nc ∧ Hid (KA w bb H w.heap.size E n (.slice av n cv) vgr (.slice a1 nc k1) nc (.slice a2 nf k2) nf ex ck i 0 wr)) (fun q _ => nc - intN q)
  case atStart => exact ⟨0, rfl, Nat.zero_le _, HA0⟩
  case round =>
    clear HA0
    obtain ⟨i, rfl, hil, HA⟩ := hrel
    have r0 := (unhide HA).rbox.cell 0 (by simp)
    have r1 := (unhide HA).rbox.cell 1 (by simp)
    simp only [List.getElem_cons_zero, List.getElem_cons_succ] at r0 r1
    by_cases hi : i < nc
    · have t1 : (i : Int) < (nc : Int) := by omega
      have t0 : (0 : Int) ≤ (i : Int) := by omega
      obtain ⟨g, hg⟩ : ∃ g, a1 = some ⟨g, 0, none⟩ := by
        obtain ⟨xs', h1, -⟩ := (unhide HA).cm
        obtain ⟨g, cp', he, -⟩ := owns_form h1 (by omega)
        cases he
        exact ⟨g, rfl⟩
      subst hg
      have hgw := hg1 g rfl
      have hne1 : ¬ w.heap.size = g := by omega
      have hne2 : ¬ g = w.heap.size := by omega
      have HSET := hide (fun W (h : KA w bb H w.heap.size E n (.slice av n cv) vgr (.slice (some ⟨g, 0, none⟩) nc k1) nc (.slice a2 nf k2) nf ex ck i 0 W) => h.setC hi hbb (unhide HEE))
      have CM : Hid (∀ W, KA w bb H w.heap.size E n (.slice av n cv) vgr (.slice (some ⟨g, 0, none⟩) nc k1) nc (.slice a2 nf k2) nf ex ck i 0 W → Calls Try.prog 31 #[.int .i64 n] W fun e w' => e = .returned (.string ⟨(markB n).toArray⟩) ∧ KA w bb H w.heap.size E n (.slice av n cv) vgr (.slice (some ⟨g, 0, none⟩) nc k1) nc (.slice a2 nf k2) nf ex ck i 0 w' ∧ w'.cell? ⟨w.heap.size, 0, none⟩ = some (.slice (some ⟨g, 0, none⟩) nc k1) ∧ (∃ u, w'.cell? ⟨g, i, none⟩ = some u) ∧ w'.frozen? ⟨g, i, none⟩ = false) := fun W h => by
        refine (mark_any n (by omega) W).mono ?_
        rintro e w' ⟨rfl, hb'⟩
        have h' := h.later hb'
        obtain ⟨xs', h1, -⟩ := h'.cm
        have hl := h1.1
        refine ⟨rfl, h', h'.rbox.cell? (i := 0) rfl, ⟨_, own_cell h1 i (by omega)⟩, ?_⟩
        rcases h1.2 with ⟨q, _⟩ | ⟨g', cap', cur', q1, _, q3, _⟩
        · cases q
        · cases q1
          exact Row.frozen (show Row w' g 9 cur'.toList by unfold Row; simpa using q3) i
      as_aux_lemma =>
        go_wp2_with fail
        have HA1 : Hid (KA w bb H w.heap.size E n (.slice av n cv) vgr (.slice (some ⟨g, 0, none⟩) nc k1) nc (.slice a2 nf k2) nf ex ck i 0 wr.drew) := (unhide HA).later (Below.refl _ wr).drew
        go_region_held3 (fun w' => w'.cell? ⟨w.heap.size, 0, none⟩ = some (.slice (some ⟨g, 0, none⟩) nc k1)) (go_keep) (first
          | (go_at_call 31; refine (unhide CM _ ?_).mono ?_; exact unhide HA1; rintro e w1 ⟨rfl, h1, z0, ⟨u, z1⟩, z2⟩; have HA2 := hide (unhide HSET _ h1); clear h1))
        all_goals go_wp2_with fail
        all_goals go_roundw
        all_goals first
          | exact ⟨i + 1, by go_num, by omega, HA2⟩
          | (simp only [intN]; omega)
    · have hin : i = nc := by omega
      subst hin
      have t1 : ¬ (i : Int) < (i : Int) := by omega
      go_wp2_with fail
      clear r0 r1
      go_loopw [7] (fun q wr => ∃ k : Nat, q = .int .i64 k ∧ k ≤ nf ∧ Hid (KA w bb H w.heap.size E n (.slice av n cv) vgr (.slice a1 i k1) i (.slice a2 nf k2) nf ex ck i k wr)) (fun q _ => nf - intN q)
      case atStart => exact ⟨0, rfl, Nat.zero_le _, HA⟩
      case round =>
        clear HA
        obtain ⟨k, rfl, hkl, HA⟩ := hrel
        have r1 := (unhide HA).rbox.cell 1 (by simp)
        have f0 := (unhide HA).fbox.cell 0 (by simp)
        have f1 := (unhide HA).fbox.cell 1 (by simp)
        have f2 := (unhide HA).fbox.cell 2 (by simp)
        simp only [List.getElem_cons_zero, List.getElem_cons_succ] at r1 f0 f1 f2
        by_cases hk : k < nf
        · have t2 : (k : Int) < (nf : Int) := by omega
          have t0 : (0 : Int) ≤ (k : Int) := by omega
          obtain ⟨g, hg⟩ : ∃ g, a2 = some ⟨g, 0, none⟩ := by
            obtain ⟨xs', h1, -⟩ := (unhide HA).fi
            obtain ⟨g, cp', he, -⟩ := owns_form h1 (by omega)
            cases he
            exact ⟨g, rfl⟩
          subst hg
          have hgw := hg2 g rfl
          have HA2 := hide ((unhide HA).setF hk (by omega) hbb (unhide HEE))
          have hcell : ∀ j, j < 3 → (∃ u, wr.cell? ⟨g, k * 3 + j, none⟩ = some u) ∧ wr.frozen? ⟨g, k * 3 + j, none⟩ = false := fun j hj => by
            obtain ⟨ys', h1, -⟩ := (unhide HA).fi
            rcases h1.2 with ⟨q, _⟩ | ⟨g', cap', cur', q1, _, q3, q4, _, q6, _⟩
            · cases q
            · cases q1
              have hr : Row wr g 61 cur'.toList := by unfold Row; simpa using q3
              exact ⟨⟨_, hr.cell (k * 3 + j) (by simp [q6]; omega)⟩, hr.frozen _⟩
          obtain ⟨⟨u0, c0⟩, z0⟩ := hcell 0 (by omega)
          obtain ⟨⟨u1, c1⟩, z1⟩ := hcell 1 (by omega)
          obtain ⟨⟨u2, c2⟩, z2⟩ := hcell 2 (by omega)
          rw [Nat.add_zero] at c0 z0
          unfold kept at f0 HA2
          clear hcell
          as_aux_lemma =>
            go_wp2_with fail
            go_roundw
            case rel => exact ⟨k + 1, by go_num, by omega, HA2⟩
            case measure => simp only [intN]; omega
        · have hkn : k = nf := by omega
          subst hkn
          have t2 : ¬ (k : Int) < (k : Int) := by omega
          have hfull := (unhide HA).full (by omega) (by omega)
          have HFU := hide hfull
          have HEW : Hid (∀ i, i < n ∨ i < n → E i ≤ Ew E n wr.heap.size i) := fun i hi => by rw [Ew_ne (by omega)]; exact Nat.le_refl _
          have hwr := (unhide HA).book.row.lt
          have HBW := hide ((unhide HA).book.wide (unhide HEW))
          have HFB : Hid (Full wr (bb + 1) (Ew E n wr.heap.size n) n (.slice a1 i k1) i (.slice a2 k k2) k) := ⟨own_mono hfull.cm (by omega), own_mono hfull.fi (by omega), by rw [Ew_at]; exact hfull.lc, by rw [Ew_at]; exact hfull.lf, hfull.hc, hfull.hf⟩
          obtain ⟨cs, hcs, hall⟩ := (unhide HBW).res
          have x0 := (unhide HA).book.row.cell 0 (by simp)
          have x1 := (unhide HA).book.row.cell 1 (by simp)
          have y0 := (unhide HA).rbox.cell 0 (by simp)
          have y2 := (unhide HA).rbox.cell 2 (by simp)
          have y3 := (unhide HA).rbox.cell 3 (by simp)
          simp only [List.getElem_cons_zero, List.getElem_cons_succ] at x0 x1 y0 y2 y3
          have HCS := hide hcs
          have HALL := hide hall
          obtain ⟨i0, hi0, hz0, hz1, hz2⟩ := info_parts Try.infoARes
          have HI0 := hide hi0
          have HZ0 := hide hz0
          have HZ1 := hide hz1
          have HZ2 := hide hz2
          have hbr : bb + 1 ≤ wr.heap.size := by omega
          clear hfull hcs hall hi0 hz0 hz1 hz2
          go_wp2_with fail
          go_cut [] from 43 to 52 (fun wx => ∃ q1 q2 : Nat, Hid (KB w bb H w.heap.size (Ew E n wr.heap.size) n (.slice (some ⟨q1, 0, none⟩) (n + 1) q2) vgr (.slice a1 i k1) i (.slice a2 k k2) k ex ck wx) ∧ wr.heap.size ≤ wx.heap.size)
          case first =>
            go_region_law (refine step_append_at rfl (.tmp 47) (.tmp 49) 35 rfl (bb + 1) 41 i0 _ 4 64 Try.underlying35 (unhide HI0) (unhide HZ0) (unhide HZ1) (unhide HZ2) rfl (by decide) _ n _ (by simp [Act.eval]) ((unhide HCS).alloc _) ⟨_, 0, none⟩ 1 1 [.slice a1 i k1, .slice a2 k k2, .int .i64 ex, .int .i64 ck] (by simp [Act.eval]) rfl (cells_new _ _ [.slice a1 i k1, .slice a2 k k2, .int .i64 ex, .int .i64 ck]) (four_one _ _ _ _ _ _ _ _) (by unfold maxLen; omega) (by omega) (by simp; omega) ?_; intro v1 w1 hown1 hgrow1 hat1; obtain ⟨q1, q2, rfl, -, -⟩ := owns_form hown1 (by omega); have hg1' := grown_alloc1 hgrow1; have HB1 := hide (BookO.push (unhide HBW) cs (unhide HCS) (unhide HALL) hg1' hown1 (fresh_drew hat1) (unhide HFB)); have hr1 := (unhide HA).book.row.grown hg1' (own_ne (unhide HCS) (Nat.lt_succ_self _)); have d0 := hr1.cell 0 (by simp); have e0 := hr1.frozen 0; simp only [List.getElem_cons_zero] at d0; have HG1 := hide hg1'; clear hown1 hgrow1 hat1 hg1' hr1)
            all_goals go_wp2_with fail
            all_goals go_meet
            all_goals exact ⟨q1, q2, KB.start (unhide HA) (unhide HFU) (unhide HCS) (unhide HG3) (by omega) hbb (unhide HG1) (unhide HB1), by have h5 := (unhide HG1).size; simpa using h5⟩
          case rest =>
          obtain ⟨q1, q2, HKB, hsz1⟩ := hcut
          clear HBW HFB HCS HALL HEW HFU HA x0 x1 y0 y2 y3 r1 f0 f1 f2
          have HEI : Hid (∀ j, j < n → Ew E n wr.heap.size j ≤ H) := fun j hj => by rw [Ew_ne (by omega)]; exact unhide HEE j hj
          go_upto_region 12 with fail
          go_cut [8] from 53 to 64 (fun p8 wx => ∃ (N8 : Nat) (v8 f8 : Value), p8 = .pointer (some ⟨N8, 0, none⟩) ∧ wr.heap.size ≤ wx.heap.size ∧ Hid (KB w bb H w.heap.size (Ew E n wr.heap.size) n (.slice (some ⟨q1, 0, none⟩) (n + 1) q2) vgr (.slice a1 i k1) i (.slice a2 k k2) k ex ck wx) ∧ Hid (OneB bb H n (.slice (some ⟨q1, 0, none⟩) (n + 1) q2) N8 v8 (i + 1) f8 (k + 1) wx))
          case first =>
            obtain ⟨L, hL, hbL, hlr, hC, hX⟩ := grow_start (O := fun W => wr.heap.size ≤ W.heap.size) (unhide HKB) hsz1 Along.size (unhide HEI) hbb hH
            refine wp_region_put [53, 54, 55, 56, 57, 58, 59, 60, 61, 62, 63, 64, 8] (GrJ (fun W => KB w bb H w.heap.size (Ew E n wr.heap.size) n (.slice (some ⟨q1, 0, none⟩) (n + 1) q2) vgr (.slice a1 i k1) i (.slice a2 k k2) k ex ck W ∧ GrLow bb L n (.slice (some ⟨q1, 0, none⟩) (n + 1) q2) vgr W ∧ wr.heap.size ≤ W.heap.size) H L n w.heap.size 1 (.slice a1 i k1) i (.slice a2 k k2) k [0, 1, 2, 3, 4, 5, 6, 7, 8, 9, 10, 11, 12] [53, 54, 55, 56, 57, 58, 59, 60, 61, 62, 63, 64, 8] 13 8) (by kernel_rfl) (by kernel_rfl) (fun T => .inl ⟨id, hX, hL, fun _ _ _ _ _ q => q.elim⟩) ?_ ?_
            · intro jj o ho D T W hJ hnj hw
              rcases hJ with ⟨hnz, hG⟩ | ⟨hall, -⟩
              · have hjj : jj < 14 := (Array.getElem?_eq_some_iff.1 ho).1
                match jj, hjj with
                | 0, _ => as_aux_lemma => cases ho; exact gr_field (f := 0) ⟨rfl, rfl, rfl, by decide, rfl, rfl, by decide, by decide⟩ (by decide) rfl (by decide) rfl hnz hG
                | 1, _ => as_aux_lemma => cases ho; exact gr_load_c hC (i := 0) (q := 53) ⟨rfl, rfl, rfl, by decide, rfl, rfl, by decide, by decide⟩ rfl (by decide) (blt_of rfl) rfl rfl (waits_for hw 0 (by kernel_rfl)) hnz hG
                | 2, _ => as_aux_lemma => cases ho; exact gr_num ⟨rfl, rfl, rfl, by decide, rfl, rfl, by decide, by decide⟩ rfl (by decide) rfl hnz hG
                | 3, _ => as_aux_lemma => cases ho; exact gr_mark hC hn (i := 2) (q := 55) ⟨rfl, rfl, rfl, by decide, rfl, rfl, by decide, by decide⟩ rfl (by decide) (blt_of rfl) rfl rfl (waits_for hw 2 (by kernel_rfl)) hnz hG
                | 4, _ => as_aux_lemma => cases ho; exact gr_slice_s1 hC (i0 := 3) (q0 := 56) ⟨rfl, rfl, rfl, by decide, rfl, rfl, by decide, by decide⟩ rfl (by decide) (blt_of rfl) rfl rfl (waits_for hw 3 (by kernel_rfl)) hnz hG
                | 5, _ => as_aux_lemma => cases ho; exact gr_append_s hC (by omega) (i := 1) (q := 54) (i' := 4) (q' := 57) ⟨rfl, rfl, rfl, by decide, rfl, rfl, by decide, by decide⟩ rfl (by decide) (blt_of rfl) rfl rfl (waits_for hw 1 (by kernel_rfl)) (by decide) (blt_of rfl) rfl rfl (waits_for hw 4 (by kernel_rfl)) hnz hG
                | 6, _ => as_aux_lemma => cases ho; exact gr_field (f := 1) ⟨rfl, rfl, rfl, by decide, rfl, rfl, by decide, by decide⟩ (by decide) rfl (by decide) rfl hnz hG
                | 7, _ => as_aux_lemma => cases ho; exact gr_load_r hC (i := 6) (q := 59) ⟨rfl, rfl, rfl, by decide, rfl, rfl, by decide, by decide⟩ rfl (by decide) (blt_of rfl) rfl rfl (waits_for hw 6 (by kernel_rfl)) hnz hG
                | 8, _ => as_aux_lemma => cases ho; exact gr_load_f hC ⟨rfl, rfl, rfl, by decide, rfl, rfl, by decide, by decide⟩ rfl (by decide) rfl hnz hG
                | 9, _ => as_aux_lemma => cases ho; exact gr_slice_f1 hC (i0 := 8) (q0 := 61) ⟨rfl, rfl, rfl, by decide, rfl, rfl, by decide, by decide⟩ rfl (by decide) (blt_of rfl) rfl rfl (waits_for hw 8 (by kernel_rfl)) hnz hG
                | 10, _ => as_aux_lemma => cases ho; exact gr_append_f hC (by omega) (i := 7) (q := 60) (i' := 9) (q' := 62) ⟨rfl, rfl, rfl, by decide, rfl, rfl, by decide, by decide⟩ rfl (by decide) (blt_of rfl) rfl rfl (waits_for hw 7 (by kernel_rfl)) (by decide) (blt_of rfl) rfl rfl (waits_for hw 9 (by kernel_rfl)) hnz hG
                | 11, _ => as_aux_lemma => cases ho; exact gr_build (by decide) (i := 5) (q := 58) (i' := 10) (q' := 63) ⟨rfl, rfl, rfl, by decide, rfl, rfl, by decide, by decide⟩ rfl (by decide) (blt_of rfl) rfl rfl (waits_for hw 5 (by kernel_rfl)) (by decide) (blt_of rfl) rfl rfl (waits_for hw 10 (by kernel_rfl)) hnz hG
                | 12, _ => as_aux_lemma => cases ho; exact gr_alloc hC ⟨rfl, rfl, rfl, by decide, rfl, rfl, by decide, by decide⟩ rfl hnz hG
                | 13, _ => as_aux_lemma => cases ho; exact gr_store hC (by decide) (i := 12) (q := 8) (i' := 11) (q' := 64) rfl rfl rfl rfl (by decide) (blt_of rfl) rfl rfl (waits_for hw 12 (by kernel_rfl)) (by decide) (blt_of rfl) rfl rfl (waits_for hw 11 (by kernel_rfl)) (fun x hx => by match x, hx with | 0, _ => exact waits_for hw 0 (by kernel_rfl) | 1, _ => exact waits_for hw 1 (by kernel_rfl) | 2, _ => exact waits_for hw 2 (by kernel_rfl) | 3, _ => exact waits_for hw 3 (by kernel_rfl) | 4, _ => exact waits_for hw 4 (by kernel_rfl) | 5, _ => exact waits_for hw 5 (by kernel_rfl) | 6, _ => exact waits_for hw 6 (by kernel_rfl) | 7, _ => exact waits_for hw 7 (by kernel_rfl) | 8, _ => exact waits_for hw 8 (by kernel_rfl) | 9, _ => exact waits_for hw 9 (by kernel_rfl) | 10, _ => exact waits_for hw 10 (by kernel_rfl) | 11, _ => exact waits_for hw 11 (by kernel_rfl) | 12, _ => exact waits_for hw 12 (by kernel_rfl) | x + 13, hx => exact absurd hx (by omega)) hG
              · exact (hnj (hall jj (by have hjj : jj < 14 := (Array.getElem?_eq_some_iff.1 ho).1; omega))).elim
            · intro D T W hJ hall
              rcases hJ with ⟨hnz, -⟩ | ⟨-, b8, v8', f8', hT, hLb, hX', hrow, ho1, ho2⟩
              · exact (hnz (hall 13 (blt_of rfl))).elim
              · simp only [putAll, List.foldl_cons, List.foldl_nil, List.setIfInBounds_toArray, List.set_cons_succ, List.set_cons_zero, hT]
                have HX' := hide hX'
                have HO' := hide (grown_one (bb := bb) (vres := (.slice (some ⟨q1, 0, none⟩) (n + 1) q2)) hLb hbL hlr hrow ho1 ho2 (by omega) (by omega))
                clear hX' hrow ho1 ho2 hC hX hall
                go_wp2_with fail
                go_meet
                exact ⟨b8, v8', f8', rfl, (unhide HX').2.2, (unhide HX').1, HO'⟩
          case rest =>
          clear HKB
          obtain ⟨N8, v8, f8, rfl, hsz2, HKB2, HO8⟩ := hcut
          go_upto_region 13 with fail
          go_cut [9] from 65 to 79 (fun p8 wx => ∃ (N9 : Nat) (v9 f9 : Value), p8 = .pointer (some ⟨N9, 0, none⟩) ∧ wr.heap.size ≤ wx.heap.size ∧ Hid (KB w bb H w.heap.size (Ew E n wr.heap.size) n (.slice (some ⟨q1, 0, none⟩) (n + 1) q2) vgr (.slice a1 i k1) i (.slice a2 k k2) k ex ck wx) ∧ Hid (OneB bb H n (.slice (some ⟨q1, 0, none⟩) (n + 1) q2) N8 v8 (i + 1) f8 (k + 1) wx) ∧ Hid (OneB bb H n (.slice (some ⟨q1, 0, none⟩) (n + 1) q2) N9 v9 (i + 2) f9 (k + 2) wx))
          case first =>
            obtain ⟨L, hL, hbL, hlr, hC, hX⟩ := grow_start (O := fun W => wr.heap.size ≤ W.heap.size ∧ OneB bb H n (.slice (some ⟨q1, 0, none⟩) (n + 1) q2) N8 v8 (i + 1) f8 (k + 1) W) (unhide HKB2) ⟨hsz2, unhide HO8⟩ (Along.and Along.size (Along.one (unhide HO8).row.lt)) (unhide HEI) hbb hH
            refine wp_region_put [65, 66, 67, 68, 69, 70, 71, 72, 73, 74, 75, 76, 77, 78, 79, 9] (GrJ (fun W => KB w bb H w.heap.size (Ew E n wr.heap.size) n (.slice (some ⟨q1, 0, none⟩) (n + 1) q2) vgr (.slice a1 i k1) i (.slice a2 k k2) k ex ck W ∧ GrLow bb L n (.slice (some ⟨q1, 0, none⟩) (n + 1) q2) vgr W ∧ wr.heap.size ≤ W.heap.size ∧ OneB bb H n (.slice (some ⟨q1, 0, none⟩) (n + 1) q2) N8 v8 (i + 1) f8 (k + 1) W) H L n w.heap.size 2 (.slice a1 i k1) i (.slice a2 k k2) k [0, 1, 2, 3, 2, 3, 4, 5, 6, 7, 8, 8, 9, 10, 11, 12] [65, 66, 67, 68, 69, 70, 71, 72, 73, 74, 75, 76, 77, 78, 79, 9] 16 9) (by kernel_rfl) (by kernel_rfl) (fun T => .inl ⟨id, hX, hL, fun _ _ _ _ _ q => q.elim⟩) ?_ ?_
            · intro jj o ho D T W hJ hnj hw
              rcases hJ with ⟨hnz, hG⟩ | ⟨hall, -⟩
              · have hjj : jj < 17 := (Array.getElem?_eq_some_iff.1 ho).1
                match jj, hjj with
                | 0, _ => as_aux_lemma => cases ho; exact gr_field (f := 0) ⟨rfl, rfl, rfl, by decide, rfl, rfl, by decide, by decide⟩ (by decide) rfl (by decide) rfl hnz hG
                | 1, _ => as_aux_lemma => cases ho; exact gr_load_c hC (i := 0) (q := 65) ⟨rfl, rfl, rfl, by decide, rfl, rfl, by decide, by decide⟩ rfl (by decide) (blt_of rfl) rfl rfl (waits_for hw 0 (by kernel_rfl)) hnz hG
                | 2, _ => as_aux_lemma => cases ho; exact gr_num ⟨rfl, rfl, rfl, by decide, rfl, rfl, by decide, by decide⟩ rfl (by decide) rfl hnz hG
                | 3, _ => as_aux_lemma => cases ho; exact gr_mark hC hn (i := 2) (q := 67) ⟨rfl, rfl, rfl, by decide, rfl, rfl, by decide, by decide⟩ rfl (by decide) (blt_of rfl) rfl rfl (waits_for hw 2 (by kernel_rfl)) hnz hG
                | 4, _ => as_aux_lemma => cases ho; exact gr_num ⟨rfl, rfl, rfl, by decide, rfl, rfl, by decide, by decide⟩ rfl (by decide) rfl hnz hG
                | 5, _ => as_aux_lemma => cases ho; exact gr_mark hC hn (i := 4) (q := 69) ⟨rfl, rfl, rfl, by decide, rfl, rfl, by decide, by decide⟩ rfl (by decide) (blt_of rfl) rfl rfl (waits_for hw 4 (by kernel_rfl)) hnz hG
                | 6, _ => as_aux_lemma => cases ho; exact gr_slice_s2 hC (i0 := 3) (q0 := 68) (i1 := 5) (q1 := 70) ⟨rfl, rfl, rfl, by decide, rfl, rfl, by decide, by decide⟩ rfl (by decide) (blt_of rfl) rfl rfl (waits_for hw 3 (by kernel_rfl)) (by decide) (blt_of rfl) rfl rfl (waits_for hw 5 (by kernel_rfl)) hnz hG
                | 7, _ => as_aux_lemma => cases ho; exact gr_append_s hC (by omega) (i := 1) (q := 66) (i' := 6) (q' := 71) ⟨rfl, rfl, rfl, by decide, rfl, rfl, by decide, by decide⟩ rfl (by decide) (blt_of rfl) rfl rfl (waits_for hw 1 (by kernel_rfl)) (by decide) (blt_of rfl) rfl rfl (waits_for hw 6 (by kernel_rfl)) hnz hG
                | 8, _ => as_aux_lemma => cases ho; exact gr_field (f := 1) ⟨rfl, rfl, rfl, by decide, rfl, rfl, by decide, by decide⟩ (by decide) rfl (by decide) rfl hnz hG
                | 9, _ => as_aux_lemma => cases ho; exact gr_load_r hC (i := 8) (q := 73) ⟨rfl, rfl, rfl, by decide, rfl, rfl, by decide, by decide⟩ rfl (by decide) (blt_of rfl) rfl rfl (waits_for hw 8 (by kernel_rfl)) hnz hG
                | 10, _ => as_aux_lemma => cases ho; exact gr_load_f hC ⟨rfl, rfl, rfl, by decide, rfl, rfl, by decide, by decide⟩ rfl (by decide) rfl hnz hG
                | 11, _ => as_aux_lemma => cases ho; exact gr_load_f hC ⟨rfl, rfl, rfl, by decide, rfl, rfl, by decide, by decide⟩ rfl (by decide) rfl hnz hG
                | 12, _ => as_aux_lemma => cases ho; exact gr_slice_f2 hC (i0 := 10) (q0 := 75) (i1 := 11) (q1 := 76) ⟨rfl, rfl, rfl, by decide, rfl, rfl, by decide, by decide⟩ rfl (by decide) (blt_of rfl) rfl rfl (waits_for hw 10 (by kernel_rfl)) (by decide) (blt_of rfl) rfl rfl (waits_for hw 11 (by kernel_rfl)) hnz hG
                | 13, _ => as_aux_lemma => cases ho; exact gr_append_f hC (by omega) (i := 9) (q := 74) (i' := 12) (q' := 77) ⟨rfl, rfl, rfl, by decide, rfl, rfl, by decide, by decide⟩ rfl (by decide) (blt_of rfl) rfl rfl (waits_for hw 9 (by kernel_rfl)) (by decide) (blt_of rfl) rfl rfl (waits_for hw 12 (by kernel_rfl)) hnz hG
                | 14, _ => as_aux_lemma => cases ho; exact gr_build (by decide) (i := 7) (q := 72) (i' := 13) (q' := 78) ⟨rfl, rfl, rfl, by decide, rfl, rfl, by decide, by decide⟩ rfl (by decide) (blt_of rfl) rfl rfl (waits_for hw 7 (by kernel_rfl)) (by decide) (blt_of rfl) rfl rfl (waits_for hw 13 (by kernel_rfl)) hnz hG
                | 15, _ => as_aux_lemma => cases ho; exact gr_alloc hC ⟨rfl, rfl, rfl, by decide, rfl, rfl, by decide, by decide⟩ rfl hnz hG
                | 16, _ => as_aux_lemma => cases ho; exact gr_store hC (by decide) (i := 15) (q := 9) (i' := 14) (q' := 79) rfl rfl rfl rfl (by decide) (blt_of rfl) rfl rfl (waits_for hw 15 (by kernel_rfl)) (by decide) (blt_of rfl) rfl rfl (waits_for hw 14 (by kernel_rfl)) (fun x hx => by match x, hx with | 0, _ => exact waits_for hw 0 (by kernel_rfl) | 1, _ => exact waits_for hw 1 (by kernel_rfl) | 2, _ => exact waits_for hw 2 (by kernel_rfl) | 3, _ => exact waits_for hw 3 (by kernel_rfl) | 4, _ => exact waits_for hw 4 (by kernel_rfl) | 5, _ => exact waits_for hw 5 (by kernel_rfl) | 6, _ => exact waits_for hw 6 (by kernel_rfl) | 7, _ => exact waits_for hw 7 (by kernel_rfl) | 8, _ => exact waits_for hw 8 (by kernel_rfl) | 9, _ => exact waits_for hw 9 (by kernel_rfl) | 10, _ => exact waits_for hw 10 (by kernel_rfl) | 11, _ => exact waits_for hw 11 (by kernel_rfl) | 12, _ => exact waits_for hw 12 (by kernel_rfl) | 13, _ => exact waits_for hw 13 (by kernel_rfl) | 14, _ => exact waits_for hw 14 (by kernel_rfl) | 15, _ => exact waits_for hw 15 (by kernel_rfl) | x + 16, hx => exact absurd hx (by omega)) hG
              · exact (hnj (hall jj (by have hjj : jj < 17 := (Array.getElem?_eq_some_iff.1 ho).1; omega))).elim
            · intro D T W hJ hall
              rcases hJ with ⟨hnz, -⟩ | ⟨-, b8, v8', f8', hT, hLb, hX', hrow, ho1, ho2⟩
              · exact (hnz (hall 16 (blt_of rfl))).elim
              · simp only [putAll, List.foldl_cons, List.foldl_nil, List.setIfInBounds_toArray, List.set_cons_succ, List.set_cons_zero, hT]
                have HX' := hide hX'
                have HO' := hide (grown_one (bb := bb) (vres := (.slice (some ⟨q1, 0, none⟩) (n + 1) q2)) hLb hbL hlr hrow ho1 ho2 (by omega) (by omega))
                clear hX' hrow ho1 ho2 hC hX hall
                go_wp2_with fail
                go_meet
                exact ⟨b8, v8', f8', rfl, (unhide HX').2.2.1, (unhide HX').1, (unhide HX').2.2.2, HO'⟩
          case rest =>
          clear HO8 HKB2
          obtain ⟨N9, v9, f9, rfl, hsz3, HKB3, HO8, HO9⟩ := hcut
          go_upto_region 14 with fail
          go_cut [10] from 80 to 97 (fun p8 wx => ∃ (N10 : Nat) (v10 f10 : Value), p8 = .pointer (some ⟨N10, 0, none⟩) ∧ wr.heap.size ≤ wx.heap.size ∧ Hid (KB w bb H w.heap.size (Ew E n wr.heap.size) n (.slice (some ⟨q1, 0, none⟩) (n + 1) q2) vgr (.slice a1 i k1) i (.slice a2 k k2) k ex ck wx) ∧ Hid (OneB bb H n (.slice (some ⟨q1, 0, none⟩) (n + 1) q2) N8 v8 (i + 1) f8 (k + 1) wx) ∧ Hid (OneB bb H n (.slice (some ⟨q1, 0, none⟩) (n + 1) q2) N9 v9 (i + 2) f9 (k + 2) wx) ∧ Hid (OneB bb H n (.slice (some ⟨q1, 0, none⟩) (n + 1) q2) N10 v10 (i + 3) f10 (k + 3) wx))
          case first =>
            obtain ⟨L, hL, hbL, hlr, hC, hX⟩ := grow_start (O := fun W => wr.heap.size ≤ W.heap.size ∧ OneB bb H n (.slice (some ⟨q1, 0, none⟩) (n + 1) q2) N8 v8 (i + 1) f8 (k + 1) W ∧ OneB bb H n (.slice (some ⟨q1, 0, none⟩) (n + 1) q2) N9 v9 (i + 2) f9 (k + 2) W) (unhide HKB3) ⟨hsz3, unhide HO8, unhide HO9⟩ (Along.and Along.size (Along.and (Along.one (unhide HO8).row.lt) (Along.one (unhide HO9).row.lt))) (unhide HEI) hbb hH
            refine wp_region_put [80, 81, 82, 83, 84, 85, 86, 87, 88, 89, 90, 91, 92, 93, 94, 95, 96, 97, 10] (GrJ (fun W => KB w bb H w.heap.size (Ew E n wr.heap.size) n (.slice (some ⟨q1, 0, none⟩) (n + 1) q2) vgr (.slice a1 i k1) i (.slice a2 k k2) k ex ck W ∧ GrLow bb L n (.slice (some ⟨q1, 0, none⟩) (n + 1) q2) vgr W ∧ wr.heap.size ≤ W.heap.size ∧ OneB bb H n (.slice (some ⟨q1, 0, none⟩) (n + 1) q2) N8 v8 (i + 1) f8 (k + 1) W ∧ OneB bb H n (.slice (some ⟨q1, 0, none⟩) (n + 1) q2) N9 v9 (i + 2) f9 (k + 2) W) H L n w.heap.size 3 (.slice a1 i k1) i (.slice a2 k k2) k [0, 1, 2, 3, 2, 3, 2, 3, 4, 5, 6, 7, 8, 8, 8, 9, 10, 11, 12] [80, 81, 82, 83, 84, 85, 86, 87, 88, 89, 90, 91, 92, 93, 94, 95, 96, 97, 10] 19 10) (by kernel_rfl) (by kernel_rfl) (fun T => .inl ⟨id, hX, hL, fun _ _ _ _ _ q => q.elim⟩) ?_ ?_
            · intro jj o ho D T W hJ hnj hw
              rcases hJ with ⟨hnz, hG⟩ | ⟨hall, -⟩
              · have hjj : jj < 20 := (Array.getElem?_eq_some_iff.1 ho).1
                match jj, hjj with
                | 0, _ => as_aux_lemma => cases ho; exact gr_field (f := 0) ⟨rfl, rfl, rfl, by decide, rfl, rfl, by decide, by decide⟩ (by decide) rfl (by decide) rfl hnz hG
                | 1, _ => as_aux_lemma => cases ho; exact gr_load_c hC (i := 0) (q := 80) ⟨rfl, rfl, rfl, by decide, rfl, rfl, by decide, by decide⟩ rfl (by decide) (blt_of rfl) rfl rfl (waits_for hw 0 (by kernel_rfl)) hnz hG
                | 2, _ => as_aux_lemma => cases ho; exact gr_num ⟨rfl, rfl, rfl, by decide, rfl, rfl, by decide, by decide⟩ rfl (by decide) rfl hnz hG
                | 3, _ => as_aux_lemma => cases ho; exact gr_mark hC hn (i := 2) (q := 82) ⟨rfl, rfl, rfl, by decide, rfl, rfl, by decide, by decide⟩ rfl (by decide) (blt_of rfl) rfl rfl (waits_for hw 2 (by kernel_rfl)) hnz hG
                | 4, _ => as_aux_lemma => cases ho; exact gr_num ⟨rfl, rfl, rfl, by decide, rfl, rfl, by decide, by decide⟩ rfl (by decide) rfl hnz hG
                | 5, _ => as_aux_lemma => cases ho; exact gr_mark hC hn (i := 4) (q := 84) ⟨rfl, rfl, rfl, by decide, rfl, rfl, by decide, by decide⟩ rfl (by decide) (blt_of rfl) rfl rfl (waits_for hw 4 (by kernel_rfl)) hnz hG
                | 6, _ => as_aux_lemma => cases ho; exact gr_num ⟨rfl, rfl, rfl, by decide, rfl, rfl, by decide, by decide⟩ rfl (by decide) rfl hnz hG
                | 7, _ => as_aux_lemma => cases ho; exact gr_mark hC hn (i := 6) (q := 86) ⟨rfl, rfl, rfl, by decide, rfl, rfl, by decide, by decide⟩ rfl (by decide) (blt_of rfl) rfl rfl (waits_for hw 6 (by kernel_rfl)) hnz hG
                | 8, _ => as_aux_lemma => cases ho; exact gr_slice_s3 hC (i0 := 3) (q0 := 83) (i1 := 5) (q1 := 85) (i2 := 7) (q2 := 87) ⟨rfl, rfl, rfl, by decide, rfl, rfl, by decide, by decide⟩ rfl (by decide) (blt_of rfl) rfl rfl (waits_for hw 3 (by kernel_rfl)) (by decide) (blt_of rfl) rfl rfl (waits_for hw 5 (by kernel_rfl)) (by decide) (blt_of rfl) rfl rfl (waits_for hw 7 (by kernel_rfl)) hnz hG
                | 9, _ => as_aux_lemma => cases ho; exact gr_append_s hC (by omega) (i := 1) (q := 81) (i' := 8) (q' := 88) ⟨rfl, rfl, rfl, by decide, rfl, rfl, by decide, by decide⟩ rfl (by decide) (blt_of rfl) rfl rfl (waits_for hw 1 (by kernel_rfl)) (by decide) (blt_of rfl) rfl rfl (waits_for hw 8 (by kernel_rfl)) hnz hG
                | 10, _ => as_aux_lemma => cases ho; exact gr_field (f := 1) ⟨rfl, rfl, rfl, by decide, rfl, rfl, by decide, by decide⟩ (by decide) rfl (by decide) rfl hnz hG
                | 11, _ => as_aux_lemma => cases ho; exact gr_load_r hC (i := 10) (q := 90) ⟨rfl, rfl, rfl, by decide, rfl, rfl, by decide, by decide⟩ rfl (by decide) (blt_of rfl) rfl rfl (waits_for hw 10 (by kernel_rfl)) hnz hG
                | 12, _ => as_aux_lemma => cases ho; exact gr_load_f hC ⟨rfl, rfl, rfl, by decide, rfl, rfl, by decide, by decide⟩ rfl (by decide) rfl hnz hG
                | 13, _ => as_aux_lemma => cases ho; exact gr_load_f hC ⟨rfl, rfl, rfl, by decide, rfl, rfl, by decide, by decide⟩ rfl (by decide) rfl hnz hG
                | 14, _ => as_aux_lemma => cases ho; exact gr_load_f hC ⟨rfl, rfl, rfl, by decide, rfl, rfl, by decide, by decide⟩ rfl (by decide) rfl hnz hG
                | 15, _ => as_aux_lemma => cases ho; exact gr_slice_f3 hC (i0 := 12) (q0 := 92) (i1 := 13) (q1 := 93) (i2 := 14) (q2 := 94) ⟨rfl, rfl, rfl, by decide, rfl, rfl, by decide, by decide⟩ rfl (by decide) (blt_of rfl) rfl rfl (waits_for hw 12 (by kernel_rfl)) (by decide) (blt_of rfl) rfl rfl (waits_for hw 13 (by kernel_rfl)) (by decide) (blt_of rfl) rfl rfl (waits_for hw 14 (by kernel_rfl)) hnz hG
                | 16, _ => as_aux_lemma => cases ho; exact gr_append_f hC (by omega) (i := 11) (q := 91) (i' := 15) (q' := 95) ⟨rfl, rfl, rfl, by decide, rfl, rfl, by decide, by decide⟩ rfl (by decide) (blt_of rfl) rfl rfl (waits_for hw 11 (by kernel_rfl)) (by decide) (blt_of rfl) rfl rfl (waits_for hw 15 (by kernel_rfl)) hnz hG
                | 17, _ => as_aux_lemma => cases ho; exact gr_build (by decide) (i := 9) (q := 89) (i' := 16) (q' := 96) ⟨rfl, rfl, rfl, by decide, rfl, rfl, by decide, by decide⟩ rfl (by decide) (blt_of rfl) rfl rfl (waits_for hw 9 (by kernel_rfl)) (by decide) (blt_of rfl) rfl rfl (waits_for hw 16 (by kernel_rfl)) hnz hG
                | 18, _ => as_aux_lemma => cases ho; exact gr_alloc hC ⟨rfl, rfl, rfl, by decide, rfl, rfl, by decide, by decide⟩ rfl hnz hG
                | 19, _ => as_aux_lemma => cases ho; exact gr_store hC (by decide) (i := 18) (q := 10) (i' := 17) (q' := 97) rfl rfl rfl rfl (by decide) (blt_of rfl) rfl rfl (waits_for hw 18 (by kernel_rfl)) (by decide) (blt_of rfl) rfl rfl (waits_for hw 17 (by kernel_rfl)) (fun x hx => by match x, hx with | 0, _ => exact waits_for hw 0 (by kernel_rfl) | 1, _ => exact waits_for hw 1 (by kernel_rfl) | 2, _ => exact waits_for hw 2 (by kernel_rfl) | 3, _ => exact waits_for hw 3 (by kernel_rfl) | 4, _ => exact waits_for hw 4 (by kernel_rfl) | 5, _ => exact waits_for hw 5 (by kernel_rfl) | 6, _ => exact waits_for hw 6 (by kernel_rfl) | 7, _ => exact waits_for hw 7 (by kernel_rfl) | 8, _ => exact waits_for hw 8 (by kernel_rfl) | 9, _ => exact waits_for hw 9 (by kernel_rfl) | 10, _ => exact waits_for hw 10 (by kernel_rfl) | 11, _ => exact waits_for hw 11 (by kernel_rfl) | 12, _ => exact waits_for hw 12 (by kernel_rfl) | 13, _ => exact waits_for hw 13 (by kernel_rfl) | 14, _ => exact waits_for hw 14 (by kernel_rfl) | 15, _ => exact waits_for hw 15 (by kernel_rfl) | 16, _ => exact waits_for hw 16 (by kernel_rfl) | 17, _ => exact waits_for hw 17 (by kernel_rfl) | 18, _ => exact waits_for hw 18 (by kernel_rfl) | x + 19, hx => exact absurd hx (by omega)) hG
              · exact (hnj (hall jj (by have hjj : jj < 20 := (Array.getElem?_eq_some_iff.1 ho).1; omega))).elim
            · intro D T W hJ hall
              rcases hJ with ⟨hnz, -⟩ | ⟨-, b8, v8', f8', hT, hLb, hX', hrow, ho1, ho2⟩
              · exact (hnz (hall 19 (blt_of rfl))).elim
              · simp only [putAll, List.foldl_cons, List.foldl_nil, List.setIfInBounds_toArray, List.set_cons_succ, List.set_cons_zero, hT]
                have HX' := hide hX'
                have HO' := hide (grown_one (bb := bb) (vres := (.slice (some ⟨q1, 0, none⟩) (n + 1) q2)) hLb hbL hlr hrow ho1 ho2 (by omega) (by omega))
                clear hX' hrow ho1 ho2 hC hX hall
                go_wp2_with fail
                go_meet
                exact ⟨b8, v8', f8', rfl, (unhide HX').2.2.1, (unhide HX').1, (unhide HX').2.2.2.1, (unhide HX').2.2.2.2, HO'⟩
          case rest =>
          clear HO8 HO9 HKB3
          obtain ⟨N10, v10, f10, rfl, hsz4, HKB4, HO8, HO9, HO10⟩ := hcut
          obtain ⟨g8, e8, rfl, -, -⟩ := owns_form (unhide HO8).full.cm (by omega)
          obtain ⟨g8', e8', rfl, -, -⟩ := owns_form (unhide HO8).full.fi (by omega)
          obtain ⟨g9, e9, rfl, -, -⟩ := owns_form (unhide HO9).full.cm (by omega)
          obtain ⟨g9', e9', rfl, -, -⟩ := owns_form (unhide HO9).full.fi (by omega)
          obtain ⟨g10, e10, rfl, -, -⟩ := owns_form (unhide HO10).full.cm (by omega)
          obtain ⟨g10', e10', rfl, -, -⟩ := owns_form (unhide HO10).full.fi (by omega)
          have x1 := (unhide HKB4).book.row.cell? (i := 1) rfl
          have y0 := (unhide HO8).row.cell? (i := 0) rfl
          have y1 := (unhide HO8).row.cell? (i := 1) rfl
          have y2 := (unhide HO8).row.cell? (i := 2) rfl
          have y3 := (unhide HO8).row.cell? (i := 3) rfl
          have z0 := (unhide HO9).row.cell? (i := 0) rfl
          have z1 := (unhide HO9).row.cell? (i := 1) rfl
          have z2 := (unhide HO9).row.cell? (i := 2) rfl
          have z3 := (unhide HO9).row.cell? (i := 3) rfl
          have t0 := (unhide HO10).row.cell? (i := 0) rfl
          have t1' := (unhide HO10).row.cell? (i := 1) rfl
          have t2' := (unhide HO10).row.cell? (i := 2) rfl
          have t3 := (unhide HO10).row.cell? (i := 3) rfl
          obtain ⟨gs, hgs, -⟩ := (unhide HKB4).book.gr
          have HGS := hide hgs
          have hbx := (unhide HKB4).book.row.lt
          obtain ⟨s0, hs0, sz0, sz1, sz2⟩ := info_parts Try.infoSRes
          have HS0 := hide hs0
          have SZ0 := hide sz0
          have SZ1 := hide sz1
          have SZ2 := hide sz2
          clear hs0 sz0 sz1 sz2 hgs
          go_upto_region 15 with fail
          go_region_law (refine step_append_at rfl (.tmp 102) (.tmp 107) 36 rfl (bb + 1) 35 s0 _ 1 24 Try.underlying36 (unhide HS0) (unhide SZ0) (unhide SZ1) (unhide SZ2) rfl (by decide) vgr n gs (by simp [Act.eval]) (((unhide HGS).alloc _).alloc _) ⟨_, 0, none⟩ 1 1 [.slice (some ⟨_, 0, none⟩) 3 3] (by simp [Act.eval]) rfl (cells_new _ _ [.slice (some ⟨_, 0, none⟩) 3 3]) (one_slice _ _ _) (by unfold maxLen; omega) (by omega) (by simp; omega) ?_; intro v1 w1 hown1 hgrow1 hat1; obtain ⟨q3, q4, rfl, -, -⟩ := owns_form hown1 (by omega); have hrow3 := row_two hgrow1 (fun q hq => ((unhide HGS).lt q hq).2); have hg3 := grown_two hgrow1; have HE := hide (keep_end (unhide HKB4) hsz4 (unhide HEE) hH hbb (unhide HO8) (unhide HO9) (unhide HO10) (unhide HGS) hg3 hown1 hrow3); have hr3 := (unhide HKB4).book.row.grown hg3 (own_ne (unhide HGS) (Nat.lt_succ_self _)); have d0 := hr3.cell? (i := 1) rfl; have e0 := hr3.frozen 1; clear hrow3 hg3 hr3 hown1 hgrow1 hat1)
          all_goals go_wp2_with fail
          all_goals go_end0
          all_goals exact ⟨rfl, unhide HE⟩
end Go.Proofs.Ytjelacjggijmfaa
