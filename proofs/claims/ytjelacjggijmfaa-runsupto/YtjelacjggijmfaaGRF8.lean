/-
  The document's own answer: what is told of a world: the walk.
-/
import Derived.Test.YtjelacjggijmfaaGRF5
namespace Go.Proofs.Ytjelacjggijmfaa
open Go.RowKit

theorem file_one (f : Pl.File) : ∀ u ∈ fileC f, u.oneCell' = true := by
  intro u hu
  simp [fileC, strV] at hu
  rcases hu with rfl | rfl | rfl <;> rfl
theorem own_len {w : World} {B : Nat} {v : Value} {fs : List Pl.File} (h : Fls w B v fs) {n : Nat} (hn : fs.length = n) : w.ownsRow B 62 3 v n (filesC fs) := by subst hn; exact h
def avB : Option Addr → Nat
  | some a => a.block
  | none => 0
theorem rd_slice {w : World} {B cap : Nat} {a : Option Addr} {fs : List Pl.File} (h : Fls w B (.slice a fs.length cap) fs) (h0 : 0 < fs.length) : RdF w (avB a) 0 fs ∧ a = some ⟨avB a, 0, none⟩ := by
  obtain ⟨a2, c2, g2, e2, h2, r2, -⟩ := h.rd
  simp only [Value.slice.injEq, true_and] at e2
  obtain ⟨rfl, rfl⟩ := e2
  have := h2 h0
  subst this
  exact ⟨r2, rfl⟩
theorem ToldL.cellsAt {w : World} {Bl ga cv : Nat} {vc vl : Value} {X : Pl.Wd} {acc l : List Pl.File} {W : World} {gk : Pl.File} (h : ToldL w Bl vc (.slice (some ⟨ga, 0, none⟩) acc.length cv) vl X acc l W) (k : Nat) (hk : k < acc.length) (hg : acc[k] = gk) :
    W.cell? ⟨w.heap.size + 1, 1, none⟩ = some (.slice (some ⟨ga, 0, none⟩) acc.length cv) ∧ W.cell? ⟨ga, k * 3, none⟩ = some (.string ⟨gk.path.toArray⟩) ∧ W.cell? ⟨ga, k * 3 + 1, none⟩ = some (.string ⟨gk.text.toArray⟩) ∧ W.cell? ⟨ga, k * 3 + 2, none⟩ = some (.int .i64 gk.time) := by
  obtain ⟨h1, h2, h3⟩ := (rd_slice h.told.files (by omega)).1 k hk
  subst hg
  simp only [Nat.zero_add] at h1 h2 h3
  exact ⟨by simpa using h.told.box.cell 1 (by simp), h1, h2, h3⟩
set_option maxHeartbeats 4000000 in
set_option maxRecDepth 20000 in
theorem refTold_any (B bx : Nat) (ve vf : Value) (ac : Option Addr) (nc cc : Nat) (X : Pl.Wd) (w : World) (h : RW w B bx ve vf (.slice ac nc cc) X) (hl : X.files.length ≤ 1048576) :
    Calls Try.prog 30 #[.pointer (some ⟨bx, 0, none⟩)] w fun e w' => (∃ vr, e = .returned (.agg #[.slice ac nc cc, vr, .int .i64 X.exit, .int .i64 X.clock]) ∧ Fls w' (w.heap.size + 2) vr (Pl.sortF X.files)) ∧ Below w.heap.size w w' := by
  obtain ⟨j0, hj, hy0, hy1, hy2⟩ := info_parts Try.infoRFile
  obtain ⟨c0, c1, c2, c3, c4⟩ := h.cells
  have HH := hide h
  have hbx := h.row.lt
  have HJ0 := hide hj
  have HY0 := hide hy0
  have HY1 := hide hy1
  have HY2 := hide hy2
  clear h hj hy0 hy1 hy2
  go_enter Try.func30, Try.ntmps30
  go_wp2_with fail
  go_region
  have HM0 : Hid (ToldM w (.slice ac nc cc) (.slice none 0 0) X [] ((w.alloc (.cells #[.slice none 0 0, .slice none 0 0, .int .i64 0, .int .i64 0] 45)).alloc (.cells #[.slice ac nc cc, .slice none 0 0, .int .i64 X.exit, .int .i64 X.clock] 45)).drew) := by
    have h1 := Row.new w 45 [.slice none 0 0, .slice none 0 0, .int .i64 0, .int .i64 0]
    have h2 := Row.new (w.alloc (.cells #[.slice none 0 0, .slice none 0 0, .int .i64 0, .int .i64 0] 45)) 45 [.slice ac nc cc, .slice none 0 0, .int .i64 X.exit, .int .i64 X.clock]
    rw [World.size_alloc] at h2
    exact ⟨(h1.alloc _).drew, h2.drew, Fls.nil _ _, (((Below.refl _ w).alloc (Nat.le_refl _) _).alloc (by rw [World.size_alloc]; omega) _).drew⟩
  clear c0 c1 c2 c3 c4
  go_wp2_with fail
  go_loopw [4] (fun i wr => ∃ (k : Nat) (vr : Value), i = .int .i64 k ∧ k ≤ X.files.length ∧ Hid (ToldM w (.slice ac nc cc) vr X (Pl.sortF (X.files.take k)) wr)) (fun i _ => X.files.length - intN i)
  case atStart => exact ⟨0, _, rfl, Nat.zero_le _, HM0⟩
  case round =>
    clear HM0
    obtain ⟨k, vr, rfl, hkl, hM⟩ := hrel
    have hRW := (unhide HH).later (unhide hM).below
    obtain ⟨av, cv, gv, rfl, hav, hrv, -⟩ := (unhide hM).files.rd
    obtain ⟨af, cf, gf, rfl, haf, hrf, -⟩ := hRW.files.rd
    obtain ⟨c0, -, -, -, -⟩ := hRW.cells
    by_cases hk : k < X.files.length
    · obtain rfl := haf (by omega)
      obtain ⟨p0, p1, p2⟩ := hrf k hk
      have HST := hide (sort_take X.files k hk)
      have hsl := sort_len (X.files.take k)
      rw [List.length_take, Nat.min_eq_left hkl] at hsl
      have hal : (Pl.sortF (X.files.take k)).length ≤ 1048576 := by omega
      clear hsl
      have hge := (unhide hM).box.lt
      have HL0 : Hid (ToldL w wr.heap.size (.slice ac nc cc) (.slice av (Pl.sortF (X.files.take k)).length cv) (.slice none 0 0) X (Pl.sortF (X.files.take k)) [] wr) :=
        ⟨unhide hM, Fls.nil _ _, by omega, fun g hg => ((unhide hM).files.lt g hg).2, Nat.le_refl _⟩
      have HFK : Hid (∀ W, Below w.heap.size w W → W.cell? ⟨bx, 0, none⟩ = some (.slice (some ⟨gf, 0, none⟩) X.files.length cf) ∧ W.cell? ⟨gf, k * 3, none⟩ = some (.string ⟨X.files[k].path.toArray⟩) ∧ W.cell? ⟨gf, k * 3 + 1, none⟩ = some (.string ⟨X.files[k].text.toArray⟩) ∧ W.cell? ⟨gf, k * 3 + 2, none⟩ = some (.int .i64 X.files[k].time)) := by
        intro W hb
        have hR := (unhide HH).later hb
        obtain ⟨a2, c2, g2, e2, h2, r2, -⟩ := hR.files.rd
        simp only [Value.slice.injEq, true_and] at e2
        obtain ⟨q0, q1, q2⟩ := r2 k hk
        have e3 := h2 (by omega)
        rw [← e2.1] at e3
        simp only [Option.some.injEq, Addr.mk.injEq, and_true] at e3
        obtain rfl := e3
        simp only [Nat.zero_add] at q0 q1 q2
        exact ⟨hR.cells.1, q0, q1, q2⟩
      generalize hfk : X.files[k] = fk at *
      generalize hac : Pl.sortF (X.files.take k) = acc at *
      have t1 : (k : Int) < (X.files.length : Int) := by omega
      clear hfk hac hRW hrf haf p0 p1 p2 hrv hav hM
      generalize hBl : wr.heap.size = Bl at *
      go_wp2_with fail
      clear c0
      go_loopw [5, 6, 7] (fun l pt i2 wr2 => ∃ (k2 : Nat) (b2 : Bool) (vl : Value) (lst : List Pl.File), l = vl ∧ pt = .bool b2 ∧ i2 = .int .i64 k2 ∧ Hid (InsI fk acc k2 b2 lst) ∧ Hid (b2 = false → lst.length ≤ k2) ∧ Hid (ToldL w Bl (.slice ac nc cc) (.slice av acc.length cv) vl X acc lst wr2)) (fun _ _ i2 _ => acc.length - intN i2)
      case atStart => exact ⟨0, false, _, [], rfl, rfl, rfl, InsI.start fk acc, fun _ => Nat.zero_le _, HL0⟩
      case round =>
        clear HL0 hBl
        obtain ⟨k2, b2, vl, lst, rfl, rfl, rfl, hI, hle, hL⟩ := hrel
        obtain ⟨al, cl, gl, rfl, -, -, -⟩ := (unhide hL).list.rd
        obtain ⟨c0, p0, p1, p2⟩ := unhide HFK wr (unhide hL).told.below
        have d1 := (unhide hL).told.box.cell 1 (by simp)
        have g1 := (unhide hL).told.box.frozen 1
        simp only [List.getElem_cons_zero, List.getElem_cons_succ] at d1
        have hsB := (unhide hL).size
        have hgB := (unhide hL).ge
        have hin := (unhide hI).len
        have hk2l := (unhide hI).le
        by_cases hk2 : k2 < acc.length
        · have hrd : RdF wr (avB av) 0 acc ∧ av = some ⟨avB av, 0, none⟩ := rd_slice (unhide hL).told.files (by omega)
          obtain ⟨hrd, hav⟩ := hrd
          obtain ⟨q0, q1, q2⟩ := hrd k2 hk2
          generalize avB av = ga at *
          subst hav
          simp only [Nat.zero_add] at q0 q1 q2
          unfold strV at q0 q1
          have t2 : (k2 : Int) < (acc.length : Int) := by omega
          have HP := hide (fun (h : InsI fk acc k2 true lst) => h.past hk2 hin)
          cases b2 with
          | true =>
            have HN := hide (unhide HP (unhide hI))
            generalize hgk : acc[k2] = gk at *
            clear hI hrd HP
            go_wp2_with fail
            go_quiet (fail)
            have HL5 := hide ((unhide hL).later (Below.drewN (Below.refl _ wr) nq))
            have hs5 : Bl ≤ (wr.drewN nq).heap.size := hsB
            have y1 : (wr.drewN nq).cell? ⟨w.heap.size + 1, 1, none⟩ = _ := d1
            have x0 : (wr.drewN nq).cell? ⟨ga, k2 * 3, none⟩ = _ := q0
            have x1 : (wr.drewN nq).cell? ⟨ga, k2 * 3 + 1, none⟩ = _ := q1
            have x2 : (wr.drewN nq).cell? ⟨ga, k2 * 3 + 2, none⟩ = _ := q2
            have u0 : (wr.drewN nq).cell? ⟨bx, 0, none⟩ = _ := c0
            have u1 : (wr.drewN nq).cell? ⟨gf, k * 3, none⟩ = _ := p0
            have u2' : (wr.drewN nq).cell? ⟨gf, k * 3 + 1, none⟩ = _ := p1
            have u3' : (wr.drewN nq).cell? ⟨gf, k * 3 + 2, none⟩ = _ := p2
            clear hL d1 q0 q1 q2 c0 p0 p1 p2
            generalize wr.drewN nq = W5 at *
            go_wp2_with (first | (at_builtin; refine wpList_append_own _ rfl (.tmp 66) (.tmp 72) 27 rfl Bl 62 j0 _ 3 40 Try.underlying27 (unhide HJ0) (unhide HY0) (unhide HY1) (unhide HY2) rfl (by decide) _ _ _ rfl (World.ownsRow.alloc ((unhide HL5).list) _) ⟨_, 0, none⟩ 1 1 (fileC gk) rfl rfl (cells_new _ _ (fileC gk)) (file_one gk) (by unfold maxLen; omega) (by omega) (by rw [World.size_alloc]; omega) ?_; intro vc wc hownc hgrowc hnilc; obtain ⟨gc, cpc, rfl, hgc, hggc⟩ := owns_form hownc (by omega); have HGc := hide ((World.grownBy_alloc _ _ _).trans hgrowc); have HOc := hide hownc; clear hownc hgrowc hnilc) | go_in)
            go_roundw
            case rel => exact ⟨k2 + 1, true, _, lst ++ [gk], rfl, rfl, by go_num, HN, fun e => (by cases e), (unhide HL5).push (unhide HGc) (unhide HOc)⟩
            case measure => simp only [intN]; omega
          | false =>
            have hln := unhide hle rfl
            by_cases hlt : fk.path < acc[k2].path
            · have HN := hide ((unhide hI).here hk2 hlt hln)
              have tl : Op.bytesLess fk.path acc[k2].path = true := by rw [less_eq]; simpa using hlt
              generalize hgk : acc[k2] = gk at *
              have HGK := hide hgk
              clear hI hrd HP hlt hgk
              go_wp2_with fail
              go_quiet (fail)
              have HL5 := hide ((unhide hL).later (Below.drewN (Below.refl _ wr) nq))
              have hs5 : Bl ≤ (wr.drewN nq).heap.size := hsB
              have y1 : (wr.drewN nq).cell? ⟨w.heap.size + 1, 1, none⟩ = _ := d1
              have x0 : (wr.drewN nq).cell? ⟨ga, k2 * 3, none⟩ = _ := q0
              have x1 : (wr.drewN nq).cell? ⟨ga, k2 * 3 + 1, none⟩ = _ := q1
              have x2 : (wr.drewN nq).cell? ⟨ga, k2 * 3 + 2, none⟩ = _ := q2
              have u0 : (wr.drewN nq).cell? ⟨bx, 0, none⟩ = _ := c0
              have u1 : (wr.drewN nq).cell? ⟨gf, k * 3, none⟩ = _ := p0
              have u2' : (wr.drewN nq).cell? ⟨gf, k * 3 + 1, none⟩ = _ := p1
              have u3' : (wr.drewN nq).cell? ⟨gf, k * 3 + 2, none⟩ = _ := p2
              clear hL d1 q0 q1 q2 c0 p0 p1 p2
              generalize wr.drewN nq = W5 at *
              go_wp2_with (first | (at_builtin; refine wpList_append_own _ rfl (.tmp 56) (.tmp 64) 27 rfl Bl 62 j0 _ 3 40 Try.underlying27 (unhide HJ0) (unhide HY0) (unhide HY1) (unhide HY2) rfl (by decide) _ _ _ rfl (World.ownsRow.alloc ((unhide HL5).list) _) ⟨_, 0, none⟩ 1 1 (fileC fk) rfl rfl (cells_new _ _ (fileC fk)) (file_one fk) (by unfold maxLen; omega) (by omega) (by rw [World.size_alloc]; omega) ?_; intro vq wq hownq hgrowq hnilq; obtain ⟨gq, cpq, rfl, hgq, hggq⟩ := owns_form hownq (by omega); have HGq := hide ((World.grownBy_alloc _ _ _).trans hgrowq); have HOq := hide hownq; clear hownq hgrowq hnilq; have HL6 := hide ((unhide HL5).push (f := fk) (unhide HGq) (unhide HOq)); obtain ⟨z1, r0, r1, r2⟩ := (unhide HL6).cellsAt k2 hk2 (unhide HGK); have hs6 := (unhide HL6).size) | (at_builtin; refine wpList_append_own _ rfl (.tmp 66) (.tmp 72) 27 rfl Bl 62 j0 _ 3 40 Try.underlying27 (unhide HJ0) (unhide HY0) (unhide HY1) (unhide HY2) rfl (by decide) _ (lst.length + 1) _ rfl (World.ownsRow.alloc (own_len (unhide HL6).list (by simp)) _) ⟨_, 0, none⟩ 1 1 (fileC gk) rfl rfl (cells_new _ _ (fileC gk)) (file_one gk) (by unfold maxLen; omega) (by omega) (by rw [World.size_alloc]; omega) ?_; intro vc wc hownc hgrowc hnilc; obtain ⟨gc, cpc, rfl, hgc, hggc⟩ := owns_form hownc (by omega); have HGc := hide ((World.grownBy_alloc _ _ _).trans hgrowc); have HOc := hide hownc; clear hownc hgrowc hnilc) | go_in)
              go_roundw
              case rel => exact ⟨k2 + 1, true, _, lst ++ [fk] ++ [gk], rfl, rfl, by go_num, HN, fun e => (by cases e), (unhide HL6).push (unhide HGc) (by rw [show (lst ++ [fk]).length = lst.length + 1 from by simp]; exact unhide HOc)⟩
              case measure => simp only [intN]; omega
            · have HN := hide ((unhide hI).on hk2 hlt hln)
              have tl : Op.bytesLess fk.path acc[k2].path = false := by rw [less_eq]; simpa using hlt
              generalize hgk : acc[k2] = gk at *
              clear hI hrd HP hlt
              go_wp2_with fail
              go_quiet (fail)
              have HL5 := hide ((unhide hL).later (Below.drewN (Below.refl _ wr) nq))
              have hs5 : Bl ≤ (wr.drewN nq).heap.size := hsB
              have y1 : (wr.drewN nq).cell? ⟨w.heap.size + 1, 1, none⟩ = _ := d1
              have x0 : (wr.drewN nq).cell? ⟨ga, k2 * 3, none⟩ = _ := q0
              have x1 : (wr.drewN nq).cell? ⟨ga, k2 * 3 + 1, none⟩ = _ := q1
              have x2 : (wr.drewN nq).cell? ⟨ga, k2 * 3 + 2, none⟩ = _ := q2
              have u0 : (wr.drewN nq).cell? ⟨bx, 0, none⟩ = _ := c0
              have u1 : (wr.drewN nq).cell? ⟨gf, k * 3, none⟩ = _ := p0
              have u2' : (wr.drewN nq).cell? ⟨gf, k * 3 + 1, none⟩ = _ := p1
              have u3' : (wr.drewN nq).cell? ⟨gf, k * 3 + 2, none⟩ = _ := p2
              clear hL d1 q0 q1 q2 c0 p0 p1 p2
              generalize wr.drewN nq = W5 at *
              go_wp2_with (first | (at_builtin; refine wpList_append_own _ rfl (.tmp 66) (.tmp 72) 27 rfl Bl 62 j0 _ 3 40 Try.underlying27 (unhide HJ0) (unhide HY0) (unhide HY1) (unhide HY2) rfl (by decide) _ _ _ rfl (World.ownsRow.alloc ((unhide HL5).list) _) ⟨_, 0, none⟩ 1 1 (fileC gk) rfl rfl (cells_new _ _ (fileC gk)) (file_one gk) (by unfold maxLen; omega) (by omega) (by rw [World.size_alloc]; omega) ?_; intro vc wc hownc hgrowc hnilc; obtain ⟨gc, cpc, rfl, hgc, hggc⟩ := owns_form hownc (by omega); have HGc := hide ((World.grownBy_alloc _ _ _).trans hgrowc); have HOc := hide hownc; clear hownc hgrowc hnilc) | go_in)
              go_roundw
              case rel => exact ⟨k2 + 1, false, _, lst ++ [gk], rfl, rfl, by go_num, HN, fun _ => (by simp; omega), (unhide HL5).push (unhide HGc) (unhide HOc)⟩
              case measure => simp only [intN]; omega
        · cases b2 with
          | true =>
            have HD := hide ((unhide hI).doneT hk2)
            have HM2 := hide (unhide hL).done
            clear hI
            go_wp2_with fail
            go_roundw
            case rel => exact ⟨k + 1, _, by go_num, by omega, by rw [unhide HST, unhide HD]; exact unhide HM2⟩
            case measure => simp only [intN]; omega
          | false =>
            have HD := hide ((unhide hI).doneF hk2)
            clear hI
            go_wp2_with (first | (at_builtin; refine wpList_append_own _ rfl (.tmp 76) (.tmp 84) 27 rfl Bl 62 j0 _ 3 40 Try.underlying27 (unhide HJ0) (unhide HY0) (unhide HY1) (unhide HY2) rfl (by decide) _ _ _ rfl (World.ownsRow.alloc ((unhide hL).list) _) ⟨_, 0, none⟩ 1 1 (fileC fk) rfl rfl (cells_new _ _ (fileC fk)) (file_one fk) (by unfold maxLen; omega) (by omega) (by rw [World.size_alloc]; omega) ?_; intro ve we howne hgrowe hnile; obtain ⟨ge, cpe, rfl, hge, hgge⟩ := owns_form howne (by omega); have HGe := hide ((World.grownBy_alloc _ _ _).trans hgrowe); have HOe := hide howne; clear howne hgrowe hnile; have HL7 := hide ((unhide hL).push (f := fk) (unhide HGe) (unhide HOe)); have z1 := (unhide HL7).told.box.cell 1 (by simp); have z2 := (unhide HL7).told.box.frozen 1; simp only [List.getElem_cons_zero, List.getElem_cons_succ] at z1) | go_in)
            go_roundw
            case rel => exact ⟨k + 1, _, by go_num, by omega, by rw [unhide HST, unhide HD]; exact (unhide HL7).done⟩
            case measure => simp only [intN]; omega
    · have hke : X.files.take k = X.files := List.take_of_length_le (by omega)
      rw [hke] at hM
      have b0 := (unhide hM).box.cell 0 (by simp)
      have b1 := (unhide hM).box.cell 1 (by simp)
      have b2 := (unhide hM).box.cell 2 (by simp)
      have b3 := (unhide hM).box.cell 3 (by simp)
      have r0 := (unhide hM).res.cell 0 (by simp)
      have r1 := (unhide hM).res.cell 1 (by simp)
      have r2 := (unhide hM).res.cell 2 (by simp)
      have r3 := (unhide hM).res.cell 3 (by simp)
      simp only [List.getElem_cons_zero, List.getElem_cons_succ] at b0 b1 b2 b3 r0 r1 r2 r3
      have f0 := (unhide hM).res.frozen 0
      have f1 := (unhide hM).res.frozen 1
      have f2 := (unhide hM).res.frozen 2
      have f3 := (unhide hM).res.frozen 3
      have HKE := hide hke
      clear hke hRW hrf haf hrv hav
      go_wp2_with fail
      have hR := ((((unhide hM).res.set 0 (.slice ac nc cc)).set 1 (.slice av (Pl.sortF X.files).length cv)).set 2 (.int .i64 X.exit)).set 3 (.int .i64 X.clock)
      have o0 := hR.cell 0 (by simp)
      have o1 := hR.cell 1 (by simp)
      have o2 := hR.cell 2 (by simp)
      have o3 := hR.cell 3 (by simp)
      simp only [List.set_cons_zero, List.set_cons_succ, List.getElem_cons_zero, List.getElem_cons_succ] at o0 o1 o2 o3
      have hne := own_ne (unhide hM).files (N := w.heap.size) (by omega)
      refine bodyPost_ret (v := .agg #[.slice ac nc cc, .slice av (Pl.sortF X.files).length cv, .int .i64 X.exit, .int .i64 X.clock]) ?_ rfl ⟨⟨_, rfl, owns_other (owns_other (owns_other (owns_other (unhide hM).files hne _ _) hne _ _) hne _ _) hne _ _⟩, ((((unhide hM).below.setCell (p := ⟨w.heap.size, 0, none⟩) (Nat.le_refl _) _).setCell (p := ⟨w.heap.size, 1, none⟩) (Nat.le_refl _) _).setCell (p := ⟨w.heap.size, 2, none⟩) (Nat.le_refl _) _).setCell (p := ⟨w.heap.size, 3, none⟩) (Nat.le_refl _) _⟩
      simp [results, Try.results30, go_sem, o0, o1, o2, o3]
end Go.Proofs.Ytjelacjggijmfaa
