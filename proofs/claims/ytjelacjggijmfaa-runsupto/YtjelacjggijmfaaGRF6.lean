/-
  The document's own answer: a command is given.
-/
import Derived.Test.YtjelacjggijmfaaGRF5
namespace Go.Proofs.Ytjelacjggijmfaa
open Go.RowKit

theorem one_one (s : ByteArray) : ∀ u ∈ [Value.string s], u.oneCell' = true := by intro u hu; simp at hu; subst hu; rfl
theorem put_files (t : Int) (fs : List Pl.File) (ws : List Pl.File) (k : Nat) (h : k < ws.length) : (ws.take (k + 1)).foldl (fun acc f => Pl.putF acc (Pl.stamp t f)) fs = Pl.putF ((ws.take k).foldl (fun acc f => Pl.putF acc (Pl.stamp t f)) fs) (Pl.stamp t ws[k]) := by
  rw [List.take_succ_eq_append_getElem h, List.foldl_append]; rfl
theorem Fit.puts {S : List Pl.Bs} (t : Int) : ∀ (ws : List Pl.File) {fs : List Pl.File}, Fit S fs → (∀ f ∈ ws, f.path ∈ S) → Fit S (ws.foldl (fun acc f => Pl.putF acc (Pl.stamp t f)) fs)
  | [], _, h, _ => h
  | f :: r, fs, h, hs => by
    rw [List.foldl_cons]
    exact Fit.puts t r (h.put (hs f (by simp))) (fun g hg => hs g (by simp [hg]))
theorem give_none {ef : List Pl.Eff} {X : Pl.Wd} {c : Pl.Bs} (h : ∀ j (hj : j < ef.length), ef[j].cmd ≠ c) : Pl.giveW ef X c = ⟨X.files, wrap64 (X.clock + 1), X.cmds ++ [c], X.exit⟩ := by
  have : ef.find? (fun e => e.cmd == c) = none := by
    rw [List.find?_eq_none]
    intro x hx
    obtain ⟨j, hj, rfl⟩ := List.getElem_of_mem hx
    simpa using h j hj
  unfold Pl.giveW; rw [this]
theorem give_some {ef : List Pl.Eff} {X : Pl.Wd} {c : Pl.Bs} {k : Nat} (hk : k < ef.length) (h : ∀ j (hj : j < ef.length), j < k → ef[j].cmd ≠ c) (he : ef[k].cmd = c) :
    Pl.giveW ef X c = ⟨ef[k].writes.foldl (fun fs f => Pl.putF fs (Pl.stamp (wrap64 (X.clock + 1)) f)) X.files, wrap64 (X.clock + 1), X.cmds ++ [c], ef[k].exit⟩ := by
  have : ef.find? (fun e => e.cmd == c) = some ef[k] := by
    rw [List.find?_eq_some_iff_getElem]
    exact ⟨by simpa using he, k, hk, rfl, fun j hj => by simpa using h j (by omega) hj⟩
  unfold Pl.giveW; rw [this]
set_option maxHeartbeats 4000000 in
set_option maxRecDepth 20000 in
theorem refGive_any (c : Pl.Bs) (S : List Pl.Bs) (ef : List Pl.Eff) (L B bx be oe ce : Nat) (ae : Option Addr) (vf vc : Value) (X : Pl.Wd) (w : World) (h : RW w B bx (.slice ae ef.length ce) vf vc X) (hae : 0 < ef.length → ae = some ⟨be, oe, none⟩)
    (hE : RdE w L be oe ef) (hL : L ≤ bx) (hfit : Fit S X.files) (hS : S.length ≤ 1048576) (hEs : ∀ e ∈ ef, ∀ f ∈ e.writes, f.path ∈ S) (hBw : B ≤ w.heap.size) (hel : ef.length ≤ 1048576) (hcl : X.cmds.length ≤ 1048576) (hwl : ∀ e ∈ ef, e.writes.length ≤ 1048576) :
    Calls Try.prog 29 #[.pointer (some ⟨bx, 0, none⟩), strV c] w fun e w' => (∃ v, e = .returned v) ∧ ∃ vf' vc', RW w' B bx (.slice ae ef.length ce) vf' vc' (Pl.giveW ef X c) ∧ Below bx w w' ∧ Kept w w' := by
  obtain ⟨i0, hi, hz0, hz1, hz2⟩ := info_parts Try.infoStr
  obtain ⟨j0, hj, hy0, hy1, hy2⟩ := info_parts Try.infoRFile
  have HJ0 := hide hj
  have HY0 := hide hy0
  have HY1 := hide hy1
  have HY2 := hide hy2
  have hM0 : GiveM w B bx (.slice ae ef.length ce) vf vc X w := ⟨h, Below.refl _ _, Kept.refl _⟩
  obtain ⟨ac, cc, rfl⟩ := h.cmds.shape
  obtain ⟨c0, c1, c2, c3, c4⟩ := h.cells
  have f1 := h.row.frozen 1
  have f3 := h.row.frozen 3
  have hlt := h.row.lt
  have hbB := h.lt
  have hcs := h.cmds
  have HM0 := hide hM0
  have HE := hide hE
  have HF := hide hfit
  have HES := hide hEs
  have HWL := hide hwl
  have HAE := hide hae
  clear hj hy0 hy1 hy2 h hM0 hE hfit hEs hae hwl
  unfold strV
  go_enter Try.func29, Try.ntmps29
  go_wp2_with (first
    | (at_builtin; refine wpList_append_own _ rfl (.tmp 12) (.tmp 14) 39 rfl B 9 i0 (.string ⟨#[]⟩) 1 16 Try.underlying39 hi hz0 hz1 hz2 rfl (by decide) _ _ _ rfl (World.ownsRow.alloc hcs _) ⟨w.heap.size, 0, none⟩ 1 1 [.string ⟨c.toArray⟩] rfl rfl (cells_new w _ [.string ⟨c.toArray⟩]) (one_one _) (by unfold maxLen; omega) (by omega) (by rw [World.size_alloc]; omega) ?_; intro v1 w1 hown1 hgrow1 hnil1; obtain ⟨g1, cp1, rfl, hg1, hg2⟩ := owns_form hown1 (by omega); have HG1 := hide ((World.grownBy_alloc w _ _).trans hgrow1); have hp1 := (unhide HM0).rw.row.grown (unhide HG1) (own_ne hcs hbB); obtain ⟨d0, d1, d2, d3, d4⟩ := hp1.cells5'; have m1 := hp1.frozen 1; have m3 := hp1.frozen 3; have HO1 := hide hown1; clear hown1 hgrow1 hp1)
    | go_in)
  have HM1 := hide (((unhide HM0).pushC (c := c) (show w.grownBy w1 (Value.slice ac X.cmds.length cc).ownBlock from unhide HG1) (unhide HO1)).clock (wrap64 (X.clock + 1)))
  simp only at HM1
  generalize ((w1.setCell ⟨bx, 3, none⟩ (.slice (some ⟨g1, 0, none⟩) (X.cmds.length + 1) cp1)).setCell ⟨bx, 1, none⟩ (.int .i64 (wrap64 (X.clock + 1)))) = W1 at *
  generalize hvc : Value.slice (some ⟨g1, 0, none⟩) (X.cmds.length + 1) cp1 = vc' at *
  generalize hclk : wrap64 (X.clock + 1) = clk at *
  have HCLK := hide hclk
  clear HG1 HO1 d0 d1 d2 d3 d4 m1 m3 c0 c1 c2 c3 c4 f1 f3 hnil1 hg1 hg2 HM0 hcs hi hz0 hz1 hz2 hclk hvc
  have hgl : Hid (∀ Y, Below bx w Y → B ≤ Y.heap.size) := fun Y hb => Nat.le_trans hBw hb.size
  go_loopw [4] (fun i wr => ∃ k : Nat, i = .int .i64 k ∧ k ≤ ef.length ∧ Hid (∀ j (hj : j < ef.length), j < k → ef[j].cmd ≠ c) ∧ Hid (GiveM w B bx (.slice ae ef.length ce) vf vc' ⟨X.files, clk, X.cmds ++ [c], X.exit⟩ wr)) (fun i _ => ef.length - intN i)
  case atStart => exact ⟨0, rfl, Nat.zero_le _, fun j _ h => by omega, HM1⟩
  case round =>
    clear HM1
    obtain ⟨k, rfl, hkl, hn, hM⟩ := hrel
    obtain ⟨c0, c1, c2, c3, c4⟩ := (unhide hM).rw.cells
    simp only at c1 c4
    by_cases hk : k < ef.length
    · obtain rfl := unhide HAE (by omega)
      have hEw := (unhide HE).below ((unhide hM).below.mono hL)
      obtain ⟨e0, e2, aw, cw, bw, ow, e1, haw, hrw, hbw⟩ := hEw.2 k hk
      have hkm : ef[k] ∈ ef := List.getElem_mem hk
      have HWS := hide (unhide HES ef[k] hkm)
      have hwk := unhide HWL ef[k] hkm
      have HGN := hide (fun he => give_some (X := X) (c := c) hk (unhide hn) he)
      generalize hek : ef[k] = ek at *
      unfold strV at e0
      have t1 : (k : Int) < (ef.length : Int) := by omega
      by_cases he : ek.cmd = c
      · have tc : (ek.cmd == c) = true := by simpa using he
        have tc' : (ek.cmd != c) = false := by rw [bne_eq_false_iff_eq]; exact he
        have HGV := hide (unhide HGN he)
        rw [unhide HCLK] at HGV
        have HRW := hide hrw
        have HAW := hide haw
        have f4 := (unhide hM).rw.row.frozen 4
        have HEK := hide hek
        have hM0 := hM
        clear he hn hEw hkm hek hrw haw HGN e0 e1 e2 c0 c1 c2 c3 c4 f4 HRW HAW hbw
        have hX0 : Hid (GiveM w B bx (.slice (some ⟨be, oe, none⟩) ef.length ce) vf vc' ⟨(ek.writes.take 0).foldl (fun fs f => Pl.putF fs (Pl.stamp clk f)) X.files, clk, X.cmds ++ [c], X.exit⟩ wr) := unhide hM
        obtain ⟨c0, c1, c2, c3, c4⟩ := (unhide hM).rw.cells
        obtain ⟨e0, -, aw, cw, bw, ow, e1, -, -, -⟩ := ((unhide HE).below ((unhide hM).below.mono hL)).2 k hk
        rw [unhide HEK] at e0 e1
        unfold strV at e0
        clear hM hM0
        go_wp2_with fail
        clear c0 c1 c2 c3 c4 e0 e1
        go_loopw [5] (fun i2 wr2 => ∃ (k2 : Nat) (vf2 : Value), i2 = .int .i64 k2 ∧ k2 ≤ ek.writes.length ∧ Hid (GiveM w B bx (.slice (some ⟨be, oe, none⟩) ef.length ce) vf2 vc' ⟨(ek.writes.take k2).foldl (fun fs f => Pl.putF fs (Pl.stamp clk f)) X.files, clk, X.cmds ++ [c], X.exit⟩ wr2)) (fun i2 _ => ek.writes.length - intN i2)
        case atStart => exact ⟨0, vf, rfl, Nat.zero_le _, hX0⟩
        case round =>
          clear hX0
          obtain ⟨k2, vf2, rfl, hkl2, hM2⟩ := hrel
          obtain ⟨c0, c1, c2, c3, c4⟩ := (unhide hM2).rw.cells
          simp only at c1 c4
          obtain ⟨-, e2, aw, cw, bw, ow, e1, haw, hrw, hbw⟩ := ((unhide HE).below ((unhide hM2).below.mono hL)).2 k hk
          rw [unhide HEK] at e1 e2 haw hrw
          by_cases hk2 : k2 < ek.writes.length
          · obtain rfl := haw (by omega)
            obtain ⟨p0, p1, -⟩ := hrw k2 hk2
            have HPF := hide (put_files clk X.files ek.writes k2 hk2)
            have hfit : Fit S ((ek.writes.take k2).foldl (fun fs f => Pl.putF fs (Pl.stamp clk f)) X.files) := (unhide HF).puts clk _ (fun f hf => unhide HWS f (List.mem_of_mem_take hf))
            have hfl := hfit.len
            have hpa := put_at (fs := (ek.writes.take k2).foldl (fun fs f => Pl.putF fs (Pl.stamp clk f)) X.files) (f := Pl.stamp clk ek.writes[k2])
            generalize ek.writes[k2] = fk at *
            generalize (ek.writes.take k2).foldl (fun fs f => Pl.putF fs (Pl.stamp clk f)) X.files = fs at *
            have hbxw := (unhide hM2).rw.row.lt
            have t2 : (k2 : Int) < (ek.writes.length : Int) := by omega
            have hbe := (unhide HE).1
            have hbe' : be < wr.heap.size := by omega
            have hbw' : bw < wr.heap.size := by omega
            unfold strV at p0 p1
            clear hrw hfit
            go_wp2_with fail
            go_region
            have hb3 := ((Below.refl _ wr).alloc (Nat.le_refl _) (.cells #[.string ⟨fk.path.toArray⟩, .string ⟨fk.text.toArray⟩, .int .i64 clk] 62)).drew
            have hM3 := (unhide hM2).later hb3
            have hbox : Row (wr.alloc (.cells #[.string ⟨fk.path.toArray⟩, .string ⟨fk.text.toArray⟩, .int .i64 clk] 62)).drew wr.heap.size 62 [.string ⟨fk.path.toArray⟩, .string ⟨fk.text.toArray⟩, .int .i64 clk] := Row.new wr 62 [.string ⟨fk.path.toArray⟩, .string ⟨fk.text.toArray⟩, .int .i64 clk]
            have hown2 : some wr.heap.size ≠ vf2.ownBlock := fun e => by have := ((unhide hM2).rw.files.lt _ e.symm).2; omega
            have HB3 := hide ((unhide hgl) _ hM3.below)
            generalize (wr.alloc (.cells #[.string ⟨fk.path.toArray⟩, .string ⟨fk.text.toArray⟩, .int .i64 clk] 62)).drew = W3 at *
            generalize wr.heap.size = N3 at *
            clear hM2 hb3 c0 c1 c2 c3 c4 e1 e2 p0 p1 hbxw hbe hbe' hbw' hbw t2
            obtain ⟨av, cv, gv, rfl, hav, hrv, hfz⟩ := hM3.rw.files.rd
            have CF := hide (fun n => refFile_any fs fk.path av cv gv 0 (W3.drewN n) hav hrv (by omega))
            unfold strV at CF
            have hM4 : ∀ n, GiveM w B bx (.slice (some ⟨be, oe, none⟩) ef.length ce) (.slice av fs.length cv) vc' ⟨fs, clk, X.cmds ++ [c], X.exit⟩ (W3.drewN n) := fun n => hM3.later (Below.drewN (Below.refl _ _) n)
            have HM4 := hide hM4
            have HBOX := hide hbox
            have c0 := hM3.rw.row.cell 0 (by simp)
            have b0 := hbox.cell 0 (by simp)
            have b1 := hbox.cell 1 (by simp)
            have b2 := hbox.cell 2 (by simp)
            simp only [List.getElem_cons_zero, List.getElem_cons_succ] at c0 b0 b1 b2
            have f0 := hM3.rw.row.frozen 0
            have HRV := hide hrv
            have HFZ := hide hfz
            have HAV := hide hav
            have hbB3 := hM3.rw.row.lt
            have hnl := hbox.lt
            clear hM3 hM4 hbox hrv hfz hav
            rcases hpa with ⟨i1, i2⟩ | ⟨j, hj, i1, i2⟩
            · have i1' : idxI fs fk.path = -1 := i1
              rw [i1'] at CF
              have HNX := hide ((unhide HPF).trans i2)
              clear i1 i2 i1' HPF
              as_aux_lemma =>
                go_wp2_with fail
                go_quiet (first | (go_at_call 25; exact Calls.quiet_of_same ((unhide CF _).mono (fun _ _ h => ⟨h.1, h.2.symm⟩))))
                go_wp2_with fail
                have d0 : (W3.drewN nq).cell? ⟨bx, 0, none⟩ = _ := c0
                have q0 : (W3.drewN nq).cell? ⟨N3, 0, none⟩ = _ := b0
                have q1 : (W3.drewN nq).cell? ⟨N3, 1, none⟩ = _ := b1
                have q2 : (W3.drewN nq).cell? ⟨N3, 2, none⟩ = _ := b2
                have g0 : (W3.drewN nq).frozen? ⟨bx, 0, none⟩ = _ := f0
                have HM5 := hide (unhide HM4 nq)
                have HBX : Hid (Row (W3.drewN nq) N3 62 [.string ⟨fk.path.toArray⟩, .string ⟨fk.text.toArray⟩, .int .i64 clk]) := unhide HBOX
                have hB5 : B ≤ (W3.drewN nq).heap.size := unhide HB3
                have hb5 : bx < (W3.drewN nq).heap.size := hbB3
                have hn5 : N3 < (W3.drewN nq).heap.size := hnl
                clear c0 b0 b1 b2 f0 HM4 CF HBOX HRV HFZ HAV hbB3 hnl
                generalize W3.drewN nq = W5 at *
                as_aux_lemma =>
                  go_region_law (refine step_append_own rfl (.tmp 99) (.tmp 101) 27 rfl B 62 j0 _ 3 40 Try.underlying27 (unhide HJ0) (unhide HY0) (unhide HY1) (unhide HY2) rfl (by decide) _ fs.length _ (by simp [Act.eval]) ((unhide HM5).rw.files.alloc _) ⟨_, 0, none⟩ 1 1 (fileC (Pl.stamp clk fk)) (by simp [Act.eval]) rfl (cells_new _ _ (fileC (Pl.stamp clk fk))) (by intro u hu; simp [fileC] at hu; rcases hu with rfl | rfl | rfl <;> rfl) (by unfold maxLen; omega) (by omega) (by simp; omega) ?_; intro v1 w1 hown1 hgrow1; obtain ⟨g1, cp1, rfl, hg1, hg2⟩ := owns_form hown1 (by omega); have HG1 := hide (grown_alloc1 hgrow1); have hp1 := (unhide HM5).rw.row.grown (unhide HG1) (own_ne (unhide HM5).rw.files hbB); have e0 := hp1.cell 0 (by simp); have h0 := hp1.frozen 0; simp only [List.getElem_cons_zero] at e0; have HO1 := hide hown1; clear hown1 hgrow1 hp1)
                  all_goals go_wp2_with fail
                  all_goals go_roundw
                  all_goals first
                    | exact ⟨k2 + 1, _, by go_num, by omega, by rw [unhide HNX]; exact (unhide HM5).pushF (unhide HG1) (unhide HO1)⟩
                    | (simp only [intN]; omega)
            · have i1' : idxI fs fk.path = j := i1
              rw [i1'] at CF
              have HNX := hide ((unhide HPF).trans i2)
              have hj0 : ¬ (j : Int) < 0 := by omega
              have hfp : 0 < fs.length := Nat.lt_of_le_of_lt (Nat.zero_le _) hj
              obtain rfl := unhide HAV hfp
              obtain ⟨y0, y1, y2⟩ := unhide HRV j hj
              simp only [Nat.zero_add] at y0 y1 y2
              have z0 := (unhide HFZ hfp).2.2 (j * 3)
              have z1 := (unhide HFZ hfp).2.2 (j * 3 + 1)
              have z2 := (unhide HFZ hfp).2.2 (j * 3 + 2)
              have tj : (j : Int) < (fs.length : Int) := by omega
              have hgN : N3 ≠ gv := fun e => hown2 (by rw [e]; rfl)
              have hgb : bx ≠ gv := by have := (unhide HFZ hfp).1; omega
              clear i1 i2 i1' HPF
              as_aux_lemma =>
                go_wp2_with fail
                go_quiet (first | (go_at_call 25; exact Calls.quiet_of_same ((unhide CF _).mono (fun _ _ h => ⟨h.1, h.2.symm⟩))))
                go_wp2_with fail
                have d0 : (W3.drewN nq).cell? ⟨bx, 0, none⟩ = _ := c0
                have q0 : (W3.drewN nq).cell? ⟨N3, 0, none⟩ = _ := b0
                have q1 : (W3.drewN nq).cell? ⟨N3, 1, none⟩ = _ := b1
                have q2 : (W3.drewN nq).cell? ⟨N3, 2, none⟩ = _ := b2
                have x0 : (W3.drewN nq).cell? ⟨gv, j * 3, none⟩ = _ := y0
                have x1 : (W3.drewN nq).cell? ⟨gv, j * 3 + 1, none⟩ = _ := y1
                have x2 : (W3.drewN nq).cell? ⟨gv, j * 3 + 2, none⟩ = _ := y2
                have k0 : (W3.drewN nq).frozen? ⟨gv, j * 3, none⟩ = _ := z0
                have k1 : (W3.drewN nq).frozen? ⟨gv, j * 3 + 1, none⟩ = _ := z1
                have k3 : (W3.drewN nq).frozen? ⟨gv, j * 3 + 2, none⟩ = _ := z2
                have HM5 := hide (unhide HM4 nq)
                clear c0 b0 b1 b2 f0 HM4 CF HBOX HRV HFZ HAV hbB3 hnl y0 y1 y2 z0 z1 z2
                generalize W3.drewN nq = W5 at *
                have HS : Hid (GiveM w B bx (.slice (some ⟨be, oe, none⟩) ef.length ce) (.slice (some ⟨gv, 0, none⟩) fs.length cv) vc' ⟨fs.set j (Pl.stamp clk fk), clk, X.cmds ++ [c], X.exit⟩ (((W5.setCell ⟨gv, j * 3, none⟩ (.string ⟨fk.path.toArray⟩)).setCell ⟨gv, j * 3 + 1, none⟩ (.string ⟨fk.text.toArray⟩)).setCell ⟨gv, j * 3 + 2, none⟩ (.int .i64 clk)).drew) := by
                  have hs1 := GiveM.setF (X := ⟨fs, clk, X.cmds ++ [c], X.exit⟩) (g := gv) (cap := cv) (Y := W5) (unhide HM5) j hj (Pl.stamp clk fk)
                  exact hs1.later (Below.drew (Below.refl _ _))
                as_aux_lemma =>
                  go_region
                  all_goals go_wp2_with fail
                  all_goals go_roundw
                  all_goals first
                    | (refine ⟨k2 + 1, .slice (some ⟨gv, 0, none⟩) fs.length cv, by go_num, by omega, ?_⟩; rw [unhide HNX]; exact HS)
                    | (simp only [intN]; omega)
          · have hke : ek.writes.take k2 = ek.writes := List.take_of_length_le (by omega)
            rw [hke] at hM2
            have f4 := (unhide hM2).rw.row.frozen 4
            have HMX := hide ((unhide hM2).exit ek.exit)
            simp only at HMX
            rw [← unhide HGV] at HMX
            clear hke hrw haw
            go_wp2_with fail
            refine bodyPost_ret (results_none rfl _ _ _) rfl ?_
            exact ⟨⟨_, rfl⟩, _, _, (unhide HMX).rw, (unhide HMX).below, (unhide HMX).kept⟩
      · have tc : (ek.cmd == c) = false := by simpa using he
        have tc' : (ek.cmd != c) = true := by rw [bne_iff_ne]; exact he
        have HN : Hid (∀ j (h : j < ef.length), j < k + 1 → ef[j].cmd ≠ c) := by
          intro j h hj
          by_cases e : j = k
          · subst e; rw [hek]; exact he
          · exact unhide hn j h (by omega)
        clear he hn hEw hkm hek hrw haw HGN
        go_wp2_with fail
        go_roundw
        case rel => exact ⟨k + 1, by go_num, by omega, HN, hM⟩
        case measure => simp only [intN]; omega
    · have HV := hide (give_none (X := X) (c := c) (fun j hj => unhide hn j hj (by omega)))
      rw [unhide HCLK] at HV
      clear hn
      go_wp2_with fail
      go_end0
      exact ⟨⟨_, rfl⟩, vf, vc', by rw [unhide HV]; exact (unhide hM).rw, (unhide hM).below, (unhide hM).kept⟩
end Go.Proofs.Ytjelacjggijmfaa
