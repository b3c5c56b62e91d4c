/-
  The document's own answer: is a plan sound?
-/
import Derived.Test.YtjelacjggijmfaaGSR4
namespace Go.Proofs.Ytjelacjggijmfaa
open Go.RowKit

theorem Try.infoBool : (Try.prog.info? 4).map (fun i => (i.zero, i.size, i.bytes)) = some (some (.bool false), 1, 1) := by kernel_rfl
theorem Try.infoInt : (Try.prog.info? 3).map (fun i => (i.zero, i.size, i.bytes)) = some (some (.int .i64 0), 1, 8) := by kernel_rfl
/-- A call has answered whether something is so. -/
structure SoundRes (P : Prop) (e : Ending) : Prop where
  out : ∃ r : Bool, e = .returned (.bool r) ∧ (r = true ↔ P)
theorem HMem.drew {w : World} {b N M L : Nat} {v : Value} {s : ByteArray} {f : Nat → Bool} {g : Nat → Int} {X : World} (h : HMem w b N M L v s f g X) : HMem w b N M L v s f g X.drew := h.later (Below.refl _ _).drew
theorem whole_op' {c : Pl.Bs} {p : Nat} (hw : Pl.whole c p) : 1 ≤ Pl.opAt c p ∧ Pl.opAt c p ≤ 8 := by
  have hz := hw.1
  generalize Pl.opAt c p = op at *
  have h9 : ¬ (op = 0 ∨ 9 ≤ op) := fun h => hz (by unfold Pl.isz; repeat rw [if_neg (by omega)])
  omega
/-- a step that is a skip -/
theorem stepOf6 {c : Pl.Bs} {m p h nx to r : Nat} {g : Nat → Int} {A : Pl.Aw} (H : Pl.HiInv c m p p h g A) (hp : p < c.length) (hw : Pl.whole c p) (hok : Pl.okOps m (Pl.mkIns c p)) (hop : Pl.opAt c p = 6) (hnx : (Pl.mkIns c p).next = nx) (hto : (Pl.mkIns c p).next + (Pl.mkIns c p).first = to) (hr : r = Pl.rise 6 h) (htk : 1 ≤ h)
    (hb : Pl.Beg c 0 to) (hng : ¬ (0 ≤ g to ∧ g to ≠ (r : Int))) (hr16 : r ≤ 16) (hn : ¬ (0 ≤ Pl.gset g to (r : Int) nx ∧ Pl.gset g to (r : Int) nx ≠ (r : Int))) : Pl.HiInv c m (p + 1) nx r (Pl.gset (Pl.gset g to (r : Int)) nx (r : Int)) (Pl.del (Pl.onward A (Pl.mkIns c p) h) nx) := by
  have hr' : r = Pl.rise (Pl.opAt c p) h := by rw [hop]; exact hr
  clear hr
  subst hr' hnx hto
  have e : Pl.gjump c p h g = Pl.gset g ((Pl.mkIns c p).next + (Pl.mkIns c p).first) (Pl.rise (Pl.opAt c p) h : Nat) := by unfold Pl.gjump; rw [if_pos hop]
  have := H.step hp hw hok (by rw [hop]; exact htk) hr16 (fun _ => ⟨hb, hng⟩) (by rw [e]; exact hn)
  rwa [e] at this
/-- a step that is no skip -/
theorem stepOf {c : Pl.Bs} {m p h op nx r : Nat} {g : Nat → Int} {A : Pl.Aw} (H : Pl.HiInv c m p p h g A) (hp : p < c.length) (hw : Pl.whole c p) (hok : Pl.okOps m (Pl.mkIns c p)) (hop : Pl.opAt c p = op) (hnx : (Pl.mkIns c p).next = nx) (hr : r = Pl.rise op h) (h6 : op ≠ 6) (htk : Pl.taken op ≤ h)
    (hr16 : r ≤ 16) (hn : ¬ (0 ≤ g nx ∧ g nx ≠ (r : Int))) : Pl.HiInv c m (p + 1) nx r (Pl.gset g nx (r : Int)) (Pl.del (Pl.onward A (Pl.mkIns c p) h) nx) := by
  subst hop hr hnx
  have e : Pl.gjump c p h g = g := by unfold Pl.gjump; rw [if_neg h6]
  have := H.step hp hw hok htk hr16 (fun k => absurd k h6) (by rw [e]; exact hn)
  rwa [e] at this
set_option maxHeartbeats 16000000 in
set_option maxRecDepth 20000 in
theorem refSound_any (s : ByteArray) (b m cap : Nat) (a : Option Addr) (w : World) (hs : s.size ≤ 1048576) (hr : Row w b 74 [.slice a m cap, .string s]) :
    Calls Try.prog 20 #[.pointer (some ⟨b, 0, none⟩)] w fun e w' => SoundRes (Pl.Spec s.data.toList m 0 0 (fun _ => none)) e ∧ Below w.heap.size w w' := by
  have hmb : ∀ w, (Instr.makeSlice 73 (.int .i64 ((s.size : Int) + 1)) (.int .i64 ((s.size : Int) + 1))).run Try.prog w = .ok (.slice (some ⟨w.heap.size, 0, none⟩) (s.size + 1) (s.size + 1)) (w.alloc (.cells (madeCells #[.bool false] (s.size + 1)) 4)) :=
    run_make_row' (P := Try.prog) 73 4 (.bool false) 1 Try.underlying73 Try.infoBool rfl .i64 .i64 (s.size + 1) (by omega) (by omega)
  have hmi : ∀ w, (Instr.makeSlice 72 (.int .i64 ((s.size : Int) + 1)) (.int .i64 ((s.size : Int) + 1))).run Try.prog w = .ok (.slice (some ⟨w.heap.size, 0, none⟩) (s.size + 1) (s.size + 1)) (w.alloc (.cells (madeCells #[.int .i64 0] (s.size + 1)) 3)) :=
    run_make_row' (P := Try.prog) 72 3 (.int .i64 0) 8 Try.underlying72 Try.infoInt rfl .i64 .i64 (s.size + 1) (by omega) (by omega)
  have hbw := hr.lt
  have c1 := hr.cell 1 (by simp)
  simp only [List.getElem_cons_zero, List.getElem_cons_succ] at c1
  have HM0 : Hid (SMem w b w.heap.size s.size (.slice a m cap) s (fun _ => false) (w.alloc (.cells (madeCells #[.bool false] (s.size + 1)) 4))) :=
    ⟨hr.alloc _, BRow.made w s.size, (Below.refl _ w).alloc (Nat.le_refl _) _, hbw, Nat.le_refl _⟩
  have HMI := hide hmi
  clear hr hmi
  go_enter Try.func20, Try.ntmps20
  go_wp2_with fail
  clear hmb
  go_loopw [4] (fun at_ wr => ∃ (p : Nat) (f : Nat → Bool), at_ = .int .i64 p ∧ p ≤ s.size ∧ Hid (Pass1 s.data.toList m p f) ∧ Hid (SMem w b w.heap.size s.size (.slice a m cap) s f wr)) (fun at_ _ => s.size - intN at_)
  case atStart => exact ⟨0, fun _ => false, rfl, Nat.zero_le _, Pass1.start _ _, HM0⟩
  case round =>
    obtain ⟨p, f, rfl, hpl, hP, hM⟩ := hrel
    have hne : b ≠ w.heap.size := by omega
    have hplan := (unhide hM).plan
    have d1 := hplan.cell 1 (by simp)
    simp only [List.getElem_cons_zero, List.getElem_cons_succ] at d1
    by_cases hp : p < s.size
    · have b0 := (unhide hM).begs.cell p hpl
      have g0 := Row.frozen (unhide hM).begs p
      have ho := opAt_get s p hp
      have hlt := Pl.opAt_lt s.data.toList p
      have CS := hide (fun w => refSize_any (Pl.opAt s.data.toList p) hlt w)
      have h8 : s[p].toNat < 256 := by rw [← ho]; exact hlt
      have HO := hide ho
      have hM1 := (unhide hM).mark p
      have hz5 : Pl.isz (Pl.opAt s.data.toList p) ≤ 5 := by
        generalize Pl.opAt s.data.toList p = op
        unfold Pl.isz
        repeat (first | omega | split)
      have HM1 := hide hM1
      have HP' : Hid (p < s.data.toList.length) := by show _ < _; rw [← Lib.size_eq]; exact hp
      clear ho hlt hplan hM hM1
      generalize hop : Pl.opAt s.data.toList p = op at *
      have HOP := hide hop
      generalize hz : Pl.isz op = z at *
      have HZ := hide hz
      clear hop hz
      go_wp2_with fail
      rw [← unhide HO]
      refine (unhide CS _).mono ?_
      rintro e w1 ⟨rfl, hb1⟩
      have hM2 := (unhide HM1).later hb1
      have d2 := hM2.plan.cell 1 (by simp)
      simp only [List.getElem_cons_zero, List.getElem_cons_succ] at d2
      have HM2 := hide hM2
      clear hb1 CS hM2
      by_cases hw : z ≠ 0 ∧ p + z ≤ s.size
      · have hwh : Pl.whole s.data.toList p := by
          unfold Pl.whole
          rw [unhide HOP, unhide HZ, ← Lib.size_eq]; exact hw
        have CO := hide (operands_any s b m cap a p w1 hp hs hwh (unhide HM2).plan)
        obtain ⟨hw1, hw2⟩ := hw
        have HW := hide hwh
        have t1 : ((z : Int) == 0) = false := by rw [beq_eq_false_iff_ne]; omega
        clear hwh
        go_wp2_with fail
        refine (unhide CO).mono ?_
        rintro e w2 ⟨⟨r, rfl, hr⟩, hb2⟩
        have HM3 := hide ((unhide HM2).later hb2)
        clear hb2 CO
        cases r with
        | false =>
          have HN := hide ((unhide hP).bad (unhide HP') (fun e => by have := hr.2 e.2; cases this))
          clear hr
          go_wp2_with fail
          go_ret
          exact ⟨⟨false, rfl, by simpa using unhide HN⟩, (unhide HM3).below⟩
        | true =>
          have HN := hide ((unhide hP).next (unhide HP') (unhide HW) (hr.1 rfl))
          rw [unhide HOP, unhide HZ] at HN
          clear hr
          go_wp2_with fail
          go_roundw
          case rel => exact ⟨p + z, _, by go_num, hw2, HN, HM3⟩
          case measure => simp only [intN]; omega
      · have HN := hide ((unhide hP).bad (unhide HP') (fun e => hw (by have := e.1; unfold Pl.whole at this; rw [unhide HOP, unhide HZ, ← Lib.size_eq] at this; exact this)))
        by_cases hz0 : z = 0
        · have t1 : ((z : Int) == 0) = true := by rw [beq_iff_eq]; omega
          clear hw hz0
          go_wp2_with fail
          go_ret
          exact ⟨⟨false, rfl, by simpa using unhide HN⟩, (unhide HM2).below⟩
        · have t1 : ((z : Int) == 0) = false := by rw [beq_eq_false_iff_ne]; omega
          have t2 : (s.size : Int) < (p : Int) + (z : Int) := by omega
          clear hw hz0
          go_wp2_with fail
          go_ret
          exact ⟨⟨false, rfl, by simpa using unhide HN⟩, (unhide HM2).below⟩
    · have hpe : ¬ p < s.data.toList.length := by rw [← Lib.size_eq]; exact hp
      obtain ⟨hb1, hb2⟩ := (unhide hP).done hpe
      rw [← Lib.size_eq] at hb1 hb2
      have HB1 := hide hb1
      have HB2 := hide hb2
      have b0 := (unhide hM).begs.cell s.size (Nat.le_refl _)
      have g0 := Row.frozen (unhide hM).begs s.size
      have HM1 := hide ((unhide hM).mark s.size)
      have hmi := unhide HMI
      have hnw : w.heap.size < wr.heap.size := Row.lt (unhide hM).begs
      clear hpe hb1 hb2 hplan hM hP
      go_wp2_with fail
      generalize fset f s.size = F at *
      have HH0 : Hid (HMem w b w.heap.size wr.heap.size s.size (.slice a m cap) s F (fun _ => 0) ((wr.setCell ⟨w.heap.size, s.size, none⟩ (.bool true)).alloc (.cells (madeCells #[.int .i64 0] (s.size + 1)) 3))) := by
        have hms := unhide HM1
        have hsz : (wr.setCell ⟨w.heap.size, s.size, none⟩ (.bool true)).heap.size = wr.heap.size := by simp [World.setCell]
        have hi := IRow.made (wr.setCell ⟨w.heap.size, s.size, none⟩ (.bool true)) s.size
        rw [hsz] at hi
        exact ⟨⟨hms.plan.alloc _, Row.alloc hms.begs _, hms.below.alloc (by rw [hsz]; omega) _, hms.hb, hms.hN⟩, hi, by omega, by omega⟩
      generalize ((wr.setCell ⟨w.heap.size, s.size, none⟩ (.bool true)).alloc (.cells (madeCells #[.int .i64 0] (s.size + 1)) 3)) = V at *
      generalize hMM : wr.heap.size = M at *
      clear HM1 b0 g0 d1 hmi hMM HMI
      go_loopw [8] (fun i wr2 => ∃ (k : Nat) (g : Nat → Int), i = .int .i64 k ∧ 1 ≤ k ∧ k ≤ s.size + 1 ∧ Hid (∀ q, g q = if 1 ≤ q ∧ q < k then -1 else 0) ∧ Hid (HMem w b w.heap.size M s.size (.slice a m cap) s F g wr2)) (fun i _ => s.size + 1 - intN i)
      case atStart => exact ⟨1, fun _ => 0, rfl, Nat.le_refl _, by omega, fun q => (if_neg (by omega)).symm, HH0⟩
      case round =>
        obtain ⟨k, g, rfl, hk1, hkl, hg, hM⟩ := hrel
        by_cases hk : k < s.size + 1
        · have b0 := (unhide hM).his.cell k (by omega)
          have g0 := Row.frozen (unhide hM).his k
          have HM1 := hide ((unhide hM).put k (-1))
          have HG1 : Hid (∀ q, Pl.gset g k (-1) q = if 1 ≤ q ∧ q < k + 1 then -1 else 0) := by
            intro q
            unfold Pl.gset
            rw [unhide hg q]
            by_cases e : q = k
            · rw [if_pos e, if_pos (by omega)]
            · rw [if_neg e]
              by_cases e2 : 1 ≤ q ∧ q < k
              · rw [if_pos e2, if_pos (by omega)]
              · rw [if_neg e2, if_neg (by omega)]
          clear hM hg
          go_wp2_with fail
          go_roundw
          case rel => exact ⟨k + 1, _, by go_num, by omega, by omega, HG1, HM1⟩
          case measure => simp only [intN]; omega
        · have HS0 : Hid (Pl.HiInv s.data.toList m 0 0 0 g (fun _ => none)) := by
            refine Pl.HiInv.start _ _ g (by rw [unhide hg]; exact if_neg (by omega)) (fun q h1 h2 => ?_)
            rw [← Lib.size_eq] at h2
            rw [unhide hg]; exact if_pos (by omega)
          have d1 := (unhide hM).mem.plan.cell 1 (by simp)
          simp only [List.getElem_cons_zero, List.getElem_cons_succ] at d1
          clear hg HH0 HM0 hp hpl c1
          go_wp2_with fail
          go_loopw [4] (fun at_ wr3 => ∃ (p cur h : Nat) (g : Nat → Int) (A : Pl.Aw), at_ = .int .i64 p ∧ p ≤ s.size ∧ Hid (Pl.HiInv s.data.toList m p cur h g A) ∧ Hid (HMem w b w.heap.size M s.size (.slice a m cap) s F g wr3)) (fun at_ _ => s.size - intN at_)
          case atStart => exact ⟨0, 0, 0, g, _, rfl, Nat.zero_le _, HS0, hM⟩
          case round =>
            clear HS0 hM d1
            obtain ⟨p, cur, h, g, A, rfl, hpl, hI, hM⟩ := hrel
            have d1 := (unhide hM).mem.plan.cell 1 (by simp)
            simp only [List.getElem_cons_zero, List.getElem_cons_succ] at d1
            by_cases hp : p < s.size
            · have b0 := (unhide hM).mem.begs.cell p hpl
              cases hF : F p with
              | false =>
                have HS := hide ((unhide hI).skip (fun e => by have := (unhide HB1 p).2 e; rw [hF] at this; cases this))
                rw [hF] at b0
                clear hI
                go_wp2_with fail
                go_roundw
                case rel => exact ⟨p + 1, cur, h, g, A, by go_num, by omega, HS, hM⟩
                case measure => simp only [intN]; omega
              | true =>
                have hbg := (unhide HB1 p).1 hF
                obtain rfl := ((unhide hI).at_ hbg).symm
                obtain ⟨hw, hok⟩ := unhide HB2 p hbg hp
                have HI := hide (unhide hI)
                rw [hF] at b0
                have i0 := (unhide hM).his.cell p hpl
                rw [(unhide hI).here] at i0
                have hh16 := (unhide hI).h16
                have ho := opAt_get s p hp
                have hlt := Pl.opAt_lt s.data.toList p
                have CS := hide (fun w => refSize_any (Pl.opAt s.data.toList p) hlt w)
                have h8 : s[p].toNat < 256 := by rw [← ho]; exact hlt
                have HO := hide ho
                have HW := hide hw
                have HOK := hide hok
                have HP2 : Hid (p < s.data.toList.length) := by show _ < _; rw [← Lib.size_eq]; exact hp
                have hop9 := whole_op' hw
                have hnl : p + Pl.isz (Pl.opAt s.data.toList p) ≤ s.size := by have := hw.2; rw [← Lib.size_eq] at this; exact this
                have hz1 : Pl.isz (Pl.opAt s.data.toList p) ≠ 0 := hw.1
                have HNX : Hid ((Pl.mkIns s.data.toList p).next = p + Pl.isz (Pl.opAt s.data.toList p)) := rfl
                obtain ⟨r, hrr⟩ : ∃ r, r = Pl.rise (Pl.opAt s.data.toList p) h := ⟨_, rfl⟩
                have HRR := hide hrr
                have HFR : Hid (Pl.opAt s.data.toList p = 6 → (Pl.mkIns s.data.toList p).first = Pl.two s.data.toList (p + 1) ∧ Pl.isz (Pl.opAt s.data.toList p) = 3) := by
                  intro e
                  unfold Pl.mkIns
                  rw [e]
                  exact ⟨rfl, rfl⟩
                clear hI hbg hF ho hlt hw hok hrr
                generalize hop : Pl.opAt s.data.toList p = op at *
                have HOP := hide hop
                generalize hz : Pl.isz op = z at *
                have HZ := hide hz
                clear hop hz
                go_wp2_with fail
                rw [← unhide HO]
                refine (unhide CS _).mono ?_
                rintro e w1 ⟨rfl, hb1⟩
                have hM1 := (unhide hM).later hb1
                have d2 := hM1.mem.plan.cell 1 (by simp)
                simp only [List.getElem_cons_zero, List.getElem_cons_succ] at d2
                have i1 := hM1.his.cell (p + z) hnl
                have f1 := Row.frozen hM1.his (p + z)
                have HM1 := hide hM1
                clear hb1 CS hM1 b0 i0 d1 hM
                by_cases ho4 : op ≤ 4
                · have t4 : (op : Int) ≤ 4 := by omega
                  have n6 : op ≠ 6 := by omega
                  have HX : Hid ((r : Int) = (h : Int) + 1) := by
                    show _ = _
                    have := unhide HRR
                    unfold Pl.rise Pl.taken Pl.pushed at this
                    rw [if_neg (by omega), if_neg (by omega), if_pos (by omega)] at this
                    omega
                  have HGJ : Hid (Pl.gjump s.data.toList p h g (Pl.mkIns s.data.toList p).next = g (p + z)) := by
                    show _ = _
                    unfold Pl.gjump; rw [unhide HOP, if_neg n6, unhide HNX]
                  have HSTEP := hide (stepOf (unhide HI) (unhide HP2) (unhide HW) (unhide HOK) (unhide HOP) (unhide HNX) (unhide HRR) n6 (by unfold Pl.taken; rw [if_neg (by omega), if_neg n6]; omega))
                  generalize g (p + z) = y at *
                  by_cases h16 : (16 : Int) < (h : Int) + 1
                  · have HN := hide ((unhide HI).highFails (unhide HP2) (by rw [unhide HOP, ← unhide HRR]; have := unhide HX; omega))
                    go_wp2_with fail
                    go_ret
                    exact ⟨⟨false, rfl, by simpa using unhide HN⟩, (unhide HM1).mem.below⟩
                  · have hr16 : r ≤ 16 := by have := unhide HX; omega
                    by_cases hy0 : 0 ≤ y
                    · by_cases hy1 : y = (h : Int) + 1
                      · have t9 : (y != (h : Int) + 1) = false := by rw [bne_eq_false_iff_eq]; exact hy1
                        have HS := hide (unhide HSTEP hr16 (by rw [unhide HX]; intro e; exact e.2 hy1))
                        rw [unhide HX] at HS
                        have HMo := hide (((unhide HM1).put (p + z) ((h : Int) + 1)))
                        clear hr16
                        go_wp2_with fail
                        go_roundw
                        case rel => exact ⟨p + 1, p + z, r, _, _, by go_num, by omega, HS, HMo⟩
                        case measure => simp only [intN]; omega
                      · have t9 : (y != (h : Int) + 1) = true := by rw [bne_iff_ne]; exact hy1
                        have HN := hide ((unhide HI).nextFails (unhide HP2) (unhide HW) (by rw [unhide HGJ, unhide HOP, ← unhide HRR, unhide HX]; exact ⟨hy0, hy1⟩))
                        clear hy1
                        go_wp2_with fail
                        go_ret
                        exact ⟨⟨false, rfl, by simpa using unhide HN⟩, (unhide HM1).mem.below⟩
                    · have HS := hide (unhide HSTEP hr16 (by rw [unhide HX]; intro e; exact hy0 e.1))
                      rw [unhide HX] at HS
                      have HMo := hide (((unhide HM1).put (p + z) ((h : Int) + 1)))
                      clear hr16
                      go_wp2_with fail
                      go_roundw
                      case rel => exact ⟨p + 1, p + z, r, _, _, by go_num, by omega, HS, HMo⟩
                      case measure => simp only [intN]; omega
                · by_cases ho5 : op = 5
                  · subst ho5
                    by_cases hlow : h < 2
                    · have HN := hide ((unhide HI).lowFails (unhide HP2) (by rw [unhide HOP]; exact hlow))
                      have tl : (h : Int) - 1 < 1 := by omega
                      go_wp2_with fail
                      go_ret
                      exact ⟨⟨false, rfl, by simpa using unhide HN⟩, (unhide HM1).mem.below⟩
                    · have tl : ¬ (h : Int) - 1 < 1 := by omega
                      have n6 : (5 : Nat) ≠ 6 := by decide
                      have HX : Hid ((r : Int) = (h : Int) - 1) := by
                        show _ = _
                        have h0 := unhide HRR
                        have h1 : Pl.rise 5 h = h - 2 + 1 := rfl
                        omega
                      have HGJ : Hid (Pl.gjump s.data.toList p h g (Pl.mkIns s.data.toList p).next = g (p + z)) := by
                        show _ = _
                        unfold Pl.gjump; rw [unhide HOP, if_neg n6, unhide HNX]
                      have HSTEP := hide (stepOf (unhide HI) (unhide HP2) (unhide HW) (unhide HOK) (unhide HOP) (unhide HNX) (unhide HRR) n6 (by show 2 ≤ h; omega))
                      generalize g (p + z) = y at *
                      have h16 : ¬ (16 : Int) < (h : Int) - 1 := by omega
                      have hr16 : r ≤ 16 := by have := unhide HX; omega
                      by_cases hy0 : 0 ≤ y
                      · by_cases hy1 : y = (h : Int) - 1
                        · have t9 : (y != (h : Int) - 1) = false := by rw [bne_eq_false_iff_eq]; exact hy1
                          have HS := hide (unhide HSTEP hr16 (by rw [unhide HX]; intro e; exact e.2 hy1))
                          rw [unhide HX] at HS
                          have HMo := hide (((unhide HM1).put (p + z) ((h : Int) - 1)))
                          clear hr16
                          go_wp2_with fail
                          go_roundw
                          case rel => exact ⟨p + 1, p + z, r, _, _, by go_num, by omega, HS, HMo⟩
                          case measure => simp only [intN]; omega
                        · have t9 : (y != (h : Int) - 1) = true := by rw [bne_iff_ne]; exact hy1
                          have HN := hide ((unhide HI).nextFails (unhide HP2) (unhide HW) (by rw [unhide HGJ, unhide HOP, ← unhide HRR, unhide HX]; exact ⟨hy0, hy1⟩))
                          clear hy1
                          go_wp2_with fail
                          go_ret
                          exact ⟨⟨false, rfl, by simpa using unhide HN⟩, (unhide HM1).mem.below⟩
                      · have HS := hide (unhide HSTEP hr16 (by rw [unhide HX]; intro e; exact hy0 e.1))
                        rw [unhide HX] at HS
                        have HMo := hide (((unhide HM1).put (p + z) ((h : Int) - 1)))
                        clear hr16
                        go_wp2_with fail
                        go_roundw
                        case rel => exact ⟨p + 1, p + z, r, _, _, by go_num, by omega, HS, HMo⟩
                        case measure => simp only [intN]; omega
                  · by_cases ho6 : op = 6
                    · subst ho6
                      obtain ⟨hfst, rfl⟩ := unhide HFR rfl
                      have HTO : Hid ((Pl.mkIns s.data.toList p).next + (Pl.mkIns s.data.toList p).first = p + 3 + Pl.two s.data.toList (p + 1)) := by show _ = _; rw [unhide HNX, hfst]
                      have C6 : Hid (∀ w, Calls Try.prog 26 #[.string s, .int .i64 ((p : Int) + 1)] w fun e w' => e = .returned (.int .i64 (Pl.two s.data.toList (p + 1) : Nat)) ∧ w.drew = w') := fun w => refTwo_any s (p + 1) w (by omega) hs
                      have htl := Pl.two_lt s.data.toList (p + 1)
                      generalize Pl.two s.data.toList (p + 1) = tw at *
                      have htw : tw ≤ 65535 := by omega
                      clear hfst htl
                      go_wp2_with fail
                      refine (unhide C6 _).mono ?_
                      rintro e w2 ⟨rfl, rfl⟩
                      have HM2 : Hid (HMem w b w.heap.size M s.size (.slice a m cap) s F g w1.drew) := (unhide HM1).later (Below.refl _ _).drew
                      clear C6
                      by_cases hlow : h < 1
                      · have HN := hide ((unhide HI).lowFails (unhide HP2) (by rw [unhide HOP]; exact hlow))
                        have tl : (h : Int) - 1 < 0 := by omega
                        go_wp2_with fail
                        go_ret
                        exact ⟨⟨false, rfl, by simpa using unhide HN⟩, (unhide HM2).mem.below⟩
                      · have tl : ¬ (h : Int) - 1 < 0 := by omega
                        by_cases hto : p + 3 + tw ≤ s.size
                        · have tt : ¬ (s.size : Int) < (p : Int) + 3 + (tw : Int) := by omega
                          have b6 := (unhide HM2).mem.begs.cell (p + 3 + tw) hto
                          cases hF : F (p + 3 + tw) with
                          | false =>
                            have HN := hide ((unhide HI).farFails (unhide HP2) (unhide HOP) (by rw [unhide HTO]; intro e; have := (unhide HB1 _).2 e; rw [hF] at this; cases this))
                            rw [hF] at b6
                            clear hF
                            go_wp2_with fail
                            go_ret
                            exact ⟨⟨false, rfl, by simpa using unhide HN⟩, (unhide HM2).mem.below⟩
                          | true =>
                            have HBT := hide ((unhide HB1 _).1 hF)
                            rw [hF] at b6
                            have i6 := (unhide HM2).his.cell (p + 3 + tw) hto
                            have f6 := Row.frozen (unhide HM2).his (p + 3 + tw)
                            have HX : Hid ((r : Int) = (h : Int) - 1) := by
                              show _ = _
                              have h0 := unhide HRR
                              have h1 : Pl.rise 6 h = h - 1 + 0 := rfl
                              omega
                            have HM3 := hide ((unhide HM1).put (p + 3 + tw) ((h : Int) - 1))
                            have i7 := (unhide HM3).his.cell (p + 3) hnl
                            have f7 := Row.frozen (unhide HM3).his (p + 3)
                            have HGJ : Hid (Pl.gjump s.data.toList p h g (Pl.mkIns s.data.toList p).next = Pl.gset g (p + 3 + tw) ((h : Int) - 1) (p + 3)) := by
                              show _ = _
                              unfold Pl.gjump; rw [unhide HOP, if_pos rfl, unhide HTO, unhide HNX, ← unhide HRR, unhide HX]
                            have HSTEP : Hid (¬ (0 ≤ g (p + 3 + tw) ∧ g (p + 3 + tw) ≠ (r : Int)) → r ≤ 16 → ¬ (0 ≤ Pl.gset g (p + 3 + tw) ((h : Int) - 1) (p + 3) ∧ Pl.gset g (p + 3 + tw) ((h : Int) - 1) (p + 3) ≠ (r : Int)) →
                                Pl.HiInv s.data.toList m (p + 1) (p + 3) r (Pl.gset (Pl.gset g (p + 3 + tw) ((h : Int) - 1)) (p + 3) (r : Int)) (Pl.del (Pl.onward A (Pl.mkIns s.data.toList p) h) (p + 3))) := by
                              rw [← unhide HX]
                              exact stepOf6 (unhide HI) (unhide HP2) (unhide HW) (unhide HOK) (unhide HOP) (unhide HNX) (unhide HTO) (unhide HRR) (by omega) (unhide HBT)
                            have HTF : Hid (0 ≤ g (p + 3 + tw) ∧ g (p + 3 + tw) ≠ (r : Int) → ¬ Pl.Spec s.data.toList m 0 0 (fun _ => none)) := by
                              intro e
                              refine (unhide HI).toFails (unhide HP2) (unhide HOP) (by rw [unhide HTO, ← Lib.size_eq]; exact hto) ?_
                              rw [unhide HTO, unhide HOP, ← unhide HRR]; exact e
                            clear hF
                            generalize hy : Pl.gset g (p + 3 + tw) ((h : Int) - 1) (p + 3) = y at *
                            clear hy
                            generalize g (p + 3 + tw) = x at *
                            by_cases hx0 : 0 ≤ x
                            · by_cases hx1 : x = (h : Int) - 1
                              · have tx : (x != (h : Int) - 1) = false := by rw [bne_eq_false_iff_eq]; exact hx1
                                have HSTEP2 := hide (unhide HSTEP (by rw [unhide HX]; intro e; exact e.2 hx1))
                                clear HSTEP HTF hx1
                                have h16 : ¬ (16 : Int) < (h : Int) - 1 := by omega
                                have hr16 : r ≤ 16 := by have := unhide HX; omega
                                by_cases hy0 : 0 ≤ y
                                · by_cases hy1 : y = (h : Int) - 1
                                  · have t9 : (y != (h : Int) - 1) = false := by rw [bne_eq_false_iff_eq]; exact hy1
                                    have HS := hide (unhide HSTEP2 hr16 (by rw [unhide HX]; intro e; exact e.2 hy1))
                                    rw [unhide HX] at HS
                                    have HMo := hide (((unhide HM3).put (p + 3) ((h : Int) - 1)).drew)
                                    clear hr16
                                    go_wp2_with fail
                                    go_roundw
                                    case rel => exact ⟨p + 1, p + 3, r, _, _, by go_num, by omega, HS, HMo⟩
                                    case measure => simp only [intN]; omega
                                  · have t9 : (y != (h : Int) - 1) = true := by rw [bne_iff_ne]; exact hy1
                                    have HN := hide ((unhide HI).nextFails (unhide HP2) (unhide HW) (by rw [unhide HGJ, unhide HOP, ← unhide HRR, unhide HX]; exact ⟨hy0, hy1⟩))
                                    clear hy1
                                    go_wp2_with fail
                                    go_ret
                                    exact ⟨⟨false, rfl, by simpa using unhide HN⟩, (unhide HM3).mem.below.drew⟩
                                · have HS := hide (unhide HSTEP2 hr16 (by rw [unhide HX]; intro e; exact hy0 e.1))
                                  rw [unhide HX] at HS
                                  have HMo := hide (((unhide HM3).put (p + 3) ((h : Int) - 1)).drew)
                                  clear hr16
                                  go_wp2_with fail
                                  go_roundw
                                  case rel => exact ⟨p + 1, p + 3, r, _, _, by go_num, by omega, HS, HMo⟩
                                  case measure => simp only [intN]; omega
                              · have tx : (x != (h : Int) - 1) = true := by rw [bne_iff_ne]; exact hx1
                                have HN := hide (unhide HTF (by rw [unhide HX]; exact ⟨hx0, hx1⟩))
                                clear HSTEP HTF hx1
                                go_wp2_with fail
                                go_ret
                                exact ⟨⟨false, rfl, by simpa using unhide HN⟩, (unhide HM2).mem.below⟩
                            · have HSTEP2 := hide (unhide HSTEP (by rw [unhide HX]; intro e; exact hx0 e.1))
                              clear HSTEP HTF
                              have h16 : ¬ (16 : Int) < (h : Int) - 1 := by omega
                              have hr16 : r ≤ 16 := by have := unhide HX; omega
                              by_cases hy0 : 0 ≤ y
                              · by_cases hy1 : y = (h : Int) - 1
                                · have t9 : (y != (h : Int) - 1) = false := by rw [bne_eq_false_iff_eq]; exact hy1
                                  have HS := hide (unhide HSTEP2 hr16 (by rw [unhide HX]; intro e; exact e.2 hy1))
                                  rw [unhide HX] at HS
                                  have HMo := hide (((unhide HM3).put (p + 3) ((h : Int) - 1)).drew)
                                  clear hr16
                                  go_wp2_with fail
                                  go_roundw
                                  case rel => exact ⟨p + 1, p + 3, r, _, _, by go_num, by omega, HS, HMo⟩
                                  case measure => simp only [intN]; omega
                                · have t9 : (y != (h : Int) - 1) = true := by rw [bne_iff_ne]; exact hy1
                                  have HN := hide ((unhide HI).nextFails (unhide HP2) (unhide HW) (by rw [unhide HGJ, unhide HOP, ← unhide HRR, unhide HX]; exact ⟨hy0, hy1⟩))
                                  clear hy1
                                  go_wp2_with fail
                                  go_ret
                                  exact ⟨⟨false, rfl, by simpa using unhide HN⟩, (unhide HM3).mem.below.drew⟩
                              · have HS := hide (unhide HSTEP2 hr16 (by rw [unhide HX]; intro e; exact hy0 e.1))
                                rw [unhide HX] at HS
                                have HMo := hide (((unhide HM3).put (p + 3) ((h : Int) - 1)).drew)
                                clear hr16
                                go_wp2_with fail
                                go_roundw
                                case rel => exact ⟨p + 1, p + 3, r, _, _, by go_num, by omega, HS, HMo⟩
                                case measure => simp only [intN]; omega
                        · have tt : (s.size : Int) < (p : Int) + 3 + (tw : Int) := by omega
                          have HN := hide ((unhide HI).farFails (unhide HP2) (unhide HOP) (by rw [unhide HTO]; intro e; have := e.le; rw [← Lib.size_eq] at this; omega))
                          go_wp2_with fail
                          go_ret
                          exact ⟨⟨false, rfl, by simpa using unhide HN⟩, (unhide HM2).mem.below⟩
                    · have t4 : ¬ (op : Int) ≤ 4 := by omega
                      have t5 : ((op : Int) == 5) = false := by rw [beq_eq_false_iff_ne]; omega
                      have t6 : ((op : Int) == 6) = false := by rw [beq_eq_false_iff_ne]; omega
                      have n6 : op ≠ 6 := ho6
                      have HX : Hid ((r : Int) = (h : Int)) := by
                        show _ = _
                        have := unhide HRR
                        unfold Pl.rise Pl.taken Pl.pushed at this
                        rw [if_neg (by omega), if_neg (by omega), if_neg (by omega)] at this
                        omega
                      have HGJ : Hid (Pl.gjump s.data.toList p h g (Pl.mkIns s.data.toList p).next = g (p + z)) := by
                        show _ = _
                        unfold Pl.gjump; rw [unhide HOP, if_neg n6, unhide HNX]
                      have HSTEP := hide (stepOf (unhide HI) (unhide HP2) (unhide HW) (unhide HOK) (unhide HOP) (unhide HNX) (unhide HRR) n6 (by unfold Pl.taken; rw [if_neg (by omega), if_neg n6]; omega))
                      generalize g (p + z) = y at *
                      have h16 : ¬ (16 : Int) < (h : Int) := by omega
                      have hr16 : r ≤ 16 := by have := unhide HX; omega
                      by_cases hy0 : 0 ≤ y
                      · by_cases hy1 : y = (h : Int)
                        · have t9 : (y != (h : Int)) = false := by rw [bne_eq_false_iff_eq]; exact hy1
                          have HS := hide (unhide HSTEP hr16 (by rw [unhide HX]; intro e; exact e.2 hy1))
                          rw [unhide HX] at HS
                          have HMo := hide (((unhide HM1).put (p + z) ((h : Int))))
                          clear hr16
                          go_wp2_with fail
                          go_roundw
                          case rel => exact ⟨p + 1, p + z, r, _, _, by go_num, by omega, HS, HMo⟩
                          case measure => simp only [intN]; omega
                        · have t9 : (y != (h : Int)) = true := by rw [bne_iff_ne]; exact hy1
                          have HN := hide ((unhide HI).nextFails (unhide HP2) (unhide HW) (by rw [unhide HGJ, unhide HOP, ← unhide HRR, unhide HX]; exact ⟨hy0, hy1⟩))
                          clear hy1
                          go_wp2_with fail
                          go_ret
                          exact ⟨⟨false, rfl, by simpa using unhide HN⟩, (unhide HM1).mem.below⟩
                      · have HS := hide (unhide HSTEP hr16 (by rw [unhide HX]; intro e; exact hy0 e.1))
                        rw [unhide HX] at HS
                        have HMo := hide (((unhide HM1).put (p + z) ((h : Int))))
                        clear hr16
                        go_wp2_with fail
                        go_roundw
                        case rel => exact ⟨p + 1, p + z, r, _, _, by go_num, by omega, HS, HMo⟩
                        case measure => simp only [intN]; omega
            · have HD := hide ((unhide hI).done (by rw [← Lib.size_eq]; exact hp))
              have i0 := (unhide hM).his.cell s.size (Nat.le_refl _)
              rw [show g s.size = (h : Int) from by have := (unhide HD).1; rw [← Lib.size_eq] at this; exact this] at i0
              clear hI
              go_wp2_with fail
              go_ret
              refine ⟨⟨_, rfl, ?_⟩, (unhide hM).mem.below⟩
              rw [(unhide HD).2, beq_iff_eq]
              omega
end Go.Proofs.Ytjelacjggijmfaa
