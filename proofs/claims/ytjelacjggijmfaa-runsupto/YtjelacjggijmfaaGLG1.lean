/-
  The law's own: files as the program wants them, with spare room in which marks stand.
  The law's own: files that were handed in are as they were, their spare room too.
-/
import Derived.Test.YtjelacjggijmfaaGRB
namespace Go.Proofs.Ytjelacjggijmfaa
open Go.RowKit

theorem Try.infoAFile : (Try.prog.info? 61).map (fun i => (i.zero, i.size, i.bytes)) = some (some (.agg #[.string ⟨#[]⟩, .string ⟨#[]⟩, .int .i64 0]), 3, 40) := by kernel_rfl
def zf : Pl.File := ⟨[], [], 0⟩
def callers : Pl.Bs := [116, 104, 101, 32, 99, 97, 108, 108, 101, 114, 39, 115]
def spareF (n : Nat) : List Pl.File := (List.range 8).map fun j => ⟨callers, [], ((n + j : Nat) : Int)⟩
theorem made_files (n : Nat) : madeCells (Value.agg #[.string ⟨#[]⟩, .string ⟨#[]⟩, .int .i64 0]).cells (n * 3) = (filesC (List.replicate n zf)).toArray := by
  have hlen := filesC_length (List.replicate n zf)
  rw [List.length_replicate] at hlen
  apply Array.ext
  · rw [size_madeCells]; simp [hlen]
  · intro i h1 h2
    rw [size_madeCells] at h1
    have hq : i / 3 < n := by omega
    obtain ⟨k0, k1, k2⟩ := filesC_get (List.replicate n zf) (i / 3) (by simpa using hq)
    simp only [List.getElem_replicate] at k0 k1 k2
    have hr : i % 3 = 0 ∨ i % 3 = 1 ∨ i % 3 = 2 := by omega
    have hget : ∀ v, (filesC (List.replicate n zf))[i]? = some v → (filesC (List.replicate n zf)).toArray[i] = v := fun v hv => by
      simp only [List.getElem_toArray]
      exact (List.getElem?_eq_some_iff.1 hv).2
    have hm : (madeCells (Value.agg #[.string ⟨#[]⟩, .string ⟨#[]⟩, .int .i64 0]).cells (n * 3))[i]'(by rw [size_madeCells]; exact h1) = (#[Value.string ⟨#[]⟩, .string ⟨#[]⟩, .int .i64 0])[i % 3]! := by
      simp [madeCells, Value.cells]
    rcases hr with hr | hr | hr
    · rw [hget _ (show _ = some (strV zf.path) from by rw [← k0]; congr 1; omega)]
      rw [hm, hr]; rfl
    · rw [hget _ (show _ = some (strV zf.text) from by rw [← k1]; congr 1; omega)]
      rw [hm, hr]; rfl
    · rw [hget _ (show _ = some (.int .i64 zf.time) from by rw [← k2]; congr 1; omega)]
      rw [hm, hr]; rfl
/-- A block that holds files. -/
def CR (w : World) (N : Nat) (t : TypeId) (fs : List Pl.File) : Prop := Row w N t (filesC fs)
def setF (w : World) (N k : Nat) (f : Pl.File) : World := ((w.setCell ⟨N, k * 3, none⟩ (strV f.path)).setCell ⟨N, k * 3 + 1, none⟩ (strV f.text)).setCell ⟨N, k * 3 + 2, none⟩ (.int .i64 f.time)
theorem CR.set {w : World} {N : Nat} {t : TypeId} {fs : List Pl.File} (h : CR w N t fs) (k : Nat) (hk : k < fs.length) (f : Pl.File) : CR (setF w N k f) N t (fs.set k f) := by
  unfold CR setF
  rw [← filesC_set fs f k hk]
  exact ((Row.set h _ _).set _ _).set _ _
theorem CR.cells {w : World} {N : Nat} {t : TypeId} {fs : List Pl.File} (h : CR w N t fs) (k : Nat) (hk : k < fs.length) :
    w.cell? ⟨N, k * 3, none⟩ = some (strV fs[k].path) ∧ w.cell? ⟨N, k * 3 + 1, none⟩ = some (strV fs[k].text) ∧ w.cell? ⟨N, k * 3 + 2, none⟩ = some (.int .i64 fs[k].time) := by
  obtain ⟨k0, k1, k2⟩ := filesC_get fs k hk
  obtain ⟨h0, e0⟩ := List.getElem?_eq_some_iff.1 k0
  obtain ⟨h1, e1⟩ := List.getElem?_eq_some_iff.1 k1
  obtain ⟨h2, e2⟩ := List.getElem?_eq_some_iff.1 k2
  exact ⟨by rw [← e0]; exact Row.cell h _ h0, by rw [← e1]; exact Row.cell h _ h1, by rw [← e2]; exact Row.cell h _ h2⟩
theorem CR.drew {w : World} {N : Nat} {t : TypeId} {fs : List Pl.File} (h : CR w N t fs) : CR w.drew N t fs := h
theorem CR.cells3 {w : World} {N : Nat} {t : TypeId} {fs : List Pl.File} (h : CR w N t fs) (k : Nat) (hk : k < fs.length) : ∃ v0 v1 v2, w.cell? ⟨N, k * 3, none⟩ = some v0 ∧ w.cell? ⟨N, k * 3 + 1, none⟩ = some v1 ∧ w.cell? ⟨N, k * 3 + 2, none⟩ = some v2 := ⟨_, _, _, h.cells k hk⟩
theorem CR.rd {w : World} {N : Nat} {t : TypeId} {fs : List Pl.File} (h : CR w N t fs) : RdF w N 0 fs := fun i hi => by
  have := h.cells i hi
  simpa using this
/-- How far the list has come. -/
def upTo (T : List Pl.File) (k : Nat) : List Pl.File := T.take k ++ List.replicate (T.length - k) zf
theorem upTo_len (T : List Pl.File) (k : Nat) (h : k ≤ T.length) : (upTo T k).length = T.length := by simp [upTo]; omega
theorem upTo_set (T : List Pl.File) (k : Nat) (h : k < T.length) : (upTo T k).set k T[k] = upTo T (k + 1) := by
  unfold upTo
  have hl : (T.take k).length = k := by simp; omega
  rw [List.set_append_right _ _ (by omega), hl, Nat.sub_self, List.take_succ_eq_append_getElem h, show T.length - k = (T.length - (k + 1)) + 1 from by omega, List.replicate_succ, List.set_cons_zero, List.append_assoc]
  rfl
theorem set_set (l : List Pl.File) (k : Nat) (f g : Pl.File) : (l.set k f).set k g = l.set k g := List.set_set _
structure GivenM (w : World) (T : List Pl.File) (k : Nat) (W : World) : Prop where
  row : CR W w.heap.size 61 (upTo T k)
  below : Below w.heap.size w W
theorem below_setF {w W : World} {N : Nat} (h : Below N w W) (k : Nat) (f : Pl.File) : Below N w (setF W N k f) :=
  ((h.setCell (p := ⟨N, _, none⟩) (Nat.le_refl _) _).setCell (p := ⟨N, _, none⟩) (Nat.le_refl _) _).setCell (p := ⟨N, _, none⟩) (Nat.le_refl _) _
theorem spare_at (fs : List Pl.File) (k : Nat) (h1 : fs.length ≤ k) (h2 : k < fs.length + 8) (h : k < (fs ++ spareF fs.length).length) : (fs ++ spareF fs.length)[k] = ⟨callers, [], (k : Int)⟩ := by
  rw [List.getElem_append_right h1]
  simp only [spareF, List.getElem_map, List.getElem_range]
  congr 1
  omega
set_option maxHeartbeats 2000000 in
set_option maxRecDepth 20000 in
theorem given_any (fs : List Pl.File) (a : Option Addr) (cap b o : Nat) (w : World) (ha : 0 < fs.length → a = some ⟨b, o, none⟩) (hr : RdF w b o fs) (hbw : b < w.heap.size) (hl : fs.length ≤ 1048576) :
    Calls Try.prog 9 #[.slice a fs.length cap] w fun e w' => e = .returned (.slice (some ⟨w.heap.size, 0, none⟩) fs.length (fs.length + 8)) ∧ CR w' w.heap.size 61 (fs ++ spareF fs.length) ∧ Below w.heap.size w w' := by
  obtain ⟨i0, hi, hz0, hz1, hz2⟩ := info_parts Try.infoAFile
  have hmk : ∀ w, (Instr.makeSlice 30 (.int .i64 ((fs.length : Int) + 8)) (.int .i64 ((fs.length : Int) + 8))).run Try.prog w = .ok (.slice (some ⟨w.heap.size, 0, none⟩) (fs.length + 8) (fs.length + 8)) (w.alloc (.cells (filesC (List.replicate (fs.length + 8) zf)).toArray 61)) := by
    intro w
    have := run_make (P := Try.prog) w 30 61 i0 _ Try.underlying30 hi hz0 .i64 .i64 ((fs.length + 8 : Nat) : Int) ((fs.length + 8 : Nat) : Int) (by omega) (Int.le_refl _) (by rw [hz2]; omega) (by omega)
    rw [hz1, Int.toNat_natCast, made_files] at this
    exact this
  have HR := hide hr
  have HAA := hide ha
  have hTl : (fs ++ spareF fs.length).length = fs.length + 8 := by simp [spareF]
  have HT1 : Hid (∀ k, fs.length ≤ k → k < fs.length + 8 → ∀ h : k < (fs ++ spareF fs.length).length, (fs ++ spareF fs.length)[k] = ⟨callers, [], (k : Int)⟩) := fun k h1 h2 h => spare_at fs k h1 h2 h
  have HT2 : Hid (∀ k (h : k < fs.length) (h' : k < (fs ++ spareF fs.length).length), (fs ++ spareF fs.length)[k] = fs[k]) := fun k h h' => List.getElem_append_left h
  generalize hT : fs ++ spareF fs.length = T at *
  have HW0 : Hid (GivenM w T 0 (w.alloc (.cells (filesC (List.replicate (fs.length + 8) zf)).toArray 61))) := by
    refine ⟨?_, (Below.refl _ w).alloc (Nat.le_refl _) _⟩
    unfold CR upTo
    rw [List.take_zero, List.nil_append, hTl, Nat.sub_zero]
    exact Row.new w 61 _
  have HTL := hide hTl
  clear hr ha hi hz0 hz1 hz2 hT hTl
  go_enter Try.func9, Try.ntmps9
  go_wp2_with fail
  clear hmk
  go_loopw [4] (fun i wr => ∃ k : Nat, i = .int .i64 k ∧ k ≤ fs.length + 8 ∧ Hid (GivenM w T k wr)) (fun i _ => fs.length + 8 - intN i)
  case atStart => exact ⟨0, rfl, Nat.zero_le _, HW0⟩
  case round =>
    clear HW0
    obtain ⟨k, rfl, hkl, hM⟩ := hrel
    by_cases hk8 : k < fs.length + 8
    · have hkT : k < T.length := by rw [unhide HTL]; exact hk8
      have hul := upTo_len T k (Nat.le_of_lt hkT)
      obtain ⟨v0, v1, v2, c0, c1, c2⟩ := (unhide hM).row.cells3 k (by omega)
      have f0 := Row.frozen (unhide hM).row (k * 3)
      have f1 := Row.frozen (unhide hM).row (k * 3 + 1)
      have f2 := Row.frozen (unhide hM).row (k * 3 + 2)
      have HR1 := hide ((unhide hM).row.set k (by omega) ⟨callers, [], (k : Int)⟩)
      have HB1 := hide (below_setF (unhide hM).below k ⟨callers, [], (k : Int)⟩)
      have HST := hide (upTo_set T k hkT)
      by_cases hk : k < fs.length
      · obtain rfl := unhide HAA (by omega)
        have HFK := hide (unhide HT2 k hk hkT)
        have hrd1 := (unhide HR).below (unhide HB1) hbw
        obtain ⟨p0, p1, p2⟩ := hrd1 k hk
        have hul2 : ((upTo T k).set k ⟨callers, [], (k : Int)⟩).length = T.length := by simp [hul]
        obtain ⟨y0, y1, y2, d0, d1, d2⟩ := (unhide HR1).cells3 k (by omega)
        have g0 := Row.frozen (unhide HR1) (k * 3)
        have g1 := Row.frozen (unhide HR1) (k * 3 + 1)
        have g2 := Row.frozen (unhide HR1) (k * 3 + 2)
        have HR2 : Hid (CR (setF (setF wr w.heap.size k ⟨callers, [], (k : Int)⟩) w.heap.size k fs[k]) w.heap.size 61 (upTo T (k + 1))) := by
          have := (unhide HR1).set k (by omega) fs[k]
          rw [set_set] at this
          rw [← unhide HST, unhide HFK]; exact this
        have HB2 := hide (below_setF (unhide HB1) k fs[k])
        have t1 : (k : Int) < (fs.length : Int) := by omega
        have t8 : (k : Int) < (fs.length : Int) + 8 := by omega
        generalize fs[k] = fk at *
        unfold setF strV callers at *
        clear hrd1 hul hul2 HR1 HB1 hM HFK HT1 HT2
        simp only at *
        go_wp2_with fail
        generalize (((wr.setCell ⟨w.heap.size, k * 3, none⟩ (.string ⟨#[116, 104, 101, 32, 99, 97, 108, 108, 101, 114, 39, 115]⟩)).setCell ⟨w.heap.size, k * 3 + 1, none⟩ (.string ⟨#[]⟩)).setCell ⟨w.heap.size, k * 3 + 2, none⟩ (.int .i64 (k : Int))) = W1 at *
        clear c0 c1 c2 f0 f1 f2
        go_region
        all_goals go_wp2_with fail
        all_goals go_roundw
        all_goals first
          | exact ⟨k + 1, by go_num, by omega, (unhide HR2).drew, (unhide HB2).drew⟩
          | (simp only [intN]; omega)
      · have HFK := hide (unhide HT1 k (by omega) hk8 hkT)
        have t1 : ¬ (k : Int) < (fs.length : Int) := by omega
        have t8 : (k : Int) < (fs.length : Int) + 8 := by omega
        have HR2 : Hid (CR (setF wr w.heap.size k ⟨callers, [], (k : Int)⟩) w.heap.size 61 (upTo T (k + 1))) := by
          rw [← unhide HST, unhide HFK]; exact unhide HR1
        unfold setF strV callers at *
        clear hul HR1 hM HFK HT1 HT2
        simp only at *
        go_wp2_with fail
        go_roundw
        case rel => exact ⟨k + 1, by go_num, by omega, unhide HR2, unhide HB1⟩
        case measure => simp only [intN]; omega
    · have hkt : upTo T k = T := by
        unfold upTo
        rw [List.take_of_length_le (by rw [unhide HTL]; omega), show T.length - k = 0 from by rw [unhide HTL]; omega]; simp
      have HRT := (unhide hM).row
      rw [hkt] at HRT
      have HR2 := hide HRT
      have t8 : ¬ (k : Int) < (fs.length : Int) + 8 := by omega
      clear hkt HRT HT1 HT2
      go_wp2_with fail
      go_ret
      exact ⟨rfl, unhide HR2, (unhide hM).below⟩
end Go.Proofs.Ytjelacjggijmfaa
namespace Go.Proofs.Ytjelacjggijmfaa
open Go.RowKit

theorem CR.below {w w' : World} {N n : Nat} {t : TypeId} {fs : List Pl.File} (h : CR w N t fs) (hb : Below n w w') (hn : N < n) : CR w' N t fs := Row.below h hb hn
set_option maxHeartbeats 2000000 in
set_option maxRecDepth 20000 in
theorem still_any (fs : List Pl.File) (a : Option Addr) (cap b o N : Nat) (w : World) (ha : 0 < fs.length → a = some ⟨b, o, none⟩) (hr : RdF w b o fs) (hbw : b < w.heap.size) (hl : fs.length ≤ 1048576) (hC : CR w N 61 (fs ++ spareF fs.length)) :
    Calls Try.prog 16 #[.slice (some ⟨N, 0, none⟩) fs.length (fs.length + 8), .slice a fs.length cap] w fun e w' => e = .returned (.bool true) ∧ Below w.heap.size w w' := by
  have HR := hide hr
  have HAA := hide ha
  have HC := hide hC
  have hNw := Row.lt hC
  have hTl : (fs ++ spareF fs.length).length = fs.length + 8 := by simp [spareF]
  have HT1 : Hid (∀ k, fs.length ≤ k → k < fs.length + 8 → ∀ h : k < (fs ++ spareF fs.length).length, (fs ++ spareF fs.length)[k] = ⟨callers, [], (k : Int)⟩) := fun k h1 h2 h => spare_at fs k h1 h2 h
  have HT2 : Hid (∀ k (h : k < fs.length) (h' : k < (fs ++ spareF fs.length).length), (fs ++ spareF fs.length)[k] = fs[k]) := fun k h h' => List.getElem_append_left h
  generalize hT : fs ++ spareF fs.length = T at *
  have HTL := hide hTl
  clear hr ha hT hTl hC
  go_enter Try.func16, Try.ntmps16
  go_wp2_with fail
  go_loopw [6] (fun i wr => ∃ k : Nat, i = .int .i64 k ∧ k ≤ fs.length + 8 ∧ Hid (Below w.heap.size w wr)) (fun i _ => fs.length + 8 - intN i)
  case atStart => exact ⟨0, rfl, Nat.zero_le _, Below.refl _ _⟩
  case round =>
    obtain ⟨k, rfl, hkl, hb⟩ := hrel
    by_cases hk8 : k < fs.length + 8
    · have hkT : k < T.length := by rw [unhide HTL]; exact hk8
      have hC1 := (unhide HC).below (unhide hb) hNw
      obtain ⟨c0, c1, c2⟩ := hC1.cells k hkT
      have hsz := (unhide hb).size
      have hNr : N < wr.heap.size := by omega
      have hbr : b < wr.heap.size := by omega
      have t8 : (k : Int) < (fs.length : Int) + 8 := by omega
      have HB1 : ∀ o, Hid (Below w.heap.size w (wr.alloc o)) := fun o => (unhide hb).alloc hsz o
      by_cases hk : k < fs.length
      · obtain rfl := unhide HAA (by omega)
        rw [unhide HT2 k hk hkT] at c0 c1 c2
        obtain ⟨p0, p1, p2⟩ := (unhide HR).below (unhide hb) hbw k hk
        have t1 : (k : Int) < (fs.length : Int) := by omega
        generalize fs[k] = fk at *
        unfold strV at *
        clear hC1 HT1 HT2
        go_wp2_with fail
        go_region
        all_goals go_wp2_with fail
        all_goals go_quiet (fail)
        all_goals go_wp2_with fail
        all_goals go_roundw
        all_goals first
          | exact ⟨k + 1, by go_num, by omega, Below.drewN (unhide (HB1 _)) _⟩
          | (simp only [intN]; omega)
      · rw [unhide HT1 k (by omega) hk8 hkT] at c0 c1 c2
        have t1 : ¬ (k : Int) < (fs.length : Int) := by omega
        unfold strV callers at *
        clear hC1 HT1 HT2
        simp only at c0 c1 c2
        go_wp2_with fail
        go_quiet (fail)
        go_wp2_with fail
        all_goals go_roundw
        all_goals first
          | exact ⟨k + 1, by go_num, by omega, Below.drewN (unhide (HB1 _)) _⟩
          | (simp only [intN]; omega)
    · have t8 : ¬ (k : Int) < (fs.length : Int) + 8 := by omega
      clear HT1 HT2
      go_wp2_with fail
      go_ret
      exact ⟨rfl, unhide hb⟩
end Go.Proofs.Ytjelacjggijmfaa
