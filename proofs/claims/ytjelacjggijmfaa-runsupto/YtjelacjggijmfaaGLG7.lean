/-
  The law's own: effects as the program wants them.
-/
import Derived.Test.YtjelacjggijmfaaGLG5
namespace Go.Proofs.Ytjelacjggijmfaa
open Go.RowKit

set_option maxHeartbeats 4000000 in
set_option maxRecDepth 20000 in
theorem effects_any (ef : List Pl.Eff) (a : Option Addr) (cap L b o : Nat) (w : World) (ha : 0 < ef.length → a = some ⟨b, o, none⟩) (hE : RdE w L b o ef) (hL : L ≤ w.heap.size) (hl : ef.length ≤ 1048576) (hwl : ∀ e ∈ ef, e.writes.length ≤ 1048576) :
    Calls Try.prog 10 #[.slice a ef.length cap] w fun e w' => e = .returned (.slice (some ⟨w.heap.size, 0, none⟩) ef.length (ef.length + 8)) ∧ EffM w.heap.size ef (ef.length + 8) w' ∧ Below w.heap.size w w' := by
  obtain ⟨i0, hi, hz0, hz1, hz2⟩ := info_parts Try.infoAEff
  have hmk : ∀ w, (Instr.makeSlice 32 (.int .i64 ((ef.length : Int) + 8)) (.int .i64 ((ef.length : Int) + 8))).run Try.prog w = .ok (.slice (some ⟨w.heap.size, 0, none⟩) (ef.length + 8) (ef.length + 8)) (w.alloc (.cells (hdsC (List.replicate (ef.length + 8) zh)).toArray 64)) := by
    intro w
    have := run_make (P := Try.prog) w 32 64 i0 _ Try.underlying32 hi hz0 .i64 .i64 ((ef.length + 8 : Nat) : Int) ((ef.length + 8 : Nat) : Int) (by omega) (Int.le_refl _) (by rw [hz2]; omega) (by omega)
    rw [hz1, Int.toNat_natCast, made_hds] at this
    exact this
  have HE := hide hE
  have HAA := hide ha
  have HWL := hide hwl
  have HM0 := hide (EffM.first w ef)
  have HB0 := hide ((Below.refl _ w).alloc (Nat.le_refl _) (.cells (hdsC (List.replicate (ef.length + 8) zh)).toArray 64))
  have hbL := hE.1
  clear hE ha hi hz0 hz1 hz2 hwl
  go_enter Try.func10, Try.ntmps10
  go_wp2_with fail
  clear hmk
  generalize w.alloc (.cells (hdsC (List.replicate (ef.length + 8) zh)).toArray 64) = W0 at *
  go_loopw [4] (fun i wr => ∃ k : Nat, i = .int .i64 k ∧ k ≤ ef.length + 8 ∧ Hid (EffM w.heap.size ef k wr) ∧ Hid (Below w.heap.size w wr)) (fun i _ => ef.length + 8 - intN i)
  case atStart => exact ⟨0, rfl, Nat.zero_le _, HM0, HB0⟩
  case round =>
    clear HM0 HB0
    obtain ⟨k, rfl, hkl, hM, hB⟩ := hrel
    by_cases hk8 : k < ef.length + 8
    · obtain ⟨⟨v0, v1, v2, c0, c1, c2⟩, hfz⟩ := (unhide hM).cells k hk8
      have f0 := hfz (k * 3)
      have f1 := hfz (k * 3 + 1)
      have f2 := hfz (k * 3 + 2)
      have t8 : (k : Int) < (ef.length : Int) + 8 := by omega
      have HM1 := hide ((unhide hM).pre hk8 spareH)
      have HB1 := hide (below_setH (unhide hB) k spareH)
      by_cases hk : k < ef.length
      · obtain rfl := unhide HAA (by omega)
        have t1 : (k : Int) < (ef.length : Int) := by omega
        have hkm : ef[k] ∈ ef := List.getElem_mem hk
        have hwk := unhide HWL ef[k] hkm
        have HOF : Hid (∀ W g, w.heap.size < g → CR W g 61 (ef[k].writes ++ spareF ef[k].writes.length) → HdOf W w.heap.size ef k ⟨ef[k].cmd, .slice (some ⟨g, 0, none⟩) ef[k].writes.length (ef[k].writes.length + 8), ef[k].exit⟩) :=
          fun W g h1 h2 => ⟨fun _ => ⟨g, h1, h2, rfl⟩, fun h => by omega⟩
        obtain ⟨-, -, aw, cw, bw, ow, -, haw, hrw, hbw⟩ := (unhide HE).2 k hk
        have HRE : Hid (∀ W, Below w.heap.size w W → RdEff W L b (o + k * 3) ef[k]) := fun W hb => ((unhide HE).2 k hk).below (hb.mono hL) hbL
        generalize hek : ef[k] = ek at *
        unfold setH spareH strV callers at *
        simp only at *
        clear hM hB
        go_wp2_with fail
        generalize (((wr.setCell ⟨w.heap.size, k * 3, none⟩ (.string ⟨#[116, 104, 101, 32, 99, 97, 108, 108, 101, 114, 39, 115]⟩)).setCell ⟨w.heap.size, k * 3 + 1, none⟩ (.slice none 0 0)).setCell ⟨w.heap.size, k * 3 + 2, none⟩ (.int .i64 0)) = W1 at *
        have hWN : w.heap.size < W1.heap.size := (unhide HM1).lt
        obtain ⟨e0, e2, aw, cw, bw, ow, e1, haw, hrw, hbw⟩ := unhide HRE W1 (unhide HB1)
        have CG := hide (given_any ek.writes aw cw bw ow W1.drew haw hrw (by show bw < W1.heap.size; omega) hwk)
        have HC2 : Hid (∀ W2, Below W1.heap.size W1.drew W2 → CR W2 W1.heap.size 61 (ek.writes ++ spareF ek.writes.length) → W2.cell? ⟨b, o + k * 3, none⟩ = some (.string ⟨ek.cmd.toArray⟩) ∧ W2.cell? ⟨b, o + k * 3 + 2, none⟩ = some (.int .i64 ek.exit) ∧ (∃ v0 v1 v2, W2.cell? ⟨w.heap.size, k * 3, none⟩ = some v0 ∧ W2.cell? ⟨w.heap.size, k * 3 + 1, none⟩ = some v1 ∧ W2.cell? ⟨w.heap.size, k * 3 + 2, none⟩ = some v2) ∧ W2.frozen? ⟨w.heap.size, k * 3, none⟩ = false ∧ W2.frozen? ⟨w.heap.size, k * 3 + 1, none⟩ = false ∧ W2.frozen? ⟨w.heap.size, k * 3 + 2, none⟩ = false ∧
            Hid (EffM w.heap.size ef (k + 1) (((W2.setCell ⟨w.heap.size, k * 3, none⟩ (.string ⟨ek.cmd.toArray⟩)).setCell ⟨w.heap.size, k * 3 + 1, none⟩ (.slice (some ⟨W1.heap.size, 0, none⟩) ek.writes.length (ek.writes.length + 8))).setCell ⟨w.heap.size, k * 3 + 2, none⟩ (.int .i64 ek.exit))) ∧ Hid (Below w.heap.size w (((W2.setCell ⟨w.heap.size, k * 3, none⟩ (.string ⟨ek.cmd.toArray⟩)).setCell ⟨w.heap.size, k * 3 + 1, none⟩ (.slice (some ⟨W1.heap.size, 0, none⟩) ek.writes.length (ek.writes.length + 8))).setCell ⟨w.heap.size, k * 3 + 2, none⟩ (.int .i64 ek.exit)))) := fun W2 hb hc => by
          have hb' : Below W1.heap.size W1 W2 := ⟨hb.os, hb.tape, hb.output, hb.size, hb.block⟩
          have hB2 := (unhide HB1).trans (hb'.mono (by omega))
          have hM2 := (unhide HM1).later hb'
          obtain ⟨x0, x2, -⟩ := unhide HRE W2 hB2
          obtain ⟨y, z⟩ := hM2.cells k hk8
          have s1 := hM2.step hk8 (unhide HOF W2 W1.heap.size hWN hc)
          have s2 := below_setH hB2 k ⟨ek.cmd, .slice (some ⟨W1.heap.size, 0, none⟩) ek.writes.length (ek.writes.length + 8), ek.exit⟩
          unfold setH strV at s1 s2
          simp only at s1 s2
          exact ⟨x0, x2, y, z _, z _, z _, s1, s2⟩
        have c' := ((unhide HM1).cells k hk8).1
        obtain ⟨v0', v1', v2', c0', c1', c2'⟩ := c'
        unfold strV at e0
        clear hrw haw HRE HOF hek hkm c0 c1 c2 f0 f1 f2 hfz
        go_region_with (go_at_call 9; refine (unhide CG).mono ?_; rintro e w2 ⟨rfl, hcr, hb2⟩; obtain ⟨x0, x2, ⟨q0, q1, q2, y0, y1, y2⟩, z0, z1, z2, HM2, HB2⟩ := unhide HC2 _ hb2 hcr)
        all_goals go_wp2_with fail
        all_goals go_roundw
        all_goals first
          | exact ⟨k + 1, by go_num, by omega, HM2, HB2⟩
          | (simp only [intN]; omega)
      · have t1 : ¬ (k : Int) < (ef.length : Int) := by omega
        have HM2 := hide ((unhide hM).step hk8 (f := spareH) ⟨fun h => absurd h hk, fun _ => rfl⟩)
        unfold setH spareH strV callers at *
        simp only at *
        clear hM HM1
        go_wp2_with fail
        go_roundw
        case rel => exact ⟨k + 1, by go_num, by omega, HM2, HB1⟩
        case measure => simp only [intN]; omega
    · have t8 : ¬ (k : Int) < (ef.length : Int) + 8 := by omega
      have hke : k = ef.length + 8 := by omega
      subst hke
      go_wp2_with fail
      go_ret
      exact ⟨rfl, unhide hM, unhide hB⟩
end Go.Proofs.Ytjelacjggijmfaa
