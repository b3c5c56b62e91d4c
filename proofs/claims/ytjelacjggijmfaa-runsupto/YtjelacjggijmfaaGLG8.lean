/-
  The law's own: effects that were handed in are as they were.
  The law's own: the book of results that came out; they are as their owner wrote them.
-/
import Derived.Test.YtjelacjggijmfaaGLG7
namespace Go.Proofs.Ytjelacjggijmfaa
open Go.RowKit

theorem EffM.at {N : Nat} {ef : List Pl.Eff} {k : Nat} {W : World} (h : EffM N ef k W) (i : Nat) (hi : i < ef.length) (hk : i < k) : ∃ g, CR W g 61 (ef[i].writes ++ spareF ef[i].writes.length) ∧
    W.cell? ⟨N, i * 3, none⟩ = some (strV ef[i].cmd) ∧ W.cell? ⟨N, i * 3 + 1, none⟩ = some (.slice (some ⟨g, 0, none⟩) ef[i].writes.length (ef[i].writes.length + 8)) ∧ W.cell? ⟨N, i * 3 + 2, none⟩ = some (.int .i64 ef[i].exit) := by
  obtain ⟨hs, h1, h2, h3⟩ := h.hds
  obtain ⟨g, _, h4, h5⟩ := (h3 i (by omega) hk).one hi
  have := h1.cells i (by omega)
  rw [h5] at this
  exact ⟨g, h4, this⟩
theorem EffM.spare {N : Nat} {ef : List Pl.Eff} {k : Nat} {W : World} (h : EffM N ef k W) (i : Nat) (hi : ef.length ≤ i) (hi8 : i < ef.length + 8) (hk : i < k) :
    W.cell? ⟨N, i * 3, none⟩ = some (strV callers) ∧ W.cell? ⟨N, i * 3 + 1, none⟩ = some (.slice none 0 0) ∧ W.cell? ⟨N, i * 3 + 2, none⟩ = some (.int .i64 0) := by
  obtain ⟨hs, h1, h2, h3⟩ := h.hds
  have h5 := (h3 i (by omega) hk).spare hi
  have := h1.cells i (by omega)
  rw [h5] at this
  exact this
set_option maxHeartbeats 4000000 in
set_option maxRecDepth 20000 in
theorem effectsStill_any (ef : List Pl.Eff) (a : Option Addr) (cap L b o N : Nat) (w : World) (ha : 0 < ef.length → a = some ⟨b, o, none⟩) (hE : RdE w L b o ef) (hL : L ≤ w.heap.size) (hl : ef.length ≤ 1048576) (hwl : ∀ e ∈ ef, e.writes.length ≤ 1048576) (hM : EffM N ef (ef.length + 8) w) :
    Calls Try.prog 17 #[.slice (some ⟨N, 0, none⟩) ef.length (ef.length + 8), .slice a ef.length cap] w fun e w' => e = .returned (.bool true) ∧ Below w.heap.size w w' := by
  have HE := hide hE
  have HAA := hide ha
  have HWL := hide hwl
  have HM := hide hM
  have hbL := hE.1
  have hNw := hM.lt
  clear hE ha hwl hM
  go_enter Try.func17, Try.ntmps17
  go_wp2_with fail
  go_loopw [6] (fun i wr => ∃ k : Nat, i = .int .i64 k ∧ k ≤ ef.length + 8 ∧ Hid (Below w.heap.size w wr)) (fun i _ => ef.length + 8 - intN i)
  case atStart => exact ⟨0, rfl, Nat.zero_le _, Below.refl _ _⟩
  case round =>
    obtain ⟨k, rfl, hkl, hB⟩ := hrel
    have hMr := (unhide HM).later (unhide hB)
    by_cases hk8 : k < ef.length + 8
    · have t8 : (k : Int) < (ef.length : Int) + 8 := by omega
      by_cases hk : k < ef.length
      · obtain rfl := unhide HAA (by omega)
        have t1 : (k : Int) < (ef.length : Int) := by omega
        obtain ⟨g, hcr, c0, c1, c2⟩ := hMr.at k hk hk8
        have hwk := unhide HWL ef[k] (List.getElem_mem hk)
        obtain ⟨e0, e2, aw, cw, bw, ow, e1, haw, hrw, hbw⟩ := ((unhide HE).2 k hk).below ((unhide hB).mono hL) hbL
        generalize ef[k] = ek at *
        have hsz := (unhide hB).size
        have CS := hide (fun n => still_any ek.writes aw cw bw ow g (wr.drewN n).drew haw hrw (by show bw < wr.heap.size; omega) hwk hcr)
        have tc : (ek.cmd != ek.cmd) = false := by simp
        have tc' : (ek.cmd == ek.cmd) = true := by simp
        unfold strV at c0 e0
        clear hMr hcr hrw haw
        go_wp2_with fail
        go_quiet (fail)
        go_wp2_with fail
        have d1 : (wr.drewN nq).cell? ⟨N, k * 3 + 1, none⟩ = _ := c1
        have d2 : (wr.drewN nq).cell? ⟨b, o + k * 3 + 1, none⟩ = _ := e1
        have CS' := hide (unhide CS nq)
        have HB5 := hide (Below.drewN (unhide hB) nq)
        clear c0 c1 c2 e0 e1 e2 CS hsz
        generalize wr.drewN nq = W5 at *
        go_region_with (go_at_call 16; refine (unhide CS').mono ?_; rintro e w1 ⟨rfl, hb1⟩; have HB6 := hide ((unhide HB5).drew.trans (hb1.mono (unhide HB5).size)))
        all_goals go_wp2_with fail
        all_goals go_roundw
        all_goals first
          | exact ⟨k + 1, by go_num, by omega, HB6⟩
          | (simp only [intN]; omega)
      · have t1 : ¬ (k : Int) < (ef.length : Int) := by omega
        have t1' : (ef.length : Int) ≤ (k : Int) := by omega
        obtain ⟨c0, c1, c2⟩ := hMr.spare k (by omega) hk8 hk8
        unfold strV callers at c0
        clear hMr
        go_wp2_with fail
        go_roundw
        case rel => exact ⟨k + 1, by go_num, by omega, hB⟩
        case measure => simp only [intN]; omega
    · have t8 : ¬ (k : Int) < (ef.length : Int) + 8 := by omega
      clear hMr
      go_wp2_with fail
      go_ret
      exact ⟨rfl, unhide hB⟩
end Go.Proofs.Ytjelacjggijmfaa
namespace Go.Proofs.Ytjelacjggijmfaa
open Go.RowKit

/-- Strings, files: a slice that reads as a list. -/
structure SlS (W : World) (a : Option Addr) (cs : List Pl.Bs) : Prop where
  at' : ∃ b o, (0 < cs.length → a = some ⟨b, o, none⟩ ∧ b < W.heap.size) ∧ RdS W b o cs
structure SlF (W : World) (a : Option Addr) (fs : List Pl.File) : Prop where
  at' : ∃ b o, (0 < fs.length → a = some ⟨b, o, none⟩ ∧ b < W.heap.size) ∧ RdF W b o fs
theorem SlS.later {W W' : World} {a : Option Addr} {cs : List Pl.Bs} (h : SlS W a cs) (hb : Below W.heap.size W W') : SlS W' a cs := by
  obtain ⟨b, o, h1, h2⟩ := h.at'
  exact ⟨b, o, fun hp => ⟨(h1 hp).1, Nat.lt_of_lt_of_le (h1 hp).2 hb.size⟩, fun i hi => (hb.cell (p := ⟨b, _, none⟩) (h1 (by omega)).2).trans (h2 i hi)⟩
theorem SlF.later {W W' : World} {a : Option Addr} {fs : List Pl.File} (h : SlF W a fs) (hb : Below W.heap.size W W') : SlF W' a fs := by
  obtain ⟨b, o, h1, h2⟩ := h.at'
  refine ⟨b, o, fun hp => ⟨(h1 hp).1, Nat.lt_of_lt_of_le (h1 hp).2 hb.size⟩, fun i hi => ?_⟩
  have hl := (h1 (by omega)).2
  exact ⟨(hb.cell (p := ⟨b, _, none⟩) hl).trans (h2 i hi).1, (hb.cell (p := ⟨b, _, none⟩) hl).trans (h2 i hi).2.1, (hb.cell (p := ⟨b, _, none⟩) hl).trans (h2 i hi).2.2⟩
/-- Four cells: a result that is full of the n-th mark. -/
structure ResAt (W : World) (b o n : Nat) : Prop where
  lt : b < W.heap.size
  all : ∃ a1 nc k1 a2 nf k2 ex ck, W.cell? ⟨b, o, none⟩ = some (.slice a1 nc k1) ∧ W.cell? ⟨b, o + 1, none⟩ = some (.slice a2 nf k2) ∧ W.cell? ⟨b, o + 2, none⟩ = some (.int .i64 ex) ∧ W.cell? ⟨b, o + 3, none⟩ = some (.int .i64 ck) ∧
    SlS W a1 (List.replicate nc (markB n)) ∧ SlF W a2 (List.replicate nf (keptF n)) ∧ nc ≤ 2097152 ∧ nf ≤ 2097152
theorem ResAt.later {W W' : World} {b o n : Nat} (h : ResAt W b o n) (hb : Below W.heap.size W W') : ResAt W' b o n := by
  obtain ⟨a1, nc, k1, a2, nf, k2, ex, ck, h1, h2, h3, h4, h5, h6, h7, h8⟩ := h.all
  exact ⟨Nat.lt_of_lt_of_le h.lt hb.size, a1, nc, k1, a2, nf, k2, ex, ck, (hb.cell (p := ⟨b, _, none⟩) h.lt).trans h1, (hb.cell (p := ⟨b, _, none⟩) h.lt).trans h2, (hb.cell (p := ⟨b, _, none⟩) h.lt).trans h3, (hb.cell (p := ⟨b, _, none⟩) h.lt).trans h4, h5.later hb, h6.later hb, h7, h8⟩
/-- The book with n results. -/
structure BookM (W : World) (bb n : Nat) : Prop where
  lt : bb < W.heap.size
  all : ∃ ar cr br ag cg bg, W.cell? ⟨bb, 0, none⟩ = some (.slice ar n cr) ∧ W.cell? ⟨bb, 1, none⟩ = some (.slice ag n cg) ∧ (0 < n → ar = some ⟨br, 0, none⟩) ∧ (0 < n → ag = some ⟨bg, 0, none⟩ ∧ bg < W.heap.size) ∧
    ∀ i, i < n → ResAt W br (i * 4) i ∧ ∃ gi ci, W.cell? ⟨bg, i, none⟩ = some (.slice (some ⟨gi, 0, none⟩) 3 ci) ∧ ∀ k, k < 3 → ResAt W gi (k * 4) i
theorem BookM.later {W W' : World} {bb n : Nat} (h : BookM W bb n) (hb : Below W.heap.size W W') : BookM W' bb n := by
  obtain ⟨ar, cr, br, ag, cg, bg, h1, h2, h3, h4, h5⟩ := h.all
  refine ⟨Nat.lt_of_lt_of_le h.lt hb.size, ar, cr, br, ag, cg, bg, (hb.cell (p := ⟨bb, _, none⟩) h.lt).trans h1, (hb.cell (p := ⟨bb, _, none⟩) h.lt).trans h2, h3, fun hn => ⟨(h4 hn).1, Nat.lt_of_lt_of_le (h4 hn).2 hb.size⟩, fun i hi => ?_⟩
  obtain ⟨h6, gi, ci, h7, h8⟩ := h5 i hi
  exact ⟨h6.later hb, gi, ci, (hb.cell (p := ⟨bg, _, none⟩) (h4 (by omega)).2).trans h7, fun k hk => (h8 k hk).later hb⟩
theorem marked_at {W : World} {n nc nf k1 k2 : Nat} {a1 a2 : Option Addr} {ex ck : Int} (hn : n < 3) (h5 : SlS W a1 (List.replicate nc (markB n))) (h6 : SlF W a2 (List.replicate nf (keptF n))) (h7 : nc ≤ 2097152) (h8 : nf ≤ 2097152) :
    Calls Try.prog 32 #[.agg #[.slice a1 nc k1, .slice a2 nf k2, .int .i64 ex, .int .i64 ck], .int .i64 n] W fun e w' => e = .returned (.bool true) ∧ Below W.heap.size W w' := by
  obtain ⟨b1, o1, x1, x2⟩ := h5.at'
  obtain ⟨b2, o2, y1, y2⟩ := h6.at'
  rw [List.length_replicate] at x1 y1
  exact marked_any n hn nc nf ex ck a1 a2 k1 k2 b1 b2 o1 o2 W (fun h => (x1 h).1) (fun h => (y1 h).1) x2 y2 (fun h => (x1 h).2) (fun h => (y1 h).2) h7 h8
set_option maxHeartbeats 4000000 in
set_option maxRecDepth 20000 in
theorem whole_any (n bb : Nat) (hn : n ≤ 2) (w : World) (hBk : BookM w bb n) :
    Calls Try.prog 15 #[.pointer (some ⟨bb, 0, none⟩)] w fun e w' => e = .returned (.bool true) ∧ Below w.heap.size w w' := by
  have HBK := hide hBk
  clear hBk
  go_enter Try.func15, Try.ntmps15
  go_wp2_with fail
  go_loopw [3] (fun i wr => ∃ k : Nat, i = .int .i64 k ∧ k ≤ n ∧ Hid (Below w.heap.size w wr)) (fun i _ => n - intN i)
  case atStart => exact ⟨0, rfl, Nat.zero_le _, Below.refl _ _⟩
  case round =>
    obtain ⟨k, rfl, hkl, hB⟩ := hrel
    obtain ⟨ar, cr, br, ag, cg, bg, h1, h2, h3, h4, h5⟩ := ((unhide HBK).later (unhide hB)).all
    by_cases hk : k < n
    · obtain ⟨h6, gi, ci, h7, h8⟩ := h5 k hk
      obtain rfl := h3 (by omega)
      obtain ⟨rfl, -⟩ := h4 (by omega)
      obtain ⟨a1, nc, k1, a2, nf, k2, ex, ck, r1, r2, r3, r4, r5, r6, r7, r8⟩ := h6.all
      have CM := hide (marked_at (n := k) (k1 := k1) (k2 := k2) (ex := ex) (ck := ck) (by omega) r5 r6 r7 r8)
      have t1 : (k : Int) < (n : Int) := by omega
      clear h3 h4 h5 h6 h7 h8 r5 r6
      go_wp2_with (first | (go_at_call 32; refine (unhide CM).mono ?_; rintro e w1 ⟨rfl, hb1⟩; have HB1 := hide ((unhide hB).trans (hb1.mono (unhide hB).size))) | fail)
      clear h1 h2 r1 r2 r3 r4 CM hB hb1
      go_loopw [4, 5] (fun v j wr => ∃ l : Nat, v = .bool true ∧ j = .int .i64 l ∧ l ≤ 3 ∧ Hid (Below w.heap.size w wr)) (fun _ j _ => 3 - intN j)
      case atStart => exact ⟨0, rfl, rfl, by omega, HB1⟩
      case round =>
        clear HB1
        obtain ⟨l, rfl, rfl, hl, hB⟩ := hrel
        obtain ⟨ar, cr, br, ag, cg, bg, h1, h2, h3, h4, h5⟩ := ((unhide HBK).later (unhide hB)).all
        by_cases hl3 : l < 3
        · obtain ⟨-, gi, ci, h7, h8⟩ := h5 k hk
          obtain ⟨rfl, -⟩ := h4 (by omega)
          obtain ⟨a1, nc, k1, a2, nf, k2, ex, ck, r1, r2, r3, r4, r5, r6, r7, r8⟩ := (h8 l hl3).all
          have CM := hide (marked_at (n := k) (k1 := k1) (k2 := k2) (ex := ex) (ck := ck) (by omega) r5 r6 r7 r8)
          have t2 : (l : Int) < 3 := by omega
          clear h3 h4 h5 h8 r5 r6
          go_wp2_with (first | (go_at_call 32; refine (unhide CM).mono ?_; rintro e w1 ⟨rfl, hb1⟩; have HB1 := hide ((unhide hB).trans (hb1.mono (unhide hB).size))) | fail)
          go_roundw
          case rel => exact ⟨l + 1, rfl, by go_num, by omega, HB1⟩
          case measure => simp only [intN]; omega
        · have t2 : ¬ (l : Int) < 3 := by omega
          clear h1 h2 h3 h4 h5
          go_wp2_with fail
          go_roundw
          case rel => exact ⟨k + 1, by go_num, by omega, hB⟩
          case measure => simp only [intN]; omega
    · have t1 : ¬ (k : Int) < (n : Int) := by omega
      clear h2 h3 h4 h5
      go_wp2_with fail
      go_ret
      exact ⟨rfl, unhide hB⟩
end Go.Proofs.Ytjelacjggijmfaa
