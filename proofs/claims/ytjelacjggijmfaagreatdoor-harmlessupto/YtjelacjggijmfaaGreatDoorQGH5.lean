/-
  Harmless of package makerkeep: a plan that is checked gives no command but its own strings, and no more than it has bytes; one that is not does nothing. Proved of all arguments whose values and letters together come to at most 1048576: the row and its card.
  Harmless of package makerkeep: a plan that is checked gives no command but its own strings, and no more than it has bytes; one that is not does nothing. Proved of all arguments whose values and letters together, with what the listed tables hold, come to at most 1048576.
  For a law's row: what is handed in, opened.
  Harmless of package makerkeep: true for every text for a plan, all files, effects and clocks.
  The law's own: one rule with one command is done.
-/
import Derived.Test.YtjelacjggijmfaaGreatDoorQPS3
import Derived.Test.YtjelacjggijmfaaGreatDoorQHPure
import Derived.Test.YtjelacjggijmfaaGreatDoorQW9
import Derived.Test.YtjelacjggijmfaaGreatDoorRows
import Derived.ProofKit
import Derived.OpenShut
import Derived.JoinedCond
import Derived.Deep.Slices
import Derived.Carry
import Derived.Test.YtjelacjggijmfaaGreatDoorCards
import Derived.Test.YtjelacjggijmfaaGreatDoorTie
import Derived.Deep.DeepHandedRow
import Derived.Lib.LaidTab
namespace Go.Proofs.YtjelacjggijmfaaGreatDoor
open Go.RowKit Go.MapKept Go.ChangeMaps Go.Maps

theorem live_ok : FsOk liveF [82] [97] := by
  refine ⟨by decide, ⟨100, by decide, fun p g h => ?_⟩, by decide, fun f hf => ?_, 2, by decide, ?_⟩
  · have hm : g ∈ liveF := List.mem_of_find?_eq_some h
    rw [List.mem_singleton.1 hm]
    decide
  · have hm : f ∈ liveF := hf
    rw [List.mem_singleton.1 hm]
    decide
  · have e : liveF.foldl Pl.addF [] = liveF := rfl
    rw [e, live_book]
    intro _ r hr _ _ x hx
    rw [(live_from hr).2] at hx
    rw [List.mem_singleton.1 hx]
    decide
theorem live_run : doA [] (fOf liveX) liveX 0 ((fun _ => false), Pl.newW liveF 0) = ⟨liveF, 1, [[98]], 0⟩ := by kernel_rfl
/-- Make, of one rule with one command. -/
theorem live_make (b : Nat) (W : World) (hr : RdF W b 0 liveF) (hbw : b < W.heap.size) (hg : Glob W) :
    Calls Tryz.prog 20 #[.slice (some ⟨b, 0, none⟩) 1 1, .string ⟨#[82]⟩, .string ⟨#[97]⟩, .slice none 0 0, .int .i64 0] W fun e w' => ∃ g c1 a2 n2 c2, e = .returned (.tuple #[.agg #[.slice (some ⟨g, 0, none⟩) 1 c1, .slice a2 n2 c2, .int .i64 0, .int .i64 1], .int .i64 0, .int .i64 0]) ∧ w'.cell? ⟨g, 0, none⟩ = some (.string ⟨#[98]⟩) ∧ g < w'.heap.size ∧ Below W.heap.size W w' := by
  obtain ⟨p, hp, hpl⟩ := live_plan
  refine (make_any live_ok (fun r hr h0 => ?_) [] [[82]] (some ⟨b, 0, none⟩) none 1 b 0 0 W.heap.size b 0 0 W (fun _ => rfl) hr hbw hg ⟨fun h => by simp at h, ⟨hbw, fun i hi => by simp at hi⟩, by simp, by simp, by simp, by simp⟩ (Nat.le_refl _) (fun f hf => ?_) (fun p hp => ?_)).mono ?_
  · obtain ⟨q, h1, h2⟩ := live_text hr
    rw [hp] at h1
    cases h1
    rw [h2]
    exact Nat.le_trans hpl (by decide)
  · rw [List.mem_singleton.1 hf]; simp
  · rw [List.mem_singleton.1 hp]; decide
  · rintro e w' ⟨hb, r, h1, h2⟩
    obtain ⟨q, h3, h4⟩ := live_text h1
    rw [hp] at h3
    cases h3
    subst h4
    rcases h2 with ⟨h2, -⟩ | ⟨-, v, er, rfl, h2⟩
    · exact absurd rfl h2
    · obtain ⟨T, c, k1, k2, k3⟩ := plan_is hp
      rcases h2 with ⟨h2, -⟩ | ⟨ss, c', vc, vr, m1, -, m3, m4, m5⟩
      · exact absurd k2 h2
      · rw [k1] at m1
        cases m1
        rw [k3 [] _ rfl, live_run] at m3 m4 m5
        cases m3
        obtain ⟨g, c1, rfl, -, hg⟩ := owns_form m4 (by decide)
        obtain ⟨a2, c2, rfl⟩ := own_sh m5
        exact ⟨g, c1, a2, _, c2, rfl, own_cell m4 0 (by decide), hg, hb⟩
set_option maxHeartbeats 2000000 in
set_option maxRecDepth 20000 in
theorem lives_any (w : World) (hg : Glob w) : Calls Tryz.prog 26 #[] w fun e w' => e = .returned (.bool true) ∧ Below w.heap.size w w' ∧ 0 < w'.heap.size := by
  have hR0 := Row.new w 65 [.string ⟨#[82]⟩, .string ⟨#[97, 58, 10, 9, 98]⟩, .int .i64 0]
  have hb0 : Below w.heap.size w (w.alloc (.cells #[.string ⟨#[82]⟩, .string ⟨#[97, 58, 10, 9, 98]⟩, .int .i64 0] 65)) := (Below.refl _ _).alloc (Nat.le_refl _) _
  have hrd : RdF (w.alloc (.cells #[.string ⟨#[82]⟩, .string ⟨#[97, 58, 10, 9, 98]⟩, .int .i64 0] 65)) w.heap.size 0 liveF := fun i hi => by
    obtain rfl : i = 0 := by simp [liveF] at hi; omega
    exact ⟨hR0.cell 0 (by simp), hR0.cell 1 (by simp), hR0.cell 2 (by simp)⟩
  have C := hide (live_make w.heap.size _ hrd hR0.lt (hg.later hb0))
  have HB0 := hide hb0
  clear hR0 hrd hb0 hg
  go_enter Tryz.func26, Tryz.ntmps26
  go_wp2_with (first
    | (go_at_call 20; refine (unhide C).mono ?_; rintro e w1 ⟨g, c1, a2, n2, c2, rfl, hc, hgl, hb1⟩; have HB1 := hide hb1; clear hb1)
    | fail)
  go_ret
  have hb := (unhide HB0).trans ((unhide HB1).mono (unhide HB0).size)
  exact ⟨rfl, hb.alloc hb.size _, by rw [World.size_alloc]; omega⟩
end Go.Proofs.YtjelacjggijmfaaGreatDoor
namespace Go.Proofs.YtjelacjggijmfaaGreatDoor
open Go.RowKit

theorem harmless_any (l : Pl.Bs) (hl : l.length ≤ 8388608) (fs : List Pl.File) (ef : List Pl.Eff) (S : List Pl.Bs) (a ae : Option Addr) (cap b o ce L be oe : Nat) (clock : Int) (w : World)
    (ha : 0 < fs.length → a = some ⟨b, o, none⟩) (hr : 0 < fs.length → RdF w b o fs ∧ b < w.heap.size) (hfl : fs.length ≤ 8388608) (hae : 0 < ef.length → ae = some ⟨be, oe, none⟩) (hE : 0 < ef.length → RdE w L be oe ef ∧ L ≤ w.heap.size) (hel : ef.length ≤ 8388608) (hwl : ∀ e ∈ ef, e.writes.length ≤ 8388608) (hSl : S.length ≤ 8388608) (hfS : ∀ f ∈ fs, f.path ∈ S) (hEs : ∀ e ∈ ef, ∀ f ∈ e.writes, f.path ∈ S) (hSp : ∀ p ∈ S, p.length ≤ maxLen) (hk : wrap64 clock = clock) (hg : Glob w) :
    Calls Tryz.prog 7 #[.string ⟨l.toArray⟩, .slice a fs.length cap, .slice ae ef.length ce, .int .i64 clock] w fun e w' => e = .returned (.bool true) ∧ Below w.heap.size w w' := by
  have hrun : ∀ W, Below w.heap.size w W → 0 < W.heap.size → Calls Tryz.prog 30 #[.string ⟨l.toArray⟩, .slice a fs.length cap, .slice ae ef.length ce, .int .i64 clock] W fun e w' => ARunPost l fs ef clock W e w' := fun W hb h0 => by
    have h1 : ∃ b', (0 < fs.length → a = some ⟨b', o, none⟩) ∧ RdF W b' o fs ∧ b' < W.heap.size := by
      by_cases hf : 0 < fs.length
      · exact ⟨b, ha, (hr hf).1.below hb (hr hf).2, Nat.lt_of_lt_of_le (hr hf).2 hb.size⟩
      · exact ⟨0, fun h => absurd h hf, fun i hi => by omega, h0⟩
    have h2 : ∃ L' be', (0 < ef.length → ae = some ⟨be', oe, none⟩) ∧ RdE W L' be' oe ef ∧ L' ≤ W.heap.size := by
      by_cases hf : 0 < ef.length
      · exact ⟨L, be, hae, (hE hf).1.below (hb.mono (hE hf).2), Nat.le_trans (hE hf).2 hb.size⟩
      · exact ⟨W.heap.size, 0, fun h => absurd h hf, ⟨h0, fun i hi => by omega⟩, Nat.le_refl _⟩
    obtain ⟨b', p1, p2, p3⟩ := h1
    obtain ⟨L', be', p4, p5, p6⟩ := h2
    exact makerRun_any l hl fs ef S a ae cap b' o ce L' be' oe clock W p1 p2 p3 hfl ⟨p4, p5, hEs, hel, hwl, hSl⟩ p6 hfS hSp
  by_cases hc : Pl.checkOf l
  · refine harmless_yes l hl ef a ae fs.length cap ce L be oe clock w hel (lives_any w hg) (fun W => ?_) (fun W hb h0 => (hrun W hb h0).mono fun e w' h => hRun h hk hc) hae hE
    refine (check_any l W hl).mono ?_
    rintro e w' ⟨⟨z, h1, ⟨rfl, -⟩ | ⟨-, h2⟩⟩, hb⟩
    · exact ⟨h1, hb⟩
    · exact absurd hc h2
  · refine harmless_no l a ae fs.length cap ef.length ce clock w (lives_any w hg) (fun W => ?_) (fun W hb h0 => (hrun W hb h0).mono fun e w' h => ?_)
    · refine (check_any l W hl).mono ?_
      rintro e w' ⟨⟨z, h1, ⟨-, h2⟩ | ⟨rfl, -⟩⟩, hb⟩
      · exact absurd h2 hc
      · exact ⟨h1, hb⟩
    · obtain ⟨hb, ⟨-, h2⟩ | ⟨_, _, _, _, _, h2, _⟩⟩ := h
      · exact ⟨h2, hb⟩
      · exact absurd h2 hc
end Go.Proofs.YtjelacjggijmfaaGreatDoor
namespace Go.Proofs.YtjelacjggijmfaaGreatDoor
open Go.ChangeShapes Go.WideShapes Go.ChangeAt Go.RowKit Go.Deep

theorem cells_file : Tryz.prog.cellsOf 65 = 3 := by kernel_rfl
theorem cells_effect : Tryz.prog.cellsOf 73 = 3 := by kernel_rfl
theorem cells_str : Tryz.prog.cellsOf 9 = 1 := by kernel_rfl
theorem cells_int : Tryz.prog.cellsOf 3 = 1 := by kernel_rfl
theorem cells_files : Tryz.prog.cellsOf 27 = 1 := by kernel_rfl
theorem str_strV (s : ByteArray) : Value.string s = strV s.data.toList := by cases s; rfl
section
variable {H : Type}
theorem bulk_pos (d : DataW H) : 1 ≤ Rows.uptoBulk d := by
  cases d with
  | lit x => cases x <;> simp [Rows.uptoBulk]
  | _ => simp [Rows.uptoBulk]
theorem bulk_len : ∀ l : List (DataW H), l.length ≤ Rows.uptoBulkAll l
  | [] => by simp [Rows.uptoBulkAll]
  | d :: r => by
    have h1 := bulk_pos d
    have h2 := bulk_len r
    simp only [Rows.uptoBulkAll, List.length_cons]
    omega
theorem bulk_sum (g : Nat → Nat) : ∀ (l : List (DataW H)) (k : Nat), (∀ i d, l[i]? = some d → g (k + i) ≤ Rows.uptoBulk d) → ((List.range' k l.length).map g).sum ≤ Rows.uptoBulkAll l
  | [], _, _ => by simp [Rows.uptoBulkAll]
  | d :: r, k, h => by
    have h1 := h 0 d rfl
    have h2 := bulk_sum g r (k + 1) (fun i d hd => by
      have := h (i + 1) d (by simpa using hd)
      rw [show k + 1 + i = k + (i + 1) by omega]
      exact this)
    simp only [Rows.uptoBulkAll, List.length_cons, List.range'_succ, List.map_cons, List.sum_cons]
    rw [Nat.add_zero] at h1
    omega
end
section
variable {H : Type} {enc : TypeId × Value → H} {W : World} {base : Nat} {spare : Nat → Bool} {held : Bool}
set_option maxRecDepth 20000 in
theorem open_file {n : Nat} {cs : List Value} {y : DataW H × List MemPlace} (h : DataW.trod enc Tryz.prog W base spare held n 65 cs = some y) : ∃ f : Pl.File, cs = [strV f.path, strV f.text, .int .i64 f.time] ∧ f.path.length ≤ maxLen := by
  obtain ⟨xs, k, hk, hxy, hl, hxl, hf⟩ := DataW.trod_struct Tryz.underlying65 h
  rw [cells_file] at hl
  have hxl : xs.length = 3 := hxl
  match cs, hl with
  | [v0, v1, v2], _ =>
    match xs, hxl with
    | [y0, y1, y2], _ =>
      have g0 := hf 0 _ rfl
      have g1 := hf 1 _ rfl
      have g2 := hf 2 _ rfl
      simp [cells_str, cells_int] at g0 g1 g2
      obtain ⟨s0, e0, -, m0⟩ := DataW.trod_string Tryz.underlying9 g0
      obtain ⟨s1, e1, -, -⟩ := DataW.trod_string Tryz.underlying9 g1
      obtain ⟨z, e2, -, -⟩ := DataW.trod_int Tryz.underlying3 g2
      simp only [List.cons.injEq, and_true] at e0 e1 e2
      refine ⟨⟨s0.data.toList, s1.data.toList, z⟩, ?_, ?_⟩
      · rw [e0, e1, e2, str_strV s0, str_strV s1]
      · show s0.data.toList.length ≤ maxLen
        rw [Array.length_toList]
        exact m0
/-- Files that are handed in. -/
structure InF (W : World) (v : Value) (fs : List Pl.File) (bulk : Nat) : Prop where
  at' : ∃ a cap b o, v = .slice a fs.length cap ∧ (0 < fs.length → a = some ⟨b, o, none⟩ ∧ RdF W b o fs ∧ b < W.heap.size)
  path : ∀ f ∈ fs, f.path.length ≤ maxLen
  len : fs.length + 1 ≤ bulk
theorem spot_none {a : Addr} {v : Value} (h : W.cell? a = some v) : a.spot = none ∧ a.block < W.heap.size := by
  refine ⟨World.cell?_spot h, ?_⟩
  unfold World.cell? at h
  rcases Nat.lt_or_ge a.block W.heap.size with h' | h'
  · exact h'
  · rw [Array.getElem?_eq_none h'] at h; cases h
theorem addr_at {a : Addr} (h : a.spot = none) (i : Nat) : a.add i = ⟨a.block, a.off + i, none⟩ := by
  unfold Addr.add
  split
  · rename_i h0; subst h0; cases a; simp_all
  · rfl
theorem open_files {fuel : Nat} {v : Value} {x : DataW H × List MemPlace} (h : DataW.trod enc Tryz.prog W base spare held fuel 27 [v] = some x) : ∃ fs, InF W v fs (Rows.uptoBulk x.1) := by
  rcases open_slice Tryz.underlying27 h with ⟨h0, rfl⟩ | ⟨a, len, cap, m, n, D, Pc, hv, hb, hlc, hm, hmm, rfl, hx⟩
  · simp only [List.cons.injEq, and_true] at h0
    exact ⟨[], ⟨none, 0, 0, 0, h0, fun h => by simp at h⟩, by simp, by simp [Rows.uptoBulk]⟩
  · simp only [List.cons.injEq, and_true] at hv
    have hlm : len ≤ m := by rw [hmm]; split <;> omega
    have each : ∀ i, i < len → ∃ f : Pl.File, (W.cell? (a.add (i * 3)) = some (strV f.path) ∧ W.cell? ((a.add (i * 3)).add 1) = some (strV f.text) ∧ W.cell? ((a.add (i * 3)).add 2) = some (.int .i64 f.time)) ∧ f.path.length ≤ maxLen := fun i hi => by
      obtain ⟨cs', h1, h2⟩ := hx i (by omega)
      rw [cells_file] at h1
      obtain ⟨_, -, hc⟩ := World.cells?_some h1
      obtain ⟨f, rfl, hp⟩ := open_file h2
      have c0 := hc 0 (by omega)
      have c1 := hc 1 (by omega)
      have c2 := hc 2 (by omega)
      exact ⟨f, ⟨by simpa [Addr.add] using c0, c1, c2⟩, hp⟩
    have hinh : Inhabited Pl.File := ⟨⟨[], [], 0⟩⟩
    obtain ⟨F, hF⟩ := choose_lt each
    have hlen : ((List.range len).map F).length = len := by simp
    refine ⟨(List.range len).map F, ⟨some a, cap, a.block, a.off, by rw [hlen, hv], fun h0 => ?_⟩, fun f hf => ?_, ?_⟩
    · rw [hlen] at h0
      obtain ⟨hs, hbl⟩ := spot_none (hF 0 h0).1.1
      have hs' : a.spot = none := by simpa [Addr.add] using hs
      have hbl' : a.block < W.heap.size := by simpa [Addr.add] using hbl
      refine ⟨by cases a; simp_all, fun i hi => ?_, hbl'⟩
      have hi' : i < len := by omega
      obtain ⟨⟨c0, c1, c2⟩, -⟩ := hF i hi'
      rw [add_add] at c1 c2
      rw [addr_at hs'] at c0 c1 c2
      simp only [List.getElem_map, List.getElem_range]
      exact ⟨c0, by rw [Nat.add_assoc]; exact c1, by rw [Nat.add_assoc]; exact c2⟩
    · obtain ⟨i, hi, rfl⟩ := List.mem_map.1 hf
      exact (hF i (List.mem_range.1 hi)).2
    · have := bulk_len ((List.range len).map D)
      simp only [Rows.uptoBulk]
      rw [hlen]
      simp only [List.length_map, List.length_range] at this
      omega
/-- Effects that are handed in. -/
structure InE (W : World) (v : Value) (ef : List Pl.Eff) (bulk : Nat) : Prop where
  at' : ∃ a cap b o, v = .slice a ef.length cap ∧ (0 < ef.length → a = some ⟨b, o, none⟩ ∧ RdE W W.heap.size b o ef)
  path : ∀ e ∈ ef, ∀ f ∈ e.writes, f.path.length ≤ maxLen
  len : ef.length + (ef.flatMap (·.writes)).length + 1 ≤ bulk
set_option maxRecDepth 20000 in
theorem open_eff {n : Nat} {cs : List Value} {y : DataW H × List MemPlace} (h : DataW.trod enc Tryz.prog W base spare held n 73 cs = some y) : ∃ (e : Pl.Eff) (vw : Value) (bulk : Nat), cs = [strV e.cmd, vw, .int .i64 e.exit] ∧ InF W vw e.writes bulk ∧ bulk + 1 ≤ Rows.uptoBulk y.1 := by
  obtain ⟨xs, k, hk, hxy, hl, hxl, hf⟩ := DataW.trod_struct Tryz.underlying73 h
  rw [cells_effect] at hl
  have hxl : xs.length = 3 := hxl
  match cs, hl with
  | [v0, v1, v2], _ =>
    match xs, hxl with
    | [y0, y1, y2], _ =>
      have g0 := hf 0 _ rfl
      have g1 := hf 1 _ rfl
      have g2 := hf 2 _ rfl
      simp [cells_str, cells_int, cells_files] at g0 g1 g2
      obtain ⟨s0, e0, -, -⟩ := DataW.trod_string Tryz.underlying9 g0
      obtain ⟨fs, hfs⟩ := open_files g1
      obtain ⟨z, e2, -, -⟩ := DataW.trod_int Tryz.underlying3 g2
      simp only [List.cons.injEq, and_true] at e0 e2
      refine ⟨⟨s0.data.toList, fs, z⟩, v1, _, ?_, hfs, ?_⟩
      · rw [e0, e2, str_strV s0]
      · rw [hxy]
        simp only [List.map_cons, List.map_nil, Rows.uptoBulk, Rows.uptoBulkAll]
        omega
theorem flat_lenE (ef : List Pl.Eff) : (ef.flatMap (·.writes)).length = (ef.map (·.writes.length)).sum := by
  induction ef with
  | nil => rfl
  | cons e r ih => rw [List.flatMap_cons, List.length_append, ih, List.map_cons, List.sum_cons]
theorem flat_leE {ef : List Pl.Eff} {e : Pl.Eff} (h : e ∈ ef) : e.writes.length ≤ (ef.flatMap (·.writes)).length := by
  induction ef with
  | nil => cases h
  | cons g r ih =>
    rw [List.flatMap_cons, List.length_append]
    rcases List.mem_cons.1 h with rfl | h
    · omega
    · have := ih h
      omega
theorem sum_add_len : ∀ (l : List Nat), (l.map (· + 1)).sum = l.sum + l.length
  | [] => rfl
  | x :: r => by simp only [List.map_cons, List.sum_cons, List.length_cons, sum_add_len r]; omega
theorem open_effs {fuel : Nat} {v : Value} {x : DataW H × List MemPlace} (h : DataW.trod enc Tryz.prog W base spare held fuel 51 [v] = some x) : ∃ ef, InE W v ef (Rows.uptoBulk x.1) := by
  rcases open_slice Tryz.underlying51 h with ⟨h0, rfl⟩ | ⟨a, len, cap, m, n, D, Pc, hv, hb, hlc, hm, hmm, rfl, hx⟩
  · simp only [List.cons.injEq, and_true] at h0
    exact ⟨[], ⟨none, 0, 0, 0, h0, fun h => by simp at h⟩, by simp, by simp [Rows.uptoBulk]⟩
  · simp only [List.cons.injEq, and_true] at hv
    have hlm : len ≤ m := by rw [hmm]; split <;> omega
    have each : ∀ i, i < len → ∃ e : Pl.Eff, (∃ vw bulk, (W.cell? (a.add (i * 3)) = some (strV e.cmd) ∧ W.cell? ((a.add (i * 3)).add 1) = some vw ∧ W.cell? ((a.add (i * 3)).add 2) = some (.int .i64 e.exit)) ∧ InF W vw e.writes bulk) ∧ e.writes.length + 1 ≤ Rows.uptoBulk (D i) := fun i hi => by
      obtain ⟨cs', h1, h2⟩ := hx i (by omega)
      rw [cells_effect] at h1
      obtain ⟨_, -, hc⟩ := World.cells?_some h1
      obtain ⟨e, vw, bulk, rfl, hp, hq⟩ := open_eff h2
      have c0 := hc 0 (by omega)
      have c1 := hc 1 (by omega)
      have c2 := hc 2 (by omega)
      have hl := hp.len
      have hq : bulk + 1 ≤ Rows.uptoBulk (D i) := hq
      exact ⟨e, ⟨vw, bulk, ⟨by simpa [Addr.add] using c0, c1, c2⟩, hp⟩, by omega⟩
    have hinh : Inhabited Pl.Eff := ⟨⟨[], [], 0⟩⟩
    obtain ⟨F, hF⟩ := choose_lt each
    have hlen : ((List.range len).map F).length = len := by simp
    refine ⟨(List.range len).map F, ⟨some a, cap, a.block, a.off, by rw [hlen, hv], fun h0 => ?_⟩, fun e he => ?_, ?_⟩
    · rw [hlen] at h0
      obtain ⟨vw, bulk, ⟨c0, -, -⟩, -⟩ := (hF 0 h0).1
      obtain ⟨hs, hbl⟩ := spot_none c0
      have hs' : a.spot = none := by simpa [Addr.add] using hs
      have hbl' : a.block < W.heap.size := by simpa [Addr.add] using hbl
      refine ⟨by cases a; simp_all, hbl', fun i hi => ?_⟩
      have hi' : i < len := by omega
      obtain ⟨⟨vw, bulk, ⟨c0, c1, c2⟩, hin⟩, -⟩ := hF i hi'
      rw [add_add] at c1 c2
      rw [addr_at hs'] at c0 c1 c2
      simp only [List.getElem_map, List.getElem_range]
      obtain ⟨aw, cw, bw, ow, rfl, hw⟩ := hin.at'
      refine ⟨c0, by rw [Nat.add_assoc]; exact c2, ?_⟩
      by_cases h1 : 0 < (F i).writes.length
      · obtain ⟨q1, q2, q3⟩ := hw h1
        exact ⟨aw, cw, bw, ow, by rw [Nat.add_assoc]; exact c1, fun _ => q1, q2, q3⟩
      · exact ⟨aw, cw, 0, 0, by rw [Nat.add_assoc]; exact c1, fun h => absurd h h1, fun j hj => by omega, by omega⟩
    · obtain ⟨i, hi, rfl⟩ := List.mem_map.1 he
      obtain ⟨⟨vw, bulk, -, hin⟩, -⟩ := hF i (List.mem_range.1 hi)
      exact hin.path
    · have h1 := bulk_sum (fun i => (F i).writes.length + 1) ((List.range len).map D) 0 (fun i d hd => by
        obtain ⟨hi, rfl⟩ := List.getElem?_eq_some_iff.1 hd
        simp only [List.length_map, List.length_range] at hi
        simp only [List.getElem_map, List.getElem_range, Nat.zero_add]
        exact (hF i hi).2)
      rw [List.length_map, List.length_range] at h1
      rw [flat_lenE, List.map_map, hlen]
      have h2 := sum_add_len ((List.range len).map fun i => (F i).writes.length)
      rw [List.map_map, List.length_map, List.length_range] at h2
      rw [← List.range_eq_range'] at h1
      simp only [Rows.uptoBulk]
      have h3 : ((List.range len).map ((fun x => x + 1) ∘ fun i => (F i).writes.length)).sum = ((List.range len).map fun i => (F i).writes.length + 1).sum := rfl
      have h4 : ((List.range len).map ((fun x => x.writes.length) ∘ F)).sum = ((List.range len).map fun i => (F i).writes.length).sum := rfl
      rw [h4]
      rw [h3] at h2
      omega
end
end Go.Proofs.YtjelacjggijmfaaGreatDoor
namespace Go.Proofs.YtjelacjggijmfaaGreatDoor
open Go.ChangeShapes Go.WideShapes Go.ChangeAt Go.RowKit
open Go.ChangeMaps (open_string shut_string)

theorem own : ownKnob Tryz.prog.godebug = none := by kernel_rfl
theorem Tryz.laidOut : laidOutB Tryz.prog = true := by kernel_rfl
theorem glob_shaped (W : World) (h : W.ShapedOpen Tryz.prog) : Glob W :=
  Go.Proofs.cell_of_shapedOpen_int (zero := #[.int .i64 0]) (t := 3) h (of_decide_eq_true (by kernel_rfl)) (by kernel_rfl) rfl (by kernel_rfl) (by kernel_rfl) Tryz.underlying3
set_option maxRecDepth 100000 in
theorem harmless_contract (H : Type) (enc : TypeId × Value → H) (W : World) (base : Nat) (args : Array Value) (ds gs : List (DataW H)) (before : List MemPlace)
    (hval : ∀ (j : Nat) t v, Tryz.f7.params[j]? = some t → args[j]? = some v → Value.okWide Tryz.prog W .any base t v)
    (hW : DataW.Whole enc Tryz.prog Tryz.f7.params.toList Rows.harmlessSpec.vars false W args.toList ds gs before)
    (hk : Rows.uptoSmall H (ds ++ gs) = true) (hsh : W.ShapedOpen Tryz.prog) :
    Calls Tryz.prog 7 args W fun e W' => ∃ v, e = .returned v ∧ Rows.harmlessSpec.post enc Tryz.prog Tryz.f7 false true false false W args v W' := by
  have hW' := hW
  obtain ⟨p, q, hA0, hV, rfl, hfz, hnd⟩ := hW
  have hA : DataW.TrodAll enc Tryz.prog W 0 (fun _ => true) true Tryz.f7.params.toList args.toList ds p := hA0
  rw [Tryz.params7] at hA hval
  obtain ⟨v0, vs0, d0, ds0, p0, q0, hargs, rfl, rfl, h0, r0⟩ := trodAll_cons hA
  obtain ⟨v1, vs1, d1, ds1, p1, q1, rfl, rfl, rfl, h1, r1⟩ := trodAll_cons r0
  obtain ⟨v2, vs2, d2, ds2, p2, q2, rfl, rfl, rfl, h2, r2⟩ := trodAll_cons r1
  obtain ⟨v3, vs3, d3, ds3, p3, q3, rfl, rfl, rfl, h3, r3⟩ := trodAll_cons r2
  obtain ⟨rfl, rfl, rfl⟩ := trodAll_nil r3
  obtain rfl : args = #[v0, v1, v2, v3] := by cases args; simp_all
  obtain ⟨rfl, rfl⟩ := trodVars_none hV
  obtain ⟨s, rfl, rfl, rfl, hs⟩ := open_string Tryz.underlying9 (hval 0 9 v0 rfl rfl) h0
  obtain ⟨a1, n1, c1, rfl⟩ := okWide_slice Tryz.underlying27 (hval 1 27 v1 rfl rfl)
  obtain ⟨a2, n2, c2, rfl⟩ := okWide_slice Tryz.underlying51 (hval 2 51 v2 rfl rfl)
  obtain ⟨z, rfl, rfl, rfl, hz⟩ := open_int Tryz.underlying3 (hval 3 3 v3 rfl rfl) h3
  clear hA0
  have hlt : ∀ x, x ∈ p1 ∨ x ∈ p2 → x.block < W.heap.size := fun x hx => hW'.lt x (by simpa using hx)
  obtain ⟨fu1, g1⟩ := h1
  obtain ⟨fu2, g2⟩ := h2
  obtain ⟨fs, hfs⟩ := open_files g1
  obtain ⟨ef, hef⟩ := open_effs g2
  simp only [List.append_nil] at hW'
  have hb := of_decide_eq_true hk
  simp only [List.append_nil, Rows.uptoBulkAll, Rows.uptoBulk] at hb
  have hl1 := hfs.len
  have hl2 := hef.len
  simp only at hl1 hl2
  obtain ⟨a, cap, b, o, e1, k1⟩ := hfs.at'
  obtain ⟨ae, ce, be, oe, e2, k2⟩ := hef.at'
  have e1' := e1
  have e2' := e2
  cases e1'
  cases e2'
  have hm : (⟨s.data.toList.toArray⟩ : ByteArray) = s := (mk_eq (t := s) rfl).symm
  have hwr : ∀ e ∈ ef, e.writes.length ≤ (ef.flatMap (·.writes)).length := fun e he => flat_leE he
  have hck : wrap64 z = z := by
    have h := hz
    simp only [Lit.wf, IntKind.min, IntKind.max, IntKind.signed, IntKind.bits, Bool.and_eq_true, decide_eq_true_eq, if_true] at h
    unfold wrap64
    omega
  have walk := harmless_any s.data.toList (by omega) fs ef (fs.map (·.path) ++ (ef.flatMap (·.writes)).map (·.path)) a1 a2 c1 b o c2 W.heap.size be oe z W (fun h => (k1 h).1) (fun h => (k1 h).2) (by omega) (fun h => (k2 h).1) (fun h => ⟨(k2 h).2, Nat.le_refl _⟩) (by omega) (fun e he => by have := hwr e he; omega) (by simp only [List.length_append, List.length_map]; omega)
    (fun f hf => List.mem_append_left _ (List.mem_map_of_mem hf)) (fun e he f hf => List.mem_append_right _ (List.mem_map_of_mem (List.mem_flatMap_of_mem he hf))) (fun x hx => by
      rcases List.mem_append.1 hx with h | h
      · obtain ⟨f, hf, rfl⟩ := List.mem_map.1 h
        exact hfs.path f hf
      · obtain ⟨f, hf, rfl⟩ := List.mem_map.1 h
        obtain ⟨e, he, hf⟩ := List.mem_flatMap.1 hf
        exact hef.path e he f hf) hck (glob_shaped W hsh)
  rw [hm] at walk
  refine walk.mono fun e W' ⟨he, hn⟩ => ?_
  subst he
  exact ⟨_, rfl, _, _, _, _, _, _, hW', trodAll_cons_mk (shut_bool Tryz.underlying4 _) trodAll_mk0, trodAll_cons_mk (shut_string Tryz.underlying9 hs) (trodAll_cons_mk (Below.trod Tryz.laidOut (by kernel_rfl) (of_decide_eq_true (by kernel_rfl)) ⟨fu1, g1⟩ hn (fun x hx => hlt x (.inl hx))) (trodAll_cons_mk (Below.trod Tryz.laidOut (by kernel_rfl) (of_decide_eq_true (by kernel_rfl)) ⟨fu2, g2⟩ hn (fun x hx => hlt x (.inr hx))) (trodAll_cons_mk (shut_int Tryz.underlying3 hz) trodAll_mk0))), rfl, hn.frame _, fun h => by cases h⟩
end Go.Proofs.YtjelacjggijmfaaGreatDoor
namespace Go.Proofs.YtjelacjggijmfaaGreatDoor
open Go.ChangeShapes Go.WideShapes Go.ChangeAt Go.RowKit

set_option maxRecDepth 100000
def laidHeap (h : Array Obj) : Array Obj :=
  (h.modify 1 fun
      | .cells _ t frozen => .cells ((Go.Pinned.utf8FirstZ.map fun (n : Nat) => Value.int .u8 (n : Int)).toArray) t frozen
      | o => o).modify 2 fun
      | .cells _ t frozen => .cells (([128, 191, 160, 191, 128, 159, 144, 191, 128, 143, 0, 0, 0, 0, 0, 0, 0, 0, 0, 0, 0, 0, 0, 0, 0, 0, 0, 0, 0, 0, 0, 0].map fun (n : Int) => Value.int .u8 n).toArray) t frozen
      | o => o

theorem harmless_laid_met (os : Os) : laidMet Tryz.prog Rows.harmlessUptoRow.laid (({ World.holding Tryz.prog os ⟨#[], #[], []⟩ with heap := laidHeap (World.holding Tryz.prog os ⟨#[], #[], []⟩).heap } : World).forCall (fun _ _ => 0) ⟨#[], #[.string ⟨#[]⟩, .slice none 0 0, .slice none 0 0, .int .i64 0], []⟩).memory :=
  laidMet_of_run' 8 (by kernel_rfl) (by kernel_rfl)
theorem harmless_reads (os : Os) {H : Type} (enc : TypeId × Value → H) : ∃ places, DataW.whole enc Tryz.prog (({ World.holding Tryz.prog os ⟨#[], #[], []⟩ with heap := laidHeap (World.holding Tryz.prog os ⟨#[], #[], []⟩).heap } : World).forCall (fun _ _ => 0) ⟨#[], #[.string ⟨#[]⟩, .slice none 0 0, .slice none 0 0, .int .i64 0], []⟩).memory Tryz.f7.params.toList Rows.harmlessSpec.vars false #[Value.string ⟨#[]⟩, .slice none 0 0, .slice none 0 0, .int .i64 0].toList 8 = some ([.lit (.string []), .nil, .nil, .lit (.int .i64 0)], [], places) :=
  ⟨[], by kernel_rfl⟩

theorem harmless_lifted (os : Os) (started : os.Started) (H : Type) (enc : TypeId × Value → H) (F : Stop.Interp) :
    ReturnsInHanded {} Tryz.checked os 7 .any ((Rows.OpenSpec.upto Rows.harmlessSpec).preRow enc Tryz.prog Tryz.f7 Rows.harmlessUptoRow.domain false Rows.harmlessUptoRow.laid) (((Rows.OpenSpec.upto Rows.harmlessSpec).at F).post enc Tryz.prog Tryz.f7 false true false false) := by
  obtain ⟨places, hx⟩ := harmless_reads os enc
  refine returnsInHanded_of_row (C := Tryz.checked) (s := Rows.OpenSpec.upto Rows.harmlessSpec) own started (by kernel_rfl) Tryz.func7
    (witness_row_at (enc := enc) (C := Tryz.checked) false ({ World.holding Tryz.prog os ⟨#[], #[], []⟩ with heap := laidHeap (World.holding Tryz.prog os ⟨#[], #[], []⟩).heap }) #[.string ⟨#[]⟩, .slice none 0 0, .slice none 0 0, .int .i64 0] rfl (by kernel_rfl) (by kernel_rfl) (by kernel_rfl)
      (OpenSpec.preRow_of_cond 8 hx (by kernel_rfl) (fun k hk => by cases hk; kernel_rfl) (by kernel_rfl) (harmless_laid_met os))) ?_
  intro W base args ds gs before hval hW _ hcond _ hL hsh _
  exact harmless_contract H enc W base args ds gs before hval hW (hcond _ rfl) hsh

end Go.Proofs.YtjelacjggijmfaaGreatDoor
