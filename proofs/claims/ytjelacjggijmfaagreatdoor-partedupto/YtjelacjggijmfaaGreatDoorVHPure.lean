/-
  The small functions of package lines that call nothing: what each answers.
  What Plain is, as plain functions on lists of bytes: lines, what each is, and its plain form.
  For a law's row: what is handed in, opened.
  How long a result is; how what came out is read.
  What a plan may do: no command but its own strings; the clock tells how many; with an exit the last one had it.
-/
import Derived.Test.YtjelacjggijmfaaGreatDoorVRG1
import Derived.Test.YtjelacjggijmfaaGreatDoorVMR1
import Derived.Test.YtjelacjggijmfaaGreatDoorRows
import Derived.ProofKit
import Derived.OpenShut
import Derived.JoinedCond
import Derived.Deep.Slices
import Derived.Carry
import Derived.Test.YtjelacjggijmfaaGreatDoorVSB
import Derived.Test.YtjelacjggijmfaaGreatDoorChecked
import Derived.WalkKit
import Derived.WalkSpells
import Derived.WalkLawsBesides
import Derived.Lib.Strings
namespace Go.Pl
open Go Go.RowKit

def exitOf (ef : List Eff) (ex : Int) (c : Bs) : Int := match ef.find? (fun e => e.cmd == c) with
  | none => ex
  | some e => e.exit
def exits (ef : List Eff) (cs : List Bs) : Int := cs.foldl (exitOf ef) 0
structure Tame (ss : List Bs) (ef : List Eff) (k0 : Int) (X : Wd) : Prop where
  cmds : ∀ c ∈ X.cmds, c ∈ ss ∨ c = []
  clock : X.clock = wrap64 (k0 + X.cmds.length)
  ends : exits ef X.cmds = X.exit
  zero : ∀ i, i < X.cmds.length → exits ef (X.cmds.take i) = 0
theorem wrap64_in (a b : Int) : wrap64 (wrap64 a + b) = wrap64 (a + b) := by unfold wrap64; omega
theorem Tame.give {ss : List Bs} {ef : List Eff} {k0 : Int} {X : Wd} (h : Tame ss ef k0 X) (hx : X.exit = 0) (i : Nat) : Tame ss ef k0 (giveW ef X (ss.getD i [])) := by
  have hc : (giveW ef X (ss.getD i [])).cmds = X.cmds ++ [ss.getD i []] := by unfold giveW; split <;> rfl
  have hk : (giveW ef X (ss.getD i [])).clock = wrap64 (X.clock + 1) := by unfold giveW; split <;> rfl
  have he : (giveW ef X (ss.getD i [])).exit = exitOf ef X.exit (ss.getD i []) := by unfold giveW exitOf; cases ef.find? (fun e => e.cmd == ss.getD i []) <;> rfl
  refine ⟨fun c hcm => ?_, ?_, ?_, fun j hj => ?_⟩
  · rw [hc] at hcm
    rcases List.mem_append.1 hcm with h1 | h1
    · exact h.cmds c h1
    · simp only [List.mem_singleton] at h1
      subst h1
      rw [List.getD_eq_getElem?_getD]
      by_cases hi : i < ss.length
      · rw [List.getElem?_eq_getElem hi]; exact .inl (List.getElem_mem hi)
      · rw [List.getElem?_eq_none (by omega)]; exact .inr rfl
  · rw [hk, hc, h.clock, wrap64_in, List.length_append, List.length_singleton]
    congr 1
    push_cast
    omega
  · rw [he, hc]
    unfold exits
    rw [List.foldl_append]
    show exitOf ef (exits ef X.cmds) _ = _
    rw [h.ends]
  · rw [hc] at hj ⊢
    rw [List.length_append, List.length_singleton] at hj
    by_cases hl : j < X.cmds.length
    · rw [List.take_append_of_le_length (by omega)]; exact h.zero j hl
    · have : j = X.cmds.length := by omega
      subst this
      rw [List.take_left, h.ends, hx]
theorem exec_tame (c : Bs) (ss : List Bs) (ef : List Eff) (k0 : Int) : ∀ (f p : Nat) (st : List Bool) (fl : Nat → Bool) (X : Wd), Tame ss ef k0 X → Tame ss ef k0 (exec c ss ef f p st fl X)
  | 0, _, _, _, _, h => h
  | f + 1, p, st, fl, X, h => by
    rw [exec]
    split
    · rename_i hp
      refine exec_tame c ss ef k0 f _ _ _ _ ?_
      have : (act ss ef (mkIns c p) st fl X).2.2.2 = X ∨ ∃ i, (act ss ef (mkIns c p) st fl X).2.2.2 = giveW ef X (ss.getD i []) := by
        unfold act
        repeat' split
        all_goals first | exact .inl rfl | exact .inr ⟨_, rfl⟩
      rcases this with e | ⟨d, e⟩
      · rw [e]; exact h
      · rw [e]; exact h.give hp.2 d
    · exact h
theorem run_tame (c : Bs) (ss : List Bs) (ef : List Eff) (fs : List File) (clock : Int) (hk : wrap64 clock = clock) : Tame ss ef clock (runW c ss ef (newW fs clock)) :=
  exec_tame c ss ef clock _ _ _ _ _ ⟨by simp [newW], by show clock = wrap64 (clock + ((0 : Nat) : Int)); simp [hk], rfl, fun i hi => by simp [newW] at hi⟩
/-- A text that stands within another. -/
def Within (c l : Bs) : Prop := ∃ k, k + c.length ≤ l.length ∧ (l.drop k).take c.length = c
theorem Within.nil (l : Bs) : Within [] l := ⟨0, by simp, by simp⟩
theorem Within.drop {c l : Bs} {n : Nat} (h : Within c (l.drop n)) (hn : n ≤ l.length) : Within c l := by
  obtain ⟨k, h1, h2⟩ := h
  rw [List.length_drop] at h1
  exact ⟨n + k, by omega, by rw [← List.drop_drop]; exact h2⟩
theorem strs_within : ∀ (n : Nat) (r : Bs) (x : List Bs × Bs), strs n r = some x → ∀ s ∈ x.1, Within s r
  | 0, r, x, h, s, hs => by cases h; cases hs
  | n + 1, r, x, h, s, hs => by
    unfold strs at h
    split at h
    · rename_i hr
      cases e : strs n (r.drop (2 + two r 0)) with
      | none => rw [e] at h; cases h
      | some y =>
        rw [e] at h
        cases h
        rcases List.mem_cons.1 hs with rfl | hs
        · refine ⟨2, ?_, ?_⟩
          · rw [List.length_take, List.length_drop]; omega
          · rw [List.length_take, List.length_drop, Nat.min_eq_left (by omega)]
        · exact (strs_within n _ y e s hs).drop hr.2
    · cases h
theorem load_within {l : Bs} {ss : List Bs} {c : Bs} (h : load l = some (ss, c)) : ∀ s ∈ ss, Within s l := fun s hs => by
  unfold load at h
  split at h
  · rename_i h4
    exact (strs_within _ _ _ h s hs).drop h4.1
  · cases h
end Go.Pl
namespace Go.Proofs.YtjelacjggijmfaaGreatDoor
open Go.RowKit

theorem exec_cmds (c : Pl.Bs) (ss : List Pl.Bs) (ef : List Pl.Eff) : ∀ (f p : Nat) (st : List Bool) (fl : Nat → Bool) (X : Pl.Wd), (Pl.exec c ss ef f p st fl X).cmds.length ≤ X.cmds.length + f
  | 0, _, _, _, X => Nat.le_refl _
  | f + 1, p, st, fl, X => by
    rw [Pl.exec]
    split
    · have h1 := exec_cmds c ss ef f (Pl.act ss ef (Pl.mkIns c p) st fl X).1 (Pl.act ss ef (Pl.mkIns c p) st fl X).2.1 (Pl.act ss ef (Pl.mkIns c p) st fl X).2.2.1 (Pl.act ss ef (Pl.mkIns c p) st fl X).2.2.2
      have h2 : (Pl.act ss ef (Pl.mkIns c p) st fl X).2.2.2 = X ∨ ∃ d, (Pl.act ss ef (Pl.mkIns c p) st fl X).2.2.2 = Pl.giveW ef X d := by
        unfold Pl.act
        repeat' split
        all_goals first | exact .inl rfl | exact .inr ⟨_, rfl⟩
      rcases h2 with e | ⟨d, e⟩
      · rw [e] at h1 ⊢; omega
      · rw [e] at h1 ⊢
        rw [give_cmds', List.length_append, List.length_singleton] at h1
        omega
    · omega
theorem load_short {l : Pl.Bs} {ss : List Pl.Bs} {c : Pl.Bs} (h : Pl.load l = some (ss, c)) : c.length + 4 ≤ l.length := by
  unfold Pl.load at h
  split at h
  · rename_i h4
    have := (Pl.strs_len _ _ _ h).2
    simp only [List.length_drop] at this
    omega
  · cases h
theorem run_cmds {l : Pl.Bs} {ss : List Pl.Bs} {c : Pl.Bs} (h : Pl.load l = some (ss, c)) (fs : List Pl.File) (ef : List Pl.Eff) (clock : Int) : (Pl.runW c ss ef (Pl.newW fs clock)).cmds.length ≤ l.length := by
  have h1 := exec_cmds c ss ef (c.length + 1) 0 [] (fun _ => false) (Pl.newW fs clock)
  have h2 := load_short h
  have h3 : (Pl.newW fs clock).cmds.length = 0 := rfl
  unfold Pl.runW
  omega
theorem run_files (S : List Pl.Bs) (c : Pl.Bs) (ss : List Pl.Bs) (fs : List Pl.File) (ef : List Pl.Eff) (clock : Int) (hfS : ∀ f ∈ fs, f.path ∈ S) (hEs : ∀ e ∈ ef, ∀ f ∈ e.writes, f.path ∈ S) : (Pl.sortF (Pl.runW c ss ef (Pl.newW fs clock)).files).length ≤ S.length := by
  rw [sort_len]
  refine Fit.len ?_
  unfold Pl.runW
  exact exec_fit S c ss ef hEs _ _ _ _ _ (Fit.adds fs ⟨by simp [Pl.Uniq], by simp⟩ hfS)
theorem own_read {w : World} {B e size n : Nat} {v : Value} {xs : List Value} (h : w.ownsRow B e size v n xs) : ∃ a cap b, v = .slice a n cap ∧ (0 < n → a = some ⟨b, 0, none⟩) ∧ (0 < n → b < w.heap.size) ∧ ∀ i u, xs[i]? = some u → w.cell? ⟨b, i, none⟩ = some u := by
  rcases h.2 with ⟨h1, h2⟩ | ⟨g, cap, cur, h1, h2, h3, h4, h5, h6, h7⟩
  · refine ⟨none, 0, 0, ?_, fun h => by omega, fun h => by omega, fun i u hu => ?_⟩
    · rw [h1, h2]
    · have := h.1
      subst h2
      simp only [Nat.zero_mul, List.length_eq_zero_iff] at this
      subst this
      simp at hu
  · have hr : Row w g e cur.toList := by unfold Row; simpa using h3
    refine ⟨some ⟨g, 0, none⟩, cap, g, h1, fun _ => rfl, fun _ => hr.lt, fun i u hu => hr.cell? ?_⟩
    rw [← h7, List.getElem?_take] at hu
    split at hu
    · exact hu
    · cases hu
theorem Strs.rd {w : World} {B : Nat} {v : Value} {ss : List Pl.Bs} (h : Strs w B v ss) : ∃ a cap b, v = .slice a ss.length cap ∧ (0 < ss.length → a = some ⟨b, 0, none⟩) ∧ (0 < ss.length → b < w.heap.size) ∧ RdS w b 0 ss := by
  obtain ⟨a, cap, b, h1, h2, h3, h4⟩ := own_read h
  exact ⟨a, cap, b, h1, h2, h3, fun i hi => h4 (0 + i) _ (by simp [hi])⟩
theorem own_files {w : World} {B t : Nat} {v : Value} {fs : List Pl.File} (h : w.ownsRow B t 3 v fs.length (filesC fs)) : ∃ a cap b, v = .slice a fs.length cap ∧ (0 < fs.length → a = some ⟨b, 0, none⟩) ∧ (0 < fs.length → b < w.heap.size) ∧ RdF w b 0 fs := by
  obtain ⟨a, cap, b, h1, h2, h3, h4⟩ := own_read h
  refine ⟨a, cap, b, h1, h2, h3, fun i hi => ?_⟩
  obtain ⟨k0, k1, k2⟩ := filesC_get fs i hi
  rw [Nat.zero_add]
  exact ⟨h4 _ _ k0, h4 _ _ k1, h4 _ _ k2⟩
theorem RdE.wide {w : World} {L L' b o : Nat} {ef : List Pl.Eff} (h : RdE w L b o ef) (hL : L ≤ L') : RdE w L' b o ef := ⟨Nat.lt_of_lt_of_le h.1 hL, fun i hi => by
  obtain ⟨h1, h2, aw, cw, bw, ow, h3, h4, h5, h6⟩ := h.2 i hi
  exact ⟨h1, h2, aw, cw, bw, ow, h3, h4, h5, Nat.lt_of_lt_of_le h6 hL⟩⟩
end Go.Proofs.YtjelacjggijmfaaGreatDoor
namespace Go.Proofs.YtjelacjggijmfaaGreatDoor
open Go.ChangeShapes Go.WideShapes Go.ChangeAt Go.RowKit Go.Deep

theorem cells_file : Tryz.prog.cellsOf 65 = 3 := by kernel_rfl
theorem cells_effect : Tryz.prog.cellsOf 73 = 3 := by kernel_rfl
theorem cells_str : Tryz.prog.cellsOf 9 = 1 := by kernel_rfl
theorem cells_int : Tryz.prog.cellsOf 3 = 1 := by kernel_rfl
theorem cells_files : Tryz.prog.cellsOf 27 = 1 := by kernel_rfl
theorem str_strV (s : ByteArray) : Value.string s = strV s.data.toList := by cases s; rfl
section
variable {H : Type}
theorem bulk_pos (d : DataW H) : 1 ≤ Rows.uptoBulk d := by
  cases d with
  | lit x => cases x <;> simp [Rows.uptoBulk]
  | _ => simp [Rows.uptoBulk]
theorem bulk_len : ∀ l : List (DataW H), l.length ≤ Rows.uptoBulkAll l
  | [] => by simp [Rows.uptoBulkAll]
  | d :: r => by
    have h1 := bulk_pos d
    have h2 := bulk_len r
    simp only [Rows.uptoBulkAll, List.length_cons]
    omega
theorem bulk_sum (g : Nat → Nat) : ∀ (l : List (DataW H)) (k : Nat), (∀ i d, l[i]? = some d → g (k + i) ≤ Rows.uptoBulk d) → ((List.range' k l.length).map g).sum ≤ Rows.uptoBulkAll l
  | [], _, _ => by simp [Rows.uptoBulkAll]
  | d :: r, k, h => by
    have h1 := h 0 d rfl
    have h2 := bulk_sum g r (k + 1) (fun i d hd => by
      have := h (i + 1) d (by simpa using hd)
      rw [show k + 1 + i = k + (i + 1) by omega]
      exact this)
    simp only [Rows.uptoBulkAll, List.length_cons, List.range'_succ, List.map_cons, List.sum_cons]
    rw [Nat.add_zero] at h1
    omega
end
section
variable {H : Type} {enc : TypeId × Value → H} {W : World} {base : Nat} {spare : Nat → Bool} {held : Bool}
set_option maxRecDepth 20000 in
theorem open_file {n : Nat} {cs : List Value} {y : DataW H × List MemPlace} (h : DataW.trod enc Tryz.prog W base spare held n 65 cs = some y) : ∃ f : Pl.File, cs = [strV f.path, strV f.text, .int .i64 f.time] ∧ f.path.length ≤ maxLen := by
  obtain ⟨xs, k, hk, hxy, hl, hxl, hf⟩ := DataW.trod_struct Tryz.underlying65 h
  rw [cells_file] at hl
  have hxl : xs.length = 3 := hxl
  match cs, hl with
  | [v0, v1, v2], _ =>
    match xs, hxl with
    | [y0, y1, y2], _ =>
      have g0 := hf 0 _ rfl
      have g1 := hf 1 _ rfl
      have g2 := hf 2 _ rfl
      simp [cells_str, cells_int] at g0 g1 g2
      obtain ⟨s0, e0, -, m0⟩ := DataW.trod_string Tryz.underlying9 g0
      obtain ⟨s1, e1, -, -⟩ := DataW.trod_string Tryz.underlying9 g1
      obtain ⟨z, e2, -, -⟩ := DataW.trod_int Tryz.underlying3 g2
      simp only [List.cons.injEq, and_true] at e0 e1 e2
      refine ⟨⟨s0.data.toList, s1.data.toList, z⟩, ?_, ?_⟩
      · rw [e0, e1, e2, str_strV s0, str_strV s1]
      · show s0.data.toList.length ≤ maxLen
        rw [Array.length_toList]
        exact m0
/-- Files that are handed in. -/
structure InF (W : World) (v : Value) (fs : List Pl.File) (bulk : Nat) : Prop where
  at' : ∃ a cap b o, v = .slice a fs.length cap ∧ (0 < fs.length → a = some ⟨b, o, none⟩ ∧ RdF W b o fs ∧ b < W.heap.size)
  path : ∀ f ∈ fs, f.path.length ≤ maxLen
  len : fs.length + 1 ≤ bulk
theorem spot_none {a : Addr} {v : Value} (h : W.cell? a = some v) : a.spot = none ∧ a.block < W.heap.size := by
  refine ⟨World.cell?_spot h, ?_⟩
  unfold World.cell? at h
  rcases Nat.lt_or_ge a.block W.heap.size with h' | h'
  · exact h'
  · rw [Array.getElem?_eq_none h'] at h; cases h
theorem addr_at {a : Addr} (h : a.spot = none) (i : Nat) : a.add i = ⟨a.block, a.off + i, none⟩ := by
  unfold Addr.add
  split
  · rename_i h0; subst h0; cases a; simp_all
  · rfl
theorem open_files {fuel : Nat} {v : Value} {x : DataW H × List MemPlace} (h : DataW.trod enc Tryz.prog W base spare held fuel 27 [v] = some x) : ∃ fs, InF W v fs (Rows.uptoBulk x.1) := by
  rcases open_slice Tryz.underlying27 h with ⟨h0, rfl⟩ | ⟨a, len, cap, m, n, D, Pc, hv, hb, hlc, hm, hmm, rfl, hx⟩
  · simp only [List.cons.injEq, and_true] at h0
    exact ⟨[], ⟨none, 0, 0, 0, h0, fun h => by simp at h⟩, by simp, by simp [Rows.uptoBulk]⟩
  · simp only [List.cons.injEq, and_true] at hv
    have hlm : len ≤ m := by rw [hmm]; split <;> omega
    have each : ∀ i, i < len → ∃ f : Pl.File, (W.cell? (a.add (i * 3)) = some (strV f.path) ∧ W.cell? ((a.add (i * 3)).add 1) = some (strV f.text) ∧ W.cell? ((a.add (i * 3)).add 2) = some (.int .i64 f.time)) ∧ f.path.length ≤ maxLen := fun i hi => by
      obtain ⟨cs', h1, h2⟩ := hx i (by omega)
      rw [cells_file] at h1
      obtain ⟨_, -, hc⟩ := World.cells?_some h1
      obtain ⟨f, rfl, hp⟩ := open_file h2
      have c0 := hc 0 (by omega)
      have c1 := hc 1 (by omega)
      have c2 := hc 2 (by omega)
      exact ⟨f, ⟨by simpa [Addr.add] using c0, c1, c2⟩, hp⟩
    have hinh : Inhabited Pl.File := ⟨⟨[], [], 0⟩⟩
    obtain ⟨F, hF⟩ := choose_lt each
    have hlen : ((List.range len).map F).length = len := by simp
    refine ⟨(List.range len).map F, ⟨some a, cap, a.block, a.off, by rw [hlen, hv], fun h0 => ?_⟩, fun f hf => ?_, ?_⟩
    · rw [hlen] at h0
      obtain ⟨hs, hbl⟩ := spot_none (hF 0 h0).1.1
      have hs' : a.spot = none := by simpa [Addr.add] using hs
      have hbl' : a.block < W.heap.size := by simpa [Addr.add] using hbl
      refine ⟨by cases a; simp_all, fun i hi => ?_, hbl'⟩
      have hi' : i < len := by omega
      obtain ⟨⟨c0, c1, c2⟩, -⟩ := hF i hi'
      rw [add_add] at c1 c2
      rw [addr_at hs'] at c0 c1 c2
      simp only [List.getElem_map, List.getElem_range]
      exact ⟨c0, by rw [Nat.add_assoc]; exact c1, by rw [Nat.add_assoc]; exact c2⟩
    · obtain ⟨i, hi, rfl⟩ := List.mem_map.1 hf
      exact (hF i (List.mem_range.1 hi)).2
    · have := bulk_len ((List.range len).map D)
      simp only [Rows.uptoBulk]
      rw [hlen]
      simp only [List.length_map, List.length_range] at this
      omega
/-- Effects that are handed in. -/
structure InE (W : World) (v : Value) (ef : List Pl.Eff) (bulk : Nat) : Prop where
  at' : ∃ a cap b o, v = .slice a ef.length cap ∧ (0 < ef.length → a = some ⟨b, o, none⟩ ∧ RdE W W.heap.size b o ef)
  path : ∀ e ∈ ef, ∀ f ∈ e.writes, f.path.length ≤ maxLen
  len : ef.length + (ef.flatMap (·.writes)).length + 1 ≤ bulk
set_option maxRecDepth 20000 in
theorem open_eff {n : Nat} {cs : List Value} {y : DataW H × List MemPlace} (h : DataW.trod enc Tryz.prog W base spare held n 73 cs = some y) : ∃ (e : Pl.Eff) (vw : Value) (bulk : Nat), cs = [strV e.cmd, vw, .int .i64 e.exit] ∧ InF W vw e.writes bulk ∧ bulk + 1 ≤ Rows.uptoBulk y.1 := by
  obtain ⟨xs, k, hk, hxy, hl, hxl, hf⟩ := DataW.trod_struct Tryz.underlying73 h
  rw [cells_effect] at hl
  have hxl : xs.length = 3 := hxl
  match cs, hl with
  | [v0, v1, v2], _ =>
    match xs, hxl with
    | [y0, y1, y2], _ =>
      have g0 := hf 0 _ rfl
      have g1 := hf 1 _ rfl
      have g2 := hf 2 _ rfl
      simp [cells_str, cells_int, cells_files] at g0 g1 g2
      obtain ⟨s0, e0, -, -⟩ := DataW.trod_string Tryz.underlying9 g0
      obtain ⟨fs, hfs⟩ := open_files g1
      obtain ⟨z, e2, -, -⟩ := DataW.trod_int Tryz.underlying3 g2
      simp only [List.cons.injEq, and_true] at e0 e2
      refine ⟨⟨s0.data.toList, fs, z⟩, v1, _, ?_, hfs, ?_⟩
      · rw [e0, e2, str_strV s0]
      · rw [hxy]
        simp only [List.map_cons, List.map_nil, Rows.uptoBulk, Rows.uptoBulkAll]
        omega
theorem flat_lenE (ef : List Pl.Eff) : (ef.flatMap (·.writes)).length = (ef.map (·.writes.length)).sum := by
  induction ef with
  | nil => rfl
  | cons e r ih => rw [List.flatMap_cons, List.length_append, ih, List.map_cons, List.sum_cons]
theorem flat_leE {ef : List Pl.Eff} {e : Pl.Eff} (h : e ∈ ef) : e.writes.length ≤ (ef.flatMap (·.writes)).length := by
  induction ef with
  | nil => cases h
  | cons g r ih =>
    rw [List.flatMap_cons, List.length_append]
    rcases List.mem_cons.1 h with rfl | h
    · omega
    · have := ih h
      omega
theorem sum_add_len : ∀ (l : List Nat), (l.map (· + 1)).sum = l.sum + l.length
  | [] => rfl
  | x :: r => by simp only [List.map_cons, List.sum_cons, List.length_cons, sum_add_len r]; omega
theorem open_effs {fuel : Nat} {v : Value} {x : DataW H × List MemPlace} (h : DataW.trod enc Tryz.prog W base spare held fuel 51 [v] = some x) : ∃ ef, InE W v ef (Rows.uptoBulk x.1) := by
  rcases open_slice Tryz.underlying51 h with ⟨h0, rfl⟩ | ⟨a, len, cap, m, n, D, Pc, hv, hb, hlc, hm, hmm, rfl, hx⟩
  · simp only [List.cons.injEq, and_true] at h0
    exact ⟨[], ⟨none, 0, 0, 0, h0, fun h => by simp at h⟩, by simp, by simp [Rows.uptoBulk]⟩
  · simp only [List.cons.injEq, and_true] at hv
    have hlm : len ≤ m := by rw [hmm]; split <;> omega
    have each : ∀ i, i < len → ∃ e : Pl.Eff, (∃ vw bulk, (W.cell? (a.add (i * 3)) = some (strV e.cmd) ∧ W.cell? ((a.add (i * 3)).add 1) = some vw ∧ W.cell? ((a.add (i * 3)).add 2) = some (.int .i64 e.exit)) ∧ InF W vw e.writes bulk) ∧ e.writes.length + 1 ≤ Rows.uptoBulk (D i) := fun i hi => by
      obtain ⟨cs', h1, h2⟩ := hx i (by omega)
      rw [cells_effect] at h1
      obtain ⟨_, -, hc⟩ := World.cells?_some h1
      obtain ⟨e, vw, bulk, rfl, hp, hq⟩ := open_eff h2
      have c0 := hc 0 (by omega)
      have c1 := hc 1 (by omega)
      have c2 := hc 2 (by omega)
      have hl := hp.len
      have hq : bulk + 1 ≤ Rows.uptoBulk (D i) := hq
      exact ⟨e, ⟨vw, bulk, ⟨by simpa [Addr.add] using c0, c1, c2⟩, hp⟩, by omega⟩
    have hinh : Inhabited Pl.Eff := ⟨⟨[], [], 0⟩⟩
    obtain ⟨F, hF⟩ := choose_lt each
    have hlen : ((List.range len).map F).length = len := by simp
    refine ⟨(List.range len).map F, ⟨some a, cap, a.block, a.off, by rw [hlen, hv], fun h0 => ?_⟩, fun e he => ?_, ?_⟩
    · rw [hlen] at h0
      obtain ⟨vw, bulk, ⟨c0, -, -⟩, -⟩ := (hF 0 h0).1
      obtain ⟨hs, hbl⟩ := spot_none c0
      have hs' : a.spot = none := by simpa [Addr.add] using hs
      have hbl' : a.block < W.heap.size := by simpa [Addr.add] using hbl
      refine ⟨by cases a; simp_all, hbl', fun i hi => ?_⟩
      have hi' : i < len := by omega
      obtain ⟨⟨vw, bulk, ⟨c0, c1, c2⟩, hin⟩, -⟩ := hF i hi'
      rw [add_add] at c1 c2
      rw [addr_at hs'] at c0 c1 c2
      simp only [List.getElem_map, List.getElem_range]
      obtain ⟨aw, cw, bw, ow, rfl, hw⟩ := hin.at'
      refine ⟨c0, by rw [Nat.add_assoc]; exact c2, ?_⟩
      by_cases h1 : 0 < (F i).writes.length
      · obtain ⟨q1, q2, q3⟩ := hw h1
        exact ⟨aw, cw, bw, ow, by rw [Nat.add_assoc]; exact c1, fun _ => q1, q2, q3⟩
      · exact ⟨aw, cw, 0, 0, by rw [Nat.add_assoc]; exact c1, fun h => absurd h h1, fun j hj => by omega, by omega⟩
    · obtain ⟨i, hi, rfl⟩ := List.mem_map.1 he
      obtain ⟨⟨vw, bulk, -, hin⟩, -⟩ := hF i (List.mem_range.1 hi)
      exact hin.path
    · have h1 := bulk_sum (fun i => (F i).writes.length + 1) ((List.range len).map D) 0 (fun i d hd => by
        obtain ⟨hi, rfl⟩ := List.getElem?_eq_some_iff.1 hd
        simp only [List.length_map, List.length_range] at hi
        simp only [List.getElem_map, List.getElem_range, Nat.zero_add]
        exact (hF i hi).2)
      rw [List.length_map, List.length_range] at h1
      rw [flat_lenE, List.map_map, hlen]
      have h2 := sum_add_len ((List.range len).map fun i => (F i).writes.length)
      rw [List.map_map, List.length_map, List.length_range] at h2
      rw [← List.range_eq_range'] at h1
      simp only [Rows.uptoBulk]
      have h3 : ((List.range len).map ((fun x => x + 1) ∘ fun i => (F i).writes.length)).sum = ((List.range len).map fun i => (F i).writes.length + 1).sum := rfl
      have h4 : ((List.range len).map ((fun x => x.writes.length) ∘ F)).sum = ((List.range len).map fun i => (F i).writes.length).sum := rfl
      rw [h4]
      rw [h3] at h2
      omega
end
end Go.Proofs.YtjelacjggijmfaaGreatDoor
namespace Go.Mk
abbrev Bs := List UInt8

def blk (c : UInt8) : Bool := c == 32 || c == 9
def cutL (l : Bs) : Bs := l.dropWhile blk
def cutR (l : Bs) : Bs := (l.reverse.dropWhile blk).reverse
def cut (l : Bs) : Bs := cutL (cutR l)
def noBack (l : Bs) : Bs := (l.reverse.dropWhile (· == 92)).reverse
def endsBack (l : Bs) : Bool := l.getLast? == some 92

def segs : Bs → List Bs
  | [] => [[]]
  | c :: r => if c == 10 then [] :: segs r else (c :: (segs r).headD []) :: (segs r).tail

def take1 : Bs → Nat → Bs → List Bs → Bs × Nat × List Bs
  | acc, used, p, [] => (acc ++ noBack p, used, [])
  | acc, used, p, q :: qs => if endsBack p then take1 (acc ++ p.dropLast ++ [32]) (used + 1) (cutL q) qs else (acc ++ p, used, q :: qs)

def joinF : Nat → Nat → List Bs → List (Nat × Bs)
  | 0, _, _ => []
  | _ + 1, _, [] => []
  | f + 1, n, p :: ps => (n, (take1 [] 1 p ps).1) :: joinF f (n + (take1 [] 1 p ps).2.1) (take1 [] 1 p ps).2.2
def joined (t : Bs) : List (Nat × Bs) := joinF (segs t).length 1 (segs t)

structure Ln where
  number : Nat
  kind : Nat
  left : Bs
  right : Bs

def Ln.zero : Ln := ⟨0, 0, [], []⟩
def incl : Bs := [105, 110, 99, 108, 117, 100, 101]
def before (c : UInt8) (l : Bs) : Bs := l.takeWhile (fun x => !(x == c))
def letter (c : UInt8) : Bool := (65 ≤ c && c ≤ 90) || (97 ≤ c && c ≤ 122) || (48 ≤ c && c ≤ 57) || c == 95
def isName (l : Bs) : Bool := !l.isEmpty && decide (l.length ≤ 16) && l.all letter
def noSign (c : UInt8) : Bool := !(c == 61 || c == 58)
def kindOf : Bs → Nat × Bs
  | 58 :: 61 :: b => (3, b)
  | 61 :: b => (4, b)
  | l => (5, l.tail)
def mayStand (kind : Nat) (left : Bs) : Bool :=
  if left == incl then false else if kind == 5 then !left.isEmpty else isName left
def parseCmd (w : Bs) : Ln := if (cutL w).isEmpty then Ln.zero else ⟨0, 1, [], cutL w⟩
def isIncl (t : Bs) : Bool := incl.isPrefixOf t && (match t.drop 7 with | [] => true | c :: _ => blk c)
def parseIncl (b : Bs) : Ln × Nat := if b.isEmpty then (Ln.zero, 1) else (⟨0, 2, [], b⟩, 0)
def parseSides (t : Bs) : Ln × Nat :=
  if (t.dropWhile noSign).isEmpty then (Ln.zero, 1)
  else if mayStand (kindOf (t.dropWhile noSign)).1 (cut (t.takeWhile noSign)) then (⟨0, (kindOf (t.dropWhile noSign)).1, cut (t.takeWhile noSign), cut (kindOf (t.dropWhile noSign)).2⟩, 0)
  else (Ln.zero, 1)
def parse (w : Bs) : Ln × Nat :=
  if [9].isPrefixOf w then (parseCmd w, 0)
  else if (cut (before 35 w)).isEmpty then (Ln.zero, 0)
  else if isIncl (cut (before 35 w)) then parseIncl (cut ((cut (before 35 w)).drop 7))
  else parseSides (cut (before 35 w))

def allF : List (Nat × Bs) → List (Ln × Nat)
  | [] => []
  | (n, w) :: r => if (parse w).2 == 0 && (parse w).1.kind == 0 then allF r
      else ({ (parse w).1 with number := n }, (parse w).2) :: (if (parse w).2 == 0 then allF r else [])

def wordsA : Bs → Bs → List Bs
  | cur, [] => if cur.isEmpty then [] else [cur]
  | cur, c :: r => if blk c then (if cur.isEmpty then wordsA [] r else cur :: wordsA [] r) else wordsA (cur ++ [c]) r
def words (l : Bs) : List Bs := wordsA [] l
def oneBlank (l : Bs) : Bs := [32].intercalate (words l)
def sides (left sign right : Bs) : Bs := if right.isEmpty then left ++ [32] ++ sign else left ++ [32] ++ sign ++ [32] ++ right
def written (l : Ln) : Bs :=
  if l.kind == 1 then [9] ++ l.right
  else if l.kind == 2 then incl ++ [32] ++ oneBlank l.right
  else if l.kind == 3 then sides l.left [58, 61] l.right
  else if l.kind == 4 then sides l.left [61] l.right
  else sides (oneBlank l.left) [58] (oneBlank l.right)
def closed (l : Bs) : Bs := if endsBack l then l ++ [32] else l

/-- The flag and the text behind some lines; none: it has ended with an error. -/
def textTo : Bool → Bs → List (Ln × Nat) → Option (Bool × Bs)
  | op, acc, [] => some (op, acc)
  | op, acc, (l, e) :: r => if e == 0 && !(l.kind == 1 && !op) then textTo (if l.kind == 1 then op else l.kind == 5) (acc ++ closed (written l) ++ [10]) r else none
def textF : Bool → Bs → List (Ln × Nat) → Bs × Nat × Nat
  | _, acc, [] => (acc, 0, 0)
  | op, acc, (l, e) :: r => if e == 0 then (if l.kind == 1 && !op then ([], 1, l.number) else textF (if l.kind == 1 then op else l.kind == 5) (acc ++ closed (written l) ++ [10]) r) else ([], e, l.number)
def plainOf (t : Bs) : Bs × Nat × Nat := textF false [] (allF (joined t))
end Go.Mk
namespace Go.Proofs.YtjelacjggijmfaaGreatDoor
open Go.RowKit

theorem bcell {W w1 : World} (hb : Below W.heap.size W w1) : (∀ b o, b < W.heap.size → w1.cell? ⟨b, o, none⟩ = W.cell? ⟨b, o, none⟩) ∧ (∀ b o, b < W.heap.size → w1.frozen? ⟨b, o, none⟩ = W.frozen? ⟨b, o, none⟩) :=
  ⟨fun b o h => hb.cell (p := ⟨b, o, none⟩) h, fun b o h => hb.frozen (p := ⟨b, o, none⟩) h⟩
/-- A block of four cells. -/
def Box4 (w : World) (b : Nat) (t : TypeId) (a0 a1 a2 a3 : Value) : Prop := w.heap[b]? = some (.cells #[a0, a1, a2, a3] t (0, 0))
theorem Box4.new (w : World) (t : TypeId) (a0 a1 a2 a3 : Value) : Box4 (w.alloc (.cells #[a0, a1, a2, a3] t)) w.heap.size t a0 a1 a2 a3 := by show (w.heap.push _)[w.heap.size]? = _; simp
theorem Box4.lt {w : World} {b : Nat} {t : TypeId} {a0 a1 a2 a3 : Value} (h : Box4 w b t a0 a1 a2 a3) : b < w.heap.size := (Array.getElem?_eq_some_iff.1 h).1
theorem Box4.later {w w' : World} {b : Nat} {t : TypeId} {a0 a1 a2 a3 : Value} (h : Box4 w b t a0 a1 a2 a3) (hb : Below w.heap.size w w') : Box4 w' b t a0 a1 a2 a3 := (hb.block b h.lt).trans h
theorem Box4.alloc {w : World} {b : Nat} {t : TypeId} {a0 a1 a2 a3 : Value} (h : Box4 w b t a0 a1 a2 a3) (o : Obj) : Box4 (w.alloc o) b t a0 a1 a2 a3 := (Below.heap_alloc w o b h.lt).trans h
theorem Box4.cells {w : World} {b : Nat} {t : TypeId} {a0 a1 a2 a3 : Value} (h : Box4 w b t a0 a1 a2 a3) :
    (w.cell? ⟨b, 0, none⟩ = some a0 ∧ w.cell? ⟨b, 1, none⟩ = some a1 ∧ w.cell? ⟨b, 2, none⟩ = some a2 ∧ w.cell? ⟨b, 3, none⟩ = some a3) ∧
    (w.frozen? ⟨b, 0, none⟩ = false ∧ w.frozen? ⟨b, 1, none⟩ = false ∧ w.frozen? ⟨b, 2, none⟩ = false ∧ w.frozen? ⟨b, 3, none⟩ = false) := by
  unfold Box4 at h
  simp [World.cell?, World.frozen?, h]
def blkI (r : Int) : Bool := r == 32 || r == 9
def letterI (r : Int) : Bool := (decide (65 ≤ r) && decide (r ≤ 90)) || (decide (97 ≤ r) && decide (r ≤ 122)) || (decide (48 ≤ r) && decide (r ≤ 57)) || r == 95
set_option maxHeartbeats 400000 in
theorem isBlank_any (r : Int) (w : World) :
    Calls Tryz.prog 212 #[.int .i32 r] w fun e w' => e = .returned (.bool (blkI r)) ∧ w = w' := by
  go_enter Tryz.func212, Tryz.ntmps212
  go_wp2
  all_goals go_ret
  all_goals (refine ⟨?_, rfl⟩; simp [blkI, *])
set_option maxHeartbeats 400000 in
theorem isLetter_any (r : Int) (w : World) :
    Calls Tryz.prog 275 #[.int .i32 r] w fun e w' => e = .returned (.bool (letterI r)) ∧ w = w' := by
  go_enter Tryz.func275, Tryz.ntmps275
  go_wp2
  all_goals go_ret
  all_goals (refine ⟨ret_bool ?_, rfl⟩; rw [Bool.eq_iff_iff]; simp [letterI]; try omega)
end Go.Proofs.YtjelacjggijmfaaGreatDoor
