/-
  Runs of package makerlaw: the program's Run does, with every text for a plan, with every files, effects and clock, twice, what the document's own answer tells; what is handed in stays as it is, and what comes out is the caller's. Proved of all arguments whose values and letters together come to at most 1048576.
  For Runs' row: what is handed in, opened.
-/
import Derived.Test.YtjelacjggijmfaaRows
import Derived.Test.YtjelacjggijmfaaGRU1
import Derived.ProofKit
import Derived.OpenShut
import Derived.JoinedCond
import Derived.Deep.Slices
import Derived.Carry
namespace Go.Proofs.Ytjelacjggijmfaa
open Go.ChangeShapes Go.WideShapes Go.ChangeAt Go.RowKit Go.Deep

theorem cells_file : Try.prog.cellsOf 62 = 3 := by kernel_rfl
theorem cells_effect : Try.prog.cellsOf 66 = 3 := by kernel_rfl
theorem cells_str : Try.prog.cellsOf 9 = 1 := by kernel_rfl
theorem cells_int : Try.prog.cellsOf 3 = 1 := by kernel_rfl
theorem cells_files : Try.prog.cellsOf 27 = 1 := by kernel_rfl
theorem str_strV (s : ByteArray) : Value.string s = strV s.data.toList := by cases s; rfl
section
variable {H : Type}
theorem bulk_pos (d : DataW H) : 1 ≤ Rows.uptoBulk d := by
  cases d with
  | lit x => cases x <;> simp [Rows.uptoBulk]
  | _ => simp [Rows.uptoBulk]
theorem bulk_len : ∀ l : List (DataW H), l.length ≤ Rows.uptoBulkAll l
  | [] => by simp [Rows.uptoBulkAll]
  | d :: r => by
    have h1 := bulk_pos d
    have h2 := bulk_len r
    simp only [Rows.uptoBulkAll, List.length_cons]
    omega
theorem bulk_sum (g : Nat → Nat) : ∀ (l : List (DataW H)) (k : Nat), (∀ i d, l[i]? = some d → g (k + i) ≤ Rows.uptoBulk d) → ((List.range' k l.length).map g).sum ≤ Rows.uptoBulkAll l
  | [], _, _ => by simp [Rows.uptoBulkAll]
  | d :: r, k, h => by
    have h1 := h 0 d rfl
    have h2 := bulk_sum g r (k + 1) (fun i d hd => by
      have := h (i + 1) d (by simpa using hd)
      rw [show k + 1 + i = k + (i + 1) by omega]
      exact this)
    simp only [Rows.uptoBulkAll, List.length_cons, List.range'_succ, List.map_cons, List.sum_cons]
    rw [Nat.add_zero] at h1
    omega
end
section
variable {H : Type} {enc : TypeId × Value → H} {W : World} {base : Nat} {spare : Nat → Bool} {held : Bool}
set_option maxRecDepth 20000 in
theorem open_file {n : Nat} {cs : List Value} {y : DataW H × List MemPlace} (h : DataW.trod enc Try.prog W base spare held n 62 cs = some y) : ∃ f : Pl.File, cs = [strV f.path, strV f.text, .int .i64 f.time] ∧ f.path.length ≤ maxLen := by
  obtain ⟨xs, k, hk, hxy, hl, hxl, hf⟩ := DataW.trod_struct Try.underlying62 h
  rw [cells_file] at hl
  have hxl : xs.length = 3 := hxl
  match cs, hl with
  | [v0, v1, v2], _ =>
    match xs, hxl with
    | [y0, y1, y2], _ =>
      have g0 := hf 0 _ rfl
      have g1 := hf 1 _ rfl
      have g2 := hf 2 _ rfl
      simp [cells_str, cells_int] at g0 g1 g2
      obtain ⟨s0, e0, -, m0⟩ := DataW.trod_string Try.underlying9 g0
      obtain ⟨s1, e1, -, -⟩ := DataW.trod_string Try.underlying9 g1
      obtain ⟨z, e2, -, -⟩ := DataW.trod_int Try.underlying3 g2
      simp only [List.cons.injEq, and_true] at e0 e1 e2
      refine ⟨⟨s0.data.toList, s1.data.toList, z⟩, ?_, ?_⟩
      · rw [e0, e1, e2, str_strV s0, str_strV s1]
      · show s0.data.toList.length ≤ maxLen
        rw [Array.length_toList]
        exact m0
/-- Files that are handed in. -/
structure InF (W : World) (v : Value) (fs : List Pl.File) (bulk : Nat) : Prop where
  at' : ∃ a cap b o, v = .slice a fs.length cap ∧ (0 < fs.length → a = some ⟨b, o, none⟩ ∧ RdF W b o fs ∧ b < W.heap.size)
  path : ∀ f ∈ fs, f.path.length ≤ maxLen
  len : fs.length + 1 ≤ bulk
theorem spot_none {a : Addr} {v : Value} (h : W.cell? a = some v) : a.spot = none ∧ a.block < W.heap.size := by
  refine ⟨World.cell?_spot h, ?_⟩
  unfold World.cell? at h
  rcases Nat.lt_or_ge a.block W.heap.size with h' | h'
  · exact h'
  · rw [Array.getElem?_eq_none h'] at h; cases h
theorem addr_at {a : Addr} (h : a.spot = none) (i : Nat) : a.add i = ⟨a.block, a.off + i, none⟩ := by
  unfold Addr.add
  split
  · rename_i h0; subst h0; cases a; simp_all
  · rfl
theorem open_files {fuel : Nat} {v : Value} {x : DataW H × List MemPlace} (h : DataW.trod enc Try.prog W base spare held fuel 27 [v] = some x) : ∃ fs, InF W v fs (Rows.uptoBulk x.1) := by
  rcases open_slice Try.underlying27 h with ⟨h0, rfl⟩ | ⟨a, len, cap, m, n, D, Pc, hv, hb, hlc, hm, hmm, rfl, hx⟩
  · simp only [List.cons.injEq, and_true] at h0
    exact ⟨[], ⟨none, 0, 0, 0, h0, fun h => by simp at h⟩, by simp, by simp [Rows.uptoBulk]⟩
  · simp only [List.cons.injEq, and_true] at hv
    have hlm : len ≤ m := by rw [hmm]; split <;> omega
    have each : ∀ i, i < len → ∃ f : Pl.File, (W.cell? (a.add (i * 3)) = some (strV f.path) ∧ W.cell? ((a.add (i * 3)).add 1) = some (strV f.text) ∧ W.cell? ((a.add (i * 3)).add 2) = some (.int .i64 f.time)) ∧ f.path.length ≤ maxLen := fun i hi => by
      obtain ⟨cs', h1, h2⟩ := hx i (by omega)
      rw [cells_file] at h1
      obtain ⟨_, -, hc⟩ := World.cells?_some h1
      obtain ⟨f, rfl, hp⟩ := open_file h2
      have c0 := hc 0 (by omega)
      have c1 := hc 1 (by omega)
      have c2 := hc 2 (by omega)
      exact ⟨f, ⟨by simpa [Addr.add] using c0, c1, c2⟩, hp⟩
    have hinh : Inhabited Pl.File := ⟨zf⟩
    obtain ⟨F, hF⟩ := choose_lt each
    have hlen : ((List.range len).map F).length = len := by simp
    refine ⟨(List.range len).map F, ⟨some a, cap, a.block, a.off, by rw [hlen, hv], fun h0 => ?_⟩, fun f hf => ?_, ?_⟩
    · rw [hlen] at h0
      obtain ⟨hs, hbl⟩ := spot_none (hF 0 h0).1.1
      have hs' : a.spot = none := by simpa [Addr.add] using hs
      have hbl' : a.block < W.heap.size := by simpa [Addr.add] using hbl
      refine ⟨by cases a; simp_all, fun i hi => ?_, hbl'⟩
      have hi' : i < len := by omega
      obtain ⟨⟨c0, c1, c2⟩, -⟩ := hF i hi'
      rw [add_add] at c1 c2
      rw [addr_at hs'] at c0 c1 c2
      simp only [List.getElem_map, List.getElem_range]
      exact ⟨c0, by rw [Nat.add_assoc]; exact c1, by rw [Nat.add_assoc]; exact c2⟩
    · obtain ⟨i, hi, rfl⟩ := List.mem_map.1 hf
      exact (hF i (List.mem_range.1 hi)).2
    · have := bulk_len ((List.range len).map D)
      simp only [Rows.uptoBulk]
      rw [hlen]
      simp only [List.length_map, List.length_range] at this
      omega
/-- Effects that are handed in. -/
structure InE (W : World) (v : Value) (ef : List Pl.Eff) (bulk : Nat) : Prop where
  at' : ∃ a cap b o, v = .slice a ef.length cap ∧ (0 < ef.length → a = some ⟨b, o, none⟩ ∧ RdE W W.heap.size b o ef)
  path : ∀ e ∈ ef, ∀ f ∈ e.writes, f.path.length ≤ maxLen
  len : ef.length + (ef.flatMap (·.writes)).length + 1 ≤ bulk
set_option maxRecDepth 20000 in
theorem open_eff {n : Nat} {cs : List Value} {y : DataW H × List MemPlace} (h : DataW.trod enc Try.prog W base spare held n 66 cs = some y) : ∃ (e : Pl.Eff) (vw : Value) (bulk : Nat), cs = [strV e.cmd, vw, .int .i64 e.exit] ∧ InF W vw e.writes bulk ∧ bulk + 1 ≤ Rows.uptoBulk y.1 := by
  obtain ⟨xs, k, hk, hxy, hl, hxl, hf⟩ := DataW.trod_struct Try.underlying66 h
  rw [cells_effect] at hl
  have hxl : xs.length = 3 := hxl
  match cs, hl with
  | [v0, v1, v2], _ =>
    match xs, hxl with
    | [y0, y1, y2], _ =>
      have g0 := hf 0 _ rfl
      have g1 := hf 1 _ rfl
      have g2 := hf 2 _ rfl
      simp [cells_str, cells_int, cells_files] at g0 g1 g2
      obtain ⟨s0, e0, -, -⟩ := DataW.trod_string Try.underlying9 g0
      obtain ⟨fs, hfs⟩ := open_files g1
      obtain ⟨z, e2, -, -⟩ := DataW.trod_int Try.underlying3 g2
      simp only [List.cons.injEq, and_true] at e0 e2
      refine ⟨⟨s0.data.toList, fs, z⟩, v1, _, ?_, hfs, ?_⟩
      · rw [e0, e2, str_strV s0]
      · rw [hxy]
        simp only [List.map_cons, List.map_nil, Rows.uptoBulk, Rows.uptoBulkAll]
        omega
theorem flat_len (ef : List Pl.Eff) : (ef.flatMap (·.writes)).length = (ef.map (·.writes.length)).sum := by
  induction ef with
  | nil => rfl
  | cons e r ih => rw [List.flatMap_cons, List.length_append, ih, List.map_cons, List.sum_cons]
theorem flat_le {ef : List Pl.Eff} {e : Pl.Eff} (h : e ∈ ef) : e.writes.length ≤ (ef.flatMap (·.writes)).length := by
  induction ef with
  | nil => cases h
  | cons g r ih =>
    rw [List.flatMap_cons, List.length_append]
    rcases List.mem_cons.1 h with rfl | h
    · omega
    · have := ih h
      omega
theorem sum_add_len : ∀ (l : List Nat), (l.map (· + 1)).sum = l.sum + l.length
  | [] => rfl
  | x :: r => by simp only [List.map_cons, List.sum_cons, List.length_cons, sum_add_len r]; omega
theorem open_effs {fuel : Nat} {v : Value} {x : DataW H × List MemPlace} (h : DataW.trod enc Try.prog W base spare held fuel 28 [v] = some x) : ∃ ef, InE W v ef (Rows.uptoBulk x.1) := by
  rcases open_slice Try.underlying28 h with ⟨h0, rfl⟩ | ⟨a, len, cap, m, n, D, Pc, hv, hb, hlc, hm, hmm, rfl, hx⟩
  · simp only [List.cons.injEq, and_true] at h0
    exact ⟨[], ⟨none, 0, 0, 0, h0, fun h => by simp at h⟩, by simp, by simp [Rows.uptoBulk]⟩
  · simp only [List.cons.injEq, and_true] at hv
    have hlm : len ≤ m := by rw [hmm]; split <;> omega
    have each : ∀ i, i < len → ∃ e : Pl.Eff, (∃ vw bulk, (W.cell? (a.add (i * 3)) = some (strV e.cmd) ∧ W.cell? ((a.add (i * 3)).add 1) = some vw ∧ W.cell? ((a.add (i * 3)).add 2) = some (.int .i64 e.exit)) ∧ InF W vw e.writes bulk) ∧ e.writes.length + 1 ≤ Rows.uptoBulk (D i) := fun i hi => by
      obtain ⟨cs', h1, h2⟩ := hx i (by omega)
      rw [cells_effect] at h1
      obtain ⟨_, -, hc⟩ := World.cells?_some h1
      obtain ⟨e, vw, bulk, rfl, hp, hq⟩ := open_eff h2
      have c0 := hc 0 (by omega)
      have c1 := hc 1 (by omega)
      have c2 := hc 2 (by omega)
      have hl := hp.len
      have hq : bulk + 1 ≤ Rows.uptoBulk (D i) := hq
      exact ⟨e, ⟨vw, bulk, ⟨by simpa [Addr.add] using c0, c1, c2⟩, hp⟩, by omega⟩
    have hinh : Inhabited Pl.Eff := ⟨⟨[], [], 0⟩⟩
    obtain ⟨F, hF⟩ := choose_lt each
    have hlen : ((List.range len).map F).length = len := by simp
    refine ⟨(List.range len).map F, ⟨some a, cap, a.block, a.off, by rw [hlen, hv], fun h0 => ?_⟩, fun e he => ?_, ?_⟩
    · rw [hlen] at h0
      obtain ⟨vw, bulk, ⟨c0, -, -⟩, -⟩ := (hF 0 h0).1
      obtain ⟨hs, hbl⟩ := spot_none c0
      have hs' : a.spot = none := by simpa [Addr.add] using hs
      have hbl' : a.block < W.heap.size := by simpa [Addr.add] using hbl
      refine ⟨by cases a; simp_all, hbl', fun i hi => ?_⟩
      have hi' : i < len := by omega
      obtain ⟨⟨vw, bulk, ⟨c0, c1, c2⟩, hin⟩, -⟩ := hF i hi'
      rw [add_add] at c1 c2
      rw [addr_at hs'] at c0 c1 c2
      simp only [List.getElem_map, List.getElem_range]
      obtain ⟨aw, cw, bw, ow, rfl, hw⟩ := hin.at'
      refine ⟨c0, by rw [Nat.add_assoc]; exact c2, ?_⟩
      by_cases h1 : 0 < (F i).writes.length
      · obtain ⟨q1, q2, q3⟩ := hw h1
        exact ⟨aw, cw, bw, ow, by rw [Nat.add_assoc]; exact c1, fun _ => q1, q2, q3⟩
      · exact ⟨aw, cw, 0, 0, by rw [Nat.add_assoc]; exact c1, fun h => absurd h h1, fun j hj => by omega, by omega⟩
    · obtain ⟨i, hi, rfl⟩ := List.mem_map.1 he
      obtain ⟨⟨vw, bulk, -, hin⟩, -⟩ := hF i (List.mem_range.1 hi)
      exact hin.path
    · have h1 := bulk_sum (fun i => (F i).writes.length + 1) ((List.range len).map D) 0 (fun i d hd => by
        obtain ⟨hi, rfl⟩ := List.getElem?_eq_some_iff.1 hd
        simp only [List.length_map, List.length_range] at hi
        simp only [List.getElem_map, List.getElem_range, Nat.zero_add]
        exact (hF i hi).2)
      rw [List.length_map, List.length_range] at h1
      rw [flat_len, List.map_map, hlen]
      have h2 := sum_add_len ((List.range len).map fun i => (F i).writes.length)
      rw [List.map_map, List.length_map, List.length_range] at h2
      rw [← List.range_eq_range'] at h1
      simp only [Rows.uptoBulk]
      have h3 : ((List.range len).map ((fun x => x + 1) ∘ fun i => (F i).writes.length)).sum = ((List.range len).map fun i => (F i).writes.length + 1).sum := rfl
      have h4 : ((List.range len).map ((fun x => x.writes.length) ∘ F)).sum = ((List.range len).map fun i => (F i).writes.length).sum := rfl
      rw [h4]
      rw [h3] at h2
      omega
end
end Go.Proofs.Ytjelacjggijmfaa
namespace Go.Proofs.Ytjelacjggijmfaa
open Go.ChangeShapes Go.WideShapes Go.ChangeAt Go.RowKit
open Go.ChangeMaps (open_string shut_string)

theorem ownR : ownKnob Try.prog.godebug = none := by kernel_rfl
theorem Try.laidOut : laidOutB Try.prog = true := by kernel_rfl
set_option maxRecDepth 100000 in
theorem runs_contract (H : Type) (enc : TypeId × Value → H) (W : World) (base : Nat) (args : Array Value) (ds gs : List (DataW H)) (before : List MemPlace)
    (hval : ∀ (j : Nat) t v, Try.f4.params[j]? = some t → args[j]? = some v → Value.okWide Try.prog W .any base t v)
    (hW : DataW.Whole enc Try.prog Try.f4.params.toList Rows.runsSpec.vars false W args.toList ds gs before)
    (hk : Rows.uptoSmall H (ds ++ gs) = true) :
    Calls Try.prog 4 args W fun e W' => ∃ v, e = .returned v ∧ Rows.runsSpec.post enc Try.prog Try.f4 false true false false W args v W' := by
  have hW' := hW
  obtain ⟨p, q, hA0, hV, rfl, hfz, hnd⟩ := hW
  have hA : DataW.TrodAll enc Try.prog W 0 (fun _ => true) true Try.f4.params.toList args.toList ds p := hA0
  rw [Try.params4] at hA hval
  obtain ⟨v0, vs0, d0, ds0, p0, q0, hargs, rfl, rfl, h0, r0⟩ := trodAll_cons hA
  obtain ⟨v1, vs1, d1, ds1, p1, q1, rfl, rfl, rfl, h1, r1⟩ := trodAll_cons r0
  obtain ⟨v2, vs2, d2, ds2, p2, q2, rfl, rfl, rfl, h2, r2⟩ := trodAll_cons r1
  obtain ⟨v3, vs3, d3, ds3, p3, q3, rfl, rfl, rfl, h3, r3⟩ := trodAll_cons r2
  obtain ⟨rfl, rfl, rfl⟩ := trodAll_nil r3
  obtain rfl : args = #[v0, v1, v2, v3] := by cases args; simp_all
  obtain ⟨rfl, rfl⟩ := trodVars_none hV
  obtain ⟨s, rfl, rfl, rfl, hs⟩ := open_string Try.underlying9 (hval 0 9 v0 rfl rfl) h0
  obtain ⟨a1, n1, c1, rfl⟩ := okWide_slice Try.underlying27 (hval 1 27 v1 rfl rfl)
  obtain ⟨a2, n2, c2, rfl⟩ := okWide_slice Try.underlying28 (hval 2 28 v2 rfl rfl)
  obtain ⟨z, rfl, rfl, rfl, hz⟩ := open_int Try.underlying3 (hval 3 3 v3 rfl rfl) h3
  clear hA0
  have hlt : ∀ x, x ∈ p1 ∨ x ∈ p2 → x.block < W.heap.size := fun x hx => hW'.lt x (by simpa using hx)
  obtain ⟨fu1, g1⟩ := h1
  obtain ⟨fu2, g2⟩ := h2
  obtain ⟨fs, hfs⟩ := open_files g1
  obtain ⟨ef, hef⟩ := open_effs g2
  simp only [List.append_nil] at hW'
  have hb := of_decide_eq_true hk
  simp only [List.append_nil, Rows.uptoBulkAll, Rows.uptoBulk] at hb
  have hl1 := hfs.len
  have hl2 := hef.len
  simp only at hl1 hl2
  obtain ⟨a, cap, b, o, e1, k1⟩ := hfs.at'
  obtain ⟨ae, ce, be, oe, e2, k2⟩ := hef.at'
  have e1' := e1
  have e2' := e2
  cases e1'
  cases e2'
  have hm : (⟨s.data.toList.toArray⟩ : ByteArray) = s := (mk_eq (t := s) rfl).symm
  have hwr : ∀ e ∈ ef, e.writes.length ≤ (ef.flatMap (·.writes)).length := fun e he => flat_le he
  have walk := runs_any s.data.toList (by omega) fs ef (fs.map (·.path) ++ (ef.flatMap (·.writes)).map (·.path)) a1 a2 c1 b o c2 W.heap.size be oe z W (fun h => (k1 h).1) (fun h => (k1 h).2) (by omega) (fun h => (k2 h).1) (fun h => ⟨(k2 h).2, Nat.le_refl _⟩) (by omega) (fun e he => by have := hwr e he; omega) (by simp only [List.length_append, List.length_map]; omega)
    (fun f hf => List.mem_append_left _ (List.mem_map_of_mem hf)) (fun e he f hf => List.mem_append_right _ (List.mem_map_of_mem (List.mem_flatMap_of_mem he hf))) (fun x hx => by
      rcases List.mem_append.1 hx with h | h
      · obtain ⟨f, hf, rfl⟩ := List.mem_map.1 h
        exact hfs.path f hf
      · obtain ⟨f, hf, rfl⟩ := List.mem_map.1 h
        obtain ⟨e, he, hf⟩ := List.mem_flatMap.1 hf
        exact hef.path e he f hf)
  rw [hm] at walk
  refine walk.mono fun e W' ⟨he, hn⟩ => ?_
  subst he
  exact ⟨_, rfl, _, _, _, _, _, _, hW', trodAll_cons_mk (shut_bool Try.underlying4 _) trodAll_mk0, trodAll_cons_mk (shut_string Try.underlying9 hs) (trodAll_cons_mk (Below.trod Try.laidOut (by kernel_rfl) (of_decide_eq_true (by kernel_rfl)) ⟨fu1, g1⟩ hn (fun x hx => hlt x (.inl hx))) (trodAll_cons_mk (Below.trod Try.laidOut (by kernel_rfl) (of_decide_eq_true (by kernel_rfl)) ⟨fu2, g2⟩ hn (fun x hx => hlt x (.inr hx))) (trodAll_cons_mk (shut_int Try.underlying3 hz) trodAll_mk0))), rfl, hn.frame _, fun h => by cases h⟩
set_option maxRecDepth 100000 in
theorem runs_lifted (os : Os) (started : os.Started) (H : Type) (enc : TypeId × Value → H) (F : Stop.Interp) :
    ReturnsInHanded {} Try.checked os 4 .any ((Rows.OpenSpec.upto Rows.runsSpec).pre6 enc Try.prog Try.f4 Rows.runsUptoRow.domain false) (((Rows.OpenSpec.upto Rows.runsSpec).at F).post enc Try.prog Try.f4 false true false false) := by
  refine returnsInHanded_of_cond (C := Try.checked) (s := Rows.OpenSpec.upto Rows.runsSpec) (k := Rows.uptoSmall) rfl ownR started (by kernel_rfl) Try.func4
    (OpenSpec.witness (enc := enc) (C := Try.checked) (s := Rows.OpenSpec.upto Rows.runsSpec) (k := Rows.uptoSmall) rfl false ⟨#[], #[.string ⟨#[]⟩, .slice none 0 0, .slice none 0 0, .int .i64 0], []⟩ 8 (by kernel_rfl) (by kernel_rfl) (by kernel_rfl)
      (x := ([.lit (.string []), .nil, .nil, .lit (.int .i64 0)], [], [])) (by kernel_rfl) rfl (by kernel_rfl)) ?_
  intro W base args ds gs before hval hW _ hk _
  exact runs_contract H enc W base args ds gs before hval hW hk
theorem runs_upto : Rows.RunsUptoSaid :=
  OpenClaim.holds_of_cond 4 Try.f4 rfl rfl rfl rfl rfl rfl rfl ⟨rfl, rfl, rfl, rfl, rfl⟩ rfl rfl rfl rfl rfl (by kernel_rfl) Try.func4 (by kernel_rfl)
    (of_decide_eq_true (by kernel_rfl)) (by unfold Func.isWrapper; first | (rw [if_pos (by decide +kernel)]; kernel_rfl) | (rw [if_neg (by decide +kernel)]; exact ⟨rfl, rfl⟩))
    (fun os started H enc _ F => runs_lifted os started H enc F)
end Go.Proofs.Ytjelacjggijmfaa
