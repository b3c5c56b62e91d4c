/-
  A plan is written: an instruction.
  A plan is written: the number of a string.
  A plan is written: its memory; a number in bytes.
-/
import Derived.Test.YtjelacjggijmfaaGreatDoorQW9
import Derived.Test.YtjelacjggijmfaaGreatDoorQMP1
import Derived.LoopN
import Derived.IntWalk
import Derived.Test.YtjelacjggijmfaaGreatDoorQSB
import Derived.Deep.RegionHeld3
namespace Go.Proofs.YtjelacjggijmfaaGreatDoor
open Go.RowKit Go.MapKept Go.ChangeMaps Go.Maps

def numEnts (ss : List Pl.Bs) : Ents := ss.zipIdx.map fun x => (x.1, .int .i64 x.2)
/-- The writer in block wb, its map in block nb; its rows lie from B on. -/
structure WrM (W : World) (B wb nb : Nat) (w : Cp.Wr) (vs vc : Value) : Prop where
  row : Row W wb 281 [.map (some nb), vs, vc, .bool w.failed]
  nums : SMap W nb (numEnts w.strs)
  strs : W.ownsRow B 9 1 vs w.strs.length (w.strs.map strV)
  code : W.ownsRow B 5 1 vc w.code.length (Lib.byteCells w.code)
  wB : wb < B
  nB : nb < B
theorem Tryz.infoU8 : (Tryz.prog.info? 5).map (fun i => (i.zero, i.size, i.bytes)) = some (some (.int .u8 0), 1, 1) := by kernel_rfl
theorem mk_u8_0 (w : World) : (Instr.makeSlice 126 (.int .i64 0) (.int .i64 0)).run Tryz.prog w = .ok (.slice (some ⟨w.heap.size, 0, none⟩) 0 0) (w.alloc (.cells #[] 5)) := by
  have h := run_make_row' (P := Tryz.prog) 126 5 (.int .u8 0) 1 Tryz.underlying126 Tryz.infoU8 rfl .i64 .i64 0 (by omega) (by omega) w
  rw [made_row] at h
  exact h
theorem mk_u8_1 (w : World) : (Instr.makeSlice 126 (.int .i64 1) (.int .i64 1)).run Tryz.prog w = .ok (.slice (some ⟨w.heap.size, 0, none⟩) 1 1) (w.alloc (.cells #[.int .u8 0] 5)) := by
  have h := run_make_row' (P := Tryz.prog) 126 5 (.int .u8 0) 1 Tryz.underlying126 Tryz.infoU8 rfl .i64 .i64 1 (by omega) (by omega) w
  rw [made_row] at h
  exact h
theorem mk_u8_2 (w : World) : (Instr.makeSlice 126 (.int .i64 2) (.int .i64 2)).run Tryz.prog w = .ok (.slice (some ⟨w.heap.size, 0, none⟩) 2 2) (w.alloc (.cells #[.int .u8 0, .int .u8 0] 5)) := by
  have h := run_make_row' (P := Tryz.prog) 126 5 (.int .u8 0) 1 Tryz.underlying126 Tryz.infoU8 rfl .i64 .i64 2 (by omega) (by omega) w
  rw [made_row] at h
  exact h
theorem big0 (n : Nat) : ((n : Int) != 0) = Cp.big n 0 := by
  unfold Cp.big
  rw [Bool.eq_iff_iff]
  simp
  omega
theorem big1 (n : Nat) : ((n : Int) / 256 != 0) = Cp.big n 1 := by
  unfold Cp.big
  rw [Bool.eq_iff_iff]
  simp
  omega
theorem big2 (n : Nat) : ((n : Int) / 65536 != 0) = Cp.big n 2 := by
  unfold Cp.big
  rw [Bool.eq_iff_iff]
  simp
  omega
theorem wr_end {W : World} {wb : Nat} {v0 v1 v2 : Value} {f : Bool} (h : Row W wb 281 [v0, v1, v2, .bool f]) (f' : Bool) (cs : List Value) :
    Row ((W.setCell ⟨wb, 3, none⟩ (.bool f')).alloc (.cells cs.toArray 5)) W.heap.size 5 cs ∧ Row ((W.setCell ⟨wb, 3, none⟩ (.bool f')).alloc (.cells cs.toArray 5)) wb 281 [v0, v1, v2, .bool f'] ∧ Tn (fun k => k = wb) W ((W.setCell ⟨wb, 3, none⟩ (.bool f')).alloc (.cells cs.toArray 5)) := by
  have hs : (W.setCell ⟨wb, 3, none⟩ (.bool f')).heap.size = W.heap.size := by simp
  have h1 := Row.new (W.setCell ⟨wb, 3, none⟩ (.bool f')) 5 cs
  rw [hs] at h1
  exact ⟨h1, (h.set 3 (.bool f')).alloc _, (Tn.set (p := fun k => k = wb) W ⟨wb, 3, none⟩ _ rfl).trans (Tn.later ((Below.refl _ _).alloc (Nat.le_refl _) _))⟩
theorem beB_0 (n : Nat) : Lib.byteCells (Cp.beB n 0) = [] := by
  unfold Lib.byteCells Cp.beB
  simp
set_option maxHeartbeats 1000000 in
set_option maxRecDepth 100000 in
theorem bytes0_any (wb n : Nat) (v0 v1 v2 : Value) (f : Bool) (W : World) (h : Row W wb 281 [v0, v1, v2, .bool f]) (_hn : n < 2147483648) :
    Calls Tryz.prog 148 #[.pointer (some ⟨wb, 0, none⟩), .int .i64 n, .int .i64 0] W fun e W' => ∃ N, e = .returned (.slice (some ⟨N, 0, none⟩) 0 0) ∧ Row W' N 5 (Lib.byteCells (Cp.beB n 0)) ∧ Row W' wb 281 [v0, v1, v2, .bool (f || Cp.big n 0)] ∧ W.heap.size ≤ N ∧ Tn (fun k => k = wb) W W' := by
  have c3 := h.cell? (i := 3) rfl
  have z3 := h.frozen 3
  have hmk := mk_u8_0
  have hlt := h.lt
  have hne : ¬ wb = W.heap.size := by omega
  have HR := hide h
  rw [beB_0]
  clear h
  cases f with
  | false =>
    go_enter Tryz.func148, Tryz.ntmps148
    go_wp2_with fail
    refine wp_loop_rounds 1 ?_
    rw [rounds_succ]
    go_wp2_with fail
    go_ret
    obtain ⟨q1, q2, q3⟩ := wr_end (unhide HR) ((n : Int) != 0) []
    exact ⟨W.heap.size, rfl, q1, by rw [Bool.false_or, ← big0]; exact q2, Nat.le_refl _, q3⟩
  | true =>
    go_enter Tryz.func148, Tryz.ntmps148
    go_wp2_with fail
    refine wp_loop_rounds 1 ?_
    rw [rounds_succ]
    go_wp2_with fail
    go_ret
    obtain ⟨q1, q2, q3⟩ := wr_end (unhide HR) true []
    exact ⟨W.heap.size, rfl, q1, by rw [Bool.true_or]; exact q2, Nat.le_refl _, q3⟩
theorem beB_1 (n : Nat) : Lib.byteCells (Cp.beB n 1) = [.int .u8 ((n : Int) % 256)] := by
  unfold Lib.byteCells Cp.beB
  simp
set_option maxHeartbeats 1000000 in
set_option maxRecDepth 100000 in
theorem bytes1_any (wb n : Nat) (v0 v1 v2 : Value) (f : Bool) (W : World) (h : Row W wb 281 [v0, v1, v2, .bool f]) (_hn : n < 2147483648) :
    Calls Tryz.prog 148 #[.pointer (some ⟨wb, 0, none⟩), .int .i64 n, .int .i64 1] W fun e W' => ∃ N, e = .returned (.slice (some ⟨N, 0, none⟩) 1 1) ∧ Row W' N 5 (Lib.byteCells (Cp.beB n 1)) ∧ Row W' wb 281 [v0, v1, v2, .bool (f || Cp.big n 1)] ∧ W.heap.size ≤ N ∧ Tn (fun k => k = wb) W W' := by
  have c3 := h.cell? (i := 3) rfl
  have z3 := h.frozen 3
  have hmk := mk_u8_1
  have hlt := h.lt
  have hne : ¬ wb = W.heap.size := by omega
  have HR := hide h
  rw [beB_1]
  clear h
  cases f with
  | false =>
    go_enter Tryz.func148, Tryz.ntmps148
    go_wp2_with fail
    refine wp_loop_rounds 2 ?_
    rw [rounds_succ]
    go_wp2_with fail
    rw [rounds_succ]
    go_wp2_with fail
    go_ret
    obtain ⟨q1, q2, q3⟩ := wr_end (unhide HR) ((n : Int) / 256 != 0) [.int .u8 ((n : Int) % 256)]
    exact ⟨W.heap.size, rfl, q1, by rw [Bool.false_or, ← big1]; exact q2, Nat.le_refl _, q3⟩
  | true =>
    go_enter Tryz.func148, Tryz.ntmps148
    go_wp2_with fail
    refine wp_loop_rounds 2 ?_
    rw [rounds_succ]
    go_wp2_with fail
    rw [rounds_succ]
    go_wp2_with fail
    go_ret
    obtain ⟨q1, q2, q3⟩ := wr_end (unhide HR) true [.int .u8 ((n : Int) % 256)]
    exact ⟨W.heap.size, rfl, q1, by rw [Bool.true_or]; exact q2, Nat.le_refl _, q3⟩
theorem beB_2 (n : Nat) : Lib.byteCells (Cp.beB n 2) = [.int .u8 ((n : Int) / 256 % 256), .int .u8 ((n : Int) % 256)] := by
  unfold Lib.byteCells Cp.beB
  simp
set_option maxHeartbeats 1000000 in
set_option maxRecDepth 100000 in
theorem bytes2_any (wb n : Nat) (v0 v1 v2 : Value) (f : Bool) (W : World) (h : Row W wb 281 [v0, v1, v2, .bool f]) (_hn : n < 2147483648) :
    Calls Tryz.prog 148 #[.pointer (some ⟨wb, 0, none⟩), .int .i64 n, .int .i64 2] W fun e W' => ∃ N, e = .returned (.slice (some ⟨N, 0, none⟩) 2 2) ∧ Row W' N 5 (Lib.byteCells (Cp.beB n 2)) ∧ Row W' wb 281 [v0, v1, v2, .bool (f || Cp.big n 2)] ∧ W.heap.size ≤ N ∧ Tn (fun k => k = wb) W W' := by
  have c3 := h.cell? (i := 3) rfl
  have z3 := h.frozen 3
  have hmk := mk_u8_2
  have hlt := h.lt
  have hne : ¬ wb = W.heap.size := by omega
  have HR := hide h
  rw [beB_2]
  clear h
  cases f with
  | false =>
    go_enter Tryz.func148, Tryz.ntmps148
    go_wp2_with fail
    refine wp_loop_rounds 3 ?_
    rw [rounds_succ]
    go_wp2_with fail
    rw [rounds_succ]
    go_wp2_with fail
    rw [rounds_succ]
    go_wp2_with fail
    go_ret
    obtain ⟨q1, q2, q3⟩ := wr_end (unhide HR) ((n : Int) / 65536 != 0) [.int .u8 ((n : Int) / 256 % 256), .int .u8 ((n : Int) % 256)]
    exact ⟨W.heap.size, rfl, q1, by rw [Bool.false_or, ← big2]; exact q2, Nat.le_refl _, q3⟩
  | true =>
    go_enter Tryz.func148, Tryz.ntmps148
    go_wp2_with fail
    refine wp_loop_rounds 3 ?_
    rw [rounds_succ]
    go_wp2_with fail
    rw [rounds_succ]
    go_wp2_with fail
    rw [rounds_succ]
    go_wp2_with fail
    go_ret
    obtain ⟨q1, q2, q3⟩ := wr_end (unhide HR) true [.int .u8 ((n : Int) / 256 % 256), .int .u8 ((n : Int) % 256)]
    exact ⟨W.heap.size, rfl, q1, by rw [Bool.true_or]; exact q2, Nat.le_refl _, q3⟩
/-- A number in so many bytes: a new row. -/
theorem bytes_any (wb n k : Nat) (hk : k ≤ 2) (v0 v1 v2 : Value) (f : Bool) (W : World) (h : Row W wb 281 [v0, v1, v2, .bool f]) (hn : n < 2147483648) :
    Calls Tryz.prog 148 #[.pointer (some ⟨wb, 0, none⟩), .int .i64 n, .int .i64 k] W fun e W' => ∃ N, e = .returned (.slice (some ⟨N, 0, none⟩) k k) ∧ Row W' N 5 (Lib.byteCells (Cp.beB n k)) ∧ Row W' wb 281 [v0, v1, v2, .bool (f || Cp.big n k)] ∧ W.heap.size ≤ N ∧ Tn (fun k => k = wb) W W' := by
  match k, hk with
  | 0, _ => exact bytes0_any wb n v0 v1 v2 f W h hn
  | 1, _ => exact bytes1_any wb n v0 v1 v2 f W h hn
  | 2, _ => exact bytes2_any wb n v0 v1 v2 f W h hn
end Go.Proofs.YtjelacjggijmfaaGreatDoor
namespace Go.Proofs.YtjelacjggijmfaaGreatDoor
open Go.RowKit Go.MapKept Go.ChangeMaps Go.Maps

theorem mput_absent : ∀ (l : Ents) (k : Pl.Bs) (v : Value), mget l k = none → mput l k v = l ++ [(k, v)]
  | [], _, _, _ => rfl
  | x :: r, k, v, h => by
    unfold mget at h
    simp only [Option.map_eq_none_iff, List.find?_cons] at h
    cases hx : (x.1 == k) with
    | true => rw [hx] at h; simp at h
    | false =>
      rw [hx] at h
      rw [mput, hx]
      show x :: mput r k v = _
      rw [mput_absent r k v (by unfold mget; simp only [Option.map_eq_none_iff]; exact h)]
      rfl
theorem mget_zip (s : Pl.Bs) : ∀ (ss : List Pl.Bs) (n : Nat), mget ((ss.zipIdx n).map fun x => (x.1, Value.int .i64 x.2)) s = (ss.findIdx? (fun x => x == s)).map fun i => .int .i64 ((n + i : Nat) : Int)
  | [], _ => rfl
  | x :: r, n => by
    rw [List.zipIdx_cons, List.map_cons, List.findIdx?_cons]
    unfold mget
    rw [List.find?_cons]
    cases hx : (x == s) with
    | true => simp
    | false =>
      have := mget_zip s r (n + 1)
      unfold mget at this
      simp only [Bool.false_eq_true, if_false]
      rw [this]
      cases List.findIdx? (fun x => x == s) r with
      | none => rfl
      | some i => simp; omega
theorem mget_num (ss : List Pl.Bs) (s : Pl.Bs) : mget (numEnts ss) s = (ss.findIdx? (fun x => x == s)).map fun i => .int .i64 (i : Int) := by
  unfold numEnts
  rw [mget_zip]
  cases List.findIdx? (fun x => x == s) ss with
  | none => rfl
  | some i => simp
theorem num_snoc (ss : List Pl.Bs) (s : Pl.Bs) : numEnts (ss ++ [s]) = numEnts ss ++ [(s, .int .i64 (ss.length : Int))] := by
  unfold numEnts
  rw [List.zipIdx_append, List.map_append]
  simp
/-- What writing turns. -/
structure WrT (wb nb : Nat) (vs vc vs' vc' : Value) (W W' : World) : Prop where
  tn : Tn (fun k => k = wb ∨ k = nb ∨ some k = vs.ownBlock ∨ some k = vc.ownBlock) W W'
  fs : Fresh W vs vs'
  fc : Fresh W vc vc'
section
variable {wb nb : Nat} {vs vc vs1 vc1 vs2 vc2 : Value} {W W1 W2 : World}
theorem WrT.refl (W : World) : WrT wb nb vs vc vs vc W W := ⟨Tn.refl _ _, fun _ e => .inl e, fun _ e => .inl e⟩
theorem WrT.trans (h : WrT wb nb vs vc vs1 vc1 W W1) (g : WrT wb nb vs1 vc1 vs2 vc2 W1 W2) : WrT wb nb vs vc vs2 vc2 W W2 := by
  have hs := h.tn.size
  refine ⟨⟨g.tn.os.trans h.tn.os, g.tn.tape.trans h.tn.tape, g.tn.output.trans h.tn.output, Nat.le_trans hs g.tn.size, fun k hk hp => (g.tn.block k (by omega) (fun e => hp ?_)).trans (h.tn.block k hk hp)⟩, fun k hk => ?_, fun k hk => ?_⟩
  · rcases e with e | e | e | e
    · exact .inl e
    · exact .inr (.inl e)
    · rcases h.fs k e.symm with e' | e'
      · exact .inr (.inr (.inl e'.symm))
      · omega
    · rcases h.fc k e.symm with e' | e'
      · exact .inr (.inr (.inr e'.symm))
      · omega
  · rcases g.fs k hk with e | e
    · exact h.fs k e
    · exact .inr (by omega)
  · rcases g.fc k hk with e | e
    · exact h.fc k e
    · exact .inr (by omega)
end
theorem row_ne_map' {W : World} {b k : Nat} {t : TypeId} {vs : List Value} {l : Ents} (h : Row W b t vs) (g : SMap W k l) : b ≠ k := fun e => by
  obtain ⟨es, clock, hk, _⟩ := g
  subst e
  unfold Row at h
  rw [h] at hk
  cases hk
theorem map_tn {w w' : World} {b : Nat} {p : Nat → Prop} (h : w.mapTurned w' b) (hp : p b) : Tn p w w' := by
  obtain ⟨es, clock, es', clock', hb, rfl⟩ := h
  refine ⟨rfl, rfl, rfl, by simp [setBlock], fun k hk hn => ?_⟩
  have : k ≠ b := fun e => hn (e ▸ hp)
  simp [setBlock, Ne.symm this]
/-- A string more. -/
theorem WrM.addStr {W w1 w2 : World} {B wb nb : Nat} {p : Cp.Wr} {vs vc vs' : Value} {s : Pl.Bs} {o : Obj} (h : WrM W B wb nb p vs vc) (hf : mget (numEnts p.strs) s = none) (hs : SMap w1 nb (mput (numEnts p.strs) s (.int .i64 (p.strs.length : Int)))) (ht : W.mapTurned w1 nb) (hg : (w1.alloc o).grownBy w2 vs.ownBlock)
    (hown : w2.ownsRow B 9 1 vs' (p.strs.length + 1) (p.strs.map strV ++ [strV s])) (hfr : ∀ k, vs'.ownBlock = some k → vs.ownBlock = some k ∨ W.heap.size ≤ k) : WrM (w2.setCell ⟨wb, 1, none⟩ vs') B wb nb ⟨p.strs ++ [s], p.code, p.failed⟩ vs' vc ∧ WrT wb nb vs vc vs' vc W (w2.setCell ⟨wb, 1, none⟩ vs') := by
  have hwn := row_ne_map' h.row h.nums
  have htn := map_tn (p := fun k => k = nb) ht rfl
  have hal : ∀ k, k < w1.heap.size → (w1.alloc o).heap[k]? = w1.heap[k]? := fun k hk => Below.heap_alloc w1 o k hk
  have hsz : (w1.alloc o).heap.size = w1.heap.size + 1 := World.size_alloc _ _
  have hs1 := htn.size
  have key : ∀ k, k < W.heap.size → k ≠ nb → some k ≠ vs.ownBlock → w2.heap[k]? = W.heap[k]? := fun k hk h1 h2 => (hg.block k (by omega) h2).trans ((hal k (by omega)).trans (htn.block k hk h1))
  have hset : ∀ k, k ≠ wb → (w2.setCell ⟨wb, 1, none⟩ vs').heap[k]? = w2.heap[k]? := fun k hk => Below.heap_setCell w2 ⟨wb, 1, none⟩ _ k hk
  have hvne : ∀ b, b < B → some b ≠ vs.ownBlock := fun b hb => own_ne h.strs hb
  have hrow2 : Row w2 wb 281 [.map (some nb), vs, vc, .bool p.failed] := (key wb h.row.lt hwn (hvne wb h.wB)).trans h.row
  rw [mput_absent _ _ _ hf, ← num_snoc] at hs
  refine ⟨⟨hrow2.set 1 vs', ?_, ?_, ?_, h.wB, h.nB⟩, ⟨⟨?_, ?_, ?_, ?_, fun k hk hp => ?_⟩, hfr, fun _ e => .inl e⟩⟩
  · refine hs.of_block ((hset nb (fun e => hwn e.symm)).trans ((hg.block nb ?_ (hvne nb h.nB)).trans (hal nb hs.lt)))
    have := hs.lt
    omega
  · have : w2.ownsRow B 9 1 vs' (p.strs ++ [s]).length ((p.strs ++ [s]).map strV) := by simpa using hown
    exact owns_other this (own_ne this h.wB) _ _
  · refine own_same h.code (fun k hk => ?_)
    have hkl := h.code.lt k hk
    have hne : some k ≠ vs.ownBlock := fun e => by
      obtain ⟨c1, f1, q1⟩ := own_type h.code k hk
      obtain ⟨c2, f2, q2⟩ := own_type h.strs k e.symm
      rw [q1] at q2
      cases q2
    have h1 : k ≠ wb := by have := h.wB; omega
    have h2 : k ≠ nb := by have := h.nB; omega
    exact (hset k h1).trans (key k hkl.2 h2 hne)
  · exact hg.os.trans htn.os
  · exact hg.tape.trans htn.tape
  · exact hg.output.trans htn.output
  · have := hg.size
    simp
    omega
  · simp only [not_or] at hp
    exact (hset k hp.1).trans (key k hk hp.2.1 hp.2.2.1)
set_option maxHeartbeats 2000000 in
set_option maxRecDepth 100000 in
theorem wrString_any (B wb nb : Nat) (p : Cp.Wr) (vs vc : Value) (s : Pl.Bs) (W : World) (h : WrM W B wb nb p vs vc) (hB : B ≤ W.heap.size) (hl : p.strs.length ≤ 1048576) :
    Calls Tryz.prog 101 #[.pointer (some ⟨wb, 0, none⟩), .string ⟨s.toArray⟩] W fun e W' => e = .returned (.int .i64 (p.num s)) ∧ ∃ vs', WrM W' B wb nb (p.str s) vs' vc ∧ WrT wb nb vs vc vs' vc W W' := by
  obtain ⟨i0, hi0, hz0, hz1, hz2⟩ := info_parts Tryz.infoStr
  obtain ⟨sa, sc, hvs⟩ := own_sh h.strs
  subst hvs
  have c0 := h.row.cell? (i := 0) rfl
  have c1 := h.row.cell? (i := 1) rfl
  have zi : ∀ w, (zeroValue 3).run Tryz.prog w = .ok (.int .i64 0) w := fun w => by kernel_rfl
  have hmg := mget_num p.strs s
  have HM := hide h
  cases hf : p.strs.findIdx? (fun x => x == s) with
  | some i =>
    have e1 : p.num s = i := by unfold Cp.Wr.num; rw [hf]; rfl
    have e2 : p.str s = p := by unfold Cp.Wr.str; rw [hf]
    rw [hf] at hmg
    rw [e1, e2]
    have hmg' : mget (numEnts p.strs) s = some (.int .i64 (i : Int)) := hmg
    clear h hmg
    go_enter Tryz.func101, Tryz.ntmps101
    go_wp2_with (first
      | (at_lookup; refine wpList_look_ok_yes _ rfl _ _ 179 rfl 9 3 Tryz.underlying179 Tryz.underlying9 (.int .i64 0) (zi _) nb (numEnts p.strs) rfl (unhide HM).nums s rfl _ hmg' ?_)
      | fail)
    go_ret
    exact ⟨rfl, _, unhide HM, WrT.refl _⟩
  | none =>
    have e1 : p.num s = p.strs.length := by unfold Cp.Wr.num; rw [hf]; rfl
    have e2 : p.str s = ⟨p.strs ++ [s], p.code, p.failed⟩ := by unfold Cp.Wr.str; rw [hf]
    rw [hf] at hmg
    rw [e1, e2]
    have hmg' : mget (numEnts p.strs) s = none := hmg
    have hwn := row_ne_map' h.row h.nums
    have hwB := h.wB
    have hnB := h.nB
    have hnl : (numEnts p.strs).length < maxLen := by unfold numEnts maxLen; rw [List.length_map, List.length_zipIdx]; omega
    clear h hmg
    go_enter Tryz.func101, Tryz.ntmps101
    go_wp2_with (first
      | (at_lookup; refine wpList_look_ok_no _ rfl _ _ 179 rfl 9 3 Tryz.underlying179 Tryz.underlying9 (.int .i64 0) (zi _) nb (numEnts p.strs) rfl (unhide HM).nums s rfl hmg' ?_)
      | (at_mapUpdate; refine wpList_put_s _ rfl _ _ _ 179 rfl 9 3 Tryz.underlying179 Tryz.underlying9 nb (numEnts p.strs) rfl (unhide HM).nums hnl s rfl _ rfl ?_; intro w1 hs1 ht1; have hr1 := (unhide HM).row.tn (map_tn (p := fun k => k = nb) ht1 rfl) hwn; have d1 := hr1.cell? (i := 1) rfl; have hs1z := (map_tn (p := fun k => k = nb) ht1 rfl).size; have HO1 := hide (own_same (unhide HM).strs (fun k hk => (map_tn (p := fun k => k = nb) ht1 rfl).block k ((unhide HM).strs.lt k hk).2 (by have := ((unhide HM).strs.lt k hk).1; omega))); have HR1 := hide hr1; have HS1 := hide hs1; have HT1 := hide ht1; clear hs1 ht1 hr1)
      | (at_builtin; refine wpList_append_own_at _ rfl (.tmp 33) (.tmp 35) 30 rfl B 9 i0 (.string ⟨#[]⟩) 1 16 Tryz.underlying30 hi0 hz0 hz1 hz2 rfl (by decide) _ p.strs.length _ rfl (World.ownsRow.alloc (unhide HO1) _) ⟨_, 0, none⟩ 1 1 [.string ⟨s.toArray⟩] rfl rfl (cells_new _ _ [_]) (one_one _) (by unfold maxLen; omega) (by omega) (by rw [World.size_alloc]; omega) ?_; intro v1 w2 hown1 hgrow1 hnil1 hat1; obtain ⟨q1, q2, rfl, -, -⟩ := owns_form hown1 (by omega); have hr2 := (unhide HR1).grown ((World.grownBy_alloc w1 _ _).trans hgrow1) (own_ne (unhide HM).strs hwB); have e1' := hr2.cell? (i := 1) rfl; have e2' := hr2.frozen 1; have HE := hide ((unhide HM).addStr (s := s) hmg' (unhide HS1) (unhide HT1) hgrow1 hown1 (fun k hk => by rcases hat1 with e | e; exact .inl (e ▸ hk); (rw [e] at hk; cases hk; exact .inr (by rw [World.size_alloc]; omega)))); clear hown1 hgrow1 hnil1 hat1 hr2)
      | fail)
    go_ret
    exact ⟨rfl, _, unhide HE⟩
end Go.Proofs.YtjelacjggijmfaaGreatDoor
namespace Go.Proofs.YtjelacjggijmfaaGreatDoor
open Go.RowKit Go.MapKept Go.ChangeMaps Go.Maps

theorem step_append_fresh {P : Program} {ops : Array Oper} {o : Oper} {a : Act} {w : World} {K : Act → World → Prop} {Q : Exit → Act → World → Prop} {E : Prop}
    (hg : o.guard = none) (s x : Operand) (t : TypeId) (hop : o.op = Op.call { callee := Callee.builtin Builtin.append, args := #[s, x], argTypes := #[t, t] })
    (base : Nat) (e : TypeId) (i : TypeInfo) (z : Value) (size bytes : Nat) (h1 : P.underlying t = some (.slice e)) (h2 : P.info? e = some i) (h3 : i.zero = some z) (h4 : i.size = size) (h5 : i.bytes = bytes) (h6 : z.cells.size = size) (h7 : 0 < size)
    (v : Value) (n : Nat) (xs : List Value) (hs : a.eval s = v) (hown : w.ownsRow base e size v n xs)
    (ad : Addr) (m c : Nat) (news : List Value) (hx : a.eval x = .slice (some ad) m c) (hn : news.length = m * size) (hc : ∀ j u, news[j]? = some u → w.cell? (ad.add j) = some u) (h1c : ∀ u ∈ news, u.oneCell' = true)
    (b1 : n + m ≤ maxLen) (b2 : (n + m) * bytes ≤ 140737488355328) (hbase : base ≤ w.heap.size)
    (hK : ∀ v' w', w'.ownsRow base e size v' (n + m) (xs ++ news) → w.grownBy w' v.ownBlock → (v'.ownBlock = v.ownBlock ∨ v'.ownBlock = some w.heap.size) → K (a.put o.dst v') w') :
    if Region.wanted o (yielded ops a.tmps) = true then Oper.wp P o a w K Q else E := by
  have hw : Region.wanted o (yielded ops a.tmps) = true := by simp [Region.wanted, hg]
  rw [if_pos hw]
  obtain ⟨v', w', hrun, r1, r2, _, r4⟩ := run_append_own_at (P := P) w base t o.type e i z size bytes h1 h2 h3 h4 h5 h6 h7 v n xs hown ad m c news hn hc h1c b1 b2 hbase
  unfold Oper.wp
  simp [execOp, hop, resolve, invoke, builtin, hs, hx, hrun, Result.andThen]
  exact hK v' w' r1 r2 r4
theorem WrM.codeTo {W Z : World} {B wb nb : Nat} {p : Cp.Wr} {vs vc vc' : Value} {code' : Pl.Bs} {f' : Bool} (h : WrM W B wb nb p vs vc) (hrow : Row Z wb 281 [.map (some nb), vs, vc', .bool f']) (hown : Z.ownsRow B 5 1 vc' code'.length (Lib.byteCells code')) (ht : Tn (fun k => k = wb ∨ some k = vc.ownBlock) W Z) (hf : Fresh W vc vc') : WrM Z B wb nb ⟨p.strs, code', f'⟩ vs vc' ∧ WrT wb nb vs vc vs vc' W Z := by
  have hwn := row_ne_map' h.row h.nums
  refine ⟨⟨hrow, h.nums.tn ht (fun e => e.elim (fun e => hwn e.symm) (own_ne h.code h.nB)), own_same h.strs (fun k hk => ht.block k (h.strs.lt k hk).2 (fun e => ?_)), hown, h.wB, h.nB⟩, ht.mono (fun k e => e.elim .inl (fun e => .inr (.inr (.inr e)))), fun _ e => .inl e, hf⟩
  rcases e with e | e
  · have h1 := (h.strs.lt k hk).1
    have h2 := h.wB
    omega
  · obtain ⟨c1, f1, q1⟩ := own_type h.code k e.symm
    obtain ⟨c2, f2, q2⟩ := own_type h.strs k hk
    rw [q1] at q2
    cases q2
/-- The code has grown by some bytes. -/
theorem WrM.addCode {W W1 w2 : World} {B wb nb : Nat} {p : Cp.Wr} {vs vc vc' : Value} {bs : Pl.Bs} {f' : Bool} (h : WrM W B wb nb p vs vc) (ht1 : Tn (fun k => k = wb) W W1) (hr1 : Row W1 wb 281 [.map (some nb), vs, vc, .bool f']) (hg : W1.grownBy w2 vc.ownBlock) (hown : w2.ownsRow B 5 1 vc' (p.code.length + bs.length) (Lib.byteCells p.code ++ Lib.byteCells bs)) (hf : ∀ k, vc'.ownBlock = some k → vc.ownBlock = some k ∨ W.heap.size ≤ k) :
    WrM (w2.setCell ⟨wb, 2, none⟩ vc') B wb nb ⟨p.strs, p.code ++ bs, f'⟩ vs vc' ∧ WrT wb nb vs vc vs vc' W (w2.setCell ⟨wb, 2, none⟩ vc') := by
  have hne := own_ne h.code h.wB
  have hrow2 := (hr1.grown hg hne).set 2 vc'
  have hown' : w2.ownsRow B 5 1 vc' (p.code ++ bs).length (Lib.byteCells (p.code ++ bs)) := by rw [Lib.byteCells_append, List.length_append]; exact hown
  refine h.codeTo hrow2 (owns_other hown' (own_ne hown' h.wB) _ _) ?_ hf
  exact ((ht1.mono (fun k e => .inl e)).trans (Tn.grown hg (fun k e => .inr e.symm))).trans (Tn.set w2 ⟨wb, 2, none⟩ _ (.inl rfl))
end Go.Proofs.YtjelacjggijmfaaGreatDoor
