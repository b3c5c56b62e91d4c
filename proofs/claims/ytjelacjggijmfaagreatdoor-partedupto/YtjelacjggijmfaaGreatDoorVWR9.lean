/-
  A plan is written: its text: the walk.
  A plan is written: its text.
  A plan is written: a skip, and what may be left out.
-/
import Derived.Test.YtjelacjggijmfaaGreatDoorVWR5
import Derived.Lib.SlBytesConst
import Derived.Lib.AppendStr
namespace Go.Proofs.YtjelacjggijmfaaGreatDoor
open Go.RowKit Go.MapKept Go.ChangeMaps Go.Maps

theorem addAt_ge (p : Cp.Wr) (op : Nat) (os : List Nat) : ∀ i, p.code.length ≤ (addAt p op os i).code.length
  | 0 => by show _ ≤ (p.code ++ _).length; simp
  | i + 1 => by
    have := addAt_ge p op os i
    show _ ≤ ((addAt p op os i).code ++ Cp.beB _ _).length
    rw [List.length_append]
    omega
theorem addW_ge (p : Cp.Wr) (op : Nat) (os : List Nat) : p.code.length ≤ (addW p op os).code.length := addAt_ge p op os 2
theorem giveFold_ge : ∀ (cmds : List Pl.Bs) (q : Cp.Wr), q.code.length ≤ (cmds.foldl giveStep q).code.length
  | [], _ => Nat.le_refl _
  | c :: r, q => by
    have ih := giveFold_ge r (giveStep q c)
    have h1 := addW_ge (q.str c) 7 [q.num c]
    rw [str_code] at h1
    rw [List.foldl_cons]
    exact Nat.le_trans h1 ih
theorem blockW_ge (p : Cp.Wr) (cmds : List Pl.Bs) (i : Nat) : p.code.length ≤ (blockW p cmds i).code.length := Nat.le_trans (giveFold_ge cmds p) (addW_ge _ 8 [i])
theorem skip_len (p : Cp.Wr) : (addW p 6 []).code.length = p.code.length + 1 + 2 := by
  show (((p.code ++ [UInt8.ofNat 6]) ++ Cp.beB 0 2) ++ Cp.beB 0 0).length = _
  simp only [List.length_append, beB_len _ _ (Nat.le_refl 2), beB_len _ _ (Nat.zero_le 2), List.length_singleton]
/-- How much may be left out is told ahead of it. -/
def fixW (q : Cp.Wr) (d m : Nat) : Cp.Wr := ⟨q.strs, q.code.take d ++ (Cp.beB m 2 ++ q.code.drop (d + 2)), q.failed || Cp.big m 2⟩
def skipW (p : Cp.Wr) (cmds : List Pl.Bs) (i : Nat) : Cp.Wr := fixW (blockW (addW p 6 []) cmds i) (p.code.length + 1) ((blockW (addW p 6 []) cmds i).code.length - (p.code.length + 1 + 2))
theorem bytes_over (xs cs : Pl.Bs) (d : Nat) (hc : cs.length = 2) : (Lib.byteCells xs).take d ++ (Lib.byteCells cs ++ (Lib.byteCells xs).drop (d + (Lib.byteCells cs).length)) = Lib.byteCells (xs.take d ++ (cs ++ xs.drop (d + 2))) := by
  rw [Lib.byteCells_length, hc]
  unfold Lib.byteCells
  simp only [List.map_append, List.map_take, List.map_drop]
theorem over_len (xs cs : Pl.Bs) (d : Nat) (hc : cs.length = 2) (hd : d + 2 ≤ xs.length) : (xs.take d ++ (cs ++ xs.drop (d + 2))).length = xs.length := by
  simp only [List.length_append, List.length_take, List.length_drop]
  omega
theorem skipW_len (p : Cp.Wr) (cmds : List Pl.Bs) (i : Nat) : (skipW p cmds i).strs.length ≤ p.strs.length + cmds.length ∧ (skipW p cmds i).code.length ≤ p.code.length + 5 * cmds.length + 8 := by
  have h1 := blockW_len (addW p 6 []) cmds i
  have h2 := skip_len p
  have h3 := blockW_ge (addW p 6 []) cmds i
  rw [addW_strs] at h1
  refine ⟨h1.1, ?_⟩
  show ((blockW (addW p 6 []) cmds i).code.take (p.code.length + 1) ++ (Cp.beB _ 2 ++ (blockW (addW p 6 []) cmds i).code.drop (p.code.length + 1 + 2))).length ≤ _
  rw [over_len _ _ _ (beB_len _ _ (Nat.le_refl 2)) (by omega)]
  omega
/-- The code, written over. -/
theorem WrM.over {W W3 W4 : World} {B wb nb g n cap d m : Nat} {q : Cp.Wr} {vs : Value} (h : WrM W B wb nb q vs (.slice (some ⟨g, 0, none⟩) n cap)) (hn : q.code.length = n) (hd : d + 2 ≤ n) (ht : Tn (fun k => k = wb) W W3) (hr : Row W3 wb 281 [.map (some nb), vs, .slice (some ⟨g, 0, none⟩) n cap, .bool (q.failed || Cp.big m 2)])
    (hown : W4.ownsRow B 5 1 (.slice (some ⟨g, 0, none⟩) n cap) n ((Lib.byteCells q.code).take d ++ (Lib.byteCells (Cp.beB m 2) ++ (Lib.byteCells q.code).drop (d + (Lib.byteCells (Cp.beB m 2)).length)))) (ht4 : Tn (fun k => k = g) W3 W4) :
    Row W4 wb 281 [.map (some nb), vs, .slice (some ⟨g, 0, none⟩) n cap, .bool (q.failed || Cp.big m 2)] ∧ WrM W4 B wb nb (fixW q d m) vs (.slice (some ⟨g, 0, none⟩) n cap) ∧ WrT wb nb vs (.slice (some ⟨g, 0, none⟩) n cap) vs (.slice (some ⟨g, 0, none⟩) n cap) W W4 := by
  have hb2 := beB_len m 2 (Nat.le_refl 2)
  have hgB := (h.code.lt g rfl).1
  have hwB := h.wB
  have hr4 := hr.tn ht4 (by omega)
  rw [bytes_over _ _ _ hb2] at hown
  subst hn
  have hl := over_len q.code (Cp.beB m 2) d hb2 hd
  refine ⟨hr4, h.codeTo hr4 ?_ ((ht.mono (fun k e => .inl e)).trans (ht4.mono (fun k e => .inr (by subst e; rfl)))) (fun _ e => .inl e)⟩
  rw [hl]
  exact hown
def blockV (sb xb ib : Nat) : Value := .func (.func 99) #[] #[.pointer (some ⟨sb, 0, none⟩), .pointer (some ⟨xb, 0, none⟩), .pointer (some ⟨ib, 0, none⟩)]
set_option maxHeartbeats 2000000 in
set_option maxRecDepth 100000 in
theorem addSkip_any (B L wb nb sb xb ib i : Nat) (p : Cp.Wr) (vs vc n1 n2 n3 n4 n5 : Value) (cmds : List Pl.Bs) (ac : Option Addr) (cc cb co : Nat) (W : World) (h : WrM W B wb nb p vs vc) (hB : B ≤ W.heap.size) (hL1 : L ≤ wb) (hL2 : L ≤ nb)
    (hs : Row W sb 206 [n1, n2, n3, n4, n5, .slice ac cmds.length cc]) (hx : Row W xb 207 [.pointer (some ⟨wb, 0, none⟩)]) (hi : Row W ib 3 [.int .i64 i]) (hil : i < 2147483648)
    (ha : 0 < cmds.length → ac = some ⟨cb, co, none⟩ ∧ cb < L ∧ RdN W cb co cmds) (hn : cmds.length ≤ 1000) (hsl : p.strs.length ≤ 1000000) (hcl : p.code.length ≤ 900000000) :
    Calls Tryz.prog 98 #[.pointer (some ⟨wb, 0, none⟩), blockV sb xb ib] W fun e W' => e = .returned (.tuple #[]) ∧ WrX W B wb nb vs vc (skipW p cmds i) W' := by
  have hcu : (Tryz.prog.info? 5).map (·.size) = some 1 := by kernel_rfl
  have C1 := hide (wrAdd0 h hB (by omega) 6 6 rfl (by decide))
  have hk1 := skip_len p
  have hk2 := blockW_len (addW p 6 []) cmds i
  have hk3 := blockW_ge (addW p 6 []) cmds i
  have hst := addW_strs p 6 []
  have CB := hide (fun (w1 : World) (vc1 : Value) (hm1 : WrM w1 B wb nb (addW p 6 []) vs vc1) (ht1 : WrT wb nb vs vc vs vc1 W w1) => writeBlock_any B L wb nb sb xb ib i (addW p 6 []) vs vc1 n1 n2 n3 n4 n5 cmds ac cc cb co w1 hm1 (Nat.le_trans hB ht1.tn.size) hL1 hL2 (hs.wrt h ht1 (by decide) (by decide) (by decide)) (hx.wrt h ht1 (by decide) (by decide) (by decide)) (hi.wrt h ht1 (by decide) (by decide) (by decide)) hil (fun e => ⟨(ha e).1, (ha e).2.1, (ha e).2.2.below (WrT.below h ht1 hL1 hL2) (ha e).2.1⟩) hn (by rw [hst]; exact hsl) (by omega))
  have hwB := h.wB
  clear h hs hx hi ha
  obtain ⟨d, hd⟩ : ∃ d, d = p.code.length + 1 := ⟨_, rfl⟩
  have hgoal : skipW p cmds i = fixW (blockW (addW p 6 []) cmds i) d ((blockW (addW p 6 []) cmds i).code.length - (d + 2)) := by rw [hd]; rfl
  rw [hgoal]
  rw [← hd] at hk1
  have hqb : (blockW (addW p 6 []) cmds i).code.length ≤ 1000000000 := by omega
  have hqd : d + 2 ≤ (blockW (addW p 6 []) cmds i).code.length := by omega
  have hdb : d ≤ 900000001 := by omega
  clear hgoal hk2 hk3 hd
  generalize blockW (addW p 6 []) cmds i = q at *
  generalize hm : q.code.length - (d + 2) = m at *
  unfold blockV
  go_enter Tryz.func98, Tryz.ntmps98
  go_wp2_with (first
    | (go_at_call 100; refine (unhide C1).mono ?_; clear C1; rintro e w1 ⟨rfl, vc1, hm1, ht1⟩; obtain ⟨g1, k1, rfl, -⟩ := owns_form hm1.code (by omega); have c2 := hm1.row.cell? (i := 2) rfl; rw [hk1] at c2; have C2 := hide (unhide CB _ _ hm1 ht1); have HT1 := hide ht1; clear hm1 ht1)
    | (go_at_call 99; refine (unhide C2).mono ?_; clear C2 c2; rintro e w2 ⟨rfl, vs2, vc2, hm2, ht2⟩; have HM2 := hide hm2; have HT2 := hide ((unhide HT1).trans ht2); clear hm2 ht2)
    | fail)
  obtain ⟨g, k2, rfl, hgB, -⟩ := owns_form (unhide HM2).code (by omega)
  have hcap := own_cap (unhide HM2).code
  clear hk1 CB
  have c2 := (unhide HM2).row.cell? (i := 2) rfl
  have hb9 := (Below.refl w2.heap.size w2).drew
  have CY := hide (bytes_any wb m 2 (Nat.le_refl 2) _ _ _ _ w2.drew (unhide HM2).row (by omega))
  generalize hqn : q.code.length = n at *
  have hb2 := beB_len m 2 (Nat.le_refl 2)
  have i1 : (d : Int) ≤ 1000000000 := by omega
  have i2 : (d : Int) ≤ (n : Int) := by omega
  have i3 : (n : Int) ≤ (k2 : Int) := by omega
  have i4 : (d : Int) ≤ (k2 : Int) := by omega
  have i0 : (0 : Int) ≤ (d : Int) := by omega
  have e1 : IntKind.wrap .i64 ((d : Int) + 2 - 2) = (d : Int) := by rw [Int.add_sub_cancel]; exact wrap_small (by omega) (by omega)
  have e1' : IntKind.wrap .i64 (d : Int) = (d : Int) := wrap_small (by omega) (by omega)
  have e2 : IntKind.wrap .i64 ((n : Int) - ((d : Int) + 2)) = (m : Int) := by rw [show (n : Int) - ((d : Int) + 2) = (m : Int) by omega]; exact wrap_small (by omega) (by omega)
  have hnd : d ≤ n := by omega
  have hndk : d ≤ k2 := by omega
  go_region_held3 (fun w' => w'.cell? ⟨wb, 2, none⟩ = some (.slice (some ⟨g, 0, none⟩) n k2)) (go_keep) (first
    | (go_at_call 148; refine (unhide CY).mono ?_; clear CY; rintro e w3 ⟨N3, rfl, hN3, hr3, hn3, ht3⟩; have d2 := hr3.cell? (i := 2) rfl; have HO3 := hide (own_same (unhide HM2).code (fun q hq => ht3.block q ((unhide HM2).code.lt q hq).2 (by have := ((unhide HM2).code.lt q hq).1; omega))); have HN3 := hide hN3; have HR3 := hide hr3; have HT3 := hide ((Tn.later (p := fun q => q = wb) hb9).trans ht3); clear hN3 hr3 ht3 hn3)
    | (refine step_copy_over rfl (.tmp 20) (.tmp 29) 126 126 rfl 5 Tryz.underlying126 hcu B g k2 n _ (by have := unhide HO3; rw [hqn] at this; exact this) d _ _ (by rfl) ⟨N3, 0, none⟩ 2 2 (by rfl) (Lib.byteCells (Cp.beB m 2)) (by rw [Lib.byteCells_length, hb2]) (by omega) (by omega) (fun j u hj => by rw [addr_add0]; exact (unhide HN3).cell? hj) (byte_one _) ?_; intro w4 hown4 ht4; have HE4 := hide ((unhide HM2).over hqn (by omega) (unhide HT3) (unhide HR3) hown4 ht4); have d4 := (unhide HE4).1.cell? (i := 2) rfl; clear hown4 ht4))
  all_goals go_wp2_with fail
  all_goals go_end0
  all_goals exact ⟨rfl, _, _, (unhide HE4).2.1, (unhide HT2).trans (unhide HE4).2.2⟩
end Go.Proofs.YtjelacjggijmfaaGreatDoor
namespace Go.Proofs.YtjelacjggijmfaaGreatDoor
open Go.RowKit Go.MapKept Go.ChangeMaps Go.Maps

def strsW (ss : List Pl.Bs) : Pl.Bs := ss.flatMap fun s => Cp.beB s.length 2 ++ s
def outW (ss : List Pl.Bs) (i : Nat) : Pl.Bs := ([80, 49] ++ Cp.beB ss.length 2) ++ strsW (ss.take i)
def failW (p : Cp.Wr) (i : Nat) : Bool := (p.failed || Cp.big p.strs.length 2) || (p.strs.take i).any fun s => Cp.big s.length 2
def textW (p : Cp.Wr) : Option Pl.Bs := if failW p p.strs.length || decide (1000 < p.strs.length) then none else some (outW p.strs p.strs.length ++ p.code)
def textV : Option Pl.Bs → Value
  | some t => .tuple #[.string ⟨t.toArray⟩, .bool true]
  | none => .tuple #[.string ⟨#[]⟩, .bool false]
theorem strsW_take : ∀ (ss : List Pl.Bs) (i : Nat), (strsW (ss.take i)).length ≤ (strsW ss).length
  | [], i => by simp
  | s :: r, 0 => by simp [strsW]
  | s :: r, i + 1 => by
    have ih := strsW_take r i
    unfold strsW at *
    simp only [List.take_succ_cons, List.flatMap_cons, List.length_append]
    omega
theorem strsW_mem : ∀ (ss : List Pl.Bs) (s : Pl.Bs), s ∈ ss → s.length ≤ (strsW ss).length
  | [], s, h => by cases h
  | x :: r, s, h => by
    unfold strsW
    simp only [List.flatMap_cons, List.length_append]
    rcases List.mem_cons.1 h with e | e
    · subst e; omega
    · have ih := strsW_mem r s e
      unfold strsW at ih
      omega
theorem strsW_count : ∀ (ss : List Pl.Bs), ss.length ≤ (strsW ss).length
  | [] => Nat.le_refl _
  | x :: r => by
    have ih := strsW_count r
    have := beB_len x.length 2 (Nat.le_refl 2)
    unfold strsW at *
    simp only [List.flatMap_cons, List.length_append, List.length_cons]
    omega
theorem outW_len (ss : List Pl.Bs) (i : Nat) : (outW ss i).length ≤ 4 + (strsW ss).length := by
  have h1 := strsW_take ss i
  have h2 := beB_len ss.length 2 (Nat.le_refl 2)
  unfold outW
  simp only [List.length_append, List.length_cons, List.length_nil]
  omega
theorem outW_next (ss : List Pl.Bs) (i : Nat) (h : i < ss.length) : outW ss (i + 1) = outW ss i ++ Cp.beB ss[i].length 2 ++ ss[i] := by
  unfold outW strsW
  rw [List.take_add_one, List.getElem?_eq_getElem h, List.flatMap_append]
  simp
theorem failW_next (p : Cp.Wr) (i : Nat) (h : i < p.strs.length) : failW p (i + 1) = (failW p i || Cp.big p.strs[i].length 2) := by
  unfold failW
  rw [List.take_add_one, List.getElem?_eq_getElem h, List.any_append]
  simp [Bool.or_assoc]
theorem Tn.tail {p q : Nat → Prop} {a b c : World} (h : Tn p a b) (g : Tn q b c) (hq : ∀ k, q k → a.heap.size ≤ k) : Tn p a c :=
  ⟨g.os.trans h.os, g.tape.trans h.tape, g.output.trans h.output, Nat.le_trans h.size g.size, fun k hk hp => (g.block k (Nat.lt_of_lt_of_le hk h.size) (fun e => by have := hq k e; omega)).trans (h.block k hk hp)⟩
theorem strCells_bytes (s : Pl.Bs) : Lib.strCells ⟨s.toArray⟩ = Lib.byteCells s := by
  unfold Lib.strCells Lib.byteCells
  rfl
theorem failW_zero (p : Cp.Wr) : failW p 0 = (p.failed || Cp.big p.strs.length 2) := by
  unfold failW
  simp
theorem outW_zero (ss : List Pl.Bs) : outW ss 0 = [80, 49] ++ Cp.beB ss.length 2 := by
  unfold outW strsW
  simp
theorem cell_block {w : World} {b : Nat} {t : TypeId} {vs : List Value} {fz : Nat × Nat} {j : Nat} {u : Value} (h : w.heap[b]? = some (.cells vs.toArray t fz)) (hj : vs[j]? = some u) : w.cell? ⟨b, j, none⟩ = some u := by
  unfold World.cell?
  simp [h, hj]
/-- While the strings are told. -/
structure TxM (W : World) (H wb nb : Nat) (p : Cp.Wr) (vs vc : Value) (i : Nat) (ov : Value) (wr : World) : Prop where
  tn : Tn (fun k => k = wb) W wr
  hH : W.heap.size ≤ H ∧ H ≤ wr.heap.size
  row : Row wr wb 281 [.map (some nb), vs, vc, .bool (failW p i)]
  own : wr.ownsRow H 5 1 ov (outW p.strs i).length (Lib.byteCells (outW p.strs i))
theorem own_bytes {w : World} {B : Nat} {v : Value} {bs : Pl.Bs} (h : w.ownsRow B 5 1 v bs.length (Lib.byteCells bs)) (h0 : 0 < bs.length) : (convert 126 9 v).run Tryz.prog w = .ok (.string ⟨bs.toArray⟩) w := by
  obtain ⟨g, cap, rfl, -⟩ := owns_form h h0
  refine run_convert_bytes_back w _ _ 5 _ cap bs Tryz.underlying126 Tryz.underlying5 Tryz.underlying9 ?_
  intro j hj
  have := own_cell h j (by rw [Lib.byteCells_length]; exact hj)
  rw [addr_add0, this]
  unfold Lib.byteCells
  simp
end Go.Proofs.YtjelacjggijmfaaGreatDoor
namespace Go.Proofs.YtjelacjggijmfaaGreatDoor
open Go.RowKit Go.MapKept Go.ChangeMaps Go.Maps

set_option maxHeartbeats 2000000 in
set_option maxRecDepth 100000 in
theorem wrText_any (B wb nb : Nat) (p : Cp.Wr) (vs vc : Value) (W : World) (h : WrM W B wb nb p vs vc) (hsz : (strsW p.strs).length ≤ 1000000000) (hc0 : 0 < p.code.length) (hcl : p.code.length ≤ 1073741824) :
    Calls Tryz.prog 102 #[.pointer (some ⟨wb, 0, none⟩)] W fun e W' => e = .returned (textV (textW p)) ∧ Tn (fun k => k = wb) W W' := by
  obtain ⟨i0, hi0, hz0, hz1, hz2⟩ := info_parts Tryz.infoU8
  have hcount := strsW_count p.strs
  have hcv := Lib.run_convert_bytes_const (P := Tryz.prog) W 126 5 #[.int .u8 80, .int .u8 49] 2 2 Tryz.underlying126 Tryz.underlying5
  obtain ⟨sa, sc, hvs⟩ := own_sh h.strs
  obtain ⟨cg, ccap, hvc, -⟩ := owns_form h.code hc0
  subst hvs hvc
  have H0 := hide h
  have hlt := h.row.lt
  have hwB := h.wB
  obtain ⟨W1, hW1⟩ : ∃ W1, W1 = W.alloc (.cells #[.int .u8 80, .int .u8 49] 5 (2, 3)) := ⟨_, rfl⟩
  have hcv' : (convert 126 126 (.slice (some ⟨W.heap.size, 0, none⟩) 2 2)).run Tryz.prog (W.alloc (.cells #[.int .u8 80, .int .u8 49] 5)) = .ok (.slice (some ⟨W.heap.size, 0, none⟩) 2 2) W1 := by rw [hW1]; exact hcv
  have hb1 : Below W.heap.size W W1 := by rw [hW1]; exact (Below.refl _ W).alloc (Nat.le_refl _) _
  have hr1 : Row W1 wb 281 _ := h.row.later hb1
  have c1 := hr1.cell? (i := 1) rfl
  have hN1 : W1.heap[W.heap.size]? = some (.cells #[.int .u8 80, .int .u8 49] 5 (2, 3)) := by rw [hW1]; show (W.heap.push _)[W.heap.size]? = _; simp
  have hz1' : W1.heap.size = W.heap.size + 1 := by rw [hW1]; exact World.size_alloc _ _
  have CB := hide (bytes_any wb p.strs.length 2 (Nat.le_refl 2) _ _ _ _ W1 hr1 (by omega))
  have HB1 := hide hb1
  have HN1 := hide hN1
  clear hcv hW1 hb1 hr1 hN1 h
  go_enter Tryz.func102, Tryz.ntmps102
  go_wp2_with (first
    | (go_at_call 148; refine (unhide CB).mono ?_; clear CB; rintro e w2 ⟨N2, rfl, hN2, hr2, hn2, ht2⟩; have HN2 := hide hN2; have HR2 := hide hr2; have HX2 := hide ((ht2.block W.heap.size (by omega) (by omega)).trans (unhide HN1)); have HT2 := hide ((Tn.later (p := fun k => k = wb) (unhide HB1)).trans ht2); have hs2 := ht2.size; clear hN2 hr2 hn2 ht2)
    | (at_builtin; refine wpList_append_grows _ rfl (.tmp 8) (.tmp 15) 126 rfl 5 i0 (.int .u8 0) 1 1 Tryz.underlying126 hi0 hz0 hz1 hz2 rfl (by decide) (some ⟨W.heap.size, 0, none⟩) 2 2 (Lib.byteCells [80, 49]) rfl (fun e => by cases e) rfl (fun b e j u hj => by cases e; rw [addr_add0]; exact cell_block (unhide HX2) hj) ⟨N2, 0, none⟩ 2 2 (Lib.byteCells (Cp.beB p.strs.length 2)) rfl (by rw [Lib.byteCells_length, beB_len _ _ (Nat.le_refl 2)]) (fun j u hj => by rw [addr_add0]; exact (unhide HN2).cell? hj) (byte_one _) (by omega) (by decide) (by decide) ?_; intro v3 w3 hown3 hgrow3; have hr3 := (unhide HR2).grown hgrow3 (by simp); have c3 := hr3.cell? (i := 1) rfl; have HX3 : Hid (TxM W w2.heap.size wb nb p (.slice sa p.strs.length sc) (.slice (some ⟨cg, 0, none⟩) p.code.length ccap) 0 v3 w3) := ⟨(unhide HT2).tail (Tn.grown (p := fun _ => False) hgrow3 (fun k e => by cases e)) (fun _ e => e.elim), ⟨by omega, hgrow3.size⟩, by rw [failW_zero]; exact hr3, by rw [outW_zero, List.length_append, beB_len _ _ (Nat.le_refl 2), Lib.byteCells_append]; exact hown3⟩; clear hown3 hgrow3 hr3)
    | fail)
  generalize w2.heap.size = H at *
  clear HN1 HN2 HR2 HX2 HT2 HB1 hcv' c1
  go_loopw [4, 22] (fun ov iv wr => ∃ i : Nat, iv = .int .i64 i ∧ i ≤ p.strs.length ∧ Hid (TxM W H wb nb p (.slice sa p.strs.length sc) (.slice (some ⟨cg, 0, none⟩) p.code.length ccap) i ov wr)) (fun _ iv _ => p.strs.length - intN iv)
  case atStart => exact ⟨0, rfl, by omega, HX3⟩
  case round =>
    clear HX3 c3
    obtain ⟨i, rfl, hi2, HX⟩ := hrel
    have hHs := (unhide HX).hH
    by_cases hi : i < p.strs.length
    · have t1 : (i : Int) < p.strs.length := by omega
      have t0 : (0 : Int) ≤ (i : Int) := by omega
      obtain ⟨g, k0, hsa, -⟩ := owns_form (unhide H0).strs (by omega)
      cases hsa
      have HS := hide (own_same (unhide H0).strs (fun k hk => (unhide HX).tn.block k ((unhide H0).strs.lt k hk).2 (by have := ((unhide H0).strs.lt k hk).1; omega)))
      have cs := own_cell (unhide HS) i (by simpa using hi)
      rw [List.getElem_map] at cs
      have hxl := strsW_mem p.strs p.strs[i] (List.getElem_mem hi)
      have hnx := outW_next p.strs i hi
      have hfx := failW_next p i hi
      have hol := outW_len p.strs i
      generalize hx : p.strs[i] = x at *
      unfold strV at cs
      have hb2 := beB_len x.length 2 (Nat.le_refl 2)
      have CB := hide (bytes_any wb x.length 2 (Nat.le_refl 2) _ _ _ _ wr (unhide HX).row (by omega))
      have HNX := hide hnx
      have HFX := hide hfx
      have hxs : (ByteArray.mk x.toArray).size = x.length := rfl
      clear hnx hfx
      go_wp2_with (first
        | (go_at_call 148; refine (unhide CB).mono ?_; clear CB; rintro e w5 ⟨N5, rfl, hN5, hr5, hn5, ht5⟩; have HN5 := hide hN5; have HR5 := hide hr5; have HO5 := hide (own_same (unhide HX).own (fun k hk => ht5.block k ((unhide HX).own.lt k hk).2 (by have := ((unhide HX).own.lt k hk).1; omega))); have HT5 := hide ((unhide HX).tn.trans ht5); have hs5 := ht5.size; clear hN5 hr5 hn5 ht5)
        | (at_builtin; refine wpList_append_own_at _ rfl (.tmp 26) (.tmp 30) 126 rfl H 5 i0 (.int .u8 0) 1 1 Tryz.underlying126 hi0 hz0 hz1 hz2 rfl (by decide) _ _ _ rfl (unhide HO5) ⟨N5, 0, none⟩ 2 2 (Lib.byteCells (Cp.beB x.length 2)) rfl (by rw [Lib.byteCells_length, hb2]) (fun j u hj => by rw [addr_add0]; exact (unhide HN5).cell? hj) (byte_one _) (by unfold maxLen; omega) (by omega) (by omega) ?_; intro v6 w6 hown6 hgrow6 _ _; have HO6 := hide hown6; have HR6 := hide ((unhide HR5).grown hgrow6 (own_ne (unhide HO5) (by omega))); have HT6 := hide ((unhide HT5).tail (Tn.grown (p := fun k => H ≤ k) hgrow6 (fun k e => ((unhide HO5).lt k e).1)) (fun k e => by omega)); have hs6 := hgrow6.size; clear hown6 hgrow6)
        | (at_builtin; refine Lib.wpList_append_own_string _ rfl (.tmp 32) (.tmp 33) 126 9 rfl H 5 i0 Tryz.underlying126 Tryz.underlying9 hi0 hz0 hz1 hz2 _ _ _ rfl (unhide HO6) ⟨x.toArray⟩ rfl (by rw [hxs]; unfold maxLen; omega) (by rw [hxs]; omega) (by omega) ?_; intro v7 w7 hown7 hgrow7 _; rw [strCells_bytes, hxs] at hown7; have HX7 : Hid (TxM W H wb nb p (.slice (some ⟨g, 0, none⟩) p.strs.length sc) (.slice (some ⟨cg, 0, none⟩) p.code.length ccap) (i + 1) v7 w7) := ⟨(unhide HT6).tail (Tn.grown (p := fun k => H ≤ k) hgrow7 (fun k e => ((unhide HO6).lt k e).1)) (fun k e => by omega), ⟨by omega, Nat.le_trans (by omega) hgrow7.size⟩, by rw [unhide HFX]; exact (unhide HR6).grown hgrow7 (own_ne (unhide HO6) (by omega)), by rw [unhide HNX, List.length_append, List.length_append, hb2, Lib.byteCells_append, Lib.byteCells_append]; exact hown7⟩; clear hown7 hgrow7)
        | fail)
      go_roundw
      case rel => exact ⟨i + 1, by go_num, by omega, HX7⟩
      case measure => simp only [intN]; omega
    · have hie : i = p.strs.length := by omega
      subst hie
      have t1 : ¬ (p.strs.length : Int) < p.strs.length := by omega
      have c1 := (unhide HX).row.cell? (i := 1) rfl
      have c2 := (unhide HX).row.cell? (i := 2) rfl
      have c3 := (unhide HX).row.cell? (i := 3) rfl
      have HG : Hid (textW p = if failW p p.strs.length || decide (1000 < p.strs.length) then none else some (outW p.strs p.strs.length ++ p.code)) := rfl
      cases hf : failW p p.strs.length with
      | true =>
        rw [hf] at c3
        have e0 : textW p = none := by rw [unhide HG, hf]; rfl
        have HE0 := hide e0
        clear HG e0
        go_wp2_with fail
        go_ret2
        exact ⟨by rw [unhide HE0]; rfl, (unhide HX).tn⟩
      | false =>
        rw [hf] at c3
        by_cases hb : 1000 < p.strs.length
        · have t2 : (1000 : Int) < p.strs.length := by omega
          have e0 : textW p = none := by rw [unhide HG, hf]; simp [hb]
          have HE0 := hide e0
          clear HG e0
          go_wp2_with fail
          go_ret2
          exact ⟨by rw [unhide HE0]; rfl, (unhide HX).tn⟩
        · have t2 : ¬ (1000 : Int) < p.strs.length := by omega
          have e0 : textW p = some (outW p.strs p.strs.length ++ p.code) := by rw [unhide HG, hf]; simp [hb]
          have HE0 := hide e0
          clear HG e0
          have hol := outW_len p.strs p.strs.length
          have HCO := hide (own_same (unhide H0).code (fun k hk => (unhide HX).tn.block k ((unhide H0).code.lt k hk).2 (by have := ((unhide H0).code.lt k hk).1; omega)))
          go_wp2_with (first
            | (at_builtin; refine wpList_append_own_at _ rfl (.tmp 48) (.tmp 52) 126 rfl H 5 i0 (.int .u8 0) 1 1 Tryz.underlying126 hi0 hz0 hz1 hz2 rfl (by decide) _ _ _ rfl (unhide HX).own ⟨cg, 0, none⟩ p.code.length ccap (Lib.byteCells p.code) rfl (by rw [Lib.byteCells_length]; omega) (fun j u hj => by rw [addr_add0]; obtain ⟨hj1, hj2⟩ := List.getElem?_eq_some_iff.1 hj; rw [← hj2]; exact own_cell (unhide HCO) j hj1) (byte_one _) (by unfold maxLen; omega) (by omega) (by omega) ?_; intro v6 w6 hown6 hgrow6 _ _; rw [← Lib.byteCells_append, ← List.length_append] at hown6; have hcv6 := own_bytes hown6 (by rw [List.length_append]; omega); have HT6 := hide ((unhide HX).tn.tail (Tn.grown (p := fun k => H ≤ k) hgrow6 (fun k e => ((unhide HX).own.lt k e).1)) (fun k e => by omega)); clear hown6 hgrow6)
            | fail)
          go_ret2
          exact ⟨by rw [unhide HE0]; rfl, unhide HT6⟩
end Go.Proofs.YtjelacjggijmfaaGreatDoor
