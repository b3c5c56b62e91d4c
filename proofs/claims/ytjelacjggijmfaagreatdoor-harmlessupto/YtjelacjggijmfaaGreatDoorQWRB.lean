/-
  A plan is written: all steps.
  A plan is written: its text: the walk.
-/
import Derived.Test.YtjelacjggijmfaaGreatDoorQWR7
namespace Go.Proofs.YtjelacjggijmfaaGreatDoor
open Go.RowKit Go.MapKept Go.ChangeMaps Go.Maps

set_option maxHeartbeats 2000000 in
set_option maxRecDepth 100000 in
theorem wrText_any (B wb nb : Nat) (p : Cp.Wr) (vs vc : Value) (W : World) (h : WrM W B wb nb p vs vc) (hsz : (strsW p.strs).length ≤ 1000000000) (hc0 : 0 < p.code.length) (hcl : p.code.length ≤ 1073741824) :
    Calls Tryz.prog 102 #[.pointer (some ⟨wb, 0, none⟩)] W fun e W' => e = .returned (textV (textW p)) ∧ Tn (fun k => k = wb) W W' := by
  obtain ⟨i0, hi0, hz0, hz1, hz2⟩ := info_parts Tryz.infoU8
  have hcount := strsW_count p.strs
  have hcv := Lib.run_convert_bytes_const (P := Tryz.prog) W 126 5 #[.int .u8 80, .int .u8 49] 2 2 Tryz.underlying126 Tryz.underlying5
  obtain ⟨sa, sc, hvs⟩ := own_sh h.strs
  obtain ⟨cg, ccap, hvc, -⟩ := owns_form h.code hc0
  subst hvs hvc
  have H0 := hide h
  have hlt := h.row.lt
  have hwB := h.wB
  obtain ⟨W1, hW1⟩ : ∃ W1, W1 = W.alloc (.cells #[.int .u8 80, .int .u8 49] 5 (2, 3)) := ⟨_, rfl⟩
  have hcv' : (convert 126 126 (.slice (some ⟨W.heap.size, 0, none⟩) 2 2)).run Tryz.prog (W.alloc (.cells #[.int .u8 80, .int .u8 49] 5)) = .ok (.slice (some ⟨W.heap.size, 0, none⟩) 2 2) W1 := by rw [hW1]; exact hcv
  have hb1 : Below W.heap.size W W1 := by rw [hW1]; exact (Below.refl _ W).alloc (Nat.le_refl _) _
  have hr1 : Row W1 wb 281 _ := h.row.later hb1
  have c1 := hr1.cell? (i := 1) rfl
  have hN1 : W1.heap[W.heap.size]? = some (.cells #[.int .u8 80, .int .u8 49] 5 (2, 3)) := by rw [hW1]; show (W.heap.push _)[W.heap.size]? = _; simp
  have hz1' : W1.heap.size = W.heap.size + 1 := by rw [hW1]; exact World.size_alloc _ _
  have CB := hide (bytes_any wb p.strs.length 2 (Nat.le_refl 2) _ _ _ _ W1 hr1 (by omega))
  have HB1 := hide hb1
  have HN1 := hide hN1
  clear hcv hW1 hb1 hr1 hN1 h
  go_enter Tryz.func102, Tryz.ntmps102
  go_wp2_with (first
    | (go_at_call 148; refine (unhide CB).mono ?_; clear CB; rintro e w2 ⟨N2, rfl, hN2, hr2, hn2, ht2⟩; have HN2 := hide hN2; have HR2 := hide hr2; have HX2 := hide ((ht2.block W.heap.size (by omega) (by omega)).trans (unhide HN1)); have HT2 := hide ((Tn.later (p := fun k => k = wb) (unhide HB1)).trans ht2); have hs2 := ht2.size; clear hN2 hr2 hn2 ht2)
    | (at_builtin; refine wpList_append_grows _ rfl (.tmp 8) (.tmp 15) 126 rfl 5 i0 (.int .u8 0) 1 1 Tryz.underlying126 hi0 hz0 hz1 hz2 rfl (by decide) (some ⟨W.heap.size, 0, none⟩) 2 2 (Lib.byteCells [80, 49]) rfl (fun e => by cases e) rfl (fun b e j u hj => by cases e; rw [addr_add0]; exact cell_block (unhide HX2) hj) ⟨N2, 0, none⟩ 2 2 (Lib.byteCells (Cp.beB p.strs.length 2)) rfl (by rw [Lib.byteCells_length, beB_len _ _ (Nat.le_refl 2)]) (fun j u hj => by rw [addr_add0]; exact (unhide HN2).cell? hj) (byte_one _) (by omega) (by decide) (by decide) ?_; intro v3 w3 hown3 hgrow3; have hr3 := (unhide HR2).grown hgrow3 (by simp); have c3 := hr3.cell? (i := 1) rfl; have HX3 : Hid (TxM W w2.heap.size wb nb p (.slice sa p.strs.length sc) (.slice (some ⟨cg, 0, none⟩) p.code.length ccap) 0 v3 w3) := ⟨(unhide HT2).tail (Tn.grown (p := fun _ => False) hgrow3 (fun k e => by cases e)) (fun _ e => e.elim), ⟨by omega, hgrow3.size⟩, by rw [failW_zero]; exact hr3, by rw [outW_zero, List.length_append, beB_len _ _ (Nat.le_refl 2), Lib.byteCells_append]; exact hown3⟩; clear hown3 hgrow3 hr3)
    | fail)
  generalize w2.heap.size = H at *
  clear HN1 HN2 HR2 HX2 HT2 HB1 hcv' c1
  go_loopw [4, 22] (fun ov iv wr => ∃ i : Nat, iv = .int .i64 i ∧ i ≤ p.strs.length ∧ Hid (TxM W H wb nb p (.slice sa p.strs.length sc) (.slice (some ⟨cg, 0, none⟩) p.code.length ccap) i ov wr)) (fun _ iv _ => p.strs.length - intN iv)
  case atStart => exact ⟨0, rfl, by omega, HX3⟩
  case round =>
    clear HX3 c3
    obtain ⟨i, rfl, hi2, HX⟩ := hrel
    have hHs := (unhide HX).hH
    by_cases hi : i < p.strs.length
    · have t1 : (i : Int) < p.strs.length := by omega
      have t0 : (0 : Int) ≤ (i : Int) := by omega
      obtain ⟨g, k0, hsa, -⟩ := owns_form (unhide H0).strs (by omega)
      cases hsa
      have HS := hide (own_same (unhide H0).strs (fun k hk => (unhide HX).tn.block k ((unhide H0).strs.lt k hk).2 (by have := ((unhide H0).strs.lt k hk).1; omega)))
      have cs := own_cell (unhide HS) i (by simpa using hi)
      rw [List.getElem_map] at cs
      have hxl := strsW_mem p.strs p.strs[i] (List.getElem_mem hi)
      have hnx := outW_next p.strs i hi
      have hfx := failW_next p i hi
      have hol := outW_len p.strs i
      generalize hx : p.strs[i] = x at *
      unfold strV at cs
      have hb2 := beB_len x.length 2 (Nat.le_refl 2)
      have CB := hide (bytes_any wb x.length 2 (Nat.le_refl 2) _ _ _ _ wr (unhide HX).row (by omega))
      have HNX := hide hnx
      have HFX := hide hfx
      have hxs : (ByteArray.mk x.toArray).size = x.length := rfl
      clear hnx hfx
      go_wp2_with (first
        | (go_at_call 148; refine (unhide CB).mono ?_; clear CB; rintro e w5 ⟨N5, rfl, hN5, hr5, hn5, ht5⟩; have HN5 := hide hN5; have HR5 := hide hr5; have HO5 := hide (own_same (unhide HX).own (fun k hk => ht5.block k ((unhide HX).own.lt k hk).2 (by have := ((unhide HX).own.lt k hk).1; omega))); have HT5 := hide ((unhide HX).tn.trans ht5); have hs5 := ht5.size; clear hN5 hr5 hn5 ht5)
        | (at_builtin; refine wpList_append_own_at _ rfl (.tmp 26) (.tmp 30) 126 rfl H 5 i0 (.int .u8 0) 1 1 Tryz.underlying126 hi0 hz0 hz1 hz2 rfl (by decide) _ _ _ rfl (unhide HO5) ⟨N5, 0, none⟩ 2 2 (Lib.byteCells (Cp.beB x.length 2)) rfl (by rw [Lib.byteCells_length, hb2]) (fun j u hj => by rw [addr_add0]; exact (unhide HN5).cell? hj) (byte_one _) (by unfold maxLen; omega) (by omega) (by omega) ?_; intro v6 w6 hown6 hgrow6 _ _; have HO6 := hide hown6; have HR6 := hide ((unhide HR5).grown hgrow6 (own_ne (unhide HO5) (by omega))); have HT6 := hide ((unhide HT5).tail (Tn.grown (p := fun k => H ≤ k) hgrow6 (fun k e => ((unhide HO5).lt k e).1)) (fun k e => by omega)); have hs6 := hgrow6.size; clear hown6 hgrow6)
        | (at_builtin; refine Lib.wpList_append_own_string _ rfl (.tmp 32) (.tmp 33) 126 9 rfl H 5 i0 Tryz.underlying126 Tryz.underlying9 hi0 hz0 hz1 hz2 _ _ _ rfl (unhide HO6) ⟨x.toArray⟩ rfl (by rw [hxs]; unfold maxLen; omega) (by rw [hxs]; omega) (by omega) ?_; intro v7 w7 hown7 hgrow7 _; rw [strCells_bytes, hxs] at hown7; have HX7 : Hid (TxM W H wb nb p (.slice (some ⟨g, 0, none⟩) p.strs.length sc) (.slice (some ⟨cg, 0, none⟩) p.code.length ccap) (i + 1) v7 w7) := ⟨(unhide HT6).tail (Tn.grown (p := fun k => H ≤ k) hgrow7 (fun k e => ((unhide HO6).lt k e).1)) (fun k e => by omega), ⟨by omega, Nat.le_trans (by omega) hgrow7.size⟩, by rw [unhide HFX]; exact (unhide HR6).grown hgrow7 (own_ne (unhide HO6) (by omega)), by rw [unhide HNX, List.length_append, List.length_append, hb2, Lib.byteCells_append, Lib.byteCells_append]; exact hown7⟩; clear hown7 hgrow7)
        | fail)
      go_roundw
      case rel => exact ⟨i + 1, by go_num, by omega, HX7⟩
      case measure => simp only [intN]; omega
    · have hie : i = p.strs.length := by omega
      subst hie
      have t1 : ¬ (p.strs.length : Int) < p.strs.length := by omega
      have c1 := (unhide HX).row.cell? (i := 1) rfl
      have c2 := (unhide HX).row.cell? (i := 2) rfl
      have c3 := (unhide HX).row.cell? (i := 3) rfl
      have HG : Hid (textW p = if failW p p.strs.length || decide (1000 < p.strs.length) then none else some (outW p.strs p.strs.length ++ p.code)) := rfl
      cases hf : failW p p.strs.length with
      | true =>
        rw [hf] at c3
        have e0 : textW p = none := by rw [unhide HG, hf]; rfl
        have HE0 := hide e0
        clear HG e0
        go_wp2_with fail
        go_ret2
        exact ⟨by rw [unhide HE0]; rfl, (unhide HX).tn⟩
      | false =>
        rw [hf] at c3
        by_cases hb : 1000 < p.strs.length
        · have t2 : (1000 : Int) < p.strs.length := by omega
          have e0 : textW p = none := by rw [unhide HG, hf]; simp [hb]
          have HE0 := hide e0
          clear HG e0
          go_wp2_with fail
          go_ret2
          exact ⟨by rw [unhide HE0]; rfl, (unhide HX).tn⟩
        · have t2 : ¬ (1000 : Int) < p.strs.length := by omega
          have e0 : textW p = some (outW p.strs p.strs.length ++ p.code) := by rw [unhide HG, hf]; simp [hb]
          have HE0 := hide e0
          clear HG e0
          have hol := outW_len p.strs p.strs.length
          have HCO := hide (own_same (unhide H0).code (fun k hk => (unhide HX).tn.block k ((unhide H0).code.lt k hk).2 (by have := ((unhide H0).code.lt k hk).1; omega)))
          go_wp2_with (first
            | (at_builtin; refine wpList_append_own_at _ rfl (.tmp 48) (.tmp 52) 126 rfl H 5 i0 (.int .u8 0) 1 1 Tryz.underlying126 hi0 hz0 hz1 hz2 rfl (by decide) _ _ _ rfl (unhide HX).own ⟨cg, 0, none⟩ p.code.length ccap (Lib.byteCells p.code) rfl (by rw [Lib.byteCells_length]; omega) (fun j u hj => by rw [addr_add0]; obtain ⟨hj1, hj2⟩ := List.getElem?_eq_some_iff.1 hj; rw [← hj2]; exact own_cell (unhide HCO) j hj1) (byte_one _) (by unfold maxLen; omega) (by omega) (by omega) ?_; intro v6 w6 hown6 hgrow6 _ _; rw [← Lib.byteCells_append, ← List.length_append] at hown6; have hcv6 := own_bytes hown6 (by rw [List.length_append]; omega); have HT6 := hide ((unhide HX).tn.tail (Tn.grown (p := fun k => H ≤ k) hgrow6 (fun k e => ((unhide HX).own.lt k e).1)) (fun k e => by omega)); clear hown6 hgrow6)
            | fail)
          go_ret2
          exact ⟨by rw [unhide HE0]; rfl, unhide HT6⟩
end Go.Proofs.YtjelacjggijmfaaGreatDoor
namespace Go.Proofs.YtjelacjggijmfaaGreatDoor
open Go.RowKit Go.MapKept Go.ChangeMaps Go.Maps

/-- A node, and its commands as they are given. -/
structure Stp where
  name : Pl.Bs
  ph : Bool
  needs : List Pl.Bs
  stem : Pl.Bs
  cmds : List Pl.Bs
def flPut : Flags → Pl.Bs → Nat → Flags
  | [], k, v => [(k, v)]
  | x :: r, k, v => if x.1 == k then (k, v) :: r else x :: flPut r k v
theorem flPut_ents (k : Pl.Bs) (v : Nat) : ∀ fl : Flags, mput (flEnts fl) k (.int .i64 (v : Int)) = flEnts (flPut fl k v)
  | [] => rfl
  | x :: r => by
    have ih := flPut_ents k v r
    unfold flEnts at *
    rw [List.map_cons, mput, flPut]
    cases hx : (x.1 == k) with
    | true => simp
    | false => simp [ih]
theorem flPut_len (k : Pl.Bs) (v : Nat) : ∀ fl : Flags, (flPut fl k v).length ≤ fl.length + 1
  | [] => Nat.le_refl _
  | x :: r => by
    have ih := flPut_len k v r
    rw [flPut]
    split
    · simp
    · simp only [List.length_cons]; omega
theorem flPut_mem (k : Pl.Bs) (v n : Nat) (hv : v < n) : ∀ fl : Flags, (∀ x ∈ fl, x.2 < n) → ∀ x ∈ flPut fl k v, x.2 < n
  | [], _, x, hx => by
    rw [flPut, List.mem_singleton] at hx
    subst hx
    exact hv
  | y :: r, h, x, hx => by
    rw [flPut] at hx
    split at hx
    · rcases List.mem_cons.1 hx with e | e
      · subst e; exact hv
      · exact h x (List.mem_cons_of_mem _ e)
    · rcases List.mem_cons.1 hx with e | e
      · subst e; exact h _ (List.mem_cons_self ..)
      · exact flPut_mem k v n hv r (fun z hz => h z (List.mem_cons_of_mem _ hz)) x e
/-- What is written when the first steps are. -/
def writeAt (ss : List Stp) : Nat → Cp.Wr × Flags
  | 0 => (⟨[], [], false⟩, [])
  | i + 1 => match ss[i]? with
    | some x => (skipW (staleW (flPut (writeAt ss i).2 x.name i) (writeAt ss i).1 x.ph x.name x.needs) x.cmds i, flPut (writeAt ss i).2 x.name i)
    | none => writeAt ss i
def planW (ss : List Stp) : Option Pl.Bs := textW (writeAt ss ss.length).1
theorem writeAt_next (ss : List Stp) (i : Nat) (h : i < ss.length) : writeAt ss (i + 1) = (skipW (staleW (flPut (writeAt ss i).2 ss[i].name i) (writeAt ss i).1 ss[i].ph ss[i].name ss[i].needs) ss[i].cmds i, flPut (writeAt ss i).2 ss[i].name i) := by
  rw [writeAt, List.getElem?_eq_getElem h]
/-- How much a step's strings are. -/
def Stp.sz (x : Stp) : Nat := 2 + x.name.length + (strsW x.needs).length + (strsW x.cmds).length
def szs (ss : List Stp) : Nat := (ss.map Stp.sz).sum
theorem strsW_snoc (ss : List Pl.Bs) (s : Pl.Bs) : (strsW (ss ++ [s])).length = (strsW ss).length + 2 + s.length := by
  unfold strsW
  rw [List.flatMap_append, List.length_append]
  simp [beB_len s.length 2 (Nat.le_refl 2)]
  omega
theorem str_sz (p : Cp.Wr) (s : Pl.Bs) : (strsW (p.str s).strs).length ≤ (strsW p.strs).length + 2 + s.length := by
  unfold Cp.Wr.str
  cases hf : p.strs.findIdx? (fun x => x == s) with
  | none => rw [strsW_snoc]; exact Nat.le_refl _
  | some i => simp only; omega
theorem staleStep_sz (fl : Flags) (nm : Nat) (q : Cp.Wr) (x : Pl.Bs) : (strsW (staleStep fl nm q x).strs).length ≤ (strsW q.strs).length + 2 + x.length := by
  unfold staleStep
  rw [addW_strs, addW_strs]
  refine Nat.le_trans (str_sz _ _) ?_
  rw [addW_strs, addW_strs]
  exact Nat.le_refl _
theorem strsW_cons (s : Pl.Bs) (ss : List Pl.Bs) : (strsW (s :: ss)).length = 2 + s.length + (strsW ss).length := by
  unfold strsW
  rw [List.flatMap_cons, List.length_append, List.length_append, beB_len s.length 2 (Nat.le_refl 2)]
theorem staleFold_sz (fl : Flags) (nm : Nat) : ∀ (needs : List Pl.Bs) (q : Cp.Wr), (strsW (needs.foldl (staleStep fl nm) q).strs).length ≤ (strsW q.strs).length + (strsW needs).length
  | [], q => Nat.le_add_right _ _
  | n :: r, q => by
    have ih := staleFold_sz fl nm r (staleStep fl nm q n)
    have h1 := staleStep_sz fl nm q n
    rw [List.foldl_cons, strsW_cons]
    omega
theorem staleW_sz (fl : Flags) (p : Cp.Wr) (ph : Bool) (name : Pl.Bs) (needs : List Pl.Bs) : (strsW (staleW fl p ph name needs).strs).length ≤ (strsW p.strs).length + 2 + name.length + (strsW needs).length := by
  unfold staleW
  cases ph with
  | true => rw [if_pos rfl, addW_strs]; omega
  | false =>
    simp only [Bool.false_eq_true, if_false]
    have h1 := staleFold_sz fl (p.num name) needs (addW (p.str name) 2 [p.num name])
    have h2 := str_sz p name
    rw [addW_strs] at h1
    omega
theorem giveFold_sz : ∀ (cmds : List Pl.Bs) (q : Cp.Wr), (strsW (cmds.foldl giveStep q).strs).length ≤ (strsW q.strs).length + (strsW cmds).length
  | [], q => Nat.le_add_right _ _
  | c :: r, q => by
    have ih := giveFold_sz r (giveStep q c)
    have h1 : (strsW (giveStep q c).strs).length ≤ (strsW q.strs).length + 2 + c.length := by unfold giveStep; rw [addW_strs]; exact str_sz q c
    rw [List.foldl_cons, strsW_cons]
    omega
theorem skipW_sz (p : Cp.Wr) (cmds : List Pl.Bs) (i : Nat) : (strsW (skipW p cmds i).strs).length ≤ (strsW p.strs).length + (strsW cmds).length := by
  show (strsW (blockW (addW p 6 []) cmds i).strs).length ≤ _
  unfold blockW
  rw [addW_strs]
  have := giveFold_sz cmds (addW p 6 [])
  rw [addW_strs] at this
  exact this
theorem skipW_ge (p : Cp.Wr) (cmds : List Pl.Bs) (i : Nat) : p.code.length + 3 ≤ (skipW p cmds i).code.length := by
  have h2 := skip_len p
  have h3 := blockW_ge (addW p 6 []) cmds i
  show _ ≤ ((blockW (addW p 6 []) cmds i).code.take (p.code.length + 1) ++ (Cp.beB _ 2 ++ (blockW (addW p 6 []) cmds i).code.drop (p.code.length + 1 + 2))).length
  rw [over_len _ _ _ (beB_len _ _ (Nat.le_refl 2)) (by omega)]
  omega
/-- What all stays within. -/
structure WAt (ss : List Stp) (i : Nat) : Prop where
  strs : (writeAt ss i).1.strs.length ≤ 2001 * i
  code : (writeAt ss i).1.code.length ≤ 30000 * i
  sz : (strsW (writeAt ss i).1.strs).length ≤ szs (ss.take i)
  pos : 0 < i → 0 < (writeAt ss i).1.code.length
  flags : (writeAt ss i).2.length ≤ i
  lt : ∀ x ∈ (writeAt ss i).2, x.2 < i
theorem wAt (ss : List Stp) (hn : ∀ x ∈ ss, x.needs.length ≤ 1000 ∧ x.cmds.length ≤ 1000) : ∀ i, i ≤ ss.length → WAt ss i
  | 0, _ => ⟨Nat.le_refl _, Nat.le_refl _, Nat.le_refl _, fun e => by omega, Nat.le_refl _, fun x hx => by cases hx⟩
  | i + 1, hi => by
    have ih := wAt ss hn i (by omega)
    have hl : i < ss.length := by omega
    obtain ⟨n1, n2⟩ := hn ss[i] (List.getElem_mem hl)
    have e := writeAt_next ss i hl
    have a1 := staleW_len (flPut (writeAt ss i).2 ss[i].name i) (writeAt ss i).1 ss[i].ph ss[i].name ss[i].needs
    have a2 := skipW_len (staleW (flPut (writeAt ss i).2 ss[i].name i) (writeAt ss i).1 ss[i].ph ss[i].name ss[i].needs) ss[i].cmds i
    have a3 := staleW_sz (flPut (writeAt ss i).2 ss[i].name i) (writeAt ss i).1 ss[i].ph ss[i].name ss[i].needs
    have a4 := skipW_sz (staleW (flPut (writeAt ss i).2 ss[i].name i) (writeAt ss i).1 ss[i].ph ss[i].name ss[i].needs) ss[i].cmds i
    have a5 := skipW_ge (staleW (flPut (writeAt ss i).2 ss[i].name i) (writeAt ss i).1 ss[i].ph ss[i].name ss[i].needs) ss[i].cmds i
    have a6 := flPut_len ss[i].name i (writeAt ss i).2
    have b1 := ih.strs
    have b2 := ih.code
    have b3 := ih.sz
    have b5 := ih.flags
    have hz : szs (ss.take (i + 1)) = szs (ss.take i) + ss[i].sz := by
      unfold szs
      rw [List.take_succ_eq_append_getElem hl, List.map_append, List.sum_append]
      simp
    refine ⟨?_, ?_, ?_, ?_, ?_, ?_⟩
    · rw [e]; dsimp only; omega
    · rw [e]; dsimp only; omega
    · rw [e, hz]; unfold Stp.sz; dsimp only; omega
    · rw [e]; dsimp only; omega
    · rw [e]; dsimp only; omega
    · rw [e]
      exact flPut_mem _ i (i + 1) (by omega) _ (fun x hx => by have := ih.lt x hx; omega)
theorem szs_take (ss : List Stp) (i : Nat) : szs (ss.take i) ≤ szs ss := by
  unfold szs
  rw [List.map_take]
  conv => rhs; rw [← List.take_append_drop i (ss.map Stp.sz)]
  rw [List.sum_append]
  omega
/-- Cells from a place on. -/
def Row6 (W : World) (b o : Nat) (cs : List Value) : Prop := ∀ (j : Nat) (u : Value), cs[j]? = some u → W.cell? ⟨b, o + j, none⟩ = some u
/-- The steps in memory. -/
def StR (W : World) (L b o : Nat) (x : Stp) : Prop := ∃ (an ac am : Option Addr) (cn cc nb no cb co nm cm : Nat),
  Row6 W b o [strV x.name, .bool x.ph, .slice an x.needs.length cn, .slice am nm cm, strV x.stem, .slice ac x.cmds.length cc] ∧ (0 < x.needs.length → an = some ⟨nb, no, none⟩ ∧ nb < L ∧ RdN W nb no x.needs) ∧ (0 < x.cmds.length → ac = some ⟨cb, co, none⟩ ∧ cb < L ∧ RdN W cb co x.cmds)
end Go.Proofs.YtjelacjggijmfaaGreatDoor
