/-
  What a goal wants: the walk, to its end.
  What a goal wants: the walk goes on.
  What a goal wants: a node is left: the walk.
-/
import Derived.Test.YtjelacjggijmfaaGreatDoorVGE8
import Derived.Deep.LoopGhost
namespace Go.Proofs.YtjelacjggijmfaaGreatDoor
open Go.RowKit Go.MapKept Go.ChangeMaps Go.Maps

section
variable {W X Y : World} {L wk st : Nat} {c : Ad} {rb : Nat → Nat} {s : St} {vp : Value} {l : Ents} {bf bi : Nat} {ve : Value} {ef : List Pl.Eff} {fs : List Pl.File} {clock : Int} {us : List (Nat × List Pl.Bs)} {v2 vo vv : Value} {sts : Flags} {qo qv : List Vq} {t : Wst}
theorem vq_at (qs : List Vq) (q : Vq) (i : Nat) (u : Value) (h : (vqC q)[i]? = some u) : ((qs ++ [q]).flatMap vqC)[qs.length * 6 + i]? = some u := by
  rw [List.flatMap_append, List.getElem?_append_right (by rw [vq_len]; omega), vq_len, Nat.add_sub_cancel_left]
  simpa using h
set_option maxHeartbeats 4000000 in
set_option maxRecDepth 100000 in
theorem leave_any (q : Vq) (hM : GoM W L wk st c rb s vp l bf bi ve ef fs clock us v2 vo vv sts (qo ++ [q]) qv) (hl : sts.length ≤ 4294967296) (hn : qo.length ≤ 4294967296) :
    Calls Tryz.prog 190 #[.pointer (some ⟨wk, 0, none⟩)] W fun e W' => e = .returned (.tuple #[]) ∧ (∃ vo' vv', GoM W' L wk st c rb s vp l bf bi ve ef fs clock us v2 vo' vv' (flPut sts q.nd.name 2) qo (if qv.length ≤ 100 then qv ++ [q] else qv)) ∧ Below L W W' := by
  obtain ⟨i0, hi0, hz0, hz1, hz2⟩ := info_parts Tryz.infoNode
  have hop := hM.opn
  rw [List.length_append, List.length_cons, List.length_nil, Nat.zero_add] at hop
  rcases hop.2 with ⟨-, e⟩ | ⟨g, cap, cur, rfl, e2, e3, e4, -⟩
  · omega
  have hqv := hM.opv q (by simp)
  obtain ⟨an, cn, hvn⟩ := hqv.1.sh
  obtain ⟨am, cm, hvc⟩ := hqv.2.sh
  have HVQ := hide hqv
  obtain ⟨nd, lk, vn, vc⟩ := q
  simp only at hvn hvc
  subst hvn hvc
  have a0 := own_cell2 hop (qo.length * 6 + 0) _ (vq_at qo _ 0 _ rfl)
  have a1 := own_cell2 hop (qo.length * 6 + 1) _ (vq_at qo _ 1 _ rfl)
  have a2 := own_cell2 hop (qo.length * 6 + 2) _ (vq_at qo _ 2 _ rfl)
  have a3 := own_cell2 hop (qo.length * 6 + 3) _ (vq_at qo _ 3 _ rfl)
  have a4 := own_cell2 hop (qo.length * 6 + 4) _ (vq_at qo _ 4 _ rfl)
  rw [Nat.add_zero] at a0
  unfold strV at a0 a4
  simp only at a0 a1 a2 a3 a4
  have d4 := hM.wkm.row.cell? (i := 4) rfl
  have f4 := hM.wkm.row.frozen 4
  have lwk := hM.wkm.row.lt
  have lg := (Array.getElem?_eq_some_iff.1 e3).1
  obtain ⟨m1, f1⟩ := hM.toCut
  have hz : (W.setCell ⟨wk, 4, none⟩ (.slice (some ⟨g, 0, none⟩) qo.length cap)).heap.size = W.heap.size := by simp [World.setCell]
  have b1 := (Below.refl (W.setCell ⟨wk, 4, none⟩ (.slice (some ⟨g, 0, none⟩) qo.length cap)).heap.size (W.setCell ⟨wk, 4, none⟩ (.slice (some ⟨g, 0, none⟩) qo.length cap))).alloc (Nat.le_refl _) (.cells #[.string ⟨nd.name.toArray⟩, .bool nd.ph, .slice an nd.needs.length cn, .slice am nd.cmds.length cm, .string ⟨nd.stem.toArray⟩] 197)
  have rB := Row.new (W.setCell ⟨wk, 4, none⟩ (.slice (some ⟨g, 0, none⟩) qo.length cap)) 197 [.string ⟨nd.name.toArray⟩, .bool nd.ph, .slice an nd.needs.length cn, .slice am nd.cmds.length cm, .string ⟨nd.stem.toArray⟩]
  rw [hz] at rB
  have HM2 := hide (m1.later b1)
  have HRB2 := hide rB
  have HB2 := hide ((hM.below f1).trans (b1.mono m1.lW))
  have HV2 := hide (((unhide HVQ).bl (hM.bl f1)).bl (Bl.below b1))
  have hne1 : g ≠ wk := fun e => by
    have q1 := hM.wkm.row
    unfold Row at q1
    rw [← e, e3] at q1
    cases q1
  have hq1 : (qo ++ [(⟨nd, lk, .slice an nd.needs.length cn, .slice am nd.cmds.length cm⟩ : Vq)]).length = qo.length + 1 := by simp
  clear hM hop hqv e3 m1 f1 rB b1 e2 hq1 hz
  have s0 : (0 : Int) ≤ (qo.length : Int) := by omega
  go_enter Tryz.func190, Tryz.ntmps190
  go_upto_region 3 with fail
  generalize (W.setCell ⟨wk, 4, none⟩ (.slice (some ⟨g, 0, none⟩) qo.length cap)).alloc (.cells #[.string ⟨nd.name.toArray⟩, .bool nd.ph, .slice an nd.needs.length cn, .slice am nd.cmds.length cm, .string ⟨nd.stem.toArray⟩] 197) = Z at *
  clear a0 a1 a2 a3 a4 d4 f4
  have bd : Below Z.heap.size Z Z.drew := (Below.refl _ Z).drew
  obtain ⟨w3, hrun, m3, f3, ht3⟩ := stPut ((unhide HM2).later bd) hl nd.name
  have r3 := (unhide HM2).wkm.row.cell? (i := 3) rfl
  have n0 := (unhide HRB2).cell? (i := 0) rfl
  have HM3 := hide m3
  have HB3 := hide (((unhide HB2).trans (bd.mono (unhide HM2).lW)).trans (((unhide HM2).later bd).below f3))
  have HV3 := hide (((unhide HV2).bl (Bl.below bd)).bl (((unhide HM2).later bd).bl f3))
  have HRB3 : Hid (Row w3 W.heap.size 197 [.string ⟨nd.name.toArray⟩, .bool nd.ph, .slice an nd.needs.length cn, .slice am nd.cmds.length cm, .string ⟨nd.stem.toArray⟩]) := ((unhide HRB2).later bd).tn (map_tn (p := fun q => q = st) ht3 rfl) (row_ne_map' ((unhide HRB2).later bd) ((unhide HM2).later bd).mp)
  clear m3 f3 ht3 bd
  obtain ⟨av, cv, hvv⟩ := own_sh (unhide HM3).ovr
  subst hvv
  have r5 := (unhide HM3).wkm.row.cell? (i := 5) rfl
  by_cases hv100 : qv.length ≤ 100
  · have u1 : (qv.length : Int) ≤ 100 := by omega
    have HV100 := hide hv100
    have bY : Below w3.heap.size w3 (w3.drew.alloc (.cells #[.string ⟨nd.name.toArray⟩, .bool nd.ph, .slice an nd.needs.length cn, .slice am nd.cmds.length cm, .string ⟨nd.stem.toArray⟩] 197)) := ((Below.refl w3.heap.size w3).drew).alloc (Nat.le_refl _) _
    have HMY := hide ((unhide HM3).later bY)
    have HVY := hide ((unhide HV3).bl (Bl.below bY))
    have HRX := hide (Row.new w3.drew 197 [.string ⟨nd.name.toArray⟩, .bool nd.ph, .slice an nd.needs.length cn, .slice am nd.cmds.length cm, .string ⟨nd.stem.toArray⟩])
    have p0 := (unhide HRB3).cell? (i := 0) rfl
    have p1 := (unhide HRB3).cell? (i := 1) rfl
    have p2 := (unhide HRB3).cell? (i := 2) rfl
    have p3 := (unhide HRB3).cell? (i := 3) rfl
    have p4 := (unhide HRB3).cell? (i := 4) rfl
    have lb3 := (unhide HRB3).lt
    have lk3 := (unhide HM3).wkm.row.lt
    have hLY := (unhide HMY).lW
    have HBY := hide (bY.mono (unhide HM3).lW)
    clear bY
    go_region
    all_goals go_wp2_with fail
    all_goals go_region_law (first
      | (refine step_append_fresh rfl (.tmp 43) (.tmp 45) 130 rfl L 197 i0 _ 5 88 Tryz.underlying130 hi0 hz0 hz1 hz2 rfl (by decide) _ qv.length (qv.flatMap vnC) (by rfl) (unhide HMY).ovr ⟨w3.heap.size, 0, none⟩ 1 1 [.string ⟨nd.name.toArray⟩, .bool nd.ph, .slice an nd.needs.length cn, .slice am nd.cmds.length cm, .string ⟨nd.stem.toArray⟩] (by rfl) (by rfl) (fun j u hj => by rw [addr_add0]; exact (unhide HRX).cell? hj) (nod_ones ⟨nd, lk, .slice an nd.needs.length cn, .slice am nd.cmds.length cm⟩ rfl rfl) (by unfold maxLen; omega) (by omega) hLY ?_; intro v6 w6 hown6 hgrow6 _; obtain ⟨a6, c6, rfl⟩ := own_sh hown6; obtain ⟨x1, m6, f6⟩ := (unhide HMY).toOver (q := ⟨nd, lk, .slice an nd.needs.length cn, .slice am nd.cmds.length cm⟩) (unhide HVY) hown6 hgrow6; have y5 := x1.cell? (i := 5) rfl; have z5 := x1.frozen 5; have HM6 := hide m6; have HF6 := hide f6; clear m6 f6 hown6 hgrow6 x1)
      | fail)
    all_goals go_wp2_with fail
    all_goals go_end0
    all_goals exact ⟨rfl, ⟨_, _, by first | exact unhide HM6 | (rw [if_pos (unhide HV100)]; exact unhide HM6)⟩, ((unhide HB3).trans (unhide HBY)).trans ((unhide HMY).below (unhide HF6))⟩
  · have u1 : ¬ (qv.length : Int) ≤ 100 := by omega
    have HV100 := hide hv100
    go_region
    all_goals go_wp2_with fail
    all_goals go_end0
    all_goals exact ⟨rfl, ⟨_, _, by first | exact unhide HM3 | (rw [if_neg (unhide HV100)]; exact unhide HM3)⟩, unhide HB3⟩
end
end Go.Proofs.YtjelacjggijmfaaGreatDoor
namespace Go.Proofs.YtjelacjggijmfaaGreatDoor
open Go.RowKit Go.MapKept Go.ChangeMaps Go.Maps

def goOnF (s : St) (fs : List Pl.File) (us : List (Nat × List Pl.Bs)) (t : Wst) : Nat × Wst := match t.opn.getLast? with
  | none => (0, t)
  | some x => if x.2 = x.1.needs.length then (0, leaveF t) else enterF s fs us { t with opn := t.opn.dropLast ++ [(x.1, x.2 + 1)] } (x.1.needs.getD x.2 [])
theorem own_frozen {W : World} {B e size n g cap : Nat} {xs : List Value} (h : W.ownsRow B e size (.slice (some ⟨g, 0, none⟩) n cap) n xs) (j : Nat) : W.frozen? ⟨g, j, none⟩ = false := by
  rcases h.2 with ⟨h1, -⟩ | ⟨g', cap', cur, h1, h2, h3, -⟩
  · cases h1
  · cases h1
    simp [World.frozen?, h3]
section
variable {W X Y : World} {L wk st : Nat} {c : Ad} {rb : Nat → Nat} {s : St} {vp : Value} {l : Ents} {bf bi : Nat} {ve : Value} {ef : List Pl.Eff} {fs : List Pl.File} {clock : Int} {us : List (Nat × List Pl.Bs)} {v2 vo vv : Value} {sts : Flags} {qo qv : List Vq} {t : Wst}
/-- One need more was looked at. -/
theorem GoM.toLook {g cap : Nat} {q : Vq} (h : GoM W L wk st c rb s vp l bf bi ve ef fs clock us v2 (.slice (some ⟨g, 0, none⟩) (qo.length + 1) cap) vv sts (qo ++ [q]) qv) :
    GoM (W.setCell ⟨g, qo.length * 6 + 5, none⟩ (.int .i64 ((q.lk : Int) + 1))) L wk st c rb s vp l bf bi ve ef fs clock us v2 (.slice (some ⟨g, 0, none⟩) (qo.length + 1) cap) vv sts (qo ++ [{ q with lk := q.lk + 1 }]) qv ∧ Tn (GoP wk st (.slice (some ⟨g, 0, none⟩) (qo.length + 1) cap) vv) W (W.setCell ⟨g, qo.length * 6 + 5, none⟩ (.int .i64 ((q.lk : Int) + 1))) := by
  have ht : Tn (GoP wk st (.slice (some ⟨g, 0, none⟩) (qo.length + 1) cap) vv) W (W.setCell ⟨g, qo.length * 6 + 5, none⟩ (.int .i64 ((q.lk : Int) + 1))) := Tn.set W ⟨g, qo.length * 6 + 5, none⟩ _ (.inr (.inr (.inl rfl)))
  have hbl := h.bl ht
  have hop := h.opn
  rw [List.length_append, List.length_cons, List.length_nil, Nat.zero_add] at hop
  have hset := owns_set hop (qo.length * 6 + 5) (.int .i64 ((q.lk : Int) + 1))
  have hl : ((qo ++ [q]).flatMap vqC).set (qo.length * 6 + 5) (.int .i64 ((q.lk : Int) + 1)) = (qo ++ [{ q with lk := q.lk + 1 }]).flatMap vqC := by
    rw [List.flatMap_append, List.flatMap_append, List.set_append_right _ _ (by rw [vq_len]; omega), vq_len, Nat.add_sub_cancel_left]
    rfl
  rw [hl] at hset
  have hrow : g ≠ wk := fun e => row_ne_own h.wkm.row hop (by decide) (by rw [← e]; rfl)
  have hgs : st ≠ g := fun e => by
    obtain ⟨cur, fz, q1⟩ := own_type hop g rfl
    obtain ⟨es, clk, h1, -⟩ := h.mp
    rw [← e, h1] at q1; cases q1
  have hgv : some g ≠ vv.ownBlock := fun e => by
    obtain ⟨c1, f1, q1⟩ := own_type h.ovr g e.symm
    obtain ⟨c2, f2, q2⟩ := own_type hop g rfl
    rw [q1] at q2; cases q2
  refine ⟨h.next ht (h.wkm.row.other (Ne.symm hrow) _ _) (h.mp.setCell hgs _) (by rw [List.length_append]; exact hset) (fun q' hq' => ?_) (owns_other h.ovr hgv _ _) (fun q' hq' => (h.ovv q' hq').bl hbl), ht⟩
  rcases List.mem_append.1 hq' with e | e
  · exact (h.opv q' (List.mem_append_left _ e)).bl hbl
  · rw [List.mem_singleton] at e
    subst e
    exact (h.opv q (by simp)).bl hbl
set_option maxHeartbeats 4000000 in
set_option maxRecDepth 100000 in
theorem goOn_any (k : Nat) (h : GoS W L wk st c rb s vp l bf bi ve ef fs clock us v2 t) (hx : ∀ x ∈ us, x.1 < s.rules.length ∧ (rlOf s x.1).tg ≠ [] ∧ (∀ y ∈ (rlOf s x.1).tg, y.length ≤ 2000) ∧ x.2.length ≤ 2000 ∧ ∀ n ∈ x.2, n.length ≤ 2000) (hn : us.length ≤ 1073741824) (hok : Ok s k) (hst : t.sts.length ≤ 4294967296) (hop : t.opn.length ≤ 4294967296)
    (x : Nod × Nat) (hlast : t.opn.getLast? = some x) (hlk : x.2 ≤ x.1.needs.length) (hnl : x.1.needs.length ≤ 4294967296) (hnw : ∀ y ∈ x.1.needs, y.length ≤ 1073741824) :
    Calls Tryz.prog 143 #[.pointer (some ⟨wk, 0, none⟩)] W fun e W' => e = .returned (.int .i64 ((goOnF s fs us t).1 : Int)) ∧ GoS W' L wk st c rb s vp l bf bi ve ef fs clock us v2 (goOnF s fs us t).2 ∧ Below L W W' := by
  obtain ⟨vo, vv, qa, qv, hM, ho, hv⟩ := h
  obtain ⟨qo, q, rfl⟩ : ∃ qo q, qa = qo ++ [q] := by
    rcases List.eq_nil_or_concat qa with e | ⟨a, b, e⟩
    · rw [e] at ho; rw [← ho] at hlast; cases hlast
    · exact ⟨a, b, by rw [e, List.concat_eq_append]⟩
  rw [List.map_append] at ho
  simp only [List.map_cons, List.map_nil] at ho
  have hx2 : x = (q.nd, q.lk) := by rw [← ho] at hlast; simpa using hlast.symm
  have hdl : t.opn.dropLast = qo.map fun q => (q.nd, q.lk) := by rw [← ho]; simp
  have hlen : qo.length + 1 = t.opn.length := by rw [← ho]; simp
  subst hx2
  simp only at hlk hnl hnw
  have hG : goOnF s fs us t = if q.lk = q.nd.needs.length then (0, leaveF t) else enterF s fs us { t with opn := t.opn.dropLast ++ [(q.nd, q.lk + 1)] } (q.nd.needs.getD q.lk []) := by unfold goOnF; rw [hlast]
  have hLv : leaveF t = ⟨flPut t.sts q.nd.name 2, t.opn.dropLast, if t.over.length ≤ 100 then t.over ++ [q.nd] else t.over⟩ := by unfold leaveF; rw [hlast]
  have hopn := hM.opn
  rw [List.length_append, List.length_cons, List.length_nil, Nat.zero_add] at hopn
  rcases hopn.2 with ⟨-, e⟩ | ⟨g, cap, cur, rfl, e2, e3, e4, -⟩
  · omega
  have hqv := hM.opv q (by simp)
  have a5 := own_cell2 hopn (qo.length * 6 + 5) _ (vq_at qo q 5 _ rfl)
  have a2 := own_cell2 hopn (qo.length * 6 + 2) _ (vq_at qo q 2 _ rfl)
  obtain ⟨an, cn, hvn⟩ := hqv.1.sh
  rw [hvn] at a2
  have d4 := hM.wkm.row.cell? (i := 4) rfl
  have s0 : (0 : Int) ≤ (qo.length : Int) := by omega
  have hlq : qo.length ≤ 4294967296 := by omega
  have hlq1 : qo.length + 1 ≤ 4294967296 := by omega
  have HM := hide hM
  have HV := hide hv
  have HDL := hide hdl
  by_cases hq : q.lk = q.nd.needs.length
  · have u1 : ((q.lk : Int) == (q.nd.needs.length : Int)) = true := by rw [beq_iff_eq]; omega
    have CL : Hid (∀ w, Below W.heap.size W w → Calls Tryz.prog 190 #[.pointer (some ⟨wk, 0, none⟩)] w fun e W' => e = .returned (.tuple #[]) ∧ GoS W' L wk st c rb s vp l bf bi ve ef fs clock us v2 (leaveF t) ∧ Below L W W') := fun w hw => by
      refine (leave_any q (hM.later hw) hst hlq).mono ?_
      rintro e w' ⟨rfl, ⟨vo', vv', m'⟩, b'⟩
      refine ⟨rfl, ⟨vo', vv', qo, _, by rw [hLv]; exact m', by rw [hLv]; exact hdl.symm, ?_⟩, (hw.mono hM.lW).trans b'⟩
      rw [hLv, ← hv]
      simp only [List.length_map]
      split <;> simp
    rw [hG, if_pos hq]
    have HQ := hide hq
    clear hM hv hopn hqv e3 ho hdl hG hLv hlast hq hlen
    go_enter Tryz.func143, Tryz.ntmps143
    go_wp2_with fail
    go_region
    all_goals go_wp2_with fail
    all_goals go_region
    all_goals go_wp2_with (first
      | (go_at_call 190; refine (unhide CL _ (Below.refl _ W).drew.drew).mono ?_; clear CL; rintro e w1 ⟨rfl, m1, hb1⟩; have HM1 := hide m1; have HB1 := hide hb1; clear m1 hb1)
      | fail)
    all_goals go_ret
    all_goals exact ⟨rfl, unhide HM1, unhide HB1⟩
  · have u1 : ((q.lk : Int) == (q.nd.needs.length : Int)) = false := by rw [beq_eq_false_iff_ne]; omega
    have hql : q.lk < q.nd.needs.length := by omega
    obtain ⟨mL, fL⟩ := hM.toLook
    have hfz := own_frozen hopn (qo.length * 6 + 5)
    rw [hG, if_neg hq]
    have HML := hide mL
    have HFL := hide fL
    have HVN := hide hvn
    clear hG hLv hlast hq hM hv hopn hqv e3 ho hdl hlen mL fL hvn
    have hgd : q.nd.needs.getD q.lk [] = q.nd.needs[q.lk] := by simp [hql]
    rw [hgd]
    obtain ⟨ZL, hZL⟩ : ∃ ZL, ZL = W.setCell ⟨g, qo.length * 6 + 5, none⟩ (.int .i64 ((q.lk : Int) + 1)) := ⟨_, rfl⟩
    rw [← hZL] at HML HFL
    have HZL := hide hZL
    clear hZL
    have hbd : Below ZL.heap.size ZL ZL.drew.drew.drew := (Below.refl _ ZL).drew.drew.drew
    have CE := hide (enter_any (t := { t with opn := t.opn.dropLast ++ [(q.nd, q.lk + 1)] }) q.nd.needs[q.lk] k ⟨_, vv, _, qv, (unhide HML).later hbd, by rw [List.map_append, unhide HDL]; rfl, unhide HV⟩ hx hn hok (hnw _ (List.getElem_mem hql)) hst (by simp only; rw [unhide HDL, List.length_append, List.length_map, List.length_cons, List.length_nil]; omega))
    have hoL := (unhide HML).opn
    rw [List.length_append, List.length_cons, List.length_nil, Nat.zero_add] at hoL
    have e5 := own_cell2 hoL (qo.length * 6 + 5) _ (vq_at qo _ 5 _ rfl)
    have e2' := own_cell2 hoL (qo.length * 6 + 2) _ (vq_at qo _ 2 _ rfl)
    have hqL := ((unhide HML).opv { q with lk := q.lk + 1 } (by simp)).1
    simp only at e5 e2' hqL
    rw [unhide HVN] at e2' hqL
    obtain ⟨nb, no, hrd⟩ := hqL.rd
    obtain ⟨rfl, hnb, hrn⟩ := hrd (by omega)
    have eS := hrn q.lk q.nd.needs[q.lk] (List.getElem?_eq_getElem hql)
    unfold strV at eS
    have hcast : ((q.lk + 1 : Nat) : Int) = (q.lk : Int) + 1 := by omega
    rw [hcast] at e5
    have t1 : (q.lk : Int) < (q.nd.needs.length : Int) := by omega
    have t0 : (0 : Int) ≤ (q.lk : Int) := by omega
    have hwr : IntKind.i64.wrap (q.lk : Int) = (q.lk : Int) := wrap_small t0 (by omega)
    have HBL := hide (((unhide HM).below (unhide HFL)).trans (hbd.mono (unhide HML).lW))
    clear hgd hoL hqL hrd hrn hbd hcast
    generalize q.nd.needs[q.lk] = nme at *
    go_enter Tryz.func143, Tryz.ntmps143
    go_wp2_with fail
    go_region
    all_goals go_wp2_with fail
    all_goals go_region
    all_goals go_wp2_with fail
    all_goals rw [← unhide HZL]
    all_goals clear HZL
    all_goals clear a5 a2 d4 hfz
    all_goals go_region_law (first
      | (go_simp; go_at_call 142; refine (unhide CE).mono ?_; rintro e w1 ⟨rfl, m1, hb1⟩; have HM1 := hide m1; have HB1 := hide ((unhide HBL).trans hb1); clear m1 hb1)
      | fail)
    all_goals go_wp2_with fail
    all_goals go_ret
    all_goals exact ⟨rfl, unhide HM1, unhide HB1⟩
end
end Go.Proofs.YtjelacjggijmfaaGreatDoor
namespace Go.Proofs.YtjelacjggijmfaaGreatDoor
open Go.RowKit Go.MapKept Go.ChangeMaps Go.Maps

def fromF (s : St) (fs : List Pl.File) (us : List (Nat × List Pl.Bs)) : Nat → Nat × Wst → Option (Nat × Wst)
  | 0, p => if p.1 ≠ 0 ∨ p.2.opn = [] then some p else none
  | n + 1, p => if p.1 ≠ 0 ∨ p.2.opn = [] then some p else fromF s fs us n (goOnF s fs us p.2)
/-- Where the walk ends. -/
def FromR (s : St) (fs : List Pl.File) (us : List (Nat × List Pl.Bs)) (p r : Nat × Wst) : Prop := ∃ n, fromF s fs us n p = some r
theorem FromR.stop {s : St} {fs : List Pl.File} {us : List (Nat × List Pl.Bs)} {p : Nat × Wst} (h : p.1 ≠ 0 ∨ p.2.opn = []) : FromR s fs us p p := ⟨0, by rw [fromF, if_pos h]⟩
theorem FromR.step {s : St} {fs : List Pl.File} {us : List (Nat × List Pl.Bs)} {p r : Nat × Wst} (h : ¬ (p.1 ≠ 0 ∨ p.2.opn = [])) (hr : FromR s fs us (goOnF s fs us p.2) r) : FromR s fs us p r := by
  obtain ⟨n, hn⟩ := hr
  exact ⟨n + 1, by rw [fromF, if_neg h]; exact hn⟩
/-- What makes the walk end. -/
structure FromOk (s : St) (fs : List Pl.File) (us : List (Nat × List Pl.Bs)) (I : Wst → Prop) (m : Wst → Nat) : Prop where
  step : ∀ t x, I t → t.opn.getLast? = some x → (goOnF s fs us t).1 = 0 → I (goOnF s fs us t).2 ∧ m (goOnF s fs us t).2 < m t
  lk : ∀ t x, I t → t.opn.getLast? = some x → x.2 ≤ x.1.needs.length ∧ x.1.needs.length ≤ 4294967296 ∧ ∀ y ∈ x.1.needs, y.length ≤ 1073741824
  sz : ∀ t, I t → t.sts.length ≤ 4294967296 ∧ t.opn.length ≤ 4294967296
section
variable {W X Y : World} {L wk st : Nat} {c : Ad} {rb : Nat → Nat} {s : St} {vp : Value} {l : Ents} {bf bi : Nat} {ve : Value} {ef : List Pl.Eff} {fs : List Pl.File} {clock : Int} {us : List (Nat × List Pl.Bs)} {v2 vo vv : Value} {t : Wst}
structure FrI (W : World) (L wk st : Nat) (c : Ad) (rb : Nat → Nat) (s : St) (vp : Value) (l : Ents) (bf bi : Nat) (ve : Value) (ef : List Pl.Eff) (fs : List Pl.File) (clock : Int) (us : List (Nat × List Pl.Bs)) (v2 : Value) (I : Wst → Prop) (m : Wst → Nat) (p0 p : Nat × Wst) (gk : Nat) (X : World) : Prop where
  mem : GoS X L wk st c rb s vp l bf bi ve ef fs clock us v2 p.2
  below : Below L W X
  inv : p.1 = 0 → I p.2 ∧ m p.2 < gk
  res : ∀ r, FromR s fs us p r → FromR s fs us p0 r
set_option maxHeartbeats 4000000 in
set_option maxRecDepth 100000 in
theorem from_any (goal : Pl.Bs) (k : Nat) (I : Wst → Prop) (m : Wst → Nat) (hF : FromOk s fs us I m) (h : GoS W L wk st c rb s vp l bf bi ve ef fs clock us v2 t) (h0 : (enterF s fs us t goal).1 = 0 → I (enterF s fs us t goal).2) (hx : ∀ x ∈ us, x.1 < s.rules.length ∧ (rlOf s x.1).tg ≠ [] ∧ (∀ y ∈ (rlOf s x.1).tg, y.length ≤ 2000) ∧ x.2.length ≤ 2000 ∧ ∀ n ∈ x.2, n.length ≤ 2000) (hn : us.length ≤ 1073741824) (hok : Ok s k) (hg : goal.length ≤ 1073741824) (hst : t.sts.length ≤ 4294967296) (hop : t.opn.length ≤ 4294967296) :
    Calls Tryz.prog 92 #[.pointer (some ⟨wk, 0, none⟩), .string ⟨goal.toArray⟩] W fun e W' => ∃ r, FromR s fs us (enterF s fs us t goal) r ∧ e = .returned (.int .i64 (r.1 : Int)) ∧ GoS W' L wk st c rb s vp l bf bi ve ef fs clock us v2 r.2 ∧ Below L W W' := by
  have CE := hide (enter_any goal k h hx hn hok hg hst hop)
  have HF := hide hF
  have HG : Hid (∀ w tt x, GoS w L wk st c rb s vp l bf bi ve ef fs clock us v2 tt → I tt → tt.opn.getLast? = some x → Calls Tryz.prog 143 #[.pointer (some ⟨wk, 0, none⟩)] w fun e W' => e = .returned (.int .i64 ((goOnF s fs us tt).1 : Int)) ∧ GoS W' L wk st c rb s vp l bf bi ve ef fs clock us v2 (goOnF s fs us tt).2 ∧ Below L w W') := fun w tt x hw hI hl => goOn_any k hw hx hn hok (hF.sz tt hI).1 (hF.sz tt hI).2 x hl (hF.lk tt x hI hl).1 (hF.lk tt x hI hl).2.1 (hF.lk tt x hI hl).2.2
  have H0 := hide h0
  clear h hF h0
  generalize enterF s fs us t goal = p0 at *
  go_enter Tryz.func92, Tryz.ntmps92
  go_wp2_with (first
    | (go_at_call 142; refine (unhide CE).mono ?_; clear CE; rintro e w1 ⟨rfl, m1, hb1⟩; have HI0 : Hid (FrI W L wk st c rb s vp l bf bi ve ef fs clock us v2 I m p0 p0 (m p0.2 + 1) w1) := ⟨m1, hb1, fun e => ⟨unhide H0 e, Nat.lt_succ_self _⟩, fun r hr => hr⟩; clear m1 hb1)
    | fail)
  go_loopg [5] (m p0.2 + 1) (fun gk ev wr => ∃ p : Nat × Wst, ev = .int .i64 (p.1 : Int) ∧ Hid (FrI W L wk st c rb s vp l bf bi ve ef fs clock us v2 I m p0 p gk wr))
  case atStart => exact ⟨p0, rfl, HI0⟩
  case round =>
    clear HI0
    obtain ⟨p, rfl, HI⟩ := hrel
    obtain ⟨pe, pt⟩ := p
    simp only at HI ⊢
    obtain ⟨vo, vv, qo, qv, hM, ho, hv⟩ := (unhide HI).mem
    obtain ⟨av, cv, rfl⟩ := own_sh hM.opn
    have d4 := hM.wkm.row.cell? (i := 4) rfl
    have hlen : qo.length = pt.opn.length := by rw [← ho, List.length_map]
    clear hM ho hv
    by_cases he : pe = 0
    · have u1 : ((pe : Int) == 0) = true := by rw [beq_iff_eq]; omega
      by_cases hz : 0 < qo.length
      · have u2 : (0 : Int) < (qo.length : Int) := by omega
        have hne : ¬ ((pe, pt).1 ≠ 0 ∨ (pe, pt).2.opn = []) := fun q => by
          rcases q with q | q
          · exact q he
          · simp only at q; rw [q, List.length_nil] at hlen; omega
        obtain ⟨hI, hm⟩ := (unhide HI).inv he
        simp only at hI hm
        cases hl : pt.opn.getLast? with
        | none =>
          rw [List.getLast?_eq_none_iff] at hl
          rw [hl, List.length_nil] at hlen; omega
        | some x =>
          have CG := hide (unhide HG wr pt x (unhide HI).mem hI hl)
          have HN : Hid (∀ w2, GoS w2 L wk st c rb s vp l bf bi ve ef fs clock us v2 (goOnF s fs us pt).2 → Below L wr w2 → FrI W L wk st c rb s vp l bf bi ve ef fs clock us v2 I m p0 (goOnF s fs us pt) (m pt) w2) := fun w2 m2 b2 => ⟨m2, (unhide HI).below.trans b2, fun e => (unhide HF).step pt x hI hl e, fun r hr => (unhide HI).res r (FromR.step hne hr)⟩
          clear hlen he hne hl HI
          generalize goOnF s fs us pt = g2 at *
          go_wp2_with (first
            | (go_at_call 143; refine (unhide CG).mono ?_; clear CG; rintro e w2 ⟨rfl, m2, hb2⟩; have HN2 := hide (unhide HN w2 m2 hb2); clear m2 hb2)
            | fail)
          go_roundg (m pt)
          case measure => exact hm
          case rel => exact ⟨g2, rfl, HN2⟩
      · have u2 : ¬ (0 : Int) < (qo.length : Int) := by omega
        have hst2 : (pe, pt).1 ≠ 0 ∨ (pe, pt).2.opn = [] := .inr (List.eq_nil_of_length_eq_zero (by simp only; omega))
        have HR := hide ((unhide HI).res _ (FromR.stop hst2))
        have HM := hide (unhide HI).mem
        have HB := hide (unhide HI).below
        clear hlen he hst2 HI
        go_wp2_with fail
        go_ret
        first | exact ⟨_, _, unhide HR, rfl, unhide HM, unhide HB⟩ | exact ⟨_, unhide HR, rfl, unhide HM, unhide HB⟩
    · have u1 : ((pe : Int) == 0) = false := by rw [beq_eq_false_iff_ne]; omega
      have HR := hide ((unhide HI).res _ (FromR.stop (.inl he)))
      have HM := hide (unhide HI).mem
      have HB := hide (unhide HI).below
      clear hlen he HI
      go_wp2_with fail
      go_ret
      first | exact ⟨_, _, unhide HR, rfl, unhide HM, unhide HB⟩ | exact ⟨_, unhide HR, rfl, unhide HM, unhide HB⟩
end
end Go.Proofs.YtjelacjggijmfaaGreatDoor
