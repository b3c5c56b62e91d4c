/-
  What a goal wants: a node is left.
  What a goal wants: a node is entered.
  What a goal wants: the walk's memory.
-/
import Derived.Test.YtjelacjggijmfaaGreatDoorVGE7
namespace Go.Proofs.YtjelacjggijmfaaGreatDoor
open Go.RowKit Go.MapKept Go.ChangeMaps Go.Maps

/-- A node that is visited: how many of its needs were looked at; the values that hold its needs and commands. -/
structure Vq where
  nd : Nod
  lk : Nat
  vn : Value
  vc : Value
def vnC (q : Vq) : List Value := [strV q.nd.name, .bool q.nd.ph, q.vn, q.vc, strV q.nd.stem]
def vqC (q : Vq) : List Value := [strV q.nd.name, .bool q.nd.ph, q.vn, q.vc, strV q.nd.stem, .int .i64 (q.lk : Int)]
def VqT (W : World) (q : Vq) : Prop := SlT W q.vn q.nd.needs ∧ CmT W q.vc q.nd.cmds
structure GoM (W : World) (L wk st : Nat) (c : Ad) (rb : Nat → Nat) (s : St) (vp : Value) (l : Ents) (bf bi : Nat) (ve : Value) (ef : List Pl.Eff) (fs : List Pl.File) (clock : Int) (us : List (Nat × List Pl.Bs)) (v2 vo vv : Value) (sts : Flags) (qo qv : List Vq) : Prop where
  wkm : WkM W wk c rb s vp l bf bi ve ef fs clock v2 (.map (some st)) vo vv
  pat : PaT W rb v2 us
  mp : SMap W st (flEnts sts)
  opn : W.ownsRow L 313 6 vo qo.length (qo.flatMap vqC)
  opv : ∀ q ∈ qo, VqT W q
  ovr : W.ownsRow L 197 5 vv qv.length (qv.flatMap vnC)
  ovv : ∀ q ∈ qv, VqT W q
  lw : L ≤ wk
  ls : L ≤ st
  lW : L ≤ W.heap.size
  low : c.nm < L ∧ c.bt < L ∧ c.pb < L ∧ c.bx < L ∧ bf < L ∧ bi < L ∧ 0 < L
section
variable {W X Y : World} {L wk st : Nat} {c : Ad} {rb : Nat → Nat} {s : St} {vp : Value} {l : Ents} {bf bi : Nat} {ve : Value} {ef : List Pl.Eff} {fs : List Pl.File} {clock : Int} {us : List (Nat × List Pl.Bs)} {v2 vo vv : Value} {sts : Flags} {qo qv : List Vq}
theorem VqT.bl {q : Vq} (h : VqT W q) (hb : Bl W X) : VqT X q := ⟨h.1.bl hb, h.2.bl hb⟩
/-- What may turn. -/
def GoP (wk st : Nat) (vo vv : Value) (k : Nat) : Prop := k = wk ∨ k = st ∨ some k = vo.ownBlock ∨ some k = vv.ownBlock
theorem GoM.type (h : GoM W L wk st c rb s vp l bf bi ve ef fs clock us v2 vo vv sts qo qv) {k : Nat} (hk : GoP wk st vo vv k) {cs : Array Value} {e : TypeId} {fz : Nat × Nat} (hc : W.heap[k]? = some (Obj.cells cs e fz)) : e = 193 ∨ e = 313 ∨ e = 197 := by
  rcases hk with hk | hk | hk | hk
  · have := h.wkm.row
    unfold Row at this
    rw [hk, this] at hc; cases hc; exact .inl rfl
  · obtain ⟨es, clk, h1, -⟩ := h.mp
    rw [hk, h1] at hc; cases hc
  · obtain ⟨cur, fz', h1⟩ := own_type h.opn k hk.symm
    rw [h1] at hc; cases hc; exact .inr (.inl rfl)
  · obtain ⟨cur, fz', h1⟩ := own_type h.ovr k hk.symm
    rw [h1] at hc; cases hc; exact .inr (.inr rfl)
theorem GoM.high (h : GoM W L wk st c rb s vp l bf bi ve ef fs clock us v2 vo vv sts qo qv) {k : Nat} (hk : GoP wk st vo vv k) : L ≤ k := by
  rcases hk with hk | hk | hk | hk
  · rw [hk]; exact h.lw
  · rw [hk]; exact h.ls
  · exact (h.opn.lt k hk.symm).1
  · exact (h.ovr.lt k hk.symm).1
theorem GoM.same (h : GoM W L wk st c rb s vp l bf bi ve ef fs clock us v2 vo vv sts qo qv) (ht : Tn (GoP wk st vo vv) W X) {k : Nat} {cs : Array Value} {e : TypeId} {fz : Nat × Nat} (hc : W.heap[k]? = some (Obj.cells cs e fz)) (h1 : e ≠ 193) (h2 : e ≠ 313) (h3 : e ≠ 197) : X.heap[k]? = W.heap[k]? :=
  ht.block k (Array.getElem?_eq_some_iff.1 hc).1 (fun q => by rcases h.type q hc with e | e | e; exact h1 e; exact h2 e; exact h3 e)
theorem GoM.bl (h : GoM W L wk st c rb s vp l bf bi ve ef fs clock us v2 vo vv sts qo qv) (ht : Tn (GoP wk st vo vv) W X) : Bl W X :=
  ⟨fun _ _ _ hc => h.same ht hc (by decide) (by decide) (by decide), fun _ _ _ hc => h.same ht hc (by decide) (by decide) (by decide), fun _ _ _ hc => h.same ht hc (by decide) (by decide) (by decide), fun _ _ _ hc => h.same ht hc (by decide) (by decide) (by decide), fun _ _ _ hc => h.same ht hc (by decide) (by decide) (by decide)⟩
theorem GoM.below (h : GoM W L wk st c rb s vp l bf bi ve ef fs clock us v2 vo vv sts qo qv) (ht : Tn (GoP wk st vo vv) W X) : Below L W X := ht.below h.lW (fun _ e => h.high e)
/-- The rest of the memory stands; what may have turned is handed in. -/
theorem GoM.next (h : GoM W L wk st c rb s vp l bf bi ve ef fs clock us v2 vo vv sts qo qv) (ht : Tn (GoP wk st vo vv) W X) {vo' vv' : Value} {sts' : Flags} {qo' qv' : List Vq}
    (row : Row X wk 193 [.pointer (some ⟨c.bb, 0, none⟩), .pointer (some ⟨c.bx, 0, none⟩), v2, .map (some st), vo', vv']) (mp : SMap X st (flEnts sts')) (opn : X.ownsRow L 313 6 vo' qo'.length (qo'.flatMap vqC)) (opv : ∀ q ∈ qo', VqT X q) (ovr : X.ownsRow L 197 5 vv' qv'.length (qv'.flatMap vnC)) (ovv : ∀ q ∈ qv', VqT X q) :
    GoM X L wk st c rb s vp l bf bi ve ef fs clock us v2 vo' vv' sts' qo' qv' := by
  have hb := h.below ht
  have hbl := h.bl ht
  obtain ⟨l1, l2, l3, l4, l5, l6, l7⟩ := h.low
  refine ⟨⟨row, h.wkm.bm.bl hbl (hb.block _ l1) (hb.block _ l2) (hb.block _ l3), h.wkm.pw.tn ht (fun e => by have := h.high e; omega) (fun e => by have := h.high e; omega) (fun e => by have := h.high e; omega), ?_⟩, ?_, mp, opn, opv, ovr, ovv, h.lw, h.ls, Nat.le_trans h.lW ht.size, h.low⟩
  · obtain ⟨m, hm⟩ := h.wkm.glob
    exact ⟨m, (hb.cell (p := ⟨0, 0, none⟩) l7).trans hm⟩
  · rcases h.pat with q | ⟨b, o, cp, q1, ⟨cs, fz, q2⟩, q3⟩
    · exact .inl q
    · have e := h.same ht q2 (by decide) (by decide) (by decide)
      refine .inr ⟨b, o, cp, q1, ⟨cs, fz, e.trans q2⟩, fun j x hj => ?_⟩
      obtain ⟨c1, u, c2, c3⟩ := q3 j x hj
      refine ⟨?_, u, ?_, c3.bl hbl⟩
      · unfold World.cell? at *; rw [e]; exact c1
      · unfold World.cell? at *; rw [e]; exact c2
theorem GoM.later (h : GoM W L wk st c rb s vp l bf bi ve ef fs clock us v2 vo vv sts qo qv) (hb : Below W.heap.size W X) : GoM X L wk st c rb s vp l bf bi ve ef fs clock us v2 vo vv sts qo qv :=
  h.next (Tn.later hb) (h.wkm.row.later hb) (h.mp.later hb) (own_same h.opn (fun k hk => hb.block k (h.opn.lt k hk).2)) (fun q hq => (h.opv q hq).bl (Bl.below hb)) (own_same h.ovr (fun k hk => hb.block k (h.ovr.lt k hk).2)) (fun q hq => (h.ovv q hq).bl (Bl.below hb))
/-- A state is put. -/
theorem GoM.toSt (h : GoM W L wk st c rb s vp l bf bi ve ef fs clock us v2 vo vv sts qo qv) {sts' : Flags} (hm : W.mapTurned X st) (hs : SMap X st (flEnts sts')) : GoM X L wk st c rb s vp l bf bi ve ef fs clock us v2 vo vv sts' qo qv ∧ Tn (GoP wk st vo vv) W X := by
  have ht : Tn (GoP wk st vo vv) W X := map_tn hm (.inr (.inl rfl))
  have hcell : ∀ (k : Nat) (cs : Array Value) (e : TypeId) (fz : Nat × Nat), W.heap[k]? = some (Obj.cells cs e fz) → X.heap[k]? = W.heap[k]? := fun k cs e fz hk => (map_tn (p := fun k => k = st) hm rfl).block k (Array.getElem?_eq_some_iff.1 hk).1 (fun q => by
    obtain ⟨es, clk, es', clk', h1, -⟩ := hm
    rw [q, h1] at hk; cases hk)
  have hbl := h.bl ht
  exact ⟨h.next ht ((hcell _ _ _ _ h.wkm.row).trans h.wkm.row) hs (own_same h.opn (fun k hk => by obtain ⟨cur, fz, q⟩ := own_type h.opn k hk; exact hcell k _ _ _ q)) (fun q hq => (h.opv q hq).bl hbl) (own_same h.ovr (fun k hk => by obtain ⟨cur, fz, q⟩ := own_type h.ovr k hk; exact hcell k _ _ _ q)) (fun q hq => (h.ovv q hq).bl hbl), ht⟩
/-- A visit comes behind those that are open. -/
theorem GoM.toOpen (h : GoM W L wk st c rb s vp l bf bi ve ef fs clock us v2 vo vv sts qo qv) {q : Vq} {vo' : Value} (hq : VqT W q) (hown : X.ownsRow L 313 6 vo' (qo.length + 1) (qo.flatMap vqC ++ vqC q)) (hg : W.grownBy X vo.ownBlock) :
    Row X wk 193 [.pointer (some ⟨c.bb, 0, none⟩), .pointer (some ⟨c.bx, 0, none⟩), v2, .map (some st), vo, vv] ∧ GoM (X.setCell ⟨wk, 4, none⟩ vo') L wk st c rb s vp l bf bi ve ef fs clock us v2 vo' vv sts (qo ++ [q]) qv ∧ Tn (GoP wk st vo vv) W (X.setCell ⟨wk, 4, none⟩ vo') := by
  have ht1 : Tn (GoP wk st vo vv) W X := Tn.grown hg (fun k e => .inr (.inr (.inl e.symm)))
  have ht : Tn (GoP wk st vo vv) W (X.setCell ⟨wk, 4, none⟩ vo') := ht1.trans (Tn.set X ⟨wk, 4, none⟩ vo' (.inl rfl))
  have hrow := h.wkm.row.grown hg (row_ne_own h.wkm.row h.opn (by decide))
  have hbl := h.bl ht
  have hne : some wk ≠ vo'.ownBlock := row_ne_own hrow hown (by decide)
  have hne2 : some wk ≠ vv.ownBlock := row_ne_own h.wkm.row h.ovr (by decide)
  have hst : wk ≠ st := row_ne_map' h.wkm.row h.mp
  have hap : vv.ownBlock = none ∨ vv.ownBlock ≠ vo.ownBlock := by
    cases e : vv.ownBlock with
    | none => exact .inl rfl
    | some k =>
      refine .inr (fun q => ?_)
      obtain ⟨c1, f1, q1⟩ := own_type h.ovr k e
      obtain ⟨c2, f2, q2⟩ := own_type h.opn k q.symm
      rw [q1] at q2; cases q2
  have hmp : SMap X st (flEnts sts) := h.mp.kept hg (fun e => by
    obtain ⟨c2, f2, q2⟩ := own_type h.opn st e.symm
    obtain ⟨es, clk, h1, -⟩ := h.mp
    rw [h1] at q2; cases q2)
  refine ⟨hrow, h.next ht (hrow.set 4 vo') (hmp.setCell (Ne.symm hst) vo') ?_ ?_ (owns_other (h.ovr.kept hg hap) hne2 4 vo') (fun q' hq' => (h.ovv q' hq').bl hbl), ht⟩
  · have := owns_other hown hne 4 vo'
    rw [List.length_append, List.flatMap_append]
    simpa using this
  · intro q' hq'
    rcases List.mem_append.1 hq' with e | e
    · exact (h.opv q' e).bl hbl
    · rw [List.mem_singleton] at e; subst e; exact hq.bl hbl
end
end Go.Proofs.YtjelacjggijmfaaGreatDoor
namespace Go.Proofs.YtjelacjggijmfaaGreatDoor
open Go.RowKit Go.MapKept Go.ChangeMaps Go.Maps

theorem Tryz.infoVis : (Tryz.prog.info? 313).map (fun i => (i.zero, i.size, i.bytes)) = some (some (.agg #[.string ⟨#[]⟩, .bool false, .slice none 0 0, .slice none 0 0, .string ⟨#[]⟩, .int .i64 0]), 6, 96) := by kernel_rfl
theorem zeroState (w : World) : (zeroValue 309).run Tryz.prog w = .ok (.int .i64 0) w := by kernel_rfl
/-- Where the walk stands: names and their states, what is open, what is over. -/
structure Wst where
  sts : Flags
  opn : List (Nod × Nat)
  over : List Nod
def enterF (s : St) (fs : List Pl.File) (us : List (Nat × List Pl.Bs)) (t : Wst) (name : Pl.Bs) : Nat × Wst :=
  if flagOf t.sts name = 2 then (0, t) else if flagOf t.sts name = 1 then (7, t)
  else if (nodeF s fs us name).2 = false then (8, t) else (0, { t with sts := flPut t.sts name 1, opn := t.opn ++ [((nodeF s fs us name).1, 0)] })
/-- The walk's memory holds this. -/
def GoS (W : World) (L wk st : Nat) (c : Ad) (rb : Nat → Nat) (s : St) (vp : Value) (l : Ents) (bf bi : Nat) (ve : Value) (ef : List Pl.Eff) (fs : List Pl.File) (clock : Int) (us : List (Nat × List Pl.Bs)) (v2 : Value) (t : Wst) : Prop :=
  ∃ vo vv qo qv, GoM W L wk st c rb s vp l bf bi ve ef fs clock us v2 vo vv t.sts qo qv ∧ (qo.map fun q => (q.nd, q.lk)) = t.opn ∧ qv.map Vq.nd = t.over
theorem vis_ones (q : Vq) (h1 : q.vn.oneCell' = true) (h2 : q.vc.oneCell' = true) : ∀ u ∈ vqC q, u.oneCell' = true := by
  intro u hu
  unfold vqC at hu
  simp only [List.mem_cons, List.not_mem_nil, or_false] at hu
  rcases hu with e | e | e | e | e | e
  · subst e; rfl
  · subst e; rfl
  · subst e; exact h1
  · subst e; exact h2
  · subst e; rfl
  · subst e; rfl
section
variable {W X Y : World} {L wk st : Nat} {c : Ad} {rb : Nat → Nat} {s : St} {vp : Value} {l : Ents} {bf bi : Nat} {ve : Value} {ef : List Pl.Eff} {fs : List Pl.File} {clock : Int} {us : List (Nat × List Pl.Bs)} {v2 : Value} {t : Wst}
set_option maxHeartbeats 4000000 in
set_option maxRecDepth 100000 in
theorem enter_any (name : Pl.Bs) (k : Nat) (h : GoS W L wk st c rb s vp l bf bi ve ef fs clock us v2 t) (hx : ∀ x ∈ us, x.1 < s.rules.length ∧ (rlOf s x.1).tg ≠ [] ∧ (∀ y ∈ (rlOf s x.1).tg, y.length ≤ 2000) ∧ x.2.length ≤ 2000 ∧ ∀ n ∈ x.2, n.length ≤ 2000) (hn : us.length ≤ 1073741824) (hok : Ok s k) (hnm : name.length ≤ 1073741824) (hst : t.sts.length ≤ 4294967296) (hop : t.opn.length ≤ 4294967296) :
    Calls Tryz.prog 142 #[.pointer (some ⟨wk, 0, none⟩), .string ⟨name.toArray⟩] W fun e W' => e = .returned (.int .i64 ((enterF s fs us t name).1 : Int)) ∧ GoS W' L wk st c rb s vp l bf bi ve ef fs clock us v2 (enterF s fs us t name).2 ∧ Below L W W' := by
  obtain ⟨i0, hi0, hz0, hz1, hz2⟩ := info_parts Tryz.infoVis
  obtain ⟨vo, vv, qo, qv, hM, ho, hv⟩ := h
  have c3 := hM.wkm.row.cell? (i := 3) rfl
  have lwk := hM.wkm.row.lt
  have HMP := hide hM.mp
  have HFL := hide (mget_fl name t.sts)
  have HM := hide hM
  have hA : enterF s fs us t name = if flagOf t.sts name = 2 then (0, t) else if flagOf t.sts name = 1 then (7, t) else if (nodeF s fs us name).2 = false then (8, t) else (0, { t with sts := flPut t.sts name 1, opn := t.opn ++ [((nodeF s fs us name).1, 0)] }) := rfl
  have HSame : Hid (∀ w, Below W.heap.size W w → GoS w L wk st c rb s vp l bf bi ve ef fs clock us v2 t ∧ Below L W w) := fun w hw => ⟨⟨vo, vv, qo, qv, hM.later hw, ho, hv⟩, hw.mono hM.lW⟩
  by_cases h2 : flagOf t.sts name = 2
  · rw [hA, if_pos h2]
    have w2 : ((flagOf t.sts name : Int) == 2) = true := by rw [beq_iff_eq]; omega
    have HR := hide (unhide HSame W (Below.refl _ _))
    clear hM ho hv hA h2
    go_enter Tryz.func142, Tryz.ntmps142
    go_wp2_with (first
      | (at_lookup; refine wpList_look_one _ rfl _ _ 189 rfl 9 309 Tryz.underlying189 Tryz.underlying9 (.int .i64 0) (zeroState _) st (flEnts t.sts) rfl (unhide HMP) name rfl _ (unhide HFL) ?_)
      | fail)
    go_ret
    exact ⟨rfl, (unhide HR).1, (unhide HR).2⟩
  · have w2 : ((flagOf t.sts name : Int) == 2) = false := by rw [beq_eq_false_iff_ne]; omega
    by_cases h1 : flagOf t.sts name = 1
    · rw [hA, if_neg h2, if_pos h1]
      have w1 : ((flagOf t.sts name : Int) == 1) = true := by rw [beq_iff_eq]; omega
      have HR := hide (unhide HSame W (Below.refl _ _))
      clear hM ho hv hA h2 h1
      go_enter Tryz.func142, Tryz.ntmps142
      go_wp2_with (first
        | (at_lookup; refine wpList_look_one _ rfl _ _ 189 rfl 9 309 Tryz.underlying189 Tryz.underlying9 (.int .i64 0) (zeroState _) st (flEnts t.sts) rfl (unhide HMP) name rfl _ (unhide HFL) ?_)
        | fail)
      go_ret
      exact ⟨rfl, (unhide HR).1, (unhide HR).2⟩
    · have w1 : ((flagOf t.sts name : Int) == 1) = false := by rw [beq_eq_false_iff_ne]; omega
      rw [hA, if_neg h2, if_neg h1]
      have CN := hide (node_any us name k hM.wkm hM.pat hx hn hok hnm)
      have hqo : qo.length ≤ 4294967296 := by
        have : qo.length = t.opn.length := by rw [← ho, List.length_map]
        omega
      clear hA h2 h1
      generalize hND : nodeF s fs us name = nf at *
      obtain ⟨nd, ok⟩ := nf
      simp only at CN ⊢
      cases ok with
      | false =>
        rw [if_pos rfl]
        clear hM ho hv
        go_enter Tryz.func142, Tryz.ntmps142
        go_wp2_with (first
          | (at_lookup; refine wpList_look_one _ rfl _ _ 189 rfl 9 309 Tryz.underlying189 Tryz.underlying9 (.int .i64 0) (zeroState _) st (flEnts t.sts) rfl (unhide HMP) name rfl _ (unhide HFL) ?_)
          | (go_at_call 189; refine (unhide CN).mono ?_; clear CN; rintro e w1 ⟨vn, vc, rfl, hs1, hc1, hb1⟩; obtain ⟨an, cn, rfl⟩ := hs1.sh; obtain ⟨am, cm, rfl⟩ := hc1.sh; unfold strV; have HR := hide (unhide HSame _ (hb1.alloc hb1.size (.cells #[.string ⟨nd.name.toArray⟩, .bool nd.ph, .slice an nd.needs.length cn, .slice am nd.cmds.length cm, .string ⟨nd.stem.toArray⟩] 197))); clear hs1 hc1 hb1)
          | fail)
        go_ret
        exact ⟨rfl, (unhide HR).1, (unhide HR).2⟩
      | true =>
        rw [if_neg (by simp)]
        have HO := hide ho
        have HV := hide hv
        clear hM ho hv
        go_enter Tryz.func142, Tryz.ntmps142
        go_wp2_with (first
          | (at_lookup; refine wpList_look_one _ rfl _ _ 189 rfl 9 309 Tryz.underlying189 Tryz.underlying9 (.int .i64 0) (zeroState _) st (flEnts t.sts) rfl (unhide HMP) name rfl _ (unhide HFL) ?_)
          | (go_at_call 189; refine (unhide CN).mono ?_; clear CN; rintro e w1 ⟨vn, vc, rfl, hs1, hc1, hb1⟩; obtain ⟨an, cn, rfl⟩ := hs1.sh; obtain ⟨am, cm, rfl⟩ := hc1.sh; unfold strV; have bB := (Below.refl w1.heap.size w1).alloc (Nat.le_refl _) (.cells #[.string ⟨nd.name.toArray⟩, .bool nd.ph, .slice an nd.needs.length cn, .slice am nd.cmds.length cm, .string ⟨nd.stem.toArray⟩] 197); have HB1 := hide (hb1.trans (bB.mono hb1.size)); have HM1 := hide ((unhide HM).later (hb1.trans (bB.mono hb1.size))); have d3 := (unhide HM1).wkm.row.cell? (i := 3) rfl; have HVQ : Hid (VqT _ (⟨nd, 0, .slice an nd.needs.length cn, .slice am nd.cmds.length cm⟩ : Vq)) := ⟨hs1.bl (Bl.below bB), hc1.bl (Bl.below bB)⟩; have HRB := hide (Row.new w1 197 [.string ⟨nd.name.toArray⟩, .bool nd.ph, .slice an nd.needs.length cn, .slice am nd.cmds.length cm, .string ⟨nd.stem.toArray⟩]); clear hs1 hc1 hb1 bB)
          | (at_mapUpdate; refine wpList_put_s _ rfl _ _ _ 189 rfl 9 309 Tryz.underlying189 Tryz.underlying9 st (flEnts t.sts) rfl (unhide HM1).mp (by unfold flEnts maxLen; rw [List.length_map]; omega) name rfl (.int .i64 1) rfl ?_; intro w3 hs3 ht3; have e3 := flPut_ents name 1 t.sts; rw [show ((1 : Nat) : Int) = 1 from rfl] at e3; rw [e3] at hs3; obtain ⟨m3, f3⟩ := (unhide HM1).toSt ht3 hs3; have HM3 := hide m3; have HF3 := hide f3; have HRB3 : Hid (Row w3 w1.heap.size 197 [.string ⟨nd.name.toArray⟩, .bool nd.ph, .slice an nd.needs.length cn, .slice am nd.cmds.length cm, .string ⟨nd.stem.toArray⟩]) := (unhide HRB).tn (map_tn (p := fun q => q = st) ht3 rfl) (row_ne_map' (unhide HRB) (unhide HM1).mp); have HVQ3 := hide ((unhide HVQ).bl ((unhide HM1).bl f3)); clear hs3 ht3 m3 f3 e3)
          | fail)
        have bY : Below w3.heap.size w3 (w3.drew.alloc (.cells #[.string ⟨nd.name.toArray⟩, .bool nd.ph, .slice an nd.needs.length cn, .slice am nd.cmds.length cm, .string ⟨nd.stem.toArray⟩, .int .i64 0] 313)) := ((Below.refl w3.heap.size w3).drew).alloc (Nat.le_refl _) _
        have HMY := hide ((unhide HM3).later bY)
        have HVY := hide ((unhide HVQ3).bl (Bl.below bY))
        have HRX := hide (Row.new w3.drew 313 [.string ⟨nd.name.toArray⟩, .bool nd.ph, .slice an nd.needs.length cn, .slice am nd.cmds.length cm, .string ⟨nd.stem.toArray⟩, .int .i64 0])
        have d4 := (unhide HM3).wkm.row.cell? (i := 4) rfl
        have b0 := (unhide HRB3).cell? (i := 0) rfl
        have b1 := (unhide HRB3).cell? (i := 1) rfl
        have b2 := (unhide HRB3).cell? (i := 2) rfl
        have b3 := (unhide HRB3).cell? (i := 3) rfl
        have b4 := (unhide HRB3).cell? (i := 4) rfl
        have lb3 := (unhide HRB3).lt
        have lk3 := (unhide HM3).wkm.row.lt
        have HOW := hide (unhide HMY).opn
        have hLY := (unhide HMY).lW
        have HBY : Hid (Below L w3 (w3.drew.alloc (.cells #[.string ⟨nd.name.toArray⟩, .bool nd.ph, .slice an nd.needs.length cn, .slice am nd.cmds.length cm, .string ⟨nd.stem.toArray⟩, .int .i64 0] 313))) := bY.mono (unhide HM3).lW
        have HB3 := hide (((unhide HB1).mono (unhide HM).lW).trans ((unhide HM1).below (unhide HF3)))
        clear bY d3 c3
        obtain ⟨av, cv, rfl⟩ := own_sh (unhide HOW)
        simp only [Act.put]
        go_region_law (first
          | (refine step_append_fresh rfl (.tmp 34) (.tmp 37) 191 rfl L 313 i0 _ 6 96 Tryz.underlying191 hi0 hz0 hz1 hz2 rfl (by decide) _ qo.length (qo.flatMap vqC) (by rfl) (unhide HOW) ⟨w3.heap.size, 0, none⟩ 1 1 [.string ⟨nd.name.toArray⟩, .bool nd.ph, .slice an nd.needs.length cn, .slice am nd.cmds.length cm, .string ⟨nd.stem.toArray⟩, .int .i64 0] (by rfl) (by rfl) (fun j u hj => by rw [addr_add0]; exact (unhide HRX).cell? hj) (vis_ones ⟨nd, 0, .slice an nd.needs.length cn, .slice am nd.cmds.length cm⟩ rfl rfl) (by unfold maxLen; omega) (by omega) hLY ?_; intro v6 w6 hown6 hgrow6 _; obtain ⟨a6, c6, rfl⟩ := own_sh hown6; obtain ⟨x1, m6, f6⟩ := (unhide HMY).toOpen (q := ⟨nd, 0, .slice an nd.needs.length cn, .slice am nd.cmds.length cm⟩) (unhide HVY) hown6 hgrow6; have y4 := x1.cell? (i := 4) rfl; have z4 := x1.frozen 4; have HM6 := hide m6; have HF6 := hide f6; clear m6 f6 hown6 hgrow6 x1)
          | fail)
        all_goals go_wp2_with fail
        all_goals go_ret
        all_goals exact ⟨rfl, ⟨_, _, _, _, unhide HM6, by rw [List.map_append, unhide HO]; rfl, unhide HV⟩, ((unhide HB3).trans (unhide HBY)).trans ((unhide HMY).below (unhide HF6))⟩
end
end Go.Proofs.YtjelacjggijmfaaGreatDoor
namespace Go.Proofs.YtjelacjggijmfaaGreatDoor
open Go.RowKit Go.MapKept Go.ChangeMaps Go.Maps

theorem Tryz.infoNode : (Tryz.prog.info? 197).map (fun i => (i.zero, i.size, i.bytes)) = some (some (.agg #[.string ⟨#[]⟩, .bool false, .slice none 0 0, .slice none 0 0, .string ⟨#[]⟩]), 5, 88) := by kernel_rfl
def leaveF (t : Wst) : Wst := match t.opn.getLast? with
  | none => t
  | some x => ⟨flPut t.sts x.1.name 2, t.opn.dropLast, if t.over.length ≤ 100 then t.over ++ [x.1] else t.over⟩
theorem vq_len : ∀ qs : List Vq, (qs.flatMap vqC).length = qs.length * 6
  | [] => rfl
  | q :: r => by
    have := vq_len r
    rw [List.flatMap_cons, List.length_append, this, List.length_cons]
    simp [vqC]; omega
theorem own_cutN {W : World} {B e size n g cap : Nat} {xs ys : List Value} (h : W.ownsRow B e size (.slice (some ⟨g, 0, none⟩) (n + 1) cap) (n + 1) (xs ++ ys)) (hx : xs.length = n * size) : W.ownsRow B e size (.slice (some ⟨g, 0, none⟩) n cap) n xs := by
  refine ⟨hx, ?_⟩
  rcases h.2 with ⟨h1, -⟩ | ⟨g', cap', cur, h1, h2, h3, h4, h5, h6, h7⟩
  · cases h1
  · cases h1
    refine .inr ⟨g, cap, cur, rfl, h2, h3, by omega, h5, h6, ?_⟩
    have e : (cur.toList.take ((n + 1) * size)).take (n * size) = cur.toList.take (n * size) := by
      rw [List.take_take, Nat.min_eq_left (Nat.mul_le_mul_right _ (by omega))]
    rw [← e, h7, ← hx]
    exact List.take_left
theorem nod_ones (q : Vq) (h1 : q.vn.oneCell' = true) (h2 : q.vc.oneCell' = true) : ∀ u ∈ vnC q, u.oneCell' = true := by
  intro u hu
  unfold vnC at hu
  simp only [List.mem_cons, List.not_mem_nil, or_false] at hu
  rcases hu with e | e | e | e | e
  · subst e; rfl
  · subst e; rfl
  · subst e; exact h1
  · subst e; exact h2
  · subst e; rfl
section
variable {W X Y : World} {L wk st : Nat} {c : Ad} {rb : Nat → Nat} {s : St} {vp : Value} {l : Ents} {bf bi : Nat} {ve : Value} {ef : List Pl.Eff} {fs : List Pl.File} {clock : Int} {us : List (Nat × List Pl.Bs)} {v2 vo vv : Value} {sts : Flags} {qo qv : List Vq}
/-- The last visit is taken off. -/
theorem GoM.toCut {g cap : Nat} {q : Vq} (h : GoM W L wk st c rb s vp l bf bi ve ef fs clock us v2 (.slice (some ⟨g, 0, none⟩) (qo.length + 1) cap) vv sts (qo ++ [q]) qv) :
    GoM (W.setCell ⟨wk, 4, none⟩ (.slice (some ⟨g, 0, none⟩) qo.length cap)) L wk st c rb s vp l bf bi ve ef fs clock us v2 (.slice (some ⟨g, 0, none⟩) qo.length cap) vv sts qo qv ∧ Tn (GoP wk st (.slice (some ⟨g, 0, none⟩) (qo.length + 1) cap) vv) W (W.setCell ⟨wk, 4, none⟩ (.slice (some ⟨g, 0, none⟩) qo.length cap)) := by
  have ht : Tn (GoP wk st (.slice (some ⟨g, 0, none⟩) (qo.length + 1) cap) vv) W (W.setCell ⟨wk, 4, none⟩ (.slice (some ⟨g, 0, none⟩) qo.length cap)) := Tn.set W ⟨wk, 4, none⟩ _ (.inl rfl)
  have hbl := h.bl ht
  have hop := h.opn
  rw [List.length_append, List.length_cons, List.length_nil, List.flatMap_append] at hop
  have hcut := own_cutN hop (vq_len qo)
  have hne : some wk ≠ (Value.slice (some ⟨g, 0, none⟩) qo.length cap).ownBlock := row_ne_own h.wkm.row hcut (by decide)
  have hne2 : some wk ≠ vv.ownBlock := row_ne_own h.wkm.row h.ovr (by decide)
  have hst : wk ≠ st := row_ne_map' h.wkm.row h.mp
  exact ⟨h.next ht (h.wkm.row.set 4 _) (h.mp.setCell (Ne.symm hst) _) (owns_other hcut hne 4 _) (fun q' hq' => (h.opv q' (List.mem_append_left _ hq')).bl hbl) (owns_other h.ovr hne2 4 _) (fun q' hq' => (h.ovv q' hq').bl hbl), ht⟩
/-- A node comes behind those that are over. -/
theorem GoM.toOver (h : GoM W L wk st c rb s vp l bf bi ve ef fs clock us v2 vo vv sts qo qv) {q : Vq} {vv' : Value} (hq : VqT W q) (hown : X.ownsRow L 197 5 vv' (qv.length + 1) (qv.flatMap vnC ++ vnC q)) (hg : W.grownBy X vv.ownBlock) :
    Row X wk 193 [.pointer (some ⟨c.bb, 0, none⟩), .pointer (some ⟨c.bx, 0, none⟩), v2, .map (some st), vo, vv] ∧ GoM (X.setCell ⟨wk, 5, none⟩ vv') L wk st c rb s vp l bf bi ve ef fs clock us v2 vo vv' sts qo (qv ++ [q]) ∧ Tn (GoP wk st vo vv) W (X.setCell ⟨wk, 5, none⟩ vv') := by
  have ht1 : Tn (GoP wk st vo vv) W X := Tn.grown hg (fun k e => .inr (.inr (.inr e.symm)))
  have ht : Tn (GoP wk st vo vv) W (X.setCell ⟨wk, 5, none⟩ vv') := ht1.trans (Tn.set X ⟨wk, 5, none⟩ vv' (.inl rfl))
  have hrow := h.wkm.row.grown hg (row_ne_own h.wkm.row h.ovr (by decide))
  have hbl := h.bl ht
  have hne : some wk ≠ vv'.ownBlock := row_ne_own hrow hown (by decide)
  have hne2 : some wk ≠ vo.ownBlock := row_ne_own h.wkm.row h.opn (by decide)
  have hst : wk ≠ st := row_ne_map' h.wkm.row h.mp
  have hap : vo.ownBlock = none ∨ vo.ownBlock ≠ vv.ownBlock := by
    cases e : vo.ownBlock with
    | none => exact .inl rfl
    | some k =>
      refine .inr (fun q => ?_)
      obtain ⟨c1, f1, q1⟩ := own_type h.opn k e
      obtain ⟨c2, f2, q2⟩ := own_type h.ovr k q.symm
      rw [q1] at q2; cases q2
  have hmp : SMap X st (flEnts sts) := h.mp.kept hg (fun e => by
    obtain ⟨c2, f2, q2⟩ := own_type h.ovr st e.symm
    obtain ⟨es, clk, h1, -⟩ := h.mp
    rw [h1] at q2; cases q2)
  refine ⟨hrow, h.next ht (hrow.set 5 vv') (hmp.setCell (Ne.symm hst) vv') (owns_other (h.opn.kept hg hap) hne2 5 vv') (fun q' hq' => (h.opv q' hq').bl hbl) ?_ ?_, ht⟩
  · have := owns_other hown hne 5 vv'
    rw [List.length_append, List.flatMap_append]
    simpa using this
  · intro q' hq'
    rcases List.mem_append.1 hq' with e | e
    · exact (h.ovv q' e).bl hbl
    · rw [List.mem_singleton] at e; subst e; exact hq.bl hbl
theorem stPut (h : GoM W L wk st c rb s vp l bf bi ve ef fs clock us v2 vo vv sts qo qv) (hl : sts.length ≤ 4294967296) (name : Pl.Bs) : ∃ w', (Instr.mapUpdate 189 (.map (some st)) (.string ⟨name.toArray⟩) (.int .i64 2)).run Tryz.prog W = .ok () w' ∧ GoM w' L wk st c rb s vp l bf bi ve ef fs clock us v2 vo vv (flPut sts name 2) qo qv ∧ Tn (GoP wk st vo vv) W w' ∧ W.mapTurned w' st := by
  obtain ⟨w', h1, h2, h3⟩ := h.mp.put (P := Tryz.prog) Tryz.underlying189 Tryz.underlying9 (by unfold flEnts maxLen; rw [List.length_map]; omega) name (.int .i64 2)
  have e3 := flPut_ents name 2 sts
  rw [show ((2 : Nat) : Int) = 2 from rfl] at e3
  rw [e3] at h2
  obtain ⟨m, f⟩ := h.toSt h3 h2
  exact ⟨w', h1, m, f, h3⟩
end
end Go.Proofs.YtjelacjggijmfaaGreatDoor
