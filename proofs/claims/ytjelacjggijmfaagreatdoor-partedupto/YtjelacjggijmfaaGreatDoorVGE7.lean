/-
  What a goal wants: what is known of a name.
-/
import Derived.Test.YtjelacjggijmfaaGreatDoorVGE6
namespace Go.Proofs.YtjelacjggijmfaaGreatDoor
open Go.RowKit Go.MapKept Go.ChangeMaps Go.Maps

def nod0 (s : St) (name : Pl.Bs) : Nod := ⟨name, decide (name ∈ s.ph), needsL s (s.of name), [], cmdsL s (s.of name)⟩
def nodP (s : St) (name : Pl.Bs) (i : Nat) (stem : Pl.Bs) : Nod := ⟨name, decide (name ∈ s.ph), onceB (((rlOf s i).nd.map fun n => fillB n stem) ++ needsL s (s.of name)) [], stem, (rlOf s i).cs⟩
def canB (s : St) (fs : List Pl.File) (name : Pl.Bs) : Bool := tgB s name || decide (name ∈ s.ph) || (Pl.look fs name).isSome
/-- What is known of a name, and whether it can be a node. -/
def nodeF (s : St) (fs : List Pl.File) (us : List (Nat × List Pl.Bs)) (name : Pl.Bs) : Nod × Bool :=
  if (cmdsL s (s.of name)).length = 0 ∧ decide (name ∈ s.ph) = false then
    match fitL s fs name us with
    | some (i, stem) => (nodP s name i stem, true)
    | none => (nod0 s name, canB s fs name)
  else (nod0 s name, canB s fs name)
theorem flat_len (f : Nat → List Pl.Bs) (B : Nat) : ∀ xs : List Nat, (∀ i ∈ xs, (f i).length ≤ B) → (xs.map f).flatten.length ≤ xs.length * B
  | [], _ => by simp
  | x :: r, h => by
    have ih := flat_len f B r (fun i hi => h i (List.mem_cons_of_mem _ hi))
    have h1 := h x (List.mem_cons_self ..)
    rw [List.map_cons, List.flatten_cons, List.length_append, List.length_cons, Nat.succ_mul]
    omega
theorem needsL_len (s : St) (xs : List Nat) (h : ∀ i ∈ xs, (rlOf s i).nd.length ≤ 2000) : (needsL s xs).length ≤ xs.length * 2000 := by
  have hf := flat_len (fun i => (rlOf s i).nd) 2000 xs h
  unfold needsL
  split
  · next e =>
    cases xs with
    | nil => simp at e
    | cons x r =>
      have := h x (List.mem_cons_self ..)
      simp only [List.headD_cons, List.length_cons] at *
      omega
  · have := (onceB_len (xs.map fun i => (rlOf s i).nd).flatten []).1
    simp only [List.length_nil] at this
    omega
theorem rlOf_ok {s : St} {k i : Nat} (h : Ok s k) (hi : i < s.rules.length) : RlOk (rlOf s i) := by
  have e : rlOf s i = s.rules[i] := by unfold rlOf; simp [hi]
  rw [e]
  exact h.rs _ (List.getElem_mem hi)
theorem fitL_mem {s : St} {fs : List Pl.File} {name : Pl.Bs} : ∀ {us : List (Nat × List Pl.Bs)} {i : Nat} {stem : Pl.Bs}, fitL s fs name us = some (i, stem) → (∃ x ∈ us, x.1 = i) ∧ stem.length ≤ name.length
  | [], _, _, h => by cases h
  | x :: r, i, stem, h => by
    rw [fitL] at h
    split at h
    · cases h
      exact ⟨⟨x, List.mem_cons_self .., rfl⟩, stemB_len _ _⟩
    · obtain ⟨⟨y, h1, h2⟩, h3⟩ := fitL_mem h
      exact ⟨⟨y, List.mem_cons_of_mem _ h1, h2⟩, h3⟩
theorem Bl.trans {W X Y : World} (h : Bl W X) (k : Bl X Y) : Bl W Y :=
  ⟨fun j cs fz e => (k.strs j cs fz ((h.strs j cs fz e).trans e)).trans (h.strs j cs fz e), fun j cs fz e => (k.cmds j cs fz ((h.cmds j cs fz e).trans e)).trans (h.cmds j cs fz e), fun j cs fz e => (k.ptrs j cs fz ((h.ptrs j cs fz e).trans e)).trans (h.ptrs j cs fz e), fun j cs fz e => (k.ruls j cs fz ((h.ruls j cs fz e).trans e)).trans (h.ruls j cs fz e), fun j cs fz e => (k.book j cs fz ((h.book j cs fz e).trans e)).trans (h.book j cs fz e)⟩
theorem blSet {w : World} {N o : Nat} {vs : List Value} (h : Row w N 197 vs) (u : Value) : Bl w (w.setCell ⟨N, o, none⟩ u) := by
  have ty : ∀ (k : Nat) (cs : Array Value) (e : TypeId) (fz : Nat × Nat), w.heap[k]? = some (Obj.cells cs e fz) → e ≠ 197 → (w.setCell ⟨N, o, none⟩ u).heap[k]? = w.heap[k]? := fun k cs e fz hk he => Below.heap_setCell w ⟨N, o, none⟩ u k (fun q => by
    simp only at q
    unfold Row at h
    rw [q, h] at hk
    cases hk
    exact he rfl)
  exact ⟨fun k cs fz hk => ty k cs _ fz hk (by decide), fun k cs fz hk => ty k cs _ fz hk (by decide), fun k cs fz hk => ty k cs _ fz hk (by decide), fun k cs fz hk => ty k cs _ fz hk (by decide), fun k cs fz hk => ty k cs _ fz hk (by decide)⟩
/-- The result is set. -/
theorem nodeSet {W0 w : World} {n : Nat} {b0 b1 b2 b3 b4 : Value} (h : Row w n 197 [b0, b1, b2, b3, b4]) (hb : Below n W0 w) (a0 a1 a2 a3 a4 : Value) :
    Row (((((w.setCell ⟨n, 0, none⟩ a0).setCell ⟨n, 1, none⟩ a1).setCell ⟨n, 2, none⟩ a2).setCell ⟨n, 3, none⟩ a3).setCell ⟨n, 4, none⟩ a4) n 197 [a0, a1, a2, a3, a4] ∧
    Bl w (((((w.setCell ⟨n, 0, none⟩ a0).setCell ⟨n, 1, none⟩ a1).setCell ⟨n, 2, none⟩ a2).setCell ⟨n, 3, none⟩ a3).setCell ⟨n, 4, none⟩ a4) ∧
    Below n W0 (((((w.setCell ⟨n, 0, none⟩ a0).setCell ⟨n, 1, none⟩ a1).setCell ⟨n, 2, none⟩ a2).setCell ⟨n, 3, none⟩ a3).setCell ⟨n, 4, none⟩ a4) := by
  have key : ∀ k, k ≠ n → (((((w.setCell ⟨n, 0, none⟩ a0).setCell ⟨n, 1, none⟩ a1).setCell ⟨n, 2, none⟩ a2).setCell ⟨n, 3, none⟩ a3).setCell ⟨n, 4, none⟩ a4).heap[k]? = w.heap[k]? := fun k hk => by
    rw [Below.heap_setCell _ _ _ _ hk, Below.heap_setCell _ _ _ _ hk, Below.heap_setCell _ _ _ _ hk, Below.heap_setCell _ _ _ _ hk, Below.heap_setCell _ _ _ _ hk]
  have ty : ∀ (k : Nat) (cs : Array Value) (e : TypeId) (fz : Nat × Nat), w.heap[k]? = some (Obj.cells cs e fz) → e ≠ 197 → k ≠ n := fun k cs e fz hk he q => by
    unfold Row at h
    rw [q, h] at hk
    cases hk
    exact he rfl
  exact ⟨((((h.set 0 a0).set 1 a1).set 2 a2).set 3 a3).set 4 a4, ⟨fun k cs fz hk => key k (ty k cs _ fz hk (by decide)), fun k cs fz hk => key k (ty k cs _ fz hk (by decide)), fun k cs fz hk => key k (ty k cs _ fz hk (by decide)), fun k cs fz hk => key k (ty k cs _ fz hk (by decide)), fun k cs fz hk => key k (ty k cs _ fz hk (by decide))⟩,
    ((((hb.setCell (p := ⟨n, 0, none⟩) (Nat.le_refl _) _).setCell (p := ⟨n, 1, none⟩) (Nat.le_refl _) _).setCell (p := ⟨n, 2, none⟩) (Nat.le_refl _) _).setCell (p := ⟨n, 3, none⟩) (Nat.le_refl _) _).setCell (p := ⟨n, 4, none⟩) (Nat.le_refl _) _⟩
section
variable {W X : World} {wk : Nat} {c : Ad} {rb : Nat → Nat} {s : St} {vp : Value} {l : Ents} {bf bi : Nat} {ve : Value} {ef : List Pl.Eff} {fs : List Pl.File} {clock : Int} {v2 v3 v4 v5 : Value}
set_option maxHeartbeats 8000000 in
set_option maxRecDepth 100000 in
theorem node_any (us : List (Nat × List Pl.Bs)) (name : Pl.Bs) (k : Nat) (h : WkM W wk c rb s vp l bf bi ve ef fs clock v2 v3 v4 v5) (hu : PaT W rb v2 us) (hx : ∀ x ∈ us, x.1 < s.rules.length ∧ (rlOf s x.1).tg ≠ [] ∧ (∀ y ∈ (rlOf s x.1).tg, y.length ≤ 2000) ∧ x.2.length ≤ 2000 ∧ ∀ n ∈ x.2, n.length ≤ 2000) (hn : us.length ≤ 1073741824) (hok : Ok s k) (hnm : name.length ≤ 1073741824) :
    Calls Tryz.prog 189 #[.pointer (some ⟨wk, 0, none⟩), .string ⟨name.toArray⟩] W fun e W' => ∃ vn vc, e = .returned (.tuple #[.agg #[strV (nodeF s fs us name).1.name, .bool (nodeF s fs us name).1.ph, vn, vc, strV (nodeF s fs us name).1.stem], .bool (nodeF s fs us name).2]) ∧ SlT W' vn (nodeF s fs us name).1.needs ∧ CmT W' vc (nodeF s fs us name).1.cmds ∧ Below W.heap.size W W' := by
  have b0 := (Below.refl W.heap.size W).alloc (Nat.le_refl _) (.cells #[.string ⟨#[]⟩, .bool false, .slice none 0 0, .slice none 0 0, .string ⟨#[]⟩] 197)
  have rT := Row.new W 197 [.string ⟨#[]⟩, .bool false, .slice none 0 0, .slice none 0 0, .string ⟨#[]⟩]
  have c0 := h.row.cell? (i := 0) rfl
  have lw := h.row.lt
  obtain ⟨ao, co, hof⟩ := (h.bm.of name).sh
  rw [List.length_map] at hof
  have hxo : ∀ i ∈ s.of name, i < s.rules.length := h.bm.ol name
  have hnd : ∀ i ∈ s.of name, (rlOf s i).nd.length ≤ 2000 := fun i hi => (rlOf_ok hok (hxo i hi)).nl
  have hol := hok.ol name
  have htl := hok.tl
  have h64 := hok.n64
  have hflat := flat_len (fun i => (rlOf s i).nd) 2000 (s.of name) hnd
  have hNL := needsL_len s (s.of name) hnd
  have HW : Hid (∀ w, Below W.heap.size W w → WkM w wk c rb s vp l bf bi ve ef fs clock v2 v3 v4 v5 ∧ PaT w rb v2 us) := fun w hw => ⟨h.later hw, hu.later hw⟩
  have CO : Hid (∀ w, Below W.heap.size W w → Calls Tryz.prog 236 #[.pointer (some ⟨c.bb, 0, none⟩), .string ⟨name.toArray⟩] w fun e w' => e = .returned (.slice ao (s.of name).length co) ∧ w' = w) := fun w hw => bookOf_any c.bb c.nm c.bt c.pb vp s.first l name _ w (unhide HW w hw).1.bm.book (unhide HW w hw).1.bm.tgts hof
  have CP : Hid (∀ w, Below W.heap.size W w → Calls Tryz.prog 237 #[.pointer (some ⟨c.bb, 0, none⟩), .string ⟨name.toArray⟩] w fun e w' => e = .returned (.bool (decide (name ∈ s.ph))) ∧ Below w.heap.size w w') := fun w hw => isPhony_any c.bb c.nm c.bt c.pb vp s.first s.ph name w (unhide HW w hw).1.bm.book (unhide HW w hw).1.bm.phony
  have CN : Hid (∀ w, Below W.heap.size W w → Calls Tryz.prog 238 #[.slice ao (s.of name).length co] w fun e w' => ∃ u, e = .returned u ∧ SlT w' u (needsL s (s.of name)) ∧ Below w.heap.size w w') := fun w hw => needsOf_any (s.of name) _ (unhide HW w hw).1.bm (hof ▸ (unhide HW w hw).1.bm.of name) hxo (by omega) (by omega)
  have CC : Hid (∀ w, Below W.heap.size W w → Calls Tryz.prog 239 #[.slice ao (s.of name).length co] w fun e w' => ∃ u, e = .returned u ∧ CmT w' u (cmdsL s (s.of name)) ∧ w' = w) := fun w hw => commandsOf_any (s.of name) _ (unhide HW w hw).1.bm (hof ▸ (unhide HW w hw).1.bm.of name) hxo (by omega)
  have CF : Hid (∀ w, Below W.heap.size W w → Calls Tryz.prog 240 #[.pointer (some ⟨wk, 0, none⟩), .string ⟨name.toArray⟩] w fun e w' => e = .returned (fitV rb (fitL s fs name us)) ∧ Below w.heap.size w w') := fun w hw => fitting_any us name (unhide HW w hw).1 (unhide HW w hw).2 hx hn hnm
  have CH : Hid (∀ w, Below W.heap.size W w → Calls Tryz.prog 174 #[.pointer (some ⟨c.bx, 0, none⟩), .string ⟨name.toArray⟩] w fun e w' => e = .returned (.bool (Pl.look fs name).isSome) ∧ Below w.heap.size w w') := fun w hw => has_any c.bx bf bi ve ef fs clock name w (unhide HW w hw).1.pw
  have HNF : Hid (nodeF s fs us name = if (cmdsL s (s.of name)).length = 0 ∧ decide (name ∈ s.ph) = false then match fitL s fs name us with | some (i, stem) => (nodP s name i stem, true) | none => (nod0 s name, canB s fs name) else (nod0 s name, canB s fs name)) := rfl
  have HB0 := hide b0
  have HRT := hide rT
  clear h hu b0 rT hof
  go_enter Tryz.func189, Tryz.ntmps189
  go_upto_region 3 with (first
    | (go_at_call 236; refine (unhide CO _ (unhide HB0)).mono ?_; clear CO; rintro e w0 ⟨rfl, rfl⟩)
    | (go_at_call 237; refine (unhide CP _ (unhide HB0)).mono ?_; clear CP; rintro e w1 ⟨rfl, hb1⟩; have HR1 := hide ((unhide HRT).later hb1); have HB1 := hide ((unhide HB0).trans (hb1.mono (unhide HB0).size)); clear hb1)
    | (go_at_call 238; refine (unhide CN _ (unhide HB1)).mono ?_; clear CN; rintro e w2 ⟨vn, rfl, hs2, hb2⟩; have HS2 := hide hs2; have HR2 := hide ((unhide HR1).later hb2); have HB2 := hide ((unhide HB1).trans (hb2.mono (unhide HB1).size)); clear hs2 hb2)
    | (go_at_call 239; refine (unhide CC _ (unhide HB2)).mono ?_; clear CC; rintro e w3 ⟨vc, rfl, hc3, hw3⟩; rw [hw3] at hc3 ⊢; have HC3 := hide hc3; clear hc3 hw3; obtain ⟨an, cn, hvn⟩ := (unhide HS2).sh; obtain ⟨am, cm, hvc⟩ := (unhide HC3).sh; subst hvn hvc)
    | fail)
  have rN := Row.new w2 197 [.string ⟨name.toArray⟩, .bool (decide (name ∈ s.ph)), .slice an (needsL s (s.of name)).length cn, .slice am (cmdsL s (s.of name)).length cm, .string ⟨#[]⟩]
  have bV := (Below.refl w2.heap.size w2).alloc (Nat.le_refl _) (.cells #[.string ⟨name.toArray⟩, .bool (decide (name ∈ s.ph)), .slice an (needsL s (s.of name)).length cn, .slice am (cmdsL s (s.of name)).length cm, .string ⟨#[]⟩] 197)
  have hTN : W.heap.size < w2.heap.size := (unhide HR2).lt
  have HRTV := hide ((unhide HR2).later bV)
  have HSV := hide ((unhide HS2).bl (Bl.below bV))
  have HCV := hide ((unhide HC3).bl (Bl.below bV))
  have HBV := hide ((unhide HB2).trans (bV.mono (unhide HB2).size))
  obtain ⟨N, hN⟩ : ∃ N, N = w2.heap.size := ⟨_, rfl⟩
  rw [← hN] at rN hTN
  rw [← hN]
  obtain ⟨V, hV⟩ : ∃ V, V = w2.alloc (.cells #[.string ⟨name.toArray⟩, .bool (decide (name ∈ s.ph)), .slice an (needsL s (s.of name)).length cn, .slice am (cmdsL s (s.of name)).length cm, .string ⟨#[]⟩] 197) := ⟨_, rfl⟩
  rw [← hV] at rN HRTV HSV HCV HBV ⊢
  have HRN := hide rN
  have HTG : Hid (tgB s name = decide (0 < (s.of name).length)) := rfl
  have HCB : Hid (canB s fs name = (tgB s name || decide (name ∈ s.ph) || (Pl.look fs name).isSome)) := rfl
  have HCL : Hid (0 < (cmdsL s (s.of name)).length → 0 < (s.of name).length) := fun e => by
    cases hq : s.of name with
    | nil => rw [hq] at e; simp [cmdsL] at e
    | cons x y => simp
  have HN0 : Hid (nod0 s name = ⟨name, decide (name ∈ s.ph), needsL s (s.of name), [], cmdsL s (s.of name)⟩) := rfl
  have HNP : Hid (∀ i stem, nodP s name i stem = ⟨name, decide (name ∈ s.ph), onceB (((rlOf s i).nd.map fun n => fillB n stem) ++ needsL s (s.of name)) [], stem, (rlOf s i).cs⟩) := fun _ _ => rfl
  clear hV hN HB2 HR2 HS2 HC3 bV HB1 HR1 hxo hnd hflat rN HB0 HRT c0
  generalize decide (name ∈ s.ph) = ph at *
  generalize needsL s (s.of name) = nds at *
  generalize cmdsL s (s.of name) = cms at *
  have g0 := (unhide HRN).cell? (i := 0) rfl
  have g1 := (unhide HRN).cell? (i := 1) rfl
  have g2 := (unhide HRN).cell? (i := 2) rfl
  have g3 := (unhide HRN).cell? (i := 3) rfl
  have g4 := (unhide HRN).cell? (i := 4) rfl
  have y0 := (unhide HRTV).cell? (i := 0) rfl
  have y1 := (unhide HRTV).cell? (i := 1) rfl
  have y2 := (unhide HRTV).cell? (i := 2) rfl
  have y3 := (unhide HRTV).cell? (i := 3) rfl
  have y4 := (unhide HRTV).cell? (i := 4) rfl
  have z0 := (unhide HRTV).frozen 0
  have z1 := (unhide HRTV).frozen 1
  have z2 := (unhide HRTV).frozen 2
  have z3 := (unhide HRTV).frozen 3
  have z4 := (unhide HRTV).frozen 4
  by_cases hc : cms.length = 0
  · have u1 : ((cms.length : Int) == 0) = true := by rw [beq_iff_eq]; omega
    cases ph with
    | true =>
      have HFF : Hid (nodeF s fs us name = (⟨name, true, nds, [], cms⟩, true)) := by
        show _ = _
        rw [unhide HNF, if_neg (by simp), unhide HN0, unhide HCB]
        simp
      clear HNF HN0 HCB HNP HCL
      obtain ⟨ph, hph⟩ : ∃ ph, ph = true := ⟨_, rfl⟩
      by_cases he : 0 < (s.of name).length
      · have u2 : (0 : Int) < ((s.of name).length : Int) := by omega
        clear hc hph ph
        go_wp2_with fail
        go_region
        all_goals go_wp2_with fail
        all_goals (obtain ⟨hR, hbl, hbb⟩ := nodeSet (unhide HRTV) (unhide HBV) (.string ⟨name.toArray⟩) (.bool true) (.slice an nds.length cn) (.slice am cms.length cm) (.string ⟨#[]⟩))
        all_goals have o0 := hR.cell? (i := 0) rfl
        all_goals have o1 := hR.cell? (i := 1) rfl
        all_goals have o2 := hR.cell? (i := 2) rfl
        all_goals have o3 := hR.cell? (i := 3) rfl
        all_goals have o4 := hR.cell? (i := 4) rfl
        all_goals refine bodyPost_ret (v := .tuple #[.agg #[.string ⟨name.toArray⟩, .bool true, .slice an nds.length cn, .slice am cms.length cm, .string ⟨#[]⟩], .bool true]) (by simp [results, Tryz.results189, go_sem, o0, o1, o2, o3, o4]) rfl ?_
        all_goals rw [unhide HFF]
        all_goals exact ⟨_, _, rfl, ((unhide HSV).bl hbl).bl (Bl.below (Below.refl _ _).drew), ((unhide HCV).bl hbl).bl (Bl.below (Below.refl _ _).drew), hbb.drew⟩
      · have u2 : ¬ (0 : Int) < ((s.of name).length : Int) := by omega
        clear hc hph ph
        go_wp2_with fail
        go_region
        all_goals go_wp2_with fail
        all_goals (obtain ⟨hR, hbl, hbb⟩ := nodeSet (unhide HRTV) (unhide HBV) (.string ⟨name.toArray⟩) (.bool true) (.slice an nds.length cn) (.slice am cms.length cm) (.string ⟨#[]⟩))
        all_goals have o0 := hR.cell? (i := 0) rfl
        all_goals have o1 := hR.cell? (i := 1) rfl
        all_goals have o2 := hR.cell? (i := 2) rfl
        all_goals have o3 := hR.cell? (i := 3) rfl
        all_goals have o4 := hR.cell? (i := 4) rfl
        all_goals refine bodyPost_ret (v := .tuple #[.agg #[.string ⟨name.toArray⟩, .bool true, .slice an nds.length cn, .slice am cms.length cm, .string ⟨#[]⟩], .bool true]) (by simp [results, Tryz.results189, go_sem, o0, o1, o2, o3, o4]) rfl ?_
        all_goals rw [unhide HFF]
        all_goals exact ⟨_, _, rfl, ((unhide HSV).bl hbl).bl (Bl.below (Below.refl _ _).drew), ((unhide HCV).bl hbl).bl (Bl.below (Below.refl _ _).drew), hbb.drew⟩
    | false =>
      have hNF := unhide HNF
      rw [if_pos ⟨hc, rfl⟩] at hNF
      have CF4 := hide (unhide CF V (unhide HBV))
      clear HNF CF
      cases hfit : fitL s fs name us with
      | none =>
        rw [hfit] at hNF CF4
        unfold fitV at CF4
        simp only at hNF CF4
        have HFF : Hid (nodeF s fs us name = (⟨name, false, nds, [], cms⟩, canB s fs name)) := by
          show _ = _
          rw [hNF, unhide HN0]
        clear hNF HN0 HNP HCL hfit
        by_cases he : 0 < (s.of name).length
        · have u2 : (0 : Int) < ((s.of name).length : Int) := by omega
          have hcan : canB s fs name = true := by rw [unhide HCB, unhide HTG, decide_eq_true he]; simp
          rw [hcan] at HFF
          clear hc hcan HCB
          go_wp2_with (first
            | (go_at_call 240; refine (unhide CF4).mono ?_; clear CF4; rintro e w4 ⟨rfl, hb4⟩; clear g0 g1 g2 g3 g4 y0 y1 y2 y3 y4 z0 z1 z2 z3 z4; have g0 := ((unhide HRN).later hb4).cell? (i := 0) rfl; have g1 := ((unhide HRN).later hb4).cell? (i := 1) rfl; have g2 := ((unhide HRN).later hb4).cell? (i := 2) rfl; have g3 := ((unhide HRN).later hb4).cell? (i := 3) rfl; have g4 := ((unhide HRN).later hb4).cell? (i := 4) rfl; have HRT4 := hide ((unhide HRTV).later hb4); have y0 := (unhide HRT4).cell? (i := 0) rfl; have y1 := (unhide HRT4).cell? (i := 1) rfl; have y2 := (unhide HRT4).cell? (i := 2) rfl; have y3 := (unhide HRT4).cell? (i := 3) rfl; have y4 := (unhide HRT4).cell? (i := 4) rfl; have z0 := (unhide HRT4).frozen 0; have z1 := (unhide HRT4).frozen 1; have z2 := (unhide HRT4).frozen 2; have z3 := (unhide HRT4).frozen 3; have z4 := (unhide HRT4).frozen 4; have HS4 := hide ((unhide HSV).bl (Bl.below hb4)); have HC4 := hide ((unhide HCV).bl (Bl.below hb4)); have HB4 := hide ((unhide HBV).trans (hb4.mono (unhide HBV).size)); clear hb4)
            | fail)
          go_region
          all_goals go_wp2_with fail
          all_goals (obtain ⟨hR, hbl, hbb⟩ := nodeSet (unhide HRT4) (unhide HB4) (.string ⟨name.toArray⟩) (.bool false) (.slice an nds.length cn) (.slice am cms.length cm) (.string ⟨#[]⟩))
          all_goals have o0 := hR.cell? (i := 0) rfl
          all_goals have o1 := hR.cell? (i := 1) rfl
          all_goals have o2 := hR.cell? (i := 2) rfl
          all_goals have o3 := hR.cell? (i := 3) rfl
          all_goals have o4 := hR.cell? (i := 4) rfl
          all_goals refine bodyPost_ret (v := .tuple #[.agg #[.string ⟨name.toArray⟩, .bool false, .slice an nds.length cn, .slice am cms.length cm, .string ⟨#[]⟩], .bool true]) (by simp [results, Tryz.results189, go_sem, o0, o1, o2, o3, o4]) rfl ?_
          all_goals rw [unhide HFF]
          all_goals exact ⟨_, _, rfl, ((unhide HS4).bl hbl).bl (Bl.below (Below.refl _ _).drew), ((unhide HC4).bl hbl).bl (Bl.below (Below.refl _ _).drew), hbb.drew⟩
        · have u2 : ¬ (0 : Int) < ((s.of name).length : Int) := by omega
          have hcan : canB s fs name = (Pl.look fs name).isSome := by rw [unhide HCB, unhide HTG, decide_eq_false he]; simp
          rw [hcan] at HFF
          clear hc hcan HCB
          generalize (Pl.look fs name).isSome = hs at *
          go_wp2_with (first
            | (go_at_call 240; refine (unhide CF4).mono ?_; clear CF4; rintro e w4 ⟨rfl, hb4⟩; clear g0 g1 g2 g3 g4 y0 y1 y2 y3 y4 z0 z1 z2 z3 z4; have HRN4 := hide ((unhide HRN).later hb4); have HRT4 := hide ((unhide HRTV).later hb4); have HS4 := hide ((unhide HSV).bl (Bl.below hb4)); have HC4 := hide ((unhide HCV).bl (Bl.below hb4)); have HB4 := hide ((unhide HBV).trans (hb4.mono (unhide HBV).size)); clear hb4)
            | fail)
          have g0 := (unhide HRN4).cell? (i := 0) rfl
          have g1 := (unhide HRN4).cell? (i := 1) rfl
          have g2 := (unhide HRN4).cell? (i := 2) rfl
          have g3 := (unhide HRN4).cell? (i := 3) rfl
          have g4 := (unhide HRN4).cell? (i := 4) rfl
          have hW4 := (unhide HW w4 (unhide HB4)).1.row
          have k1 := hW4.cell? (i := 1) rfl
          have HW4 := hide hW4
          have gd0 : w4.drew.cell? ⟨N, 0, none⟩ = some (.string ⟨name.toArray⟩) := g0
          have gd1 : w4.drew.cell? ⟨N, 1, none⟩ = some (.bool false) := g1
          have gd2 : w4.drew.cell? ⟨N, 2, none⟩ = some (.slice an nds.length cn) := g2
          have gd3 : w4.drew.cell? ⟨N, 3, none⟩ = some (.slice am cms.length cm) := g3
          have gd4 : w4.drew.cell? ⟨N, 4, none⟩ = some (.string ⟨#[]⟩) := g4
          have kd1 : w4.drew.cell? ⟨wk, 1, none⟩ = some (.pointer (some ⟨c.bx, 0, none⟩)) := k1
          have hneN : N ≠ W.heap.size := by omega
          have hneK : wk ≠ W.heap.size := by omega
          clear hW4
          go_region_held_law (fun w' => w'.cell? ⟨N, 0, none⟩ = some (.string ⟨name.toArray⟩) ∧ w'.cell? ⟨N, 1, none⟩ = some (.bool false) ∧ w'.cell? ⟨N, 2, none⟩ = some (.slice an nds.length cn) ∧ w'.cell? ⟨N, 3, none⟩ = some (.slice am cms.length cm) ∧ w'.cell? ⟨N, 4, none⟩ = some (.string ⟨#[]⟩) ∧ w'.cell? ⟨wk, 1, none⟩ = some (.pointer (some ⟨c.bx, 0, none⟩))) (first | with_reducible exact ⟨gd0, gd1, gd2, gd3, gd4, kd1⟩ | with_reducible exact ⟨l0, l1, l2, l3, l4, m1⟩ | with_reducible exact ⟨p0, p1, p2, p3, p4, q1⟩) (first
            | (go_simp; go_at_call 174; refine (unhide CH _ (unhide HB4).drew).mono ?_; rintro e w5 ⟨rfl, hb5x⟩; have hb5 : Below w4.heap.size w4 w5 := (Below.refl w4.heap.size w4).drew.trans hb5x; have HRN5 := hide ((unhide HRN4).later hb5); have l0 := (unhide HRN5).cell? (i := 0) rfl; have l1 := (unhide HRN5).cell? (i := 1) rfl; have l2 := (unhide HRN5).cell? (i := 2) rfl; have l3 := (unhide HRN5).cell? (i := 3) rfl; have l4 := (unhide HRN5).cell? (i := 4) rfl; have HW5 := hide ((unhide HW4).later hb5); have m1 := (unhide HW5).cell? (i := 1) rfl; have HRT5 := hide ((unhide HRT4).later hb5); have y0 := (unhide HRT5).cell? (i := 0) rfl; have y1 := (unhide HRT5).cell? (i := 1) rfl; have y2 := (unhide HRT5).cell? (i := 2) rfl; have y3 := (unhide HRT5).cell? (i := 3) rfl; have y4 := (unhide HRT5).cell? (i := 4) rfl; have z0 := (unhide HRT5).frozen 0; have z1 := (unhide HRT5).frozen 1; have z2 := (unhide HRT5).frozen 2; have z3 := (unhide HRT5).frozen 3; have z4 := (unhide HRT5).frozen 4; have HS5 := hide ((unhide HS4).bl (Bl.below hb5)); have HC5 := hide ((unhide HC4).bl (Bl.below hb5)); have HB5 := hide ((unhide HB4).trans (hb5.mono (unhide HB4).size)); have hN5 := (((((unhide HRN5).other hneN 0 (.string ⟨name.toArray⟩)).other hneN 1 (.bool false)).other hneN 2 (.slice an nds.length cn)).other hneN 3 (.slice am cms.length cm)).other hneN 4 (.string ⟨#[]⟩); have p0 := hN5.cell? (i := 0) rfl; have p1 := hN5.cell? (i := 1) rfl; have p2 := hN5.cell? (i := 2) rfl; have p3 := hN5.cell? (i := 3) rfl; have p4 := hN5.cell? (i := 4) rfl; have q1 := ((((((unhide HW5).other hneK 0 (.string ⟨name.toArray⟩)).other hneK 1 (.bool false)).other hneK 2 (.slice an nds.length cn)).other hneK 3 (.slice am cms.length cm)).other hneK 4 (.string ⟨#[]⟩)).cell? (i := 1) rfl; clear hb5 hb5x hN5)
            | fail)
          all_goals go_wp2_with fail
          all_goals (obtain ⟨hR, hbl, hbb⟩ := nodeSet (unhide HRT5) (unhide HB5) (.string ⟨name.toArray⟩) (.bool false) (.slice an nds.length cn) (.slice am cms.length cm) (.string ⟨#[]⟩))
          all_goals have o0 := hR.cell? (i := 0) rfl
          all_goals have o1 := hR.cell? (i := 1) rfl
          all_goals have o2 := hR.cell? (i := 2) rfl
          all_goals have o3 := hR.cell? (i := 3) rfl
          all_goals have o4 := hR.cell? (i := 4) rfl
          all_goals refine bodyPost_ret (v := .tuple #[.agg #[.string ⟨name.toArray⟩, .bool false, .slice an nds.length cn, .slice am cms.length cm, .string ⟨#[]⟩], .bool hs]) (by simp [results, Tryz.results189, go_sem, o0, o1, o2, o3, o4]) rfl ?_
          all_goals rw [unhide HFF]
          all_goals exact ⟨_, _, rfl, (unhide HS5).bl hbl, (unhide HC5).bl hbl, hbb⟩
      | some fx =>
        obtain ⟨fi, stem⟩ := fx
        rw [hfit] at hNF CF4
        unfold fitV at CF4
        simp only at hNF CF4
        obtain ⟨hfi, hst⟩ := fitL_mem hfit
        obtain ⟨xx, hxx, rfl⟩ := hfi
        have hfl := (hx xx hxx).1
        have hrl := rlOf_ok hok hfl
        have HFF : Hid (nodeF s fs us name = (⟨name, false, onceB (((rlOf s xx.1).nd.map fun n => fillB n stem) ++ nds) [], stem, (rlOf s xx.1).cs⟩, true)) := by
          show _ = _
          rw [hNF, unhide HNP]
        clear hNF HN0 HNP HCL hfit hc HCB
        generalize xx.1 = fi at *
        have r1' := hrl.nl
        have r2' := hrl.nw
        generalize hrd : rlOf s fi = rr at *
        unfold ptrV at CF4
        go_wp2_with (first
          | (go_at_call 240; refine (unhide CF4).mono ?_; clear CF4; rintro e w4 ⟨rfl, hb4⟩; clear g0 g1 g2 g3 g4 y0 y1 y2 y3 y4 z0 z1 z2 z3 z4; have HRN4 := hide ((unhide HRN).later hb4); have HRT4 := hide ((unhide HRTV).later hb4); have HS4 := hide ((unhide HSV).bl (Bl.below hb4)); have HB4 := hide ((unhide HBV).trans (hb4.mono (unhide HBV).size)); clear hb4)
          | fail)
        have hM4 := (unhide HW w4 (unhide HB4)).1
        obtain ⟨vt, vnr, vcr, rl1, -, rl3, rl4⟩ := hM4.bm.rules fi hfl
        rw [hrd] at rl3 rl4
        obtain ⟨ar, cr, rfl⟩ := rl3.sh
        obtain ⟨aq, cq, rfl⟩ := rl4.sh
        obtain ⟨nb, no, hnb⟩ := rl3.rd
        have hne1 : rb fi ≠ N := fun e => by
          have q1 := rl1
          have q2 := unhide HRN4
          unfold Row at q1 q2
          rw [e, q2] at q1
          cases q1
        have hneN : N ≠ W.heap.size := by omega
        have a1 := rl1.cell? (i := 1) rfl
        have a2 := (unhide HRN4).cell? (i := 2) rfl
        have hb4d : Below w4.heap.size w4 w4.drew := (Below.refl _ w4).drew
        have CS := hide (withStem_any rr.nd stem ar cr nb no w4.drew (fun e => ⟨(hnb e).1, (hnb e).2.1, (hnb e).2.2.below hb4d (hnb e).2.1⟩) (hM4.glob.later hb4d) (by omega) (fun n hn => ⟨by have := r2' n hn; omega, by
          have h1 := r2' n hn
          have h2 := cnt_le n
          have h3 : Lib.countB ⟨n.toArray⟩ ⟨#[37]⟩ * stem.length ≤ 2000 * 1073741824 := Nat.mul_le_mul (by omega) (by omega)
          omega⟩))
        have CQ : Hid (∀ w5 u6, Below w4.heap.size w4 w5 → SlT w5 u6 (rr.nd.map fun n => fillB n stem) → Calls Tryz.prog 230 #[.slice (some ⟨w5.heap.size, 0, none⟩) 2 2] (w5.alloc (.cells #[u6, .slice an nds.length cn] 30)) fun e w' => ∃ u, e = .returned u ∧ SlT w' u (onceB (((rr.nd.map fun n => fillB n stem)) ++ nds) []) ∧ Below w4.heap.size w4 w') := fun w5 u6 hw5 hu6 => by
          have b2 := (Below.refl w5.heap.size w5).alloc (Nat.le_refl _) (.cells #[u6, .slice an nds.length cn] 30)
          have hfl2 : [(rr.nd.map fun n => fillB n stem), nds].flatten = (rr.nd.map fun n => fillB n stem) ++ nds := by simp
          have hC := once_any [(rr.nd.map fun n => fillB n stem), nds] (some ⟨w5.heap.size, 0, none⟩) 2 w5.heap.size 0 (w5.alloc (.cells #[u6, .slice an nds.length cn] 30)) (fun _ => ⟨rfl, by simp, fun j x hj => ?_⟩) (by simp) (by rw [hfl2, List.length_append, List.length_map]; omega)
          · rw [hfl2] at hC
            refine hC.mono ?_
            rintro e w' ⟨u, rfl, ho, hb⟩
            have e1 := World.size_alloc w5 (.cells #[u6, .slice an nds.length cn] 30)
            exact ⟨u, rfl, SlT.own ho, (hw5.trans (b2.mono hw5.size)).trans (hb.mono (by have := hw5.size; omega))⟩
          · have hrow := Row.new w5 30 [u6, .slice an nds.length cn]
            match j, hj with
            | 0, hj => cases hj; exact ⟨_, hrow.cell? (i := 0) rfl, (hu6.bl (Bl.below b2)).sls⟩
            | 1, hj => cases hj; exact ⟨_, hrow.cell? (i := 1) rfl, (((unhide HS4).bl (Bl.below hw5)).bl (Bl.below b2)).sls⟩
        have HRL := hide rl1
        have HCM := hide rl4
        clear hM4 rl1 rl3 rl4 hnb hb4d
        go_region_law (first
          | (go_simp; go_at_call 241; refine (unhide CS).mono ?_; rintro e w5 ⟨u6, rfl, ho6, hb6⟩; have hb5 : Below w4.heap.size w4 w5 := (Below.refl w4.heap.size w4).drew.trans hb6; have c2 := ((unhide HRN4).later hb5).cell? (i := 2) rfl; have HT6 : Hid (SlT w5 u6 (rr.nd.map fun n => fillB n stem)) := SlT.own (by rw [List.length_map, List.map_map]; exact ho6); have HB5 := hide hb5; obtain ⟨a6, c6, rfl⟩ := own_sh ho6; clear ho6 hb6 hb5)
          | (go_simp; go_at_call 230; refine (unhide CQ w5 _ (unhide HB5) (unhide HT6)).mono ?_; rintro e w6 ⟨u7, rfl, hs7, hb7⟩; have HRN6 := hide ((unhide HRN4).later hb7); have HRL6 := hide ((unhide HRL).later hb7); have HRT6 := hide ((unhide HRT4).later hb7); have HCM6 := hide ((unhide HCM).bl (Bl.below hb7)); have HS7 := hide hs7; obtain ⟨a7, c7, rfl⟩ := hs7.sh; have HB6 := hide ((unhide HB4).trans (hb7.mono (unhide HB4).size)); have i0 := (unhide HRN6).cell? (i := 0) rfl; have i1 := (unhide HRN6).cell? (i := 1) rfl; have i2 := (unhide HRN6).cell? (i := 2) rfl; have i3 := (unhide HRN6).cell? (i := 3) rfl; have i4 := (unhide HRN6).cell? (i := 4) rfl; have f2 := (unhide HRN6).frozen 2; have f3 := (unhide HRN6).frozen 3; have f4 := (unhide HRN6).frozen 4; have j2 := (unhide HRL6).cell? (i := 2) rfl; have y0 := (unhide HRT6).cell? (i := 0) rfl; have y1 := (unhide HRT6).cell? (i := 1) rfl; have y2 := (unhide HRT6).cell? (i := 2) rfl; have y3 := (unhide HRT6).cell? (i := 3) rfl; have y4 := (unhide HRT6).cell? (i := 4) rfl; have z0 := (unhide HRT6).frozen 0; have z1 := (unhide HRT6).frozen 1; have z2 := (unhide HRT6).frozen 2; have z3 := (unhide HRT6).frozen 3; have z4 := (unhide HRT6).frozen 4; clear hs7 hb7)
          | fail)
        all_goals go_wp2_with fail
        all_goals have hT9 := (((unhide HRT6).other hneN.symm 2 (.slice a7 (onceB (List.map (fun n => fillB n stem) rr.nd ++ nds) []).length c7)).other hneN.symm 3 (.slice aq rr.cs.length cq)).other hneN.symm 4 (.string ⟨stem.toArray⟩)
        all_goals have hB9 := (((unhide HB6).setCell (p := ⟨N, 2, none⟩) (Nat.le_of_lt hTN) (.slice a7 (onceB (List.map (fun n => fillB n stem) rr.nd ++ nds) []).length c7)).setCell (p := ⟨N, 3, none⟩) (Nat.le_of_lt hTN) (.slice aq rr.cs.length cq)).setCell (p := ⟨N, 4, none⟩) (Nat.le_of_lt hTN) (.string ⟨stem.toArray⟩)
        all_goals have hbl9 := ((blSet (o := 2) (unhide HRN6) (.slice a7 (onceB (List.map (fun n => fillB n stem) rr.nd ++ nds) []).length c7)).trans (blSet (o := 3) ((unhide HRN6).set 2 _) (.slice aq rr.cs.length cq))).trans (blSet (o := 4) (((unhide HRN6).set 2 _).set 3 _) (.string ⟨stem.toArray⟩))
        all_goals (obtain ⟨hR, hbl, hbb⟩ := nodeSet hT9 hB9 (.string ⟨name.toArray⟩) (.bool false) (.slice a7 (onceB (List.map (fun n => fillB n stem) rr.nd ++ nds) []).length c7) (.slice aq rr.cs.length cq) (.string ⟨stem.toArray⟩))
        all_goals have o0 := hR.cell? (i := 0) rfl
        all_goals have o1 := hR.cell? (i := 1) rfl
        all_goals have o2 := hR.cell? (i := 2) rfl
        all_goals have o3 := hR.cell? (i := 3) rfl
        all_goals have o4 := hR.cell? (i := 4) rfl
        all_goals refine bodyPost_ret (v := .tuple #[.agg #[.string ⟨name.toArray⟩, .bool false, .slice a7 (onceB (List.map (fun n => fillB n stem) rr.nd ++ nds) []).length c7, .slice aq rr.cs.length cq, .string ⟨stem.toArray⟩], .bool true]) (by simp [results, Tryz.results189, go_sem, o0, o1, o2, o3, o4]) rfl ?_
        all_goals rw [unhide HFF]
        all_goals exact ⟨_, _, rfl, ((unhide HS7).bl hbl9).bl hbl, ((unhide HCM6).bl hbl9).bl hbl, hbb⟩
  · have u1 : ((cms.length : Int) == 0) = false := by rw [beq_eq_false_iff_ne]; omega
    have hpos := unhide HCL (by omega)
    have u2 : (0 : Int) < ((s.of name).length : Int) := by omega
    have HFF : Hid (nodeF s fs us name = (⟨name, ph, nds, [], cms⟩, true)) := by
      show _ = _
      rw [unhide HNF, if_neg (fun e => hc e.1), unhide HN0, unhide HCB, unhide HTG, decide_eq_true hpos]
      simp
    clear HNF HN0 HCB HNP HCL hc
    go_wp2_with fail
    go_region
    all_goals go_wp2_with fail
    all_goals (obtain ⟨hR, hbl, hbb⟩ := nodeSet (unhide HRTV) (unhide HBV) (.string ⟨name.toArray⟩) (.bool ph) (.slice an nds.length cn) (.slice am cms.length cm) (.string ⟨#[]⟩))
    all_goals have o0 := hR.cell? (i := 0) rfl
    all_goals have o1 := hR.cell? (i := 1) rfl
    all_goals have o2 := hR.cell? (i := 2) rfl
    all_goals have o3 := hR.cell? (i := 3) rfl
    all_goals have o4 := hR.cell? (i := 4) rfl
    all_goals refine bodyPost_ret (v := .tuple #[.agg #[.string ⟨name.toArray⟩, .bool ph, .slice an nds.length cn, .slice am cms.length cm, .string ⟨#[]⟩], .bool true]) (by simp [results, Tryz.results189, go_sem, o0, o1, o2, o3, o4]) rfl ?_
    all_goals rw [unhide HFF]
    all_goals exact ⟨_, _, rfl, ((unhide HSV).bl hbl).bl (Bl.below (Below.refl _ _).drew), ((unhide HCV).bl hbl).bl (Bl.below (Below.refl _ _).drew), hbb.drew⟩
end
end Go.Proofs.YtjelacjggijmfaaGreatDoor
