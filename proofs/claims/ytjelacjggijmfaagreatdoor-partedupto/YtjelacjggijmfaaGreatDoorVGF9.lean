/-
  The nodes that are over: how much they are.
  The nodes that goals.Order leaves, as compile.stepsOf reads them.
  The nodes that are over: how many needs they have.
  What a walk over a goal's nodes leaves: each need of a node that is over is over.
  The names that a goal's walk can come to.
-/
import Derived.Test.YtjelacjggijmfaaGreatDoorVGF5
import Derived.Test.YtjelacjggijmfaaGreatDoorVWS4
namespace Go.Proofs.YtjelacjggijmfaaGreatDoor
open Go.RowKit Go.MapKept Go.ChangeMaps Go.Maps

theorem fill_none {n stem : Pl.Bs} (h : placeB n = false) : fillB n stem = n := by
  unfold placeB Lib.contains at h
  rw [decide_eq_false_iff_not] at h
  have hg := Lib.index_ge n [37]
  have hm : Lib.index n [37] = -1 := by omega
  unfold fillB Lib.replaceAll Lib.replace
  split
  · rfl
  · have e : Lib.replaceNum n [37] (-1) = 0 := by
      unfold Lib.replaceNum
      rw [if_pos (.inl (by decide)), Lib.count_miss hm]
    rw [e]; rfl
theorem fitL_all {s : St} {fs : List Pl.File} {name : Pl.Bs} : ∀ {us : List (Nat × List Pl.Bs)} {i : Nat} {stem : Pl.Bs}, fitL s fs name us = some (i, stem) → ∃ x ∈ us, x.1 = i ∧ x.2.all (thereB fs (tgB s) stem) = true
  | [], _, _, h => by cases h
  | x :: r, i, stem, h => by
    rw [fitL] at h
    split at h
    · rename_i q
      cases h
      exact ⟨x, List.mem_cons_self .., rfl, q.2⟩
    · obtain ⟨y, h1, h2⟩ := fitL_all h
      exact ⟨y, List.mem_cons_of_mem _ h1, h2⟩
/-- The names. -/
def uniL (s : St) (fs : List Pl.File) (g : Pl.Bs) : List Pl.Bs := g :: ((s.rules.map (·.nd)).flatten ++ ((s.rules.map (·.tg)).flatten ++ fs.map (·.path)))
theorem flatR_len (f : Rl → List Pl.Bs) (B : Nat) : ∀ xs : List Rl, (∀ r ∈ xs, (f r).length ≤ B) → (xs.map f).flatten.length ≤ xs.length * B
  | [], _ => by simp
  | x :: r, h => by
    have ih := flatR_len f B r (fun i hi => h i (List.mem_cons_of_mem _ hi))
    have h1 := h x (List.mem_cons_self ..)
    rw [List.map_cons, List.flatten_cons, List.length_append, List.length_cons, Nat.succ_mul]
    omega
section
variable {s : St} {fs : List Pl.File} {g : Pl.Bs} {k : Nat}
theorem rlOf_mem {i : Nat} (hi : i < s.rules.length) : rlOf s i ∈ s.rules := by
  have e : rlOf s i = s.rules[i] := by unfold rlOf; simp [hi]
  rw [e]
  exact List.getElem_mem hi
theorem nd_uni {i : Nat} (hi : i < s.rules.length) {y : Pl.Bs} (hy : y ∈ (rlOf s i).nd) : y ∈ uniL s fs g :=
  List.mem_cons_of_mem _ (List.mem_append_left _ (List.mem_flatten.2 ⟨_, List.mem_map.2 ⟨_, rlOf_mem hi, rfl⟩, hy⟩))
theorem needsL_uni {xs : List Nat} (hx : ∀ i ∈ xs, i < s.rules.length) {y : Pl.Bs} (hy : y ∈ needsL s xs) : y ∈ uniL s fs g := by
  unfold needsL at hy
  split at hy
  · rename_i h1
    match xs, h1, hx, hy with
    | [i], _, hx, hy => exact nd_uni (hx i (List.mem_cons_self ..)) hy
  · rcases (onceB_len _ _).2 y hy with q | q
    · obtain ⟨z, h1, h2⟩ := List.mem_flatten.1 q
      obtain ⟨i, h3, rfl⟩ := List.mem_map.1 h1
      exact nd_uni (hx i h3) h2
    · cases q
theorem there_uni (ht : Tgs s) {stem n : Pl.Bs} (h : thereB fs (tgB s) stem n = true) : fillB n stem ∈ uniL s fs g := by
  unfold thereB at h
  rw [Bool.or_eq_true] at h
  rcases h with h | h
  · cases hl : Pl.look fs (fillB n stem) with
    | none => rw [hl] at h; cases h
    | some f =>
      by_cases q : fillB n stem ∈ fs.map (·.path)
      · exact List.mem_cons_of_mem _ (List.mem_append_right _ (List.mem_append_right _ q))
      · rw [Pl.look_none.2 q] at hl; cases hl
  · unfold tgB at h
    have h1 := of_decide_eq_true h
    obtain ⟨r, h2, h3⟩ := ht.tg (fillB n stem) (fun e => by rw [e] at h1; cases h1)
    exact List.mem_cons_of_mem _ (List.mem_append_right _ (List.mem_append_left _ (List.mem_flatten.2 ⟨_, List.mem_map.2 ⟨r, h2, rfl⟩, h3⟩)))
theorem needsL_most (hok : Ok s k) (name : Pl.Bs) (hol : ∀ i ∈ s.of name, i < s.rules.length) : (needsL s (s.of name)).length ≤ 256000000 := by
  have h1 := hok.ol name
  have h2 := hok.tl
  have h3 := hok.n64
  have h4 := flat_len (fun i => (rlOf s i).nd) 2000 (s.of name) (fun i hi => (rlOf_ok hok (hol i hi)).nl)
  unfold needsL
  split
  · rename_i e
    match s.of name, e, hol with
    | [i], _, hol =>
      have := (rlOf_ok hok (hol i (List.mem_cons_self ..))).nl
      simp only [List.headD_cons]; omega
  · have := (onceB_len (((s.of name).map fun i => (rlOf s i).nd).flatten) []).1
    rw [List.length_nil] at this
    omega
/-- They are enough. -/
theorem uni_any (hok : Ok s k) (ht : Tgs s) (hol : ∀ name, ∀ i ∈ s.of name, i < s.rules.length) (hpl : ∀ i ∈ s.pats, i < s.rules.length) (hfl : fs.length ≤ 4000000000) (hfp : ∀ f ∈ fs, f.path.length ≤ 1073741824) (hg : g.length ≤ 1073741824) :
    Uni s fs (usL s fs s.pats) (uniL s fs g) 256002000 := by
  have hfit : ∀ name i stem, fitL s fs name (usL s fs s.pats) = some (i, stem) → i < s.rules.length ∧ ∀ n ∈ (rlOf s i).nd, fillB n stem ∈ uniL s fs g := fun name i stem h => by
    obtain ⟨x, h1, h2, h3⟩ := fitL_all h
    unfold usL at h1
    obtain ⟨j, h4, rfl⟩ := List.mem_map.1 h1
    simp only at h2 h3
    subst h2
    have hj := hpl j (List.mem_filter.1 h4).1
    refine ⟨hj, fun n hn => ?_⟩
    by_cases hp : placeB n = true
    · exact there_uni ht (List.all_eq_true.1 h3 n (List.mem_filter.2 ⟨hn, hp⟩))
    · rw [fill_none (by simpa using hp)]
      exact nd_uni hj hn
  refine ⟨fun name y hy => ?_, fun name => ?_, by decide, ?_, fun y hy => ?_⟩
  · have h0 : y ∈ (nod0 s name).needs → y ∈ uniL s fs g := fun h => needsL_uni (hol name) h
    unfold nodeF at hy
    split at hy
    · split at hy
      · rename_i i stem e
        obtain ⟨h1, h2⟩ := hfit name i stem e
        rcases (onceB_len _ _).2 y hy with q | q
        · rcases List.mem_append.1 q with q | q
          · obtain ⟨n, h3, rfl⟩ := List.mem_map.1 q
            exact h2 n h3
          · exact needsL_uni (hol name) q
        · cases q
      · exact h0 hy
    · exact h0 hy
  · have hl := needsL_most hok name (hol name)
    have h0 : (nod0 s name).needs.length ≤ 256002000 := by
      show (needsL s (s.of name)).length ≤ _
      omega
    unfold nodeF
    split
    · split
      · rename_i i stem e
        have h1 := (rlOf_ok hok (hfit name i stem e).1).nl
        have h2 := (onceB_len (((rlOf s i).nd.map fun n => fillB n stem) ++ needsL s (s.of name)) []).1
        rw [List.length_append, List.length_map, List.length_nil] at h2
        show (onceB (((rlOf s i).nd.map fun n => fillB n stem) ++ needsL s (s.of name)) []).length ≤ _
        omega
      · exact h0
    · exact h0
  · have h1 := flatR_len (·.nd) 2000 s.rules (fun r hr => (hok.rs r hr).nl)
    have h2 := flatR_len (·.tg) 2000 s.rules (fun r hr => (hok.rs r hr).tl)
    have h3 := hok.rl
    have h4 := hok.n64
    unfold uniL
    rw [List.length_cons, List.length_append, List.length_append, List.length_map]
    omega
  · rcases List.mem_cons.1 hy with q | q
    · rw [q]; exact hg
    · rcases List.mem_append.1 q with q | q
      · obtain ⟨z, h1, h2⟩ := List.mem_flatten.1 q
        obtain ⟨r, h3, rfl⟩ := List.mem_map.1 h1
        have := (hok.rs r h3).nw y h2
        omega
      · rcases List.mem_append.1 q with q | q
        · obtain ⟨z, h1, h2⟩ := List.mem_flatten.1 q
          obtain ⟨r, h3, rfl⟩ := List.mem_map.1 h1
          have := (hok.rs r h3).tw y h2
          omega
        · obtain ⟨f, h1, rfl⟩ := List.mem_map.1 q
          exact hfp f h1
end
end Go.Proofs.YtjelacjggijmfaaGreatDoor
namespace Go.Proofs.YtjelacjggijmfaaGreatDoor
open Go.RowKit Go.MapKept Go.ChangeMaps Go.Maps

theorem flagOf_put (k n : Pl.Bs) (v : Nat) : ∀ fl : Flags, flagOf (flPut fl k v) n = if k = n then v else flagOf fl n
  | [] => by
    unfold flagOf flPut
    by_cases h : k = n
    · rw [if_pos h, List.find?_cons_of_pos (by simpa using h)]; rfl
    · rw [if_neg h, List.find?_cons_of_neg (by simpa using h)]
  | x :: r => by
    have ih := flagOf_put k n v r
    rw [flPut]
    by_cases hx : x.1 = k
    · rw [if_pos (beq_iff_eq.2 hx)]
      unfold flagOf
      by_cases h : k = n
      · rw [if_pos h, List.find?_cons_of_pos (by simpa using h)]; rfl
      · rw [if_neg h, List.find?_cons_of_neg (by simpa using h), List.find?_cons_of_neg (by rw [hx]; simpa using h)]
    · rw [if_neg (by simpa using hx)]
      by_cases h : x.1 = n
      · have hk : k ≠ n := fun q => hx (h.trans q.symm)
        rw [if_neg hk]
        unfold flagOf
        rw [List.find?_cons_of_pos (by simpa using h), List.find?_cons_of_pos (by simpa using h)]
      · have e1 : flagOf (x :: flPut r k v) n = flagOf (flPut r k v) n := by
          unfold flagOf
          rw [List.find?_cons_of_neg (by simpa using h)]
        have e2 : flagOf (x :: r) n = flagOf r n := by
          unfold flagOf
          rw [List.find?_cons_of_neg (by simpa using h)]
        rw [e1, e2]; exact ih
/-- What the open ones have looked at is over, or opened behind them. -/
def LkOk (two : Pl.Bs → Prop) (pend : Option Pl.Bs) : List (Nod × Nat) → Prop
  | [] => True
  | x :: r => (∀ j, j < x.2 → two (x.1.needs.getD j []) ∨ (∃ y ∈ r, y.1.name = x.1.needs.getD j []) ∨ pend = some (x.1.needs.getD j [])) ∧ LkOk two pend r
theorem LkOk.bump {two : Pl.Bs → Prop} {x : Nod × Nat} : ∀ d : List (Nod × Nat), LkOk two none (d ++ [x]) → LkOk two (some (x.1.needs.getD x.2 [])) (d ++ [(x.1, x.2 + 1)])
  | [], h => by
    refine ⟨fun j hj => ?_, trivial⟩
    by_cases e : j = x.2
    · rw [e]; exact .inr (.inr rfl)
    · rcases h.1 j (by simp only at hj; omega) with q | ⟨y, q, _⟩ | q
      · exact .inl q
      · cases q
      · cases q
  | z :: r, h => by
    refine ⟨fun j hj => ?_, LkOk.bump r h.2⟩
    rcases h.1 j hj with q | ⟨y, q, e⟩ | q
    · exact .inl q
    · refine .inr (.inl ?_)
      rcases List.mem_append.1 q with q | q
      · exact ⟨y, List.mem_append_left _ q, e⟩
      · rw [List.mem_singleton] at q
        rw [q] at e
        exact ⟨(x.1, x.2 + 1), List.mem_append_right _ (List.mem_singleton.2 rfl), e⟩
    · cases q
theorem LkOk.push {two two' : Pl.Bs → Prop} {z : Nod × Nat} (ht : ∀ n, two n → two' n) (hz : z.2 = 0) : ∀ d : List (Nod × Nat), LkOk two (some z.1.name) d → LkOk two' none (d ++ [z])
  | [], _ => ⟨fun j hj => (by rw [hz] at hj; cases hj), trivial⟩
  | x :: r, h => by
    refine ⟨fun j hj => ?_, LkOk.push ht hz r h.2⟩
    rcases h.1 j hj with q | ⟨y, q, e⟩ | q
    · exact .inl (ht _ q)
    · exact .inr (.inl ⟨y, List.mem_append_left _ q, e⟩)
    · refine .inr (.inl ⟨z, List.mem_append_right _ (List.mem_singleton.2 rfl), ?_⟩)
      exact Option.some.inj q
theorem LkOk.seen {two : Pl.Bs → Prop} {nm : Pl.Bs} (hn : two nm) : ∀ d : List (Nod × Nat), LkOk two (some nm) d → LkOk two none d
  | [], _ => trivial
  | x :: r, h => by
    refine ⟨fun j hj => ?_, LkOk.seen hn r h.2⟩
    rcases h.1 j hj with q | q | q
    · exact .inl q
    · exact .inr (.inl q)
    · exact .inl (Option.some.inj q ▸ hn)
theorem LkOk.leave {two two' : Pl.Bs → Prop} {x : Nod × Nat} (ht : ∀ n, two n → two' n) (hx : two' x.1.name) : ∀ d : List (Nod × Nat), LkOk two none (d ++ [x]) → LkOk two' none d
  | [], _ => trivial
  | z :: r, h => by
    refine ⟨fun j hj => ?_, LkOk.leave ht hx r h.2⟩
    rcases h.1 j hj with q | ⟨y, q, e⟩ | q
    · exact .inl (ht _ q)
    · rcases List.mem_append.1 q with q | q
      · exact .inr (.inl ⟨y, q, e⟩)
      · rw [List.mem_singleton] at q
        rw [q] at e
        exact .inl (e ▸ hx)
    · cases q
theorem LkOk.last {two : Pl.Bs → Prop} {x : Nod × Nat} : ∀ d : List (Nod × Nat), LkOk two none (d ++ [x]) → ∀ j, j < x.2 → two (x.1.needs.getD j [])
  | [], h, j, hj => by
    rcases h.1 j hj with q | ⟨y, q, _⟩ | q
    · exact q
    · cases q
    · cases q
  | _ :: r, h, j, hj => LkOk.last r h.2 j hj
structure OvI (s : St) (fs : List Pl.File) (us : List (Nat × List Pl.Bs)) (pend : Option Pl.Bs) (t : Wst) : Prop where
  nodo : ∀ x ∈ t.opn, x.1 = (nodeF s fs us x.1.name).1 ∧ flagOf t.sts x.1.name = 1
  opd : (t.opn.map (·.1.name)).Nodup
  lk : LkOk (fun n => flagOf t.sts n = 2) pend t.opn
  ovn : ∀ x ∈ t.over, x = (nodeF s fs us x.name).1 ∧ flagOf t.sts x.name = 2 ∧ ∀ n ∈ x.needs, flagOf t.sts n = 2
  ovd : (t.over.map (·.name)).Nodup
  all : t.over.length ≤ 100 → ∀ n, flagOf t.sts n = 2 → ∃ x ∈ t.over, x.name = n
section
variable {s : St} {fs : List Pl.File} {us : List (Nat × List Pl.Bs)} {t : Wst}
theorem enter_ov {name : Pl.Bs} (h : OvI s fs us (some name) t) (h0 : (enterF s fs us t name).1 = 0) : OvI s fs us none (enterF s fs us t name).2 := by
  unfold enterF at h0 ⊢
  by_cases h2 : flagOf t.sts name = 2
  · rw [if_pos h2]; exact ⟨h.nodo, h.opd, LkOk.seen (two := fun n => flagOf t.sts n = 2) h2 _ h.lk, h.ovn, h.ovd, h.all⟩
  rw [if_neg h2] at h0 ⊢
  by_cases h1 : flagOf t.sts name = 1
  · rw [if_pos h1] at h0; cases h0
  rw [if_neg h1] at h0 ⊢
  by_cases h3 : (nodeF s fs us name).2 = false
  · rw [if_pos h3] at h0; cases h0
  rw [if_neg h3] at h0 ⊢
  have up : ∀ n v, flagOf t.sts n = v → n ≠ name → flagOf (flPut t.sts name 1) n = v := fun n v e hn => by
    rw [flagOf_put, if_neg (fun q => hn q.symm)]; exact e
  have up2 : ∀ n, flagOf t.sts n = 2 → flagOf (flPut t.sts name 1) n = 2 := fun n e => up n 2 e (fun q => h2 (q ▸ e))
  refine ⟨fun x hx => ?_, ?_, ?_, fun x hx => ?_, h.ovd, fun hl n hn => ?_⟩
  · rcases List.mem_append.1 hx with q | q
    · obtain ⟨q1, q2⟩ := h.nodo x q
      exact ⟨q1, up _ 1 q2 (fun e => h1 (e ▸ q2))⟩
    · rw [List.mem_singleton] at q
      rw [q]
      simp only [nodeF_name]
      exact ⟨trivial, by rw [flagOf_put, if_pos rfl]⟩
  · simp only [List.map_append, List.map_cons, List.map_nil, nodeF_name]
    rw [List.nodup_append]
    refine ⟨h.opd, by simp, fun a ha b hb e => ?_⟩
    rw [List.mem_singleton] at hb
    obtain ⟨x, q1, q2⟩ := List.mem_map.1 ha
    have := (h.nodo x q1).2
    rw [q2, e, hb] at this
    exact h1 this
  · refine LkOk.push (two := fun n => flagOf t.sts n = 2) up2 rfl _ ?_
    rw [nodeF_name]; exact h.lk
  · obtain ⟨q1, q2, q3⟩ := h.ovn x hx
    exact ⟨q1, up2 _ q2, fun n hn => up2 n (q3 n hn)⟩
  · simp only at hl hn
    rw [flagOf_put] at hn
    split at hn
    · cases hn
    · exact h.all hl n hn
theorem goOn_ov (h : OvI s fs us none t) {x : Nod × Nat} (hl : t.opn.getLast? = some x) (h0 : (goOnF s fs us t).1 = 0) : OvI s fs us none (goOnF s fs us t).2 := by
  obtain ⟨d, hd⟩ := List.getLast?_eq_some_iff.1 hl
  have hdl : t.opn.dropLast = d := by rw [hd, List.dropLast_concat]
  have hx := h.nodo x (by rw [hd]; exact List.mem_append_right _ (List.mem_singleton.2 rfl))
  have hlk := h.lk
  have hop := h.opd
  rw [hd] at hlk hop
  rw [List.map_append, List.nodup_append] at hop
  unfold goOnF at h0 ⊢
  rw [hl] at h0 ⊢
  simp only at h0 ⊢
  by_cases hq : x.2 = x.1.needs.length
  · rw [if_pos hq] at h0 ⊢
    unfold leaveF
    rw [hl]
    simp only [hdl]
    have up2 : ∀ n, flagOf t.sts n = 2 → flagOf (flPut t.sts x.1.name 2) n = 2 := fun n e => by
      rw [flagOf_put]; split
      · rfl
      · exact e
    have hme : flagOf (flPut t.sts x.1.name 2) x.1.name = 2 := by rw [flagOf_put, if_pos rfl]
    have hnew : ∀ n ∈ x.1.needs, flagOf (flPut t.sts x.1.name 2) n = 2 := fun n hn => by
      obtain ⟨j, hj⟩ := List.getElem?_of_mem hn
      have hjl : j < x.1.needs.length := (List.getElem?_eq_some_iff.1 hj).1
      have e := LkOk.last (two := fun n => flagOf t.sts n = 2) d hlk j (by omega)
      rw [List.getD_eq_getElem?_getD, hj] at e
      exact up2 n e
    have hold : ∀ y ∈ t.over, y = (nodeF s fs us y.name).1 ∧ flagOf (flPut t.sts x.1.name 2) y.name = 2 ∧ ∀ n ∈ y.needs, flagOf (flPut t.sts x.1.name 2) n = 2 := fun y hy => by
      obtain ⟨q1, q2, q3⟩ := h.ovn y hy
      exact ⟨q1, up2 _ q2, fun n hn => up2 n (q3 n hn)⟩
    refine ⟨fun y hy => ?_, hop.1, LkOk.leave (two := fun n => flagOf t.sts n = 2) up2 hme d hlk, fun y hy => ?_, ?_, fun hle n hn => ?_⟩
    · obtain ⟨q1, q2⟩ := h.nodo y (by rw [hd]; exact List.mem_append_left _ hy)
      refine ⟨q1, ?_⟩
      have hne : x.1.name ≠ y.1.name := fun e => hop.2.2 y.1.name (List.mem_map.2 ⟨y, hy, rfl⟩) x.1.name (List.mem_singleton.2 rfl) e.symm
      simp only
      rw [flagOf_put, if_neg hne]; exact q2
    · simp only at hy
      split at hy
      · rcases List.mem_append.1 hy with q | q
        · exact hold y q
        · rw [List.mem_singleton] at q
          rw [q]
          exact ⟨hx.1, hme, hnew⟩
      · exact hold y hy
    · simp only
      split
      · rw [List.map_append, List.nodup_append]
        refine ⟨h.ovd, by simp, fun a ha b hb e => ?_⟩
        simp only [List.map_cons, List.map_nil, List.mem_singleton] at hb
        obtain ⟨y, q1, q2⟩ := List.mem_map.1 ha
        have e2 := (h.ovn y q1).2.1
        rw [q2, e, hb, hx.2] at e2
        cases e2
      · exact h.ovd
    · simp only at hle hn ⊢
      split at hle
      · rename_i hc
        rw [if_pos hc]
        rw [flagOf_put] at hn
        split at hn
        · rename_i e
          exact ⟨x.1, List.mem_append_right _ (List.mem_singleton.2 rfl), e⟩
        · obtain ⟨y, q1, q2⟩ := h.all hc n hn
          exact ⟨y, List.mem_append_left _ q1, q2⟩
      · rename_i hc
        exact absurd hle hc
  · rw [if_neg hq] at h0 ⊢
    rw [hdl] at h0 ⊢
    refine enter_ov ⟨fun y hy => ?_, ?_, LkOk.bump (two := fun n => flagOf t.sts n = 2) d hlk, h.ovn, h.ovd, h.all⟩ h0
    · rcases List.mem_append.1 hy with q | q
      · exact h.nodo y (by rw [hd]; exact List.mem_append_left _ q)
      · rw [List.mem_singleton] at q
        rw [q]
        exact hx
    · have := h.opd
      rw [hd] at this
      simp only [List.map_append, List.map_cons, List.map_nil] at this ⊢
      exact this
end
end Go.Proofs.YtjelacjggijmfaaGreatDoor
namespace Go.Proofs.YtjelacjggijmfaaGreatDoor
open Go.RowKit Go.MapKept Go.ChangeMaps Go.Maps

theorem onceB_nodup : ∀ l acc : List Pl.Bs, acc.Nodup → (onceB l acc).Nodup
  | [], _, h => h
  | x :: r, acc, h => by
    unfold onceB
    split
    · exact onceB_nodup r acc h
    · rename_i hx
      refine onceB_nodup r _ ?_
      rw [List.nodup_append]
      refine ⟨h, by simp, fun a ha b hb e => ?_⟩
      rw [List.mem_singleton] at hb
      exact hx (hb ▸ e ▸ ha)
/-- Each rule's needs are there once. -/
structure NdU (s : St) : Prop where
  nd : ∀ r ∈ s.rules, r.nd.Nodup
theorem NdU.add {s : St} (h : NdU s) (tg nd : List Pl.Bs) : NdU (addF s tg nd).2 := by
  have hc : ∀ r ∈ s.rules ++ [⟨tg, onceB nd [], []⟩], r.nd.Nodup := fun r hr => by
    rcases List.mem_append.1 hr with e | e
    · exact h.nd r e
    · rw [List.mem_singleton] at e; rw [e]; exact onceB_nodup nd [] List.nodup_nil
  unfold addF
  split
  · exact ⟨h.nd⟩
  · split
    · exact ⟨hc⟩
    · have key : ∀ f : Pl.Bs, NdU (tg.foldl (ofAdd s.rules.length) { s with rules := s.rules ++ [⟨tg, onceB nd [], []⟩], first := f }) := fun f => by
        have e := (ofAdd_fold s.rules.length tg { s with rules := s.rules ++ [⟨tg, onceB nd [], []⟩], first := f }).2.1
        refine ⟨?_⟩
        rw [e]
        exact hc
      unfold explicitF
      simp only
      split
      · exact key _
      · exact key s.first
theorem ndu_kept : LnKept NdU where
  assign s l h := by
    unfold assignF
    split <;> exact ⟨h.nd⟩
  command s op l h := by
    unfold commandF
    split
    · exact h
    · split
      · exact h
      · rename_i i _ r hr
        split
        · exact h
        · refine ⟨fun x hx => ?_⟩
          rcases List.mem_or_eq_of_mem_set hx with e | e
          · exact h.nd x e
          · rw [e]; exact h.nd r (List.mem_of_getElem? hr)
  rule s l h := by
    unfold ruleF
    split
    · exact h
    · split
      · exact h
      · split
        · exact h
        · split
          · exact h
          · exact NdU.add (s := { s with n := s.n + 1 }) ⟨h.nd⟩ _ _
  ctr s a b h := ⟨h.nd⟩
theorem ndu_book (fs : List Pl.File) (path : Pl.Bs) : NdU (bookF fs path).2.2 := bookF_kept ndu_kept ⟨fun _ hn => (by cases hn)⟩ path
section
variable {s : St} {fs : List Pl.File} {us : List (Nat × List Pl.Bs)}
theorem needsL_nodup (h : NdU s) (xs : List Nat) : (needsL s xs).Nodup := by
  unfold needsL
  split
  · by_cases hi : xs.headD 0 < s.rules.length
    · exact h.nd _ (rlOf_mem hi)
    · have e : rlOf s (xs.headD 0) = ⟨[], [], []⟩ := by
        unfold rlOf
        rw [List.getD_eq_getElem?_getD, List.getElem?_eq_none (by omega)]; rfl
      rw [e]; exact List.nodup_nil
  · exact onceB_nodup _ _ List.nodup_nil
theorem nodeF_nodup (h : NdU s) (name : Pl.Bs) : (nodeF s fs us name).1.needs.Nodup := by
  unfold nodeF
  split
  · split
    · exact onceB_nodup _ _ List.nodup_nil
    · exact needsL_nodup h _
  · exact needsL_nodup h _
theorem ov0 (g : Pl.Bs) : OvI s fs us (some g) wst0 := ⟨fun _ hx => (by cases hx), List.nodup_nil, trivial, fun _ hx => (by cases hx), List.nodup_nil, fun _ n hn => (by cases hn)⟩
theorem fromF_ov : ∀ (n : Nat) (p r : Nat × Wst), fromF s fs us n p = some r → (p.1 = 0 → OvI s fs us none p.2) → r.1 = 0 → OvI s fs us none r.2 ∧ r.2.opn = []
  | 0, p, r, h, hp, h0 => by
    rw [fromF] at h
    split at h
    · rename_i q
      cases h
      rcases q with q | q
      · exact absurd h0 q
      · exact ⟨hp h0, q⟩
    · cases h
  | n + 1, p, r, h, hp, h0 => by
    rw [fromF] at h
    split at h
    · rename_i q
      cases h
      rcases q with q | q
      · exact absurd h0 q
      · exact ⟨hp h0, q⟩
    · rename_i q
      have hz : p.1 = 0 := Classical.byContradiction fun e => q (.inl e)
      have hne : p.2.opn ≠ [] := fun e => q (.inr e)
      cases hl : p.2.opn.getLast? with
      | none => rw [List.getLast?_eq_none_iff] at hl; exact absurd hl hne
      | some x => exact fromF_ov n _ r h (fun e => goOn_ov (hp hz) hl e) h0
/-- What goals.Order's walk leaves. -/
theorem walk_ov {g : Pl.Bs} {r : Nat × Wst} (h : FromR s fs us (enterF s fs us wst0 g) r) (h0 : r.1 = 0) : OvI s fs us none r.2 ∧ r.2.opn = [] := by
  obtain ⟨n, hn⟩ := h
  exact fromF_ov n _ r hn (fun e => enter_ov (ov0 g) e) h0
theorem over_needs (hu : NdU s) {t : Wst} (h : OvI s fs us none t) (hl : t.over.length ≤ 100) {x : Nod} (hx : x ∈ t.over) : x.needs.length ≤ 100 ∧ ∀ n ∈ x.needs, ∃ y ∈ t.over, y.name = n := by
  obtain ⟨q1, _, q3⟩ := h.ovn x hx
  have hn : ∀ n ∈ x.needs, ∃ y ∈ t.over, y.name = n := fun n hn => h.all hl n (q3 n hn)
  refine ⟨?_, hn⟩
  have hd : x.needs.Nodup := by rw [q1]; exact nodeF_nodup hu _
  have := nodupU x.needs (t.over.map (·.name)) hd (fun n hn' => by
    obtain ⟨y, a, b⟩ := hn n hn'
    exact List.mem_map.2 ⟨y, a, b⟩)
  rw [List.length_map] at this
  omega
end
end Go.Proofs.YtjelacjggijmfaaGreatDoor
namespace Go.Proofs.YtjelacjggijmfaaGreatDoor
open Go.RowKit Go.MapKept Go.ChangeMaps Go.Maps

theorem vnC_at : ∀ (qs : List Vq) (i j : Nat) (hi : i < qs.length), j < 5 → (qs.flatMap vnC)[i * 5 + j]? = (vnC qs[i])[j]?
  | [], _, _, hi, _ => by cases hi
  | q :: r, 0, j, _, hj => by
    rw [List.flatMap_cons, Nat.zero_mul, Nat.zero_add, List.getElem?_append_left (by show j < 5; exact hj)]
    rfl
  | q :: r, i + 1, j, hi, hj => by
    have e : (i + 1) * 5 + j - 5 = i * 5 + j := by omega
    rw [List.flatMap_cons, List.getElem?_append_right (by show 5 ≤ (i + 1) * 5 + j; omega)]
    show (r.flatMap vnC)[(i + 1) * 5 + j - 5]? = _
    rw [e]
    exact vnC_at r i j (by simpa using hi) hj
theorem heap_lt {W : World} {b : Nat} {o : Obj} (h : W.heap[b]? = some o) : b < W.heap.size := by
  rcases Nat.lt_or_ge b W.heap.size with q | q
  · exact q
  · rw [Array.getElem?_eq_none q] at h; cases h
section
variable {W : World} {q : Vq} {L g cap : Nat} {qv : List Vq}
/-- One node in memory. -/
theorem VqT.ndr (h : VqT W q) {b o : Nat} (hr : Row6 W b o (vnC q)) : NdR W W.heap.size b o q.nd := by
  obtain ⟨h1, h2⟩ := h
  unfold vnC at hr
  rcases h1 with ⟨e1, z1⟩ | ⟨b1, o1, c1, e1, l1, r1, cs1, f1, p1⟩ <;> rcases h2 with ⟨e2, z2⟩ | ⟨b2, o2, c2, e2, r2, cs2, f2, p2⟩
  · rw [e1, e2] at hr
    exact ⟨none, none, 0, 0, 0, 0, 0, 0, by rw [z1, z2]; exact hr, by rw [z1]; exact Nat.le_refl _, fun q => (by rw [z1] at q; cases q), fun q => by rw [z2] at q; cases q⟩
  · rw [e1, e2] at hr
    exact ⟨none, _, 0, c2, 0, 0, b2, o2, by rw [z1]; exact hr, by rw [z1]; exact Nat.le_refl _, fun q => (by rw [z1] at q; cases q), fun _ => ⟨rfl, heap_lt p2, r2⟩⟩
  · rw [e1, e2] at hr
    exact ⟨_, none, c1, 0, b1, o1, 0, 0, by rw [z2]; exact hr, l1, fun _ => ⟨rfl, heap_lt p1, r1⟩, fun q => by rw [z2] at q; cases q⟩
  · rw [e1, e2] at hr
    exact ⟨_, _, c1, c2, b1, o1, b2, o2, hr, l1, fun _ => ⟨rfl, heap_lt p1, r1⟩, fun _ => ⟨rfl, heap_lt p2, r2⟩⟩
/-- All of them. -/
theorem nodes_ndr (h : W.ownsRow L 197 5 (.slice (some ⟨g, 0, none⟩) qv.length cap) qv.length (qv.flatMap vnC)) (hv : ∀ q ∈ qv, VqT W q) (i : Nat) (hi : i < (qv.map Vq.nd).length) : NdR W W.heap.size g (0 + i * 5) (qv.map Vq.nd)[i] := by
  have hi' : i < qv.length := by rwa [List.length_map] at hi
  rw [List.getElem_map]
  refine VqT.ndr (hv _ (List.getElem_mem hi')) (fun j u hj => ?_)
  have hj5 : j < 5 := by
    rcases Nat.lt_or_ge j 5 with q | q
    · exact q
    · rw [List.getElem?_eq_none (by show 5 ≤ j; exact q)] at hj; cases hj
  rw [Nat.zero_add]
  exact own_cell2 h (i * 5 + j) u ((vnC_at qv i j hi' hj5).trans hj)
end
end Go.Proofs.YtjelacjggijmfaaGreatDoor
namespace Go.Proofs.YtjelacjggijmfaaGreatDoor
open Go.RowKit Go.MapKept Go.ChangeMaps Go.Maps

theorem lens_le (P : Nat) : ∀ xs : List Pl.Bs, (∀ x ∈ xs, x.length ≤ P) → Lib.lens xs ≤ xs.length * P
  | [], _ => by simp [Lib.lens]
  | x :: r, h => by
    have ih := lens_le P r (fun y hy => h y (List.mem_cons_of_mem _ hy))
    have h1 := h x (List.mem_cons_self ..)
    have e : Lib.lens (x :: r) = x.length + Lib.lens r := by simp [Lib.lens]
    rw [e, List.length_cons, Nat.succ_mul]
    omega
theorem flagOf_none (k : Pl.Bs) (fl : Flags) (h : k ∉ keysF fl) : flagOf fl k = 0 := by
  unfold flagOf
  rw [List.find?_eq_none.2 (fun x hx q => h (List.mem_map.2 ⟨x, hx, beq_iff_eq.1 q⟩))]
  rfl
section
variable {s : St} {fs : List Pl.File} {us : List (Nat × List Pl.Bs)} {U : List Pl.Bs} {C k : Nat}
theorem fromF_keep (J : Wst → Prop) (hJ : ∀ t x, J t → t.opn.getLast? = some x → (goOnF s fs us t).1 = 0 → J (goOnF s fs us t).2) : ∀ (n : Nat) (p r : Nat × Wst), fromF s fs us n p = some r → (p.1 = 0 → J p.2) → r.1 = 0 → J r.2
  | 0, p, r, h, hp, h0 => by
    rw [fromF] at h
    split at h
    · cases h; exact hp h0
    · cases h
  | n + 1, p, r, h, hp, h0 => by
    rw [fromF] at h
    split at h
    · cases h; exact hp h0
    · rename_i q
      have hz : p.1 = 0 := Classical.byContradiction fun e => q (.inl e)
      have hne : p.2.opn ≠ [] := fun e => q (.inr e)
      cases hl : p.2.opn.getLast? with
      | none => rw [List.getLast?_eq_none_iff] at hl; exact absurd hl hne
      | some x => exact fromF_keep J hJ n _ r h (fun e => hJ _ x (hp hz) hl e) h0
theorem walk_inv (hU : Uni s fs us U C) {g : Pl.Bs} (hg : g ∈ U) {r : Nat × Wst} (h : FromR s fs us (enterF s fs us wst0 g) r) (h0 : r.1 = 0) : WInv U C r.2 := by
  obtain ⟨n, hn⟩ := h
  exact fromF_keep (WInv U C) (fun t x a b c => ((from_ok hU).step t x a b c).1) n _ r hn (fun e => (enter_inv hU winv0 g hg e).1) h0
theorem over_name {t : Wst} (hw : WInv U C t) (h : OvI s fs us none t) {x : Nod} (hx : x ∈ t.over) : x.name ∈ U := by
  obtain ⟨_, q2, _⟩ := h.ovn x hx
  refine hw.key _ (Classical.byContradiction fun e => ?_)
  rw [flagOf_none _ _ e] at q2
  cases q2
theorem cmdsL_of (P : List (Pl.Bs × Nat) → Prop) (h0 : P []) : ∀ xs : List Nat, (∀ i ∈ xs, P (rlOf s i).cs) → P (cmdsL s xs)
  | [], _ => h0
  | i :: r, h => by
    unfold cmdsL
    split
    · exact h i (List.mem_cons_self ..)
    · exact cmdsL_of P h0 r (fun j hj => h j (List.mem_cons_of_mem _ hj))
theorem nodeF_parts (P : List (Pl.Bs × Nat) → Prop) (h0 : P []) (hr : ∀ i, i < s.rules.length → P (rlOf s i).cs) (hol : ∀ name, ∀ i ∈ s.of name, i < s.rules.length) (hus : ∀ x ∈ us, x.1 < s.rules.length) (name : Pl.Bs) :
    P (nodeF s fs us name).1.cmds ∧ (nodeF s fs us name).1.stem.length ≤ name.length := by
  have hc : P (cmdsL s (s.of name)) := cmdsL_of P h0 _ (fun i hi => hr i (hol name i hi))
  unfold nodeF
  split
  · split
    · rename_i i stem e
      obtain ⟨⟨x, q1, q2⟩, q3⟩ := fitL_mem e
      exact ⟨hr i (q2 ▸ hus x q1), q3⟩
    · exact ⟨hc, Nat.zero_le _⟩
  · exact ⟨hc, Nat.zero_le _⟩
/-- What compile.stepsOf asks of the nodes. -/
theorem over_ndb (hok : Ok s k) (hk : k ≤ 200000000) (hu : NdU s) (hol : ∀ name, ∀ i ∈ s.of name, i < s.rules.length) (hus : ∀ x ∈ us, x.1 < s.rules.length) (P : Nat) (hP : P ≤ 8388608) (hUP : ∀ y ∈ U, y.length ≤ P) {t : Wst} (hw : WInv U C t) (h : OvI s fs us none t) (hl : t.over.length ≤ 100) {x : Nod} (hx : x ∈ t.over) : NdB x := by
  obtain ⟨q1, q2⟩ := over_needs hu h hl hx
  have hxn := hUP _ (over_name hw h hx)
  have hnd : ∀ n ∈ x.needs, n.length ≤ P := fun n hn => by
    obtain ⟨y, a, b⟩ := q2 n hn
    rw [← b]; exact hUP _ (over_name hw h a)
  obtain ⟨p1, p2⟩ := nodeF_parts (fs := fs) (us := us) (fun cs => cs.length ≤ k ∧ ∀ c ∈ cs, c.1.length ≤ 1073741824) ⟨Nat.zero_le _, fun c hc => (by cases hc)⟩ (fun i hi => ⟨hok.cl _ (rlOf_mem hi), (hok.rs _ (rlOf_mem hi)).cw⟩) hol hus x.name
  rw [← (h.ovn x hx).1] at p1 p2
  have hz : (Lib.join x.needs [32]).length ≤ 100 + 100 * P := by
    have hll := lens_le P x.needs hnd
    have hmul := Nat.mul_le_mul_right P q1
    cases hn : x.needs with
    | nil => rw [Lib.join_nil]; exact Nat.zero_le _
    | cons y r =>
      rw [hn] at q1 hll hmul
      rw [Lib.join_length]
      simp only [List.length_cons, List.length_nil] at q1 ⊢
      omega
  refine ⟨by omega, p1.2, by omega, by omega, ?_, by omega, by omega⟩
  cases hn : x.needs with
  | nil => exact Nat.zero_le _
  | cons y r =>
    have := hnd y (by rw [hn]; exact List.mem_cons_self ..)
    simp only [List.headD_cons]; omega
end
end Go.Proofs.YtjelacjggijmfaaGreatDoor
