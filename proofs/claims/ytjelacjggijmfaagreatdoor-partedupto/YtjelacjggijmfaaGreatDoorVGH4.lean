/-
  Parted of package makerkeep: Make is Run of Compile's plan, which is sound; with an error nothing is done. Proved of all arguments whose values and letters together come to at most 1048576: the row and its card.
  Parted of package makerkeep: Make is Run of Compile's plan, which is sound; with an error nothing is done. Proved of all arguments whose values and letters together, with what the listed tables hold, come to at most 1048576.
  For a law's row: files that are handed in, opened, and how much they are.
  Parted of package makerkeep: true for all files, paths, goals, effects and clocks.
  Parted of package makerkeep: Make is Run of Compile's plan, which is sound.
  The law's own: one rule with one command is done.
  Make of package maker; one rule with one command is done.
  One rule with one command: what making it comes to.
  The law's own: the same result twice.
  The plan that rules come to: how long it is; what files may be.
  Compile and Make of package maker.
  compile.Text, whatever the rules.
  How long a plan is.
  How long a node's name may be: one that is longer than a text may be is a file's, and so is each on the way to it.
-/
import Derived.Test.YtjelacjggijmfaaGreatDoorVPS3
import Derived.Test.YtjelacjggijmfaaGreatDoorVGG4
import Derived.Test.YtjelacjggijmfaaGreatDoorVMR1
import Derived.Test.YtjelacjggijmfaaGreatDoorVXT
import Derived.Deep.Cut
import Derived.Test.YtjelacjggijmfaaGreatDoorVHPure
import Derived.Test.YtjelacjggijmfaaGreatDoorVW9
import Derived.Deep.DeepHandedRow
import Derived.Lib.LaidTab
namespace Go.Proofs.YtjelacjggijmfaaGreatDoor
open Go.RowKit Go.MapKept Go.ChangeMaps Go.Maps

theorem countFrom_le (c : UInt8) : ∀ (f : Nat) (s : Pl.Bs), Lib.countFrom [c] f s ≤ s.count c
  | 0, _ => Nat.zero_le _
  | f + 1, s => by
    rw [Lib.countFrom]
    split
    · exact Nat.zero_le _
    · rename_i h
      rcases Lib.index_spec s [c] with ⟨h1, _⟩ | ⟨i, h1, _, h3, _⟩
      · rw [h1] at h; exact absurd rfl h
      · have ih := countFrom_le c f (s.drop ((Lib.index s [c]).toNat + [c].length))
        rw [h1] at ih ⊢
        simp only [Int.toNat_natCast, List.length_cons, List.length_nil, Nat.zero_add] at ih ⊢
        have hd : ∃ t, s.drop i = c :: t := by
          unfold Lib.occAt at h3
          cases hs : s.drop i with
          | nil => rw [hs] at h3; cases h3
          | cons x t =>
            rw [hs] at h3
            simp only [List.isPrefixOf, Bool.and_true, beq_iff_eq] at h3
            exact ⟨t, by rw [h3]⟩
        obtain ⟨t, ht⟩ := hd
        have e2 : s.drop (i + 1) = t := by rw [← List.drop_drop, ht]; rfl
        have e3 : s.count c = (s.take i).count c + (s.drop i).count c := by rw [← List.count_append, List.take_append_drop]
        rw [ht, List.count_cons_self] at e3
        rw [e2] at ih ⊢
        omega
theorem replaceK_len (old new : Pl.Bs) : ∀ (k : Nat) (s : Pl.Bs), (Lib.replaceK old new k s).length ≤ s.length + k * new.length
  | 0, s => by rw [Lib.replaceK]; omega
  | k + 1, s => by
    rw [Lib.replaceK]
    split
    · omega
    · have ih := replaceK_len old new k (s.drop ((Lib.index s old).toNat + old.length))
      have h1 : (s.drop ((Lib.index s old).toNat + old.length)).length + (s.take (Lib.index s old).toNat).length ≤ s.length := by
        rw [List.length_drop, List.length_take]; omega
      rw [List.length_append, List.length_append, Nat.succ_mul]
      omega
theorem fill_len {n stem : Pl.Bs} (h : placesB n = false) : (fillB n stem).length ≤ n.length + stem.length := by
  unfold placesB Lib.countByte at h
  have h1 := of_decide_eq_false h
  unfold fillB Lib.replaceAll Lib.replace
  split
  · omega
  · have hk : Lib.replaceNum n [37] (-1) ≤ 1 := by
      unfold Lib.replaceNum
      rw [if_pos (.inl (by decide))]
      exact Nat.le_trans (countFrom_le 37 _ n) (by omega)
    have h2 := replaceK_len [37] stem (Lib.replaceNum n [37] (-1)) n
    have h3 := Nat.mul_le_mul_right stem.length hk
    omega
/-- What all rules keep: a need has one place at most; what is named is a rule. -/
structure Pcs (s : St) : Prop where
  one : ∀ r ∈ s.rules, ∀ n ∈ r.nd, placesB n = false
  ol : ∀ name, ∀ i ∈ s.of name, i < s.rules.length
  pl : ∀ i ∈ s.pats, i < s.rules.length
theorem ofAdd_in (i : Nat) (n : Pl.Bs) : ∀ (tg : List Pl.Bs) (s : St), ∀ j ∈ (tg.foldl (ofAdd i) s).of n, j ∈ s.of n ∨ j = i
  | [], s, j, h => .inl h
  | t :: r, s, j, h => by
    rw [List.foldl_cons] at h
    rcases ofAdd_in i n r (ofAdd i s t) j h with q | q
    · have q' : j ∈ ofPut s.of t (s.of t ++ [i]) n := q
      unfold ofPut at q'
      split at q'
      · rename_i e
        rcases List.mem_append.1 q' with z | z
        · exact .inl (by first | (rw [e]; exact z) | (rw [← e]; exact z))
        · exact .inr (List.mem_singleton.1 z)
      · exact .inl q'
    · exact .inr q
theorem Pcs.add {s : St} (h : Pcs s) (tg nd : List Pl.Bs) (hn : ∀ n ∈ nd, placesB n = false) : Pcs (addF s tg nd).2 := by
  have h1 : ∀ r ∈ s.rules ++ [(⟨tg, onceB nd [], []⟩ : Rl)], ∀ n ∈ r.nd, placesB n = false := fun r hr n hm => by
    rcases List.mem_append.1 hr with q | q
    · exact h.one r q n hm
    · rw [List.mem_singleton.1 q] at hm
      rcases (onceB_len nd []).2 n hm with z | z
      · exact hn n z
      · cases z
  unfold addF
  split
  · exact ⟨h.one, h.ol, h.pl⟩
  · split
    · refine ⟨h1, fun name i hi => ?_, fun i hi => ?_⟩
      · have := h.ol name i hi
        simp only [List.length_append, List.length_cons, List.length_nil]; omega
      · rcases List.mem_append.1 hi with q | q
        · have := h.pl i q
          simp only [List.length_append, List.length_cons, List.length_nil]; omega
        · rw [List.mem_singleton.1 q]
          simp
    · have key : ∀ f : Pl.Bs, Pcs (tg.foldl (ofAdd s.rules.length) { s with rules := s.rules ++ [⟨tg, onceB nd [], []⟩], first := f }) := fun f => by
        obtain ⟨_, e2, e3, _⟩ := ofAdd_fold s.rules.length tg { s with rules := s.rules ++ [⟨tg, onceB nd [], []⟩], first := f }
        refine ⟨by rw [e2]; exact h1, fun name i hi => ?_, fun i hi => ?_⟩
        · rw [e2]
          simp only [List.length_append, List.length_cons, List.length_nil]
          rcases ofAdd_in _ name tg _ i hi with q | q
          · have := h.ol name i q
            omega
          · omega
        · rw [e2]
          rw [e3] at hi
          have := h.pl i hi
          simp only [List.length_append, List.length_cons, List.length_nil]; omega
      unfold explicitF
      simp only
      split
      · exact key _
      · exact key s.first
theorem pcs_kept : LnKept Pcs where
  assign s l h := by
    unfold assignF
    split <;> exact ⟨h.one, h.ol, h.pl⟩
  command s op l h := by
    unfold commandF
    split
    · exact h
    · split
      · exact h
      · rename_i i _ r hr
        split
        · exact h
        · refine ⟨fun r' hr' n hn => ?_, fun name j hj => ?_, fun j hj => ?_⟩
          · rcases List.mem_or_eq_of_mem_set hr' with q | q
            · exact h.one r' q n hn
            · rw [q] at hn
              exact h.one r (List.mem_of_getElem? hr) n hn
          · have := h.ol name j hj
            simpa using this
          · have := h.pl j hj
            simpa using this
  rule s l h := by
    unfold ruleF
    split
    · exact h
    · split
      · exact h
      · split
        · exact h
        · rename_i hs
          split
          · exact h
          · refine Pcs.add (s := { s with n := s.n + 1 }) ⟨h.one, h.ol, h.pl⟩ _ _ fun n hn => ?_
            unfold sidesB at hs
            split at hs
            · exact absurd rfl hs
            · rename_i q
              have : ¬ (Mk.words (expE s.names l.right).txt).any placesB = true := fun e => q (.inr (.inr e))
              rw [Bool.not_eq_true] at this
              have := List.any_eq_false.1 this n hn
              simpa using this
  ctr s a b h := ⟨h.one, h.ol, h.pl⟩
theorem pcs_book (fs : List Pl.File) (path : Pl.Bs) : Pcs (bookF fs path).2.2 := bookF_kept pcs_kept ⟨fun _ hr => (by cases hr), fun _ _ hi => (by cases hi), fun _ hi => (by cases hi)⟩ path
section
variable {s : St} {fs : List Pl.File} {k : Nat}
/-- A need is short, or it is a file's name that is not much longer. -/
theorem need_len (hok : Ok s k) (ht : Tgs s) (hp : Pcs s) {name y : Pl.Bs} (hy : y ∈ (nodeF s fs (usL s fs s.pats) name).1.needs) : y.length ≤ 2000 ∨ ((∃ f ∈ fs, f.path = y) ∧ y.length ≤ name.length + 2000) := by
  have hN : ∀ z ∈ needsL s (s.of name), z.length ≤ 2000 := fun z hz => by
    unfold needsL at hz
    split at hz
    · rename_i h1
      have hx := hp.ol name
      generalize s.of name = xs at *
      match xs, h1, hx, hz with
      | [i], _, hx, hz => exact (hok.rs _ (rlOf_mem (hx i (List.mem_cons_self ..)))).nw z hz
    · rcases (onceB_len _ _).2 z hz with q | q
      · obtain ⟨u, h1, h2⟩ := List.mem_flatten.1 q
        obtain ⟨i, h3, rfl⟩ := List.mem_map.1 h1
        exact (hok.rs _ (rlOf_mem (hp.ol name i h3))).nw z h2
      · cases q
  unfold nodeF at hy
  split at hy
  · split at hy
    · rename_i i stem e
      rcases (onceB_len _ _).2 y hy with q | q
      · rcases List.mem_append.1 q with q | q
        · obtain ⟨n, hn, rfl⟩ := List.mem_map.1 q
          obtain ⟨x, h1, h2, h3⟩ := fitL_all e
          obtain ⟨-, hst⟩ := fitL_mem e
          unfold usL at h1
          obtain ⟨j, h4, rfl⟩ := List.mem_map.1 h1
          simp only at h2 h3
          subst h2
          have hj := hp.pl j (List.mem_filter.1 h4).1
          have hnl := (hok.rs _ (rlOf_mem hj)).nw n hn
          by_cases hpl : placeB n = true
          · have h5 := List.all_eq_true.1 h3 n (List.mem_filter.2 ⟨hn, hpl⟩)
            have h6 := fill_len (stem := stem) (hp.one _ (rlOf_mem hj) n hn)
            unfold thereB at h5
            rw [Bool.or_eq_true] at h5
            rcases h5 with h5 | h5
            · refine .inr ⟨?_, by omega⟩
              cases hl : Pl.look fs (fillB n stem) with
              | none => rw [hl] at h5; cases h5
              | some f =>
                unfold Pl.look at hl
                exact ⟨f, List.mem_of_find?_eq_some hl, by simpa using List.find?_some hl⟩
            · unfold tgB at h5
              have h7 := of_decide_eq_true h5
              obtain ⟨r, h8, h9⟩ := ht.tg _ (fun e => by rw [e] at h7; cases h7)
              exact .inl ((hok.rs r h8).tw _ h9)
          · rw [fill_none (by simpa using hpl)]
            exact .inl hnl
        · exact .inl (hN y q)
      · cases q
    · exact .inl (hN y hy)
  · exact .inl (hN y hy)
/-- Every step of length up to a name's is some file's. -/
def Stair (fs : List Pl.File) (y : Pl.Bs) : Prop := ∀ T, 2000 ≤ T → T < y.length → ∃ f ∈ fs, T < f.path.length ∧ f.path.length ≤ T + 2000
theorem stair_need (hok : Ok s k) (ht : Tgs s) (hp : Pcs s) {name y : Pl.Bs} (hn : Stair fs name) (hy : y ∈ (nodeF s fs (usL s fs s.pats) name).1.needs) : Stair fs y := fun T h1 h2 => by
  by_cases h3 : T < name.length
  · exact hn T h1 h3
  · rcases need_len hok ht hp hy with q | ⟨⟨f, q1, q2⟩, q3⟩
    · omega
    · exact ⟨f, q1, by rw [q2]; omega, by rw [q2]; omega⟩
structure StR5 (s : St) (fs : List Pl.File) (us : List (Nat × List Pl.Bs)) (t : Wst) : Prop where
  op : ∀ x ∈ t.opn, x.1 = (nodeF s fs us x.1.name).1 ∧ Stair fs x.1.name
  ov : ∀ x ∈ t.over, Stair fs x.name
theorem enter_st {us : List (Nat × List Pl.Bs)} {t : Wst} {name : Pl.Bs} (h : StR5 s fs us t) (hn : Stair fs name) : StR5 s fs us (enterF s fs us t name).2 := by
  unfold enterF
  split
  · exact h
  · split
    · exact h
    · split
      · exact h
      · refine ⟨fun x hx => ?_, h.ov⟩
        rcases List.mem_append.1 hx with q | q
        · exact h.op x q
        · rw [List.mem_singleton.1 q]
          simp only
          rw [nodeF_name]
          exact ⟨rfl, hn⟩
theorem goOn_st (hok : Ok s k) (ht : Tgs s) (hp : Pcs s) {t : Wst} {x : Nod × Nat} (h : StR5 s fs (usL s fs s.pats) t) (hl : t.opn.getLast? = some x) : StR5 s fs (usL s fs s.pats) (goOnF s fs (usL s fs s.pats) t).2 := by
  have hx : x ∈ t.opn := List.mem_of_getLast? hl
  have hdl : ∀ y ∈ t.opn.dropLast, y ∈ t.opn := fun y hy => List.dropLast_subset _ hy
  unfold goOnF
  rw [hl]
  simp only
  split
  · unfold leaveF
    rw [hl]
    refine ⟨fun y hy => h.op y (hdl y hy), fun y hy => ?_⟩
    simp only at hy
    split at hy
    · rcases List.mem_append.1 hy with q | q
      · exact h.ov y q
      · rw [List.mem_singleton.1 q]
        exact (h.op x hx).2
    · exact h.ov y hy
  · rename_i hne
    have h1 : StR5 s fs (usL s fs s.pats) { t with opn := t.opn.dropLast ++ [(x.1, x.2 + 1)] } := by
      refine ⟨fun y hy => ?_, h.ov⟩
      rcases List.mem_append.1 hy with q | q
      · exact h.op y (hdl y q)
      · rw [List.mem_singleton.1 q]
        exact h.op x hx
    refine enter_st h1 ?_
    by_cases hi : x.2 < x.1.needs.length
    · have hm : x.1.needs.getD x.2 [] ∈ x.1.needs := by
        rw [List.getD_eq_getElem?_getD, List.getElem?_eq_getElem hi]
        exact List.getElem_mem hi
      have e := (h.op x hx).1
      have hm2 : x.1.needs.getD x.2 [] ∈ (nodeF s fs (usL s fs s.pats) x.1.name).1.needs := by rw [← e]; exact hm
      exact stair_need hok ht hp (h.op x hx).2 hm2
    · rw [List.getD_eq_getElem?_getD, List.getElem?_eq_none (by omega)]
      exact fun T _ h2 => absurd h2 (Nat.not_lt_zero _)
end
/-- How much the names of those files are that are no longer than this. -/
def sumTo (B : Nat) : List Pl.File → Nat
  | [] => 0
  | f :: r => (if f.path.length ≤ B then f.path.length else 0) + sumTo B r
def sumP : List Pl.File → Nat
  | [] => 0
  | f :: r => f.path.length + sumP r
theorem sumTo_le (B : Nat) : ∀ fs, sumTo B fs ≤ sumP fs
  | [] => Nat.le_refl _
  | f :: r => by
    have := sumTo_le B r
    rw [sumTo, sumP]
    split <;> omega
theorem sumTo_mono (B : Nat) : ∀ fs, sumTo B fs ≤ sumTo (B + 2000) fs
  | [] => Nat.le_refl _
  | f :: r => by
    have := sumTo_mono B r
    rw [sumTo, sumTo]
    split <;> split <;> omega
theorem sumTo_up (B : Nat) : ∀ fs : List Pl.File, (∃ f ∈ fs, B < f.path.length ∧ f.path.length ≤ B + 2000) → sumTo B fs + (B + 1) ≤ sumTo (B + 2000) fs
  | [], h => by obtain ⟨_, h, _⟩ := h; cases h
  | f :: r, ⟨g, h1, h2, h3⟩ => by
    rw [sumTo, sumTo]
    rcases List.mem_cons.1 h1 with q | q
    · have := sumTo_mono B r
      subst q
      rw [if_neg (by omega), if_pos h3]
      omega
    · have := sumTo_up B r ⟨g, q, h2, h3⟩
      split <;> split <;> omega
set_option maxRecDepth 20000 in
theorem stair_sum {fs : List Pl.File} {y : Pl.Bs} (h : Stair fs y) : ∀ n : Nat, 2000 * n < y.length → 1000 * (n * n) + 1001 * n ≤ sumTo (2000 * (n + 1)) fs
  | 0, _ => by omega
  | n + 1, hn => by
    have ih := stair_sum h n (by omega)
    have := sumTo_up (2000 * (n + 1)) fs (h (2000 * (n + 1)) (by omega) hn)
    rw [show 2000 * (n + 1) + 2000 = 2000 * (n + 1 + 1) by omega] at this
    have e : (n + 1) * (n + 1) = n * n + 2 * n + 1 := by
      rw [Nat.mul_add, Nat.mul_one, Nat.add_mul]
      omega
    rw [e]
    generalize sumTo (2000 * (n + 1)) fs = X at ih this
    generalize sumTo (2000 * (n + 1 + 1)) fs = Y at this ⊢
    generalize n * n = Z at *
    omega
set_option maxRecDepth 20000 in
/-- The nodes' names are short enough, if all files' names together are. -/
theorem nmb_any {s : St} {fs : List Pl.File} {k : Nat} (hok : Ok s k) (ht : Tgs s) (hp : Pcs s) (hs : sumP fs ≤ 1048576) (g : Pl.Bs) : NmB s fs g 64000 := fun hg r hr h0 _ x hx => by
  have h1 : Stair fs g := fun T a b => by omega
  obtain ⟨n, hn⟩ := hr
  have := fromF_keep (StR5 s fs (usL s fs s.pats)) (fun t x h hl _ => goOn_st hok ht hp h hl) n _ r hn (fun _ => enter_st ⟨fun _ h => (by cases h), fun _ h => (by cases h)⟩ h1) h0
  have h2 := this.ov x hx
  by_cases h3 : 64000 < x.name.length
  · obtain ⟨n, hn⟩ : ∃ n : Nat, n = 32 := ⟨32, rfl⟩
    have h4 := stair_sum h2 n (by omega)
    have h5 := sumTo_le (2000 * (n + 1)) fs
    generalize sumTo (2000 * (n + 1)) fs = X at h4 h5
    have h6 : n * n = 1024 := by rw [hn]
    omega
  · omega
end Go.Proofs.YtjelacjggijmfaaGreatDoor
namespace Go.Proofs.YtjelacjggijmfaaGreatDoor
open Go.RowKit Go.MapKept Go.ChangeMaps Go.Maps

def wt (s : Pl.Bs) : Nat := 2 + s.length
def wts (l : List Pl.Bs) : Nat := (l.map wt).sum
theorem wts_append (a b : List Pl.Bs) : wts (a ++ b) = wts a + wts b := by unfold wts; rw [List.map_append, List.sum_append]
theorem strsW_wts : ∀ l : List Pl.Bs, (strsW l).length = wts l
  | [] => rfl
  | s :: r => by
    rw [strsW_cons, strsW_wts r]
    unfold wts wt
    simp
theorem wts_erase {x : Pl.Bs} : ∀ {l : List Pl.Bs}, x ∈ l → wts l = wt x + wts (l.erase x)
  | [], h => by cases h
  | y :: r, h => by
    by_cases e : y = x
    · subst e
      rw [List.erase_cons_head]
      unfold wts
      simp
    · have hr : x ∈ r := (List.mem_cons.1 h).resolve_left (fun q => e q.symm)
      rw [List.erase_cons_tail (by simpa using e)]
      have ih := wts_erase hr
      unfold wts at *
      simp only [List.map_cons, List.sum_cons]
      omega
/-- Strings, each once, of some: together no more than those. -/
theorem wts_sub : ∀ (a b : List Pl.Bs), a.Nodup → (∀ x ∈ a, x ∈ b) → wts a ≤ wts b
  | [], b, _, _ => by unfold wts; simp
  | x :: r, b, hd, hs => by
    rw [List.nodup_cons] at hd
    have hx := hs x (List.mem_cons_self ..)
    have ih := wts_sub r (b.erase x) hd.2 fun y hy => (List.mem_erase_of_ne (fun (e : y = x) => hd.1 (e ▸ hy))).2 (hs y (List.mem_cons_of_mem _ hy))
    have e := wts_erase hx
    unfold wts at *
    simp only [List.map_cons, List.sum_cons]
    omega
theorem wts_le (P : Nat) : ∀ l : List Pl.Bs, (∀ x ∈ l, x.length ≤ P) → wts l ≤ l.length * (P + 2)
  | [], _ => by unfold wts; simp
  | x :: r, h => by
    have ih := wts_le P r fun y hy => h y (List.mem_cons_of_mem _ hy)
    have h1 := h x (List.mem_cons_self ..)
    unfold wts wt at *
    simp only [List.map_cons, List.sum_cons, List.length_cons, Nat.succ_mul]
    omega
/-- The strings of a plan, each once, are names, needs and commands. -/
structure StrI (A : List Pl.Bs) (q : Cp.Wr) : Prop where
  nd : q.strs.Nodup
  sub : ∀ x ∈ q.strs, x ∈ A
theorem StrI.add {A : List Pl.Bs} {q : Cp.Wr} (h : StrI A q) (op : Nat) (os : List Nat) : StrI A (addW q op os) := ⟨by rw [addW_strs]; exact h.nd, by rw [addW_strs]; exact h.sub⟩
theorem StrI.str {A : List Pl.Bs} {q : Cp.Wr} (h : StrI A q) {s : Pl.Bs} (hs : s ∈ A) : StrI A (q.str s) := by
  unfold Cp.Wr.str
  cases hf : q.strs.findIdx? (fun x => x == s) with
  | some i => exact h
  | none =>
    have hn : s ∉ q.strs := fun hm => by
      have := List.findIdx?_eq_none_iff.1 hf s hm
      simp at this
    refine ⟨?_, fun x hx => ?_⟩
    · show (q.strs ++ [s]).Nodup
      rw [List.nodup_append]
      exact ⟨h.nd, by simp, fun a ha b hb e => hn (by rw [List.mem_singleton.1 hb] at e; rw [← e]; exact ha)⟩
    · rcases List.mem_append.1 hx with e | e
      · exact h.sub x e
      · rw [List.mem_singleton.1 e]; exact hs
theorem strI_needs {A : List Pl.Bs} (fl : Flags) (nm : Nat) : ∀ (needs : List Pl.Bs) (q : Cp.Wr), StrI A q → (∀ n ∈ needs, n ∈ A) → StrI A (needs.foldl (staleStep fl nm) q)
  | [], _, h, _ => h
  | n :: r, q, h, hs => strI_needs fl nm r _ (by
      unfold staleStep
      exact ((((h.add _ _).add _ _).str (hs n (List.mem_cons_self ..))).add _ _).add _ _) fun y hy => hs y (List.mem_cons_of_mem _ hy)
theorem strI_gives {A : List Pl.Bs} : ∀ (cs : List Pl.Bs) (q : Cp.Wr), StrI A q → (∀ c ∈ cs, c ∈ A) → StrI A (cs.foldl giveStep q)
  | [], _, h, _ => h
  | c :: r, q, h, hs => strI_gives r _ (by
      unfold giveStep
      exact (h.str (hs c (List.mem_cons_self ..))).add _ _) fun y hy => hs y (List.mem_cons_of_mem _ hy)
theorem strI_at {A : List Pl.Bs} (ss : List Stp) (hs : ∀ x ∈ ss, x.name ∈ A ∧ (∀ n ∈ x.needs, n ∈ A) ∧ ∀ c ∈ x.cmds, c ∈ A) : ∀ i, i ≤ ss.length → StrI A (writeAt ss i).1
  | 0, _ => ⟨List.nodup_nil, fun x hx => by cases hx⟩
  | i + 1, hi => by
    have hl : i < ss.length := by omega
    have ih := strI_at ss hs i (by omega)
    obtain ⟨h1, h2, h3⟩ := hs ss[i] (List.getElem_mem hl)
    rw [writeAt_next ss i hl]
    simp only
    have hst : StrI A (staleW (flPut (writeAt ss i).2 ss[i].name i) (writeAt ss i).1 ss[i].ph ss[i].name ss[i].needs) := by
      unfold staleW
      split
      · exact ih.add _ _
      · exact strI_needs _ _ _ _ ((ih.str h1).add _ _) h2
    have hb : StrI A (blockW (addW (staleW (flPut (writeAt ss i).2 ss[i].name i) (writeAt ss i).1 ss[i].ph ss[i].name ss[i].needs) 6 []) ss[i].cmds i) := by
      unfold blockW
      exact (strI_gives _ _ (hst.add _ _) h3).add _ _
    exact ⟨hb.nd, hb.sub⟩
def cmdsN : List Stp → Nat
  | [] => 0
  | x :: r => x.cmds.length + cmdsN r
theorem cmdsN_append (a b : List Stp) : cmdsN (a ++ b) = cmdsN a + cmdsN b := by
  induction a with
  | nil => simp [cmdsN]
  | cons x r ih => rw [List.cons_append, cmdsN, cmdsN, ih]; omega
theorem cSz (F K : Pl.Bs → Nat) (x : Stp) (i : Nat) : (nodeC F K x i).length ≤ 8 + 9 * x.needs.length + 3 * x.cmds.length := by
  have h1 : ∀ needs : List Pl.Bs, (needs.flatMap (needC F K x.name)).length = 9 * needs.length := fun needs => by
    induction needs with
    | nil => rfl
    | cons n r ih => rw [List.flatMap_cons, List.length_append, ih, List.length_cons]; show 9 + _ = _; omega
  have h2 : ∀ cmds : List Pl.Bs, (givesC K cmds).length = 3 * cmds.length := fun cmds => by
    induction cmds with
    | nil => rfl
    | cons c r ih =>
      have e : givesC K (c :: r) = cGive (K c) ++ givesC K r := by unfold givesC; rw [List.flatMap_cons]
      rw [e, List.length_append, ih, List.length_cons]; show 3 + _ = _; omega
  unfold nodeC preC bodyC
  rw [List.length_append, List.length_append, List.length_append, h2]
  have h3 : (cSet i).length = 2 := rfl
  have h4 : ∀ n, (cSkip n).length = 3 := fun _ => rfl
  rw [h3, h4]
  split
  · simp only [List.length_cons, List.length_nil]; omega
  · rw [List.length_append, h1]
    have h5 : (cAbs (K x.name)).length = 3 := rfl
    rw [h5]; omega
theorem allC_len (F : Nat → Pl.Bs → Nat) (K : Pl.Bs → Nat) : ∀ (ss : List Stp) (i : Nat), (∀ x ∈ ss, x.needs.length ≤ 100) → (allC F K ss i).length ≤ 908 * ss.length + 3 * cmdsN ss
  | [], _, _ => Nat.le_refl _
  | x :: r, i, h => by
    have ih := allC_len F K r (i + 1) fun y hy => h y (List.mem_cons_of_mem _ hy)
    have h1 := cSz (F i) K x i
    have h2 := h x (List.mem_cons_self ..)
    rw [allC, List.length_append, cmdsN, List.length_cons]
    omega
theorem flat_cmds : ∀ ss : List Stp, (ss.flatMap (·.cmds)).length = cmdsN ss
  | [] => rfl
  | x :: r => by rw [List.flatMap_cons, List.length_append, flat_cmds r, cmdsN]
/-- A plan of so many nodes and commands. -/
theorem plan_len {ss : List Stp} {p : Pl.Bs} (h : planW ss = some p) (hl : ss.length ≤ 100) (hk : cmdsN ss ≤ 500) (hb : ∀ x ∈ ss, StB 64000 x) (hn : ∀ x ∈ ss, ∀ n ∈ x.needs, ∃ y ∈ ss, y.name = n) : p.length ≤ 8388608 := by
  have hs := strI_at (A := ss.map (·.name) ++ ss.flatMap (·.cmds)) ss (fun x hx => ⟨List.mem_append_left _ (List.mem_map.2 ⟨x, hx, rfl⟩), fun n hn' => (by
    obtain ⟨y, h1, h2⟩ := hn x hx n hn'
    exact List.mem_append_left _ (List.mem_map.2 ⟨y, h1, h2⟩)), fun c hc => List.mem_append_right _ (List.mem_flatMap.2 ⟨x, hx, hc⟩)⟩) ss.length (Nat.le_refl _)
  unfold planW textW at h
  generalize hw : (writeAt ss ss.length).1 = w at h hs
  split at h
  · cases h
  · rename_i hq
    cases h
    rw [Bool.not_eq_true, Bool.or_eq_false_iff] at hq
    obtain ⟨hf, -⟩ := hq
    unfold failW at hf
    rw [Bool.or_eq_false_iff, Bool.or_eq_false_iff] at hf
    obtain ⟨g1, -⟩ := write_good (T := w.strs) ss ss.length (Nat.le_refl _) (by rw [hw]; exact ⟨List.prefix_refl _, hf.1.1⟩)
    rw [hw, List.take_length] at g1
    have l1 := allC_len (fOf ss) (kOf w.strs) ss 0 fun x hx => (hb x hx).needs
    have l2 := wts_sub _ _ hs.nd hs.sub
    rw [wts_append] at l2
    have l3 := wts_le 64000 (ss.map (·.name)) fun y hy => by
      obtain ⟨x, hx, rfl⟩ := List.mem_map.1 hy
      exact (hb x hx).name
    have l4 := wts_le 2000 (ss.flatMap (·.cmds)) fun y hy => by
      obtain ⟨x, hx, hc⟩ := List.mem_flatMap.1 hy
      exact (hb x hx).cw y hc
    rw [List.length_map] at l3
    rw [flat_cmds] at l4
    have m3 := Nat.mul_le_mul_right (64000 + 2) hl
    have m4 := Nat.mul_le_mul_right (2000 + 2) hk
    unfold outW
    rw [List.take_length, List.length_append, List.length_append, List.length_append, strsW_wts, g1]
    have e2 : (Cp.beB w.strs.length 2).length = 2 := rfl
    rw [e2]
    simp only [List.length_cons, List.length_nil]
    omega
end Go.Proofs.YtjelacjggijmfaaGreatDoor
namespace Go.Proofs.YtjelacjggijmfaaGreatDoor
open Go.RowKit Go.MapKept Go.ChangeMaps Go.Maps

set_option maxHeartbeats 4000000 in
set_option maxRecDepth 100000 in
theorem text_read (fs0 : List Pl.File) (path goal : Pl.Bs) (a : Option Addr) (cap b o M P : Nat) (W : World) (ha : 0 < fs0.length → a = some ⟨b, o, none⟩) (hr : RdF W b o fs0) (hbw : b < W.heap.size) (hfl : fs0.length ≤ 8388608) (hg : Glob W)
    (hf : ∀ p g, Pl.look (fs0.foldl Pl.addF []) p = some g → g.text.length + 1 ≤ M ∧ g.text.length ≤ 1073741824) (hM : 101 * M ≤ 200000000) (hl4 : (fs0.foldl Pl.addF []).length ≤ 4000000000) (hP2 : P ≤ 80000) (hfp : ∀ f ∈ fs0.foldl Pl.addF [], f.path.length ≤ 8388608) (hnm : NmB (bookF (fs0.foldl Pl.addF []) path).2.2 (fs0.foldl Pl.addF []) (goalF (bookF (fs0.foldl Pl.addF []) path).2.2 goal) P) (hz : (bookF (fs0.foldl Pl.addF []) path).1 = 0) :
    Calls Tryz.prog 40 #[.slice a fs0.length cap, .string ⟨path.toArray⟩, .string ⟨goal.toArray⟩] W fun e W' => TextP (fs0.foldl Pl.addF []) path goal W e W' := by
  have C1 := hide (worldNew_any fs0 [] a none cap b o 0 W.heap.size b 0 0 W ha hr hbw hfl (fun q => (by cases q)) ⟨hbw, fun i h => (by cases h)⟩ (Nat.le_refl _) (by decide))
  rw [List.length_nil] at C1
  obtain ⟨k, hok, hk⟩ := book_ok hf path
  have ht := tgs_book (fs0.foldl Pl.addF []) path
  have hu := ndu_book (fs0.foldl Pl.addF []) path
  have HT : Hid (∀ r, OrderT (bookF (fs0.foldl Pl.addF []) path).2.2 (fs0.foldl Pl.addF []) (goalF (bookF (fs0.foldl Pl.addF []) path).2.2 goal) r → TextR (fs0.foldl Pl.addF []) path goal r) := fun r h => .inr ⟨hz, h⟩
  have C2 : Hid (∀ w1 bx bf bi, PW w1 bx bf bi (.slice none 0 0) [] (fs0.foldl Pl.addF []) 0 → Below W.heap.size W w1 → Calls Tryz.prog 64 #[.pointer (some ⟨bx, 0, none⟩), .string ⟨path.toArray⟩] w1 fun e w2 => ∃ bb nm, e = .returned (.tuple #[.pointer (some ⟨bb, 0, none⟩), .int .i64 0, .int .i64 0]) ∧
      Calls Tryz.prog 65 #[.pointer (some ⟨bb, 0, none⟩), .pointer (some ⟨bx, 0, none⟩), .string ⟨goal.toArray⟩] w2 fun e w3 => OrderQ (bookF (fs0.foldl Pl.addF []) path).2.2 (fs0.foldl Pl.addF []) (goalF (bookF (fs0.foldl Pl.addF []) path).2.2 goal) nm w2 e w3 ∧ w3.cell? ⟨bb, 0, none⟩ = some (.map (some nm)) ∧ Below W.heap.size W w3) := fun w1 bx bf bi hp hb => by
    refine (rulesRead_any bx path w1 hp (hg.later hb) hf (by omega)).mono ?_
    rintro e w2 ⟨q1, -, q3⟩
    obtain ⟨c, G, rb, e1, e2, e3, -⟩ := q3 hz
    obtain ⟨vp, l, hB⟩ := RdM.bm e3
    refine ⟨c.bb, c.nm, e2, ?_⟩
    have hp2 := hp.later q1
    rw [← e1] at hp2 ⊢
    refine (order_text goal k P hB hp2 ((hg.later hb).later q1) hok (by omega) ht hu hl4 hP2 hfp hnm).mono ?_
    rintro e w3 hq
    have hq' := hq
    obtain ⟨_, _, _, h3, _⟩ := hq
    exact ⟨hq', Row.cell? (i := 0) (hB.later h3).book rfl, (hb.trans (q1.mono hb.size)).trans (h3.mono (hb.trans (q1.mono hb.size)).size)⟩
  clear ha hr hg hf hfp hok ht hu hz hnm
  generalize (bookF (fs0.foldl Pl.addF []) path).2.2 = s at *
  generalize goalF s goal = g at *
  generalize fs0.foldl Pl.addF [] = fs at *
  go_enter Tryz.func40, Tryz.ntmps40
  go_wp2_with (first
    | (go_at_call 61; refine (unhide C1).mono ?_; clear C1; rintro e w1 ⟨bx, bf, bi, rfl, hp, hb, -, -, -⟩; have C3 := hide (unhide C2 w1 bx bf bi hp hb); clear hp hb C2)
    | (go_at_call 64; refine (unhide C3).mono ?_; clear C3; rintro e w2 ⟨bb, nm, rfl, co⟩; have C4 := hide co; clear co)
    | (go_at_call 65; refine (unhide C4).mono ?_; clear C4; rintro e w3 ⟨⟨nv, er, rfl, -, ho⟩, y0, hb3⟩; have HB := hide hb3; have H5 : Hid ((((er : Int) != 0) = true → TextR fs path goal ([], er, 0)) ∧ (((er : Int) != 0) = false → ∃ nodes, (∀ R r, StepsR (nOf s.names) nodes 0 [] R → StepsT R r → TextR fs path goal r) ∧ Calls Tryz.prog 66 #[nv, .map (some nm)] w3 fun e W2 => StepsQ (nOf s.names) nodes w3 e W2)) := (by
        rcases ho with ⟨o1, o2⟩ | ⟨o1, nodes, o2, o3⟩
        · exact ⟨fun _ => unhide HT _ o2, fun q => absurd (bne_eq_false_iff_eq.1 q) (by omega)⟩
        · exact ⟨fun q => absurd o1 (by have := bne_iff_ne.1 q; omega), fun _ => ⟨nodes, fun R r a1 a2 => unhide HT r (o2 R r a1 a2), o3⟩⟩); clear hb3 ho HT)
    | (go_at_call 66; obtain ⟨nodes, o2, o3⟩ := (unhide H5).2 (by assumption); clear H5; refine o3.mono ?_; clear o3; rintro e w4 ⟨sv, er2, ln2, rfl, hb4, R, hR, hs⟩; have HB4 := hide ((unhide HB).trans (hb4.mono (unhide HB).size)); have H6 : Hid ((((er2 : Int) != 0) = true → TextR fs path goal ([], er2, ln2)) ∧ (((er2 : Int) != 0) = false → ∃ po : Option Pl.Bs, TextR fs path goal (match po with
          | none => ([], 5, 0)
          | some p => (p, 0, 0)) ∧ Calls Tryz.prog 67 #[sv] w4 fun e W2 => e = .returned (textV po) ∧ Below w4.heap.size w4 W2)) := (by
        rcases hs with ⟨o1, q2⟩ | ⟨o1, po, q2, q3⟩
        · exact ⟨fun _ => o2 _ _ hR q2, fun q => absurd (bne_eq_false_iff_eq.1 q) (by omega)⟩
        · exact ⟨fun q => absurd o1 (by have := bne_iff_ne.1 q; omega), fun _ => ⟨po, o2 _ _ hR q2, q3⟩⟩); clear hb4 hR hs o2 HB)
    | fail)
  · rename_i q
    go_ret3
    exact ⟨_, (unhide H5).1 q, rfl, unhide HB⟩
  · rename_i q
    go_ret3
    exact ⟨_, (unhide H6).1 q, rfl, unhide HB4⟩
  · obtain ⟨po, p1, p2⟩ := (unhide H6).2 (by assumption)
    refine p2.mono ?_
    rintro e w5 ⟨rfl, hb5⟩
    have HB5 := hide ((unhide HB4).trans (hb5.mono (unhide HB4).size))
    clear hb5 p2 H6
    cases po with
    | none =>
      unfold textV
      go_wp2_with fail
      go_ret3
      exact ⟨_, p1, rfl, unhide HB5⟩
    | some p =>
      unfold textV
      go_wp2_with fail
      go_ret3
      exact ⟨_, p1, rfl, unhide HB5⟩
/-- compile.Text, whatever the rules. -/
theorem text_any (fs0 : List Pl.File) (path goal : Pl.Bs) (a : Option Addr) (cap b o M P : Nat) (W : World) (ha : 0 < fs0.length → a = some ⟨b, o, none⟩) (hr : RdF W b o fs0) (hbw : b < W.heap.size) (hfl : fs0.length ≤ 8388608) (hg : Glob W)
    (hf : ∀ p g, Pl.look (fs0.foldl Pl.addF []) p = some g → g.text.length + 1 ≤ M ∧ g.text.length ≤ 1073741824) (hM : 101 * M ≤ 200000000) (hl4 : (fs0.foldl Pl.addF []).length ≤ 4000000000) (hP2 : P ≤ 80000) (hfp : ∀ f ∈ fs0.foldl Pl.addF [], f.path.length ≤ 8388608) (hnm : NmB (bookF (fs0.foldl Pl.addF []) path).2.2 (fs0.foldl Pl.addF []) (goalF (bookF (fs0.foldl Pl.addF []) path).2.2 goal) P) :
    Calls Tryz.prog 40 #[.slice a fs0.length cap, .string ⟨path.toArray⟩, .string ⟨goal.toArray⟩] W fun e W' => TextP (fs0.foldl Pl.addF []) path goal W e W' := by
  by_cases hz : (bookF (fs0.foldl Pl.addF []) path).1 = 0
  · exact text_read fs0 path goal a cap b o M P W ha hr hbw hfl hg hf hM hl4 hP2 hfp hnm hz
  · exact text_unread fs0 path goal a cap b o M W ha hr hbw hfl hg hf (by omega) hz
end Go.Proofs.YtjelacjggijmfaaGreatDoor
namespace Go.Proofs.YtjelacjggijmfaaGreatDoor
open Go.RowKit Go.MapKept Go.ChangeMaps Go.Maps

/-- What they ask of files. -/
structure FsOk (fs0 : List Pl.File) (path goal : Pl.Bs) : Prop where
  few : fs0.length ≤ 8388608
  text : ∃ M, 101 * M ≤ 200000000 ∧ ∀ p g, Pl.look (fs0.foldl Pl.addF []) p = some g → g.text.length + 1 ≤ M ∧ g.text.length ≤ 1073741824
  many : (fs0.foldl Pl.addF []).length ≤ 4000000000
  long : ∀ f ∈ fs0.foldl Pl.addF [], f.path.length ≤ 8388608
  name : ∃ P, P ≤ 80000 ∧ NmB (bookF (fs0.foldl Pl.addF []) path).2.2 (fs0.foldl Pl.addF []) (goalF (bookF (fs0.foldl Pl.addF []) path).2.2 goal) P
set_option maxHeartbeats 1000000 in
theorem compile_any {fs0 : List Pl.File} {path goal : Pl.Bs} (hF : FsOk fs0 path goal) (a : Option Addr) (cap b o : Nat) (W : World) (ha : 0 < fs0.length → a = some ⟨b, o, none⟩) (hr : RdF W b o fs0) (hbw : b < W.heap.size) (hg : Glob W) :
    Calls Tryz.prog 11 #[.slice a fs0.length cap, .string ⟨path.toArray⟩, .string ⟨goal.toArray⟩] W fun e W' => TextP (fs0.foldl Pl.addF []) path goal W e W' := by
  obtain ⟨M, hM, hf⟩ := hF.text
  obtain ⟨P, hP, hn⟩ := hF.name
  have C := hide (text_any fs0 path goal a cap b o M P W ha hr hbw hF.few hg hf hM hF.many hP hF.long hn)
  clear ha hr hf hn hF
  go_enter Tryz.func11, Tryz.ntmps11
  go_wp2_with fail
  refine (unhide C).mono ?_
  rintro e w1 ⟨r, h1, rfl, h3⟩
  have H := hide (show TextP (fs0.foldl Pl.addF []) path goal W (.returned (.tuple #[.string ⟨r.1.toArray⟩, .int .i64 (r.2.1 : Int), .int .i64 (r.2.2 : Int)])) w1 from ⟨r, h1, rfl, h3⟩)
  clear h1 h3 C
  go_wp2_with fail
  go_ret3
  exact unhide H
/-- What a Run answers; B: from there on lies what it made. -/
def RunRes (l : Pl.Bs) (fs : List Pl.File) (ef : List Pl.Eff) (clock : Int) (B : Nat) (e : Ending) (w' : World) : Prop :=
  (¬ Pl.checkOf l ∧ e = .returned (.tuple #[zRes, .int .i64 9])) ∨
    ∃ ss c vc vr, Pl.load l = some (ss, c) ∧ Pl.checkOf l ∧ e = .returned (.tuple #[.agg #[vc, vr, .int .i64 (Pl.runW c ss ef (Pl.newW fs clock)).exit, .int .i64 (Pl.runW c ss ef (Pl.newW fs clock)).clock], .int .i64 0]) ∧
      Strs w' B vc (Pl.runW c ss ef (Pl.newW fs clock)).cmds ∧ AFls w' B vr (Pl.sortF (Pl.runW c ss ef (Pl.newW fs clock)).files)
section
variable {l : Pl.Bs} {fs : List Pl.File} {ef : List Pl.Eff} {clock : Int} {B : Nat} {e : Ending} {w w' : World}
theorem RunRes.shape (h : RunRes l fs ef clock B e w') : ∃ a1 n1 c1 a2 n2 c2 ex ck er, e = .returned (.tuple #[.agg #[.slice a1 n1 c1, .slice a2 n2 c2, .int .i64 ex, .int .i64 ck], .int .i64 er]) := by
  rcases h with ⟨_, rfl⟩ | ⟨ss, c, vc, vr, _, _, rfl, h4, h5⟩
  · exact ⟨none, 0, 0, none, 0, 0, 0, 0, 9, rfl⟩
  · obtain ⟨a1, c1, rfl⟩ := own_sh h4
    obtain ⟨a2, c2, rfl⟩ := own_sh h5
    exact ⟨a1, _, c1, a2, _, c2, _, _, 0, rfl⟩
theorem RunRes.set {N k : Nat} (h : RunRes l fs ef clock B e w') (hN : N < B) (u : Value) : RunRes l fs ef clock B e (w'.setCell ⟨N, k, none⟩ u) := by
  rcases h with h | ⟨ss, c, vc, vr, h1, h2, h3, h4, h5⟩
  · exact .inl h
  · exact .inr ⟨ss, c, vc, vr, h1, h2, h3, owns_other h4 (own_ne h4 hN) _ _, owns_other h5 (own_ne h5 hN) _ _⟩
theorem RunRes.later (h : RunRes l fs ef clock B e w) (hb : Below w.heap.size w w') : RunRes l fs ef clock B e w' := by
  rcases h with h | ⟨ss, c, vc, vr, h1, h2, h3, h4, h5⟩
  · exact .inl h
  · exact .inr ⟨ss, c, vc, vr, h1, h2, h3, own_same h4 (fun k hk => hb.block k (World.ownsRow.lt h4 k hk).2), own_same h5 (fun k hk => hb.block k (World.ownsRow.lt h5 k hk).2)⟩
theorem RunRes.low {C : Nat} (h : RunRes l fs ef clock B e w) (hC : C ≤ B) : RunRes l fs ef clock C e w := by
  rcases h with h | ⟨ss, c, vc, vr, h1, h2, h3, h4, h5⟩
  · exact .inl h
  · exact .inr ⟨ss, c, vc, vr, h1, h2, h3, own_mono h4 hC, own_mono h5 hC⟩
end
/-- What Make leaves. -/
def MakeP (fs0 : List Pl.File) (path goal : Pl.Bs) (ef : List Pl.Eff) (clock : Int) (W : World) (e : Ending) (W' : World) : Prop :=
  Below W.heap.size W W' ∧ ∃ r, TextR (fs0.foldl Pl.addF []) path goal r ∧ ((r.2.1 ≠ 0 ∧ e = .returned (.tuple #[zRes, .int .i64 (r.2.1 : Int), .int .i64 (r.2.2 : Int)])) ∨
    (r.2.1 = 0 ∧ ∃ v er, e = .returned (.tuple #[v, .int .i64 er, .int .i64 0]) ∧ RunRes r.1 fs0 ef clock W.heap.size (.returned (.tuple #[v, .int .i64 er])) W'))
end Go.Proofs.YtjelacjggijmfaaGreatDoor
namespace Go.Proofs.YtjelacjggijmfaaGreatDoor
open Go.RowKit Go.MapKept Go.ChangeMaps Go.Maps

theorem give_cnt {N : Pl.Bs → Cp.Nv} {sg : UInt8 → Option Pl.Bs} : ∀ (cs : List (Pl.Bs × Nat)) (k : Nat) (acc : List Pl.Bs) (k' : Nat) (out : List Pl.Bs), GiveR N sg cs k acc (.inr (k', out)) → k ≤ k' ∧ (k' ≤ 500 → out.length + k = acc.length + k')
  | [], k, acc, k', out, h => by
    have e : (Sum.inr (k', out) : (Nat × Nat) ⊕ (Nat × List Pl.Bs)) = .inr (k, acc) := h
    cases e
    exact ⟨Nat.le_refl _, fun _ => rfl⟩
  | c :: rest, k, acc, k', out, ⟨r, h1, h⟩ => by
    split at h
    · cases h
    · split at h
      · exact give_cnt rest k acc k' out h
      · obtain ⟨a, b⟩ := give_cnt rest (k + 1) _ k' out h
        refine ⟨by omega, fun h5 => ?_⟩
        have := b h5
        rw [if_pos (by omega), List.length_append, List.length_singleton] at this
        omega
/-- The steps are the nodes, with their commands. -/
theorem steps_of {N : Pl.Bs → Cp.Nv} : ∀ (nodes : List Nod) (k : Nat) (acc : List Stp) (k' : Nat) (ss : List Stp), StepsR N nodes k acc (.inr (k', ss)) → k ≤ k' ∧ (k' ≤ 500 → cmdsN ss + k = cmdsN acc + k') ∧ ss.map (fun x => (x.name, x.needs)) = acc.map (fun x => (x.name, x.needs)) ++ nodes.map (fun x => (x.name, x.needs))
  | [], k, acc, k', ss, h => by
    have e : (Sum.inr (k', ss) : (Nat × Nat) ⊕ (Nat × List Stp)) = .inr (k, acc) := h
    cases e
    exact ⟨Nat.le_refl _, fun _ => rfl, by simp⟩
  | x :: rest, k, acc, k', ss, ⟨G, h1, h⟩ => by
    cases G with
    | inl e => cases h
    | inr p =>
      obtain ⟨k1, cs⟩ := p
      obtain ⟨a1, a2⟩ := give_cnt _ _ _ _ _ h1
      obtain ⟨b1, b2, b3⟩ := steps_of rest k1 _ k' ss h
      refine ⟨by omega, fun h5 => ?_, ?_⟩
      · have c1 := a2 (by omega)
        have c2 := b2 h5
        rw [cmdsN_append] at c2
        simp only [cmdsN, List.length_nil] at c1 c2
        omega
      · rw [b3, List.map_append, List.append_assoc]
        rfl
theorem text_len {fs : List Pl.File} {path goal : Pl.Bs} {r : Pl.Bs × Nat × Nat} (h : TextR fs path goal r) (h0 : r.2.1 = 0) (hn : NmB (bookF fs path).2.2 fs (goalF (bookF fs path).2.2 goal) 64000) : r.1.length ≤ 8388608 := by
  obtain ⟨-, q, k, ss, h1, h2, h3, hg, h4, h5, h6⟩ := h.plan h0
  obtain ⟨-, a2, a3⟩ := steps_of _ _ _ _ _ h4
  have hov := (walk_ov h1 h2).1
  have hu := ndu_book fs path
  have hnm := hn hg q h1 h2 h3
  have hnd : ∀ x ∈ q.2.over, x.name.length ≤ 64000 ∧ x.needs.length ≤ 100 ∧ ∀ n ∈ x.needs, n.length ≤ 64000 := fun x hx => by
    obtain ⟨z1, z2⟩ := over_needs hu hov h3 hx
    refine ⟨hnm x hx, z1, fun n hn => ?_⟩
    obtain ⟨y, a, b⟩ := z2 n hn
    rw [← b]; exact hnm y a
  obtain ⟨e1, e2⟩ := steps_size (P := 64000) _ _ _ _ _ h4 hnd (fun x hx => by cases hx)
  simp only [List.map_nil, List.nil_append] at a3
  refine plan_len h6 ?_ ?_ e2 fun x hx n hm => ?_
  · rw [e1, List.length_nil]; omega
  · have := a2 h5
    simp only [cmdsN] at this
    omega
  · have hx2 : (x.name, x.needs) ∈ ss.map fun x => (x.name, x.needs) := List.mem_map.2 ⟨x, hx, rfl⟩
    rw [a3] at hx2
    obtain ⟨u, hu1, hu2⟩ := List.mem_map.1 hx2
    have hu3 : u.needs = x.needs := by simpa using congrArg Prod.snd hu2
    obtain ⟨y, hy, hyn⟩ := (over_needs hu hov h3 hu1).2 n (by rw [hu3]; exact hm)
    have hy2 : (y.name, y.needs) ∈ q.2.over.map fun x => (x.name, x.needs) := List.mem_map.2 ⟨y, hy, rfl⟩
    rw [← a3] at hy2
    obtain ⟨v, hv1, hv2⟩ := List.mem_map.1 hy2
    refine ⟨v, hv1, ?_⟩
    have : v.name = y.name := by simpa using congrArg Prod.fst hv2
    rw [this, hyn]
/-- Files whose names and texts together are no more than this. -/
def sumF : List Pl.File → Nat
  | [] => 0
  | f :: r => f.path.length + f.text.length + 1 + sumF r
theorem sumF_mem : ∀ {fs : List Pl.File} {f : Pl.File}, f ∈ fs → f.path.length + f.text.length + 1 ≤ sumF fs
  | [], _, h => by cases h
  | g :: r, f, h => by
    rw [sumF]
    rcases List.mem_cons.1 h with e | e
    · rw [e]; omega
    · have := sumF_mem e
      omega
theorem sumF_len : ∀ fs : List Pl.File, fs.length ≤ sumF fs
  | [] => Nat.le_refl _
  | f :: r => by
    have := sumF_len r
    rw [sumF, List.length_cons]; omega
theorem sumP_append (a b : List Pl.File) : sumP (a ++ b) = sumP a + sumP b := by
  induction a with
  | nil => simp [sumP]
  | cons x r ih => rw [List.cons_append, sumP, sumP, ih]; omega
theorem adds_sum : ∀ (fs acc : List Pl.File), sumP (fs.foldl Pl.addF acc) ≤ sumP acc + sumF fs ∧ ∀ f ∈ fs.foldl Pl.addF acc, f ∈ acc ∨ f ∈ fs
  | [], acc => ⟨Nat.le_refl _, fun f hf => .inl hf⟩
  | g :: r, acc => by
    obtain ⟨h1, h2⟩ := adds_sum r (Pl.addF acc g)
    rw [List.foldl_cons, sumF]
    have h3 : sumP (Pl.addF acc g) ≤ sumP acc + g.path.length ∧ ∀ f ∈ Pl.addF acc g, f ∈ acc ∨ f = g := by
      unfold Pl.addF
      split
      · exact ⟨Nat.le_add_right _ _, fun f hf => .inl hf⟩
      · refine ⟨by rw [sumP_append]; simp [sumP], fun f hf => ?_⟩
        rcases List.mem_append.1 hf with e | e
        · exact .inl e
        · exact .inr (List.mem_singleton.1 e)
    refine ⟨by omega, fun f hf => ?_⟩
    rcases h2 f hf with e | e
    · rcases h3.2 f e with q | q
      · exact .inl q
      · exact .inr (by rw [q]; exact List.mem_cons_self ..)
    · exact .inr (List.mem_cons_of_mem _ e)
theorem nm_all {fs0 : List Pl.File} (hs : sumF fs0 ≤ 1048576) (path goal : Pl.Bs) : NmB (bookF (fs0.foldl Pl.addF []) path).2.2 (fs0.foldl Pl.addF []) (goalF (bookF (fs0.foldl Pl.addF []) path).2.2 goal) 64000 := by
  obtain ⟨h1, h2⟩ := adds_sum fs0 []
  have hin : ∀ f ∈ fs0.foldl Pl.addF [], f ∈ fs0 := fun f hf => (h2 f hf).resolve_left (fun q => by cases q)
  obtain ⟨k, hok, -⟩ := book_ok (M := 1048577) (fs := fs0.foldl Pl.addF []) (fun p g h => by
    have := sumF_mem (hin g (List.mem_of_find?_eq_some h))
    omega) path
  exact nmb_any hok (tgs_book _ _) (pcs_book _ _) (by simp only [sumP] at h1; omega) _
theorem fsOk {fs0 : List Pl.File} (hs : sumF fs0 ≤ 1048576) (path goal : Pl.Bs) : FsOk fs0 path goal := by
  obtain ⟨h1, h2⟩ := adds_sum fs0 []
  have hin : ∀ f ∈ fs0.foldl Pl.addF [], f ∈ fs0 := fun f hf => (h2 f hf).resolve_left (fun q => by cases q)
  have hl := sumF_len fs0
  have ha := add_len fs0 []
  refine ⟨by omega, ⟨1048577, by decide, fun p g h => ?_⟩, ?_, fun f hf => ?_, 64000, by decide, nm_all hs path goal⟩
  · have := sumF_mem (hin g (List.mem_of_find?_eq_some h))
    omega
  · simp only [List.length_nil] at ha; omega
  · have := sumF_mem (hin f hf)
    omega
end Go.Proofs.YtjelacjggijmfaaGreatDoor
namespace Go.Proofs.YtjelacjggijmfaaGreatDoor
open Go.RowKit

set_option maxHeartbeats 2000000 in
set_option maxRecDepth 20000 in
theorem sameResult_any (cs : List Pl.Bs) (fs : List Pl.File) (ex ck : Int) (a1 a2 a3 a4 : Option Addr) (k1 k2 k3 k4 b1 b2 b3 b4 o1 o2 o3 o4 : Nat) (w : World)
    (h1 : 0 < cs.length → a1 = some ⟨b1, o1, none⟩) (h2 : 0 < fs.length → a2 = some ⟨b2, o2, none⟩) (h3 : 0 < cs.length → a3 = some ⟨b3, o3, none⟩) (h4 : 0 < fs.length → a4 = some ⟨b4, o4, none⟩)
    (r1 : RdS w b1 o1 cs) (r2 : RdF w b2 o2 fs) (r3 : RdS w b3 o3 cs) (r4 : RdF w b4 o4 fs)
    (l1 : 0 < cs.length → b1 < w.heap.size) (l2 : 0 < fs.length → b2 < w.heap.size) (l3 : 0 < cs.length → b3 < w.heap.size) (l4 : 0 < fs.length → b4 < w.heap.size) (hc : cs.length ≤ 8388608) (hf : fs.length ≤ 8388608) :
    Calls Tryz.prog 28 #[.agg #[.slice a1 cs.length k1, .slice a2 fs.length k2, .int .i64 ex, .int .i64 ck], .agg #[.slice a3 cs.length k3, .slice a4 fs.length k4, .int .i64 ex, .int .i64 ck]] w fun e w' => e = .returned (.bool true) ∧ Below w.heap.size w w' := by
  have H1 := hide h1
  have H2 := hide h2
  have H3 := hide h3
  have H4 := hide h4
  have R1 := hide r1
  have R2 := hide r2
  have R3 := hide r3
  have R4 := hide r4
  have L1 := hide l1
  have L2 := hide l2
  have L3 := hide l3
  have L4 := hide l4
  clear h1 h2 h3 h4 r1 r2 r3 r4 l1 l2 l3 l4
  go_enter Tryz.func28, Tryz.ntmps28
  go_wp2_with fail
  obtain ⟨hx, hy⟩ := box_two w 48 48 (.slice a1 cs.length k1) (.slice a2 fs.length k2) (.int .i64 ex) (.int .i64 ck) (.slice a3 cs.length k3) (.slice a4 fs.length k4) (.int .i64 ex) (.int .i64 ck)
  have HX := hide hx
  have HY := hide hy
  clear hx hy
  generalize ((w.alloc (.cells #[(.slice a1 cs.length k1), (.slice a2 fs.length k2), (.int .i64 ex), (.int .i64 ck)] 48)).alloc (.cells #[(.slice a3 cs.length k3), (.slice a4 fs.length k4), (.int .i64 ex), (.int .i64 ck)] 48)) = W0 at *
  go_loopw [5] (fun i wr => ∃ k : Nat, i = .int .i64 k ∧ k ≤ cs.length ∧ Hid (Boxed w w.heap.size 48 (.slice a1 cs.length k1) (.slice a2 fs.length k2) (.int .i64 ex) (.int .i64 ck) wr) ∧ Hid (Boxed w (w.heap.size + 1) 48 (.slice a3 cs.length k3) (.slice a4 fs.length k4) (.int .i64 ex) (.int .i64 ck) wr)) (fun i _ => cs.length - intN i)
  case atStart => exact ⟨0, rfl, Nat.zero_le _, HX, HY⟩
  case round =>
    clear HX HY
    obtain ⟨k, rfl, hkl, HX, HY⟩ := hrel
    obtain ⟨x0, x1, x2, x3⟩ := (unhide HX).cells
    obtain ⟨y0, y1, y2, y3⟩ := (unhide HY).cells
    by_cases hk : k < cs.length
    · obtain rfl := unhide H1 (by omega)
      obtain rfl := unhide H3 (by omega)
      have p := (unhide R1).below (unhide HX).below (unhide L1 (by omega)) k hk
      have q := (unhide R3).below (unhide HX).below (unhide L3 (by omega)) k hk
      generalize cs[k] = ck0 at *
      unfold strV at p q
      have t1 : (k : Int) < (cs.length : Int) := by omega
      go_wp2_with fail
      go_quiet (fail)
      go_wp2_with fail
      go_roundw
      case rel => exact ⟨k + 1, by go_num, by omega, (unhide HX).drewN _, (unhide HY).drewN _⟩
      case measure => simp only [intN]; omega
    · have t1 : ¬ (k : Int) < (cs.length : Int) := by omega
      go_wp2_with fail
      clear x0 x1 x2 x3 y0 y1 y2 y3
      go_loopw [6] (fun i wr => ∃ k : Nat, i = .int .i64 k ∧ k ≤ fs.length ∧ Hid (Boxed w w.heap.size 48 (.slice a1 cs.length k1) (.slice a2 fs.length k2) (.int .i64 ex) (.int .i64 ck) wr) ∧ Hid (Boxed w (w.heap.size + 1) 48 (.slice a3 cs.length k3) (.slice a4 fs.length k4) (.int .i64 ex) (.int .i64 ck) wr)) (fun i _ => fs.length - intN i)
      case atStart => exact ⟨0, rfl, Nat.zero_le _, HX, HY⟩
      case round =>
        clear HX HY
        obtain ⟨k', rfl, hkl', HX, HY⟩ := hrel
        obtain ⟨x0, x1, x2, x3⟩ := (unhide HX).cells
        obtain ⟨y0, y1, y2, y3⟩ := (unhide HY).cells
        by_cases hk' : k' < fs.length
        · obtain rfl := unhide H2 (by omega)
          obtain rfl := unhide H4 (by omega)
          obtain ⟨p0, p1, p2⟩ := (unhide R2).below (unhide HX).below (unhide L2 (by omega)) k' hk'
          obtain ⟨q0, q1, q2⟩ := (unhide R4).below (unhide HX).below (unhide L4 (by omega)) k' hk'
          generalize fs[k'] = fk at *
          unfold strV at p0 p1 q0 q1
          have t2 : (k' : Int) < (fs.length : Int) := by omega
          go_wp2_with fail
          go_quiet (fail)
          go_wp2_with fail
          go_roundw
          case rel => exact ⟨k' + 1, by go_num, by omega, (unhide HX).drewN _, (unhide HY).drewN _⟩
          case measure => simp only [intN]; omega
        · have t2 : ¬ (k' : Int) < (fs.length : Int) := by omega
          go_wp2_with fail
          go_ret
          exact ⟨rfl, (unhide HX).below⟩
end Go.Proofs.YtjelacjggijmfaaGreatDoor
namespace Go.Proofs.YtjelacjggijmfaaGreatDoor
open Go.RowKit Go.MapKept Go.ChangeMaps Go.Maps

def liveF : List Pl.File := [⟨[82], [97, 58, 10, 9, 98], 0⟩]
theorem exp_free {L : NL} {t : Pl.Bs} (h : Mk.has 36 t = false) (hl : (Mk.before 36 t).length ≤ 2000) : expE L t = ⟨Mk.before 36 t, 0, 0⟩ := by
  refine expE_eq ?_
  have := Cp.Exp.free (N := nOf L) (sg := fun _ => none) (m := []) (k := 0) (a := []) h
  have e1 : Cp.addB [] (Mk.before 36 t) = Mk.before 36 t := rfl
  rw [e1] at this
  unfold Cp.toldB at this
  rw [if_neg (by omega)] at this
  exact this
def liveS : St := { explicitF { st0 with n := 1, rules := [⟨[[97]], [], []⟩] } [[97]] 0 with rules := [⟨[[97]], [], [([98], 2)]⟩] }
theorem live_book : bookF liveF [82] = (0, 0, liveS) := by
  have e1 : expE [] [97] = ⟨[97], 0, 0⟩ := exp_free rfl (by decide)
  have e2 : expE [] [] = ⟨[], 0, 0⟩ := exp_free rfl (by decide)
  have ha : Mk.allF (Mk.joined [97, 58, 10, 9, 98]) = [(⟨1, 5, [97], []⟩, 0), (⟨2, 1, [], [98]⟩, 0)] := by rfl
  have hr : ruleF st0 ⟨1, 5, [97], []⟩ = (0, some 0, explicitF { st0 with n := 1, rules := [⟨[[97]], [], []⟩] } [[97]] 0) := by
    unfold ruleF
    simp only [show st0.names = [] from rfl]
    rw [e1, e2]
    rfl
  show readF liveF 3 st0 [97, 58, 10, 9, 98] = _
  rw [readF, ha, linesF]
  have h1 : lineF (readF liveF 2) liveF st0 none ⟨1, 5, [97], []⟩ = (0, 1, some 0, explicitF { st0 with n := 1, rules := [⟨[[97]], [], []⟩] } [[97]] 0) := by
    unfold lineF
    rw [if_neg (by decide), if_pos rfl, hr]
  simp only
  rw [h1, if_neg (by simp), if_neg (by simp), linesF]
  rfl
def liveX : List Stp := [⟨[97], false, [], [], [[98]]⟩]
theorem live_from {q : Nat × Wst} (h : FromR liveS liveF (usL liveS liveF liveS.pats) (enterF liveS liveF (usL liveS liveF liveS.pats) wst0 [97]) q) : q.1 = 0 ∧ q.2.over = [⟨[97], false, [], [], [([98], 2)]⟩] := by
  obtain ⟨n, hn⟩ := h
  match n, hn with
  | 0, hn => exact absurd hn (by rw [show fromF liveS liveF (usL liveS liveF liveS.pats) 0 (enterF liveS liveF (usL liveS liveF liveS.pats) wst0 [97]) = none from rfl]; simp)
  | n + 1, hn =>
    have : fromF liveS liveF (usL liveS liveF liveS.pats) (n + 1) (enterF liveS liveF (usL liveS liveF liveS.pats) wst0 [97]) = some (0, ⟨[([97], 2)], [], [⟨[97], false, [], [], [([98], 2)]⟩]⟩) := by
      rw [fromF, if_neg (by simp [enterF]; decide)]
      cases n with
      | zero => rfl
      | succ n => rfl
    rw [this] at hn
    cases hn
    exact ⟨rfl, rfl⟩
theorem live_plan : ∃ p, planW liveX = some p ∧ p.length ≤ 100 := by
  have h : (planW liveX).isSome = true ∧ ((planW liveX).getD []).length ≤ 100 := by decide
  cases hp : planW liveX with
  | none => rw [hp] at h; cases h.1
  | some p => rw [hp] at h; exact ⟨p, rfl, h.2⟩
theorem live_text {r : Pl.Bs × Nat × Nat} (h : TextR liveF [82] [97] r) : ∃ p, planW liveX = some p ∧ r = (p, 0, 0) := by
  obtain ⟨p, hp, -⟩ := live_plan
  refine ⟨p, hp, ?_⟩
  unfold TextR at h
  rw [live_book] at h
  rcases h with ⟨h1, -⟩ | ⟨-, h⟩
  · exact absurd rfl h1
  · have hg : goalF liveS [97] = [97] := rfl
    simp only at h
    rw [hg] at h
    rcases h with ⟨h1, -⟩ | ⟨-, h1, -⟩ | ⟨-, -, q, hq, h⟩
    · cases h1
    · exact absurd h1 (by decide)
    · obtain ⟨q1, q2⟩ := live_from hq
      rw [q2] at h
      rcases h with ⟨h1, -⟩ | ⟨-, h1, -⟩ | ⟨-, -, R, hR, h⟩
      · exact absurd q1 h1
      · exact absurd h1 (by decide)
      · obtain ⟨G, hG, hR⟩ := hR
        obtain ⟨e, he, hG⟩ := hG
        have hx : Cp.Exp (nOf liveS.names) (Nod.sg ⟨[97], false, [], [], [([98], 2)]⟩) [] 0 [] [98] ⟨[98], 0, 0⟩ := Cp.Exp.free rfl
        obtain rfl := he.det hx
        rw [if_neg (by decide), if_neg (by decide)] at hG
        have hG' : G = .inr (1, [[98]]) := hG
        subst hG'
        have hR' : R = .inr (1, liveX) := hR
        subst hR'
        rcases h with ⟨h1, -⟩ | ⟨-, h⟩
        · exact absurd h1 (by decide)
        · rw [hp] at h
          exact h
end Go.Proofs.YtjelacjggijmfaaGreatDoor
namespace Go.Proofs.YtjelacjggijmfaaGreatDoor
open Go.RowKit Go.MapKept Go.ChangeMaps Go.Maps

set_option maxHeartbeats 2000000 in
set_option maxRecDepth 20000 in
theorem make_any {fs0 : List Pl.File} {path goal : Pl.Bs} (hF : FsOk fs0 path goal) (hpl : ∀ r, TextR (fs0.foldl Pl.addF []) path goal r → r.2.1 = 0 → r.1.length ≤ 8388608) (ef : List Pl.Eff) (S : List Pl.Bs) (a ae : Option Addr) (cap b o ce L be oe : Nat) (clock : Int) (W : World)
    (ha : 0 < fs0.length → a = some ⟨b, o, none⟩) (hr : RdF W b o fs0) (hbw : b < W.heap.size) (hg : Glob W) (hE : EffOk W L be oe ae ef S) (hL : L ≤ W.heap.size) (hfS : ∀ f ∈ fs0, f.path ∈ S) (hSp : ∀ p ∈ S, p.length ≤ maxLen) :
    Calls Tryz.prog 20 #[.slice a fs0.length cap, .string ⟨path.toArray⟩, .string ⟨goal.toArray⟩, .slice ae ef.length ce, .int .i64 clock] W fun e W' => MakeP fs0 path goal ef clock W e W' := by
  have C1 : Hid (∀ w1, Below W.heap.size W w1 → Calls Tryz.prog 11 #[.slice a fs0.length cap, .string ⟨path.toArray⟩, .string ⟨goal.toArray⟩] w1 fun e W' => TextP (fs0.foldl Pl.addF []) path goal w1 e W') := fun w1 hb => compile_any hF a cap b o w1 ha (hr.below hb hbw) (Nat.lt_of_lt_of_le hbw hb.size) (hg.later hb)
  have C2 : Hid (∀ w1 (l : Pl.Bs), l.length ≤ 8388608 → Below W.heap.size W w1 → Calls Tryz.prog 30 #[.string ⟨l.toArray⟩, .slice a fs0.length cap, .slice ae ef.length ce, .int .i64 clock] w1 fun e W' => ARunPost l fs0 ef clock w1 e W') := fun w1 l hl hb => makerRun_any l hl fs0 ef S a ae cap b o ce L be oe clock w1 ha (hr.below hb hbw) (Nat.lt_of_lt_of_le hbw hb.size) hF.few (hE.tn (Tn.later (p := fun _ => False) hb) hL (fun k e => e.elim)) (Nat.le_trans hL hb.size) hfS hSp
  have HP := hide hpl
  clear ha hr hg hE hfS hSp hF hpl
  go_enter Tryz.func20, Tryz.ntmps20
  have hR0 := Row.new W 48 [.slice none 0 0, .slice none 0 0, .int .i64 0, .int .i64 0]
  have hs0 : (W.alloc (.cells #[.slice none 0 0, .slice none 0 0, .int .i64 0, .int .i64 0] 48)).heap.size = W.heap.size + 1 := World.size_alloc _ _
  have hb0 : Below W.heap.size W (W.alloc (.cells #[.slice none 0 0, .slice none 0 0, .int .i64 0, .int .i64 0] 48)) := (Below.refl _ _).alloc (Nat.le_refl _) _
  have HR0 := hide hR0
  have HS0 := hide hs0
  have HB0 := hide hb0
  clear hR0 hs0 hb0
  go_wp2_with (first
    | (go_at_call 11; refine (unhide C1 _ (unhide HB0)).mono ?_; rintro e w1 ⟨r, hr1, rfl, hb1⟩; have HR1 := hide hr1; have HB1 := hide ((unhide HB0).trans (hb1.mono (by rw [unhide HS0]; omega))); have hrow := (unhide HR0).below hb1 (by rw [unhide HS0]; omega); have r0 := hrow.cell 0 (by simp); have r1 := hrow.cell 1 (by simp); have r2 := hrow.cell 2 (by simp); have r3 := hrow.cell 3 (by simp); have f0 := hrow.frozen 0; have f1 := hrow.frozen 1; have f2 := hrow.frozen 2; have f3 := hrow.frozen 3; simp only [List.getElem_cons_zero, List.getElem_cons_succ] at r0 r1 r2 r3; have HW1 := hide hrow; have HSZ : Hid (W.heap.size < w1.heap.size) := hide hrow.lt; have HZ : Hid (((r.2.1 : Int) != 0) = false → r.2.1 = 0) := hide (fun q => (by have := bne_eq_false_iff_eq.1 q; omega)); have HNZ : Hid (((r.2.1 : Int) != 0) = true → r.2.1 ≠ 0) := hide (fun q => (by have := bne_iff_ne.1 q; omega)); clear hrow hr1 hb1 C1)
    | fail)
  · rename_i hnz
    have hset : ∀ u0 u1 u2 u3, Below W.heap.size W ((((w1.setCell ⟨W.heap.size, 0, none⟩ u0).setCell ⟨W.heap.size, 1, none⟩ u1).setCell ⟨W.heap.size, 2, none⟩ u2).setCell ⟨W.heap.size, 3, none⟩ u3) := fun u0 u1 u2 u3 => ((((unhide HB1).setCell (p := ⟨W.heap.size, 0, none⟩) (Nat.le_refl _) u0).setCell (p := ⟨W.heap.size, 1, none⟩) (Nat.le_refl _) u1).setCell (p := ⟨W.heap.size, 2, none⟩) (Nat.le_refl _) u2).setCell (p := ⟨W.heap.size, 3, none⟩) (Nat.le_refl _) u3
    have hR := ((((unhide HW1).set 0 (.slice none 0 0)).set 1 (.slice none 0 0)).set 2 (.int .i64 0)).set 3 (.int .i64 0)
    have o0 := hR.cell 0 (by simp)
    have o1 := hR.cell 1 (by simp)
    have o2 := hR.cell 2 (by simp)
    have o3 := hR.cell 3 (by simp)
    simp only [List.set_cons_zero, List.set_cons_succ, List.getElem_cons_zero, List.getElem_cons_succ] at o0 o1 o2 o3
    refine bodyPost_ret (v := .tuple #[zRes, .int .i64 (r.2.1 : Int), .int .i64 (r.2.2 : Int)]) ?_ rfl ⟨hset _ _ _ _, r, unhide HR1, .inl ⟨unhide HNZ (by first | assumption | simpa using hnz), rfl⟩⟩
    simp [results, Tryz.results20, go_sem, o0, o1, o2, o3, zRes]
  · have hz := unhide HZ (by assumption)
    refine (unhide C2 w1 r.1 (unhide HP r (unhide HR1) hz) (unhide HB1)).mono ?_
    rintro e w2 ⟨hb2, hres⟩
    have hres : RunRes r.1 fs0 ef clock w1.heap.size e w2 := hres
    obtain ⟨a1, n1, c1, a2, n2, c2, ex, ck, er, rfl⟩ := hres.shape
    have HRE := hide hres
    have HB2 := hide hb2
    have hba : Below w2.heap.size w2 (w2.alloc (.cells #[.slice a1 n1 c1, .slice a2 n2 c2, .int .i64 ex, .int .i64 ck] 48)) := (Below.refl _ _).alloc (Nat.le_refl _) _
    have hrow := ((unhide HW1).later hb2).later hba
    have hr2 := Row.new w2 48 [.slice a1 n1 c1, .slice a2 n2 c2, .int .i64 ex, .int .i64 ck]
    have hlt := ((unhide HW1).later hb2).lt
    have r0 := hrow.cell 0 (by simp)
    have r1 := hrow.cell 1 (by simp)
    have r2 := hrow.cell 2 (by simp)
    have r3 := hrow.cell 3 (by simp)
    have f0 := hrow.frozen 0
    have f1 := hrow.frozen 1
    have f2 := hrow.frozen 2
    have f3 := hrow.frozen 3
    have p0 := hr2.cell 0 (by simp)
    have p1 := hr2.cell 1 (by simp)
    have p2 := hr2.cell 2 (by simp)
    have p3 := hr2.cell 3 (by simp)
    simp only [List.getElem_cons_zero, List.getElem_cons_succ] at r0 r1 r2 r3 p0 p1 p2 p3
    have HW2 := hide hrow
    have HBA := hide hba
    clear hres hb2 hrow HW1 hr2 hba
    go_upto_region 5 with fail
    generalize w2.alloc (.cells #[.slice a1 n1 c1, .slice a2 n2 c2, .int .i64 ex, .int .i64 ck] 48) = W3 at *
    go_wp2_with fail
    have hR := ((((unhide HW2).set 0 (.slice a1 n1 c1)).set 1 (.slice a2 n2 c2)).set 2 (.int .i64 ex)).set 3 (.int .i64 ck)
    have o0 := hR.cell 0 (by simp)
    have o1 := hR.cell 1 (by simp)
    have o2 := hR.cell 2 (by simp)
    have o3 := hR.cell 3 (by simp)
    simp only [List.set_cons_zero, List.set_cons_succ, List.getElem_cons_zero, List.getElem_cons_succ] at o0 o1 o2 o3
    have hbw3 : Below W.heap.size W W3 := ((unhide HB1).trans ((unhide HB2).mono (unhide HB1).size)).trans ((unhide HBA).mono (by omega))
    have hset : Below W.heap.size W ((((W3.setCell ⟨W.heap.size, 0, none⟩ (.slice a1 n1 c1)).setCell ⟨W.heap.size, 1, none⟩ (.slice a2 n2 c2)).setCell ⟨W.heap.size, 2, none⟩ (.int .i64 ex)).setCell ⟨W.heap.size, 3, none⟩ (.int .i64 ck)) := (((hbw3.setCell (p := ⟨W.heap.size, 0, none⟩) (Nat.le_refl _) _).setCell (p := ⟨W.heap.size, 1, none⟩) (Nat.le_refl _) _).setCell (p := ⟨W.heap.size, 2, none⟩) (Nat.le_refl _) _).setCell (p := ⟨W.heap.size, 3, none⟩) (Nat.le_refl _) _
    have hre := (((((unhide HRE).later (unhide HBA)).set (k := 0) (unhide HSZ) (.slice a1 n1 c1)).set (k := 1) (unhide HSZ) (.slice a2 n2 c2)).set (k := 2) (unhide HSZ) (.int .i64 ex)).set (k := 3) (unhide HSZ) (.int .i64 ck)
    refine bodyPost_ret (v := .tuple #[.agg #[.slice a1 n1 c1, .slice a2 n2 c2, .int .i64 ex, .int .i64 ck], .int .i64 er, .int .i64 0]) ?_ rfl ⟨hset, r, unhide HR1, .inr ⟨hz, _, er, rfl, hre.low (Nat.le_of_lt (unhide HSZ))⟩⟩
    simp [results, Tryz.results20, go_sem, o0, o1, o2, o3]
end Go.Proofs.YtjelacjggijmfaaGreatDoor
namespace Go.Proofs.YtjelacjggijmfaaGreatDoor
open Go.RowKit Go.MapKept Go.ChangeMaps Go.Maps

theorem live_ok : FsOk liveF [82] [97] := by
  refine ⟨by decide, ⟨100, by decide, fun p g h => ?_⟩, by decide, fun f hf => ?_, 2, by decide, ?_⟩
  · have hm : g ∈ liveF := List.mem_of_find?_eq_some h
    rw [List.mem_singleton.1 hm]
    decide
  · have hm : f ∈ liveF := hf
    rw [List.mem_singleton.1 hm]
    decide
  · have e : liveF.foldl Pl.addF [] = liveF := rfl
    rw [e, live_book]
    intro _ r hr _ _ x hx
    rw [(live_from hr).2] at hx
    rw [List.mem_singleton.1 hx]
    decide
theorem live_run : doA [] (fOf liveX) liveX 0 ((fun _ => false), Pl.newW liveF 0) = ⟨liveF, 1, [[98]], 0⟩ := by kernel_rfl
/-- Make, of one rule with one command. -/
theorem live_make (b : Nat) (W : World) (hr : RdF W b 0 liveF) (hbw : b < W.heap.size) (hg : Glob W) :
    Calls Tryz.prog 20 #[.slice (some ⟨b, 0, none⟩) 1 1, .string ⟨#[82]⟩, .string ⟨#[97]⟩, .slice none 0 0, .int .i64 0] W fun e w' => ∃ g c1 a2 n2 c2, e = .returned (.tuple #[.agg #[.slice (some ⟨g, 0, none⟩) 1 c1, .slice a2 n2 c2, .int .i64 0, .int .i64 1], .int .i64 0, .int .i64 0]) ∧ w'.cell? ⟨g, 0, none⟩ = some (.string ⟨#[98]⟩) ∧ g < w'.heap.size ∧ Below W.heap.size W w' := by
  obtain ⟨p, hp, hpl⟩ := live_plan
  refine (make_any live_ok (fun r hr h0 => ?_) [] [[82]] (some ⟨b, 0, none⟩) none 1 b 0 0 W.heap.size b 0 0 W (fun _ => rfl) hr hbw hg ⟨fun h => by simp at h, ⟨hbw, fun i hi => by simp at hi⟩, by simp, by simp, by simp, by simp⟩ (Nat.le_refl _) (fun f hf => ?_) (fun p hp => ?_)).mono ?_
  · obtain ⟨q, h1, h2⟩ := live_text hr
    rw [hp] at h1
    cases h1
    rw [h2]
    exact Nat.le_trans hpl (by decide)
  · rw [List.mem_singleton.1 hf]; simp
  · rw [List.mem_singleton.1 hp]; decide
  · rintro e w' ⟨hb, r, h1, h2⟩
    obtain ⟨q, h3, h4⟩ := live_text h1
    rw [hp] at h3
    cases h3
    subst h4
    rcases h2 with ⟨h2, -⟩ | ⟨-, v, er, rfl, h2⟩
    · exact absurd rfl h2
    · obtain ⟨T, c, k1, k2, k3⟩ := plan_is hp
      rcases h2 with ⟨h2, -⟩ | ⟨ss, c', vc, vr, m1, -, m3, m4, m5⟩
      · exact absurd k2 h2
      · rw [k1] at m1
        cases m1
        rw [k3 [] _ rfl, live_run] at m3 m4 m5
        cases m3
        obtain ⟨g, c1, rfl, -, hg⟩ := owns_form m4 (by decide)
        obtain ⟨a2, c2, rfl⟩ := own_sh m5
        exact ⟨g, c1, a2, _, c2, rfl, own_cell m4 0 (by decide), hg, hb⟩
set_option maxHeartbeats 2000000 in
set_option maxRecDepth 20000 in
theorem lives_any (w : World) (hg : Glob w) : Calls Tryz.prog 26 #[] w fun e w' => e = .returned (.bool true) ∧ Below w.heap.size w w' ∧ 0 < w'.heap.size := by
  have hR0 := Row.new w 65 [.string ⟨#[82]⟩, .string ⟨#[97, 58, 10, 9, 98]⟩, .int .i64 0]
  have hb0 : Below w.heap.size w (w.alloc (.cells #[.string ⟨#[82]⟩, .string ⟨#[97, 58, 10, 9, 98]⟩, .int .i64 0] 65)) := (Below.refl _ _).alloc (Nat.le_refl _) _
  have hrd : RdF (w.alloc (.cells #[.string ⟨#[82]⟩, .string ⟨#[97, 58, 10, 9, 98]⟩, .int .i64 0] 65)) w.heap.size 0 liveF := fun i hi => by
    obtain rfl : i = 0 := by simp [liveF] at hi; omega
    exact ⟨hR0.cell 0 (by simp), hR0.cell 1 (by simp), hR0.cell 2 (by simp)⟩
  have C := hide (live_make w.heap.size _ hrd hR0.lt (hg.later hb0))
  have HB0 := hide hb0
  clear hR0 hrd hb0 hg
  go_enter Tryz.func26, Tryz.ntmps26
  go_wp2_with (first
    | (go_at_call 20; refine (unhide C).mono ?_; rintro e w1 ⟨g, c1, a2, n2, c2, rfl, hc, hgl, hb1⟩; have HB1 := hide hb1; clear hb1)
    | fail)
  go_ret
  have hb := (unhide HB0).trans ((unhide HB1).mono (unhide HB0).size)
  exact ⟨rfl, hb.alloc hb.size _, by rw [World.size_alloc]; omega⟩
end Go.Proofs.YtjelacjggijmfaaGreatDoor
namespace Go.Proofs.YtjelacjggijmfaaGreatDoor
open Go.RowKit

/-- A result, as it is read: what was given, the files. -/
def Res (cs : List Pl.Bs) (fl : List Pl.File) (a1 a2 : Option Addr) (b1 b2 : Nat) (w : World) : Prop :=
  (0 < cs.length → a1 = some ⟨b1, 0, none⟩) ∧ (0 < fl.length → a2 = some ⟨b2, 0, none⟩) ∧ RdS w b1 0 cs ∧ RdF w b2 0 fl ∧ (0 < cs.length → b1 < w.heap.size) ∧ (0 < fl.length → b2 < w.heap.size)
theorem Res.later {cs : List Pl.Bs} {fl : List Pl.File} {a1 a2 : Option Addr} {b1 b2 : Nat} {w z : World} (h : Res cs fl a1 a2 b1 b2 w) (hb : Below w.heap.size w z) : Res cs fl a1 a2 b1 b2 z := by
  obtain ⟨h1, h2, h3, h4, h5, h6⟩ := h
  refine ⟨h1, h2, ?_, ?_, fun q => Nat.lt_of_lt_of_le (h5 q) hb.size, fun q => Nat.lt_of_lt_of_le (h6 q) hb.size⟩
  · by_cases q : 0 < cs.length
    · exact h3.below hb (h5 q)
    · exact fun i hi => by omega
  · by_cases q : 0 < fl.length
    · exact h4.below hb (h6 q)
    · exact fun i hi => by omega
set_option maxHeartbeats 4000000 in
set_option maxRecDepth 100000 in
theorem parted_err (path goal : Pl.Bs) (er ln : Nat) (a ae : Option Addr) (n cap m ce : Nat) (clock : Int) (w : World) (h0 : er ≠ 0)
    (C0 : Hid (Calls Tryz.prog 26 #[] w fun e w' => e = .returned (.bool true) ∧ Below w.heap.size w w' ∧ 0 < w'.heap.size))
    (C1 : Hid (∀ W, Below w.heap.size w W → 0 < W.heap.size → Calls Tryz.prog 11 #[.slice a n cap, .string ⟨path.toArray⟩, .string ⟨goal.toArray⟩] W fun e w' => e = .returned (.tuple #[.string ⟨#[]⟩, .int .i64 (er : Int), .int .i64 (ln : Int)]) ∧ Below W.heap.size W w'))
    (C2 : Hid (∀ W, Below w.heap.size w W → 0 < W.heap.size → Calls Tryz.prog 20 #[.slice a n cap, .string ⟨path.toArray⟩, .string ⟨goal.toArray⟩, .slice ae m ce, .int .i64 clock] W fun e w' => e = .returned (.tuple #[zRes, .int .i64 (er : Int), .int .i64 (ln : Int)]) ∧ Below W.heap.size W w')) :
    Calls Tryz.prog 6 #[.slice a n cap, .string ⟨path.toArray⟩, .string ⟨goal.toArray⟩, .slice ae m ce, .int .i64 clock] w fun e w' => e = .returned (.bool true) ∧ Below w.heap.size w w' := by
  unfold zRes at C2
  have t0 : ((er : Int) != 0) = true := by rw [bne_iff_ne]; omega
  have t1 : ((er : Int) != (er : Int)) = false := by simp
  have t2 : ((ln : Int) != (ln : Int)) = false := by simp
  clear h0
  go_enter Tryz.func6, Tryz.ntmps6
  go_wp2_with (first
    | (go_at_call 26; refine (unhide C0).mono ?_; rintro e w1 ⟨rfl, hb1, hp1⟩; have HB1 := hide hb1; clear hb1 C0)
    | (go_at_call 11; refine (unhide C1 _ (unhide HB1) hp1).mono ?_; rintro e w2 ⟨rfl, hb2⟩; have HB2 := hide ((unhide HB1).trans (hb2.mono (unhide HB1).size)); have hp2 := Nat.lt_of_lt_of_le hp1 hb2.size; clear hb2 HB1 C1)
    | (go_at_call 20; refine (unhide C2 _ (unhide HB2) hp2).mono ?_; rintro e w3 ⟨rfl, hb3⟩; have HB3 := hide ((unhide HB2).trans (hb3.mono (unhide HB2).size)); clear hb3 C2)
    | fail)
  go_ret
  exact ⟨rfl, ((unhide HB3)).alloc (unhide HB3).size _⟩
set_option maxHeartbeats 4000000 in
set_option maxRecDepth 100000 in
theorem parted_ok (path goal p : Pl.Bs) (cs : List Pl.Bs) (fl : List Pl.File) (ex ck : Int) (a ae : Option Addr) (n cap m ce : Nat) (clock : Int) (w : World)
    (C0 : Hid (Calls Tryz.prog 26 #[] w fun e w' => e = .returned (.bool true) ∧ Below w.heap.size w w' ∧ 0 < w'.heap.size))
    (C1 : Hid (∀ W, Below w.heap.size w W → 0 < W.heap.size → Calls Tryz.prog 11 #[.slice a n cap, .string ⟨path.toArray⟩, .string ⟨goal.toArray⟩] W fun e w' => e = .returned (.tuple #[.string ⟨p.toArray⟩, .int .i64 0, .int .i64 0]) ∧ Below W.heap.size W w'))
    (C2 : Hid (∀ W, Below w.heap.size w W → 0 < W.heap.size → Calls Tryz.prog 20 #[.slice a n cap, .string ⟨path.toArray⟩, .string ⟨goal.toArray⟩, .slice ae m ce, .int .i64 clock] W fun e w' => ∃ a1 c1 b1 a2 c2 b2, e = .returned (.tuple #[.agg #[.slice a1 cs.length c1, .slice a2 fl.length c2, .int .i64 ex, .int .i64 ck], .int .i64 0, .int .i64 0]) ∧ Res cs fl a1 a2 b1 b2 w' ∧ Below W.heap.size W w'))
    (C3 : Hid (∀ W, Calls Tryz.prog 29 #[.string ⟨p.toArray⟩] W fun e w' => e = .returned (.int .i64 0) ∧ Below W.heap.size W w'))
    (C4 : Hid (∀ W, Below w.heap.size w W → 0 < W.heap.size → Calls Tryz.prog 30 #[.string ⟨p.toArray⟩, .slice a n cap, .slice ae m ce, .int .i64 clock] W fun e w' => ∃ a1 c1 b1 a2 c2 b2, e = .returned (.tuple #[.agg #[.slice a1 cs.length c1, .slice a2 fl.length c2, .int .i64 ex, .int .i64 ck], .int .i64 0]) ∧ Res cs fl a1 a2 b1 b2 w' ∧ Below W.heap.size W w'))
    (C5 : Hid (∀ W a1 c1 b1 a2 c2 b2 a3 c3 b3 a4 c4 b4, Res cs fl a1 a2 b1 b2 W → Res cs fl a3 a4 b3 b4 W → Calls Tryz.prog 28 #[.agg #[.slice a1 cs.length c1, .slice a2 fl.length c2, .int .i64 ex, .int .i64 ck], .agg #[.slice a3 cs.length c3, .slice a4 fl.length c4, .int .i64 ex, .int .i64 ck]] W fun e w' => e = .returned (.bool true) ∧ Below W.heap.size W w')) :
    Calls Tryz.prog 6 #[.slice a n cap, .string ⟨path.toArray⟩, .string ⟨goal.toArray⟩, .slice ae m ce, .int .i64 clock] w fun e w' => e = .returned (.bool true) ∧ Below w.heap.size w w' := by
  go_enter Tryz.func6, Tryz.ntmps6
  go_wp2_with (first
    | (go_at_call 26; refine (unhide C0).mono ?_; rintro e w1 ⟨rfl, hb1, hp1⟩; have HB1 := hide hb1; clear hb1 C0)
    | (go_at_call 11; refine (unhide C1 _ (unhide HB1) hp1).mono ?_; rintro e w2 ⟨rfl, hb2⟩; have HB2 := hide ((unhide HB1).trans (hb2.mono (unhide HB1).size)); have hp2 := Nat.lt_of_lt_of_le hp1 hb2.size; clear hb2 HB1 C1)
    | (go_at_call 20; refine (unhide C2 _ (unhide HB2) hp2).mono ?_; rintro e w3 ⟨a1, c1, b1, a2, c2, b2, rfl, hr3, hb3⟩; have HB3 := hide ((unhide HB2).trans (hb3.mono (unhide HB2).size)); have hp3 := Nat.lt_of_lt_of_le hp2 hb3.size; have HR3 := hide hr3; clear hb3 hr3 C2 HB2)
    | fail)
  have hR0 := Row.new w3 48 [.slice a1 cs.length c1, .slice a2 fl.length c2, .int .i64 ex, .int .i64 ck]
  have hba : Below w3.heap.size w3 (w3.alloc (.cells #[.slice a1 cs.length c1, .slice a2 fl.length c2, .int .i64 ex, .int .i64 ck] 48)) := (Below.refl _ _).alloc (Nat.le_refl _) _
  refine (unhide C3 _).mono ?_
  rintro e w4 ⟨rfl, hb4⟩
  have hb34 : Below w3.heap.size w3 w4 := hba.trans (hb4.mono hba.size)
  have HB4 := hide ((unhide HB3).trans (hb34.mono (unhide HB3).size))
  have hp4 := Nat.lt_of_lt_of_le hp3 hb34.size
  have HR4 := hide ((unhide HR3).later hb34)
  have HW4 := hide (hR0.later hb4)
  clear hR0 hba hb4 hb34 C3 HB3 HR3
  go_wp2_with (first
    | (go_at_call 30; refine (unhide C4 _ (unhide HB4) hp4).mono ?_; rintro e w5 ⟨a3, c3, b3, a4, c4, b4, rfl, hr5, hb5⟩; have hba : Below w5.heap.size w5 (w5.alloc (.cells #[.slice a3 cs.length c3, .slice a4 fl.length c4, .int .i64 ex, .int .i64 ck] 48)) := (Below.refl _ _).alloc (Nat.le_refl _) _; have HR5 := hide (hr5.later hba); have HR6 := hide (((unhide HR4).later hb5).later hba); have hrow := ((unhide HW4).later hb5).later hba; have p0 := hrow.cell 0 (by simp); have p1 := hrow.cell 1 (by simp); have p2 := hrow.cell 2 (by simp); have p3 := hrow.cell 3 (by simp); simp only [List.getElem_cons_zero, List.getElem_cons_succ] at p0 p1 p2 p3; have hb45 := (unhide HB4).trans (hb5.mono (unhide HB4).size); have HB5 := hide (hb45.trans (hba.mono hb45.size)); clear hr5 hb5 hba hrow hb45 C4 HB4 HR4 HW4)
    | (go_at_call 28; refine (unhide C5 _ a1 c1 b1 a2 c2 b2 a3 c3 b3 a4 c4 b4 (unhide HR6) (unhide HR5)).mono ?_; rintro e w6 ⟨rfl, hb6⟩; have HB6 := hide ((unhide HB5).trans (hb6.mono (unhide HB5).size)); clear hb6 C5 HB5 HR5 HR6)
    | fail)
  go_ret
  exact ⟨rfl, unhide HB6⟩
end Go.Proofs.YtjelacjggijmfaaGreatDoor
namespace Go.Proofs.YtjelacjggijmfaaGreatDoor
open Go.RowKit

theorem parted_any (path goal : Pl.Bs) (fs : List Pl.File) (hs : sumF fs ≤ 1048576) (ef : List Pl.Eff) (S : List Pl.Bs) (a ae : Option Addr) (cap b o ce L be oe : Nat) (clock : Int) (w : World)
    (ha : 0 < fs.length → a = some ⟨b, o, none⟩) (hr : 0 < fs.length → RdF w b o fs ∧ b < w.heap.size) (hae : 0 < ef.length → ae = some ⟨be, oe, none⟩) (hE : 0 < ef.length → RdE w L be oe ef ∧ L ≤ w.heap.size) (hel : ef.length ≤ 8388608) (hwl : ∀ e ∈ ef, e.writes.length ≤ 8388608) (hSl : S.length ≤ 8388608) (hfS : ∀ f ∈ fs, f.path ∈ S) (hEs : ∀ e ∈ ef, ∀ f ∈ e.writes, f.path ∈ S) (hSp : ∀ p ∈ S, p.length ≤ maxLen) (hg : Glob w) :
    Calls Tryz.prog 6 #[.slice a fs.length cap, .string ⟨path.toArray⟩, .string ⟨goal.toArray⟩, .slice ae ef.length ce, .int .i64 clock] w fun e w' => e = .returned (.bool true) ∧ Below w.heap.size w w' := by
  have hF := fsOk hs path goal
  have hin : ∀ W, Below w.heap.size w W → 0 < W.heap.size → ∃ b' L' be', (0 < fs.length → a = some ⟨b', o, none⟩) ∧ RdF W b' o fs ∧ b' < W.heap.size ∧ EffOk W L' be' oe ae ef S ∧ L' ≤ W.heap.size := fun W hb h0 => by
    have h1 : ∃ b', (0 < fs.length → a = some ⟨b', o, none⟩) ∧ RdF W b' o fs ∧ b' < W.heap.size := by
      by_cases hf : 0 < fs.length
      · exact ⟨b, ha, (hr hf).1.below hb (hr hf).2, Nat.lt_of_lt_of_le (hr hf).2 hb.size⟩
      · exact ⟨0, fun h => absurd h hf, fun i hi => by omega, h0⟩
    have h2 : ∃ L' be', (0 < ef.length → ae = some ⟨be', oe, none⟩) ∧ RdE W L' be' oe ef ∧ L' ≤ W.heap.size := by
      by_cases hf : 0 < ef.length
      · exact ⟨L, be, hae, (hE hf).1.below (hb.mono (hE hf).2), Nat.le_trans (hE hf).2 hb.size⟩
      · exact ⟨W.heap.size, 0, fun h => absurd h hf, ⟨h0, fun i hi => by omega⟩, Nat.le_refl _⟩
    obtain ⟨b', p1, p2, p3⟩ := h1
    obtain ⟨L', be', p4, p5, p6⟩ := h2
    exact ⟨b', L', be', p1, p2, p3, ⟨p4, p5, hEs, hel, hwl, hSl⟩, p6⟩
  have hpl : ∀ r, TextR (fs.foldl Pl.addF []) path goal r → r.2.1 = 0 → r.1.length ≤ 8388608 := fun r h h0 => text_len h h0 (nm_all hs path goal)
  have hcomp : ∀ W, Below w.heap.size w W → 0 < W.heap.size → Calls Tryz.prog 11 #[.slice a fs.length cap, .string ⟨path.toArray⟩, .string ⟨goal.toArray⟩] W fun e w' => TextP (fs.foldl Pl.addF []) path goal W e w' := fun W hb h0 => by
    obtain ⟨b', L', be', p1, p2, p3, -, -⟩ := hin W hb h0
    exact compile_any hF a cap b' o W p1 p2 p3 (hg.later hb)
  have hmake : ∀ W, Below w.heap.size w W → 0 < W.heap.size → Calls Tryz.prog 20 #[.slice a fs.length cap, .string ⟨path.toArray⟩, .string ⟨goal.toArray⟩, .slice ae ef.length ce, .int .i64 clock] W fun e w' => MakeP fs path goal ef clock W e w' := fun W hb h0 => by
    obtain ⟨b', L', be', p1, p2, p3, p4, p5⟩ := hin W hb h0
    exact make_any hF hpl ef S a ae cap b' o ce L' be' oe clock W p1 p2 p3 (hg.later hb) p4 p5 hfS hSp
  by_cases hex : ∃ r, TextR (fs.foldl Pl.addF []) path goal r ∧ r.2.1 = 0
  · obtain ⟨r, h1, h2⟩ := hex
    obtain ⟨h3, q, k, ss, -, -, -, -, -, -, h4⟩ := h1.plan h2
    obtain ⟨T, c, k1, k2, -⟩ := plan_is h4
    have hl := hpl r h1 h2
    have hcl : (Pl.runW c T ef (Pl.newW fs clock)).cmds.length ≤ 8388608 := Nat.le_trans (run_cmds k1 fs ef clock) hl
    have hfl : (Pl.sortF (Pl.runW c T ef (Pl.newW fs clock)).files).length ≤ 8388608 := Nat.le_trans (run_files S c T fs ef clock hfS hEs) hSl
    refine parted_ok path goal r.1 (Pl.runW c T ef (Pl.newW fs clock)).cmds (Pl.sortF (Pl.runW c T ef (Pl.newW fs clock)).files) (Pl.runW c T ef (Pl.newW fs clock)).exit (Pl.runW c T ef (Pl.newW fs clock)).clock a ae fs.length cap ef.length ce clock w (lives_any w hg) (fun W hb h0 => (hcomp W hb h0).mono ?_) (fun W hb h0 => (hmake W hb h0).mono ?_) (fun W => (check_any r.1 W hl).mono ?_) (fun W hb h0 => ?_) (fun W a1 c1 b1 a2 c2 b2 a3 c3 b3 a4 c4 b4 x y => sameResult_any _ _ _ _ a1 a2 a3 a4 c1 c2 c3 c4 b1 b2 b3 b4 0 0 0 0 W x.1 x.2.1 y.1 y.2.1 x.2.2.1 x.2.2.2.1 y.2.2.1 y.2.2.2.1 x.2.2.2.2.1 x.2.2.2.2.2 y.2.2.2.2.1 y.2.2.2.2.2 hcl hfl)
    · rintro e w' ⟨r', g1, rfl, g3⟩
      obtain rfl := g1.det h1
      rw [h2, h3]
      exact ⟨rfl, g3⟩
    · rintro e w' ⟨g0, r', g1, ⟨g2, -⟩ | ⟨-, v, er, rfl, g2⟩⟩
      · obtain rfl := g1.det h1
        exact absurd h2 g2
      · obtain rfl := g1.det h1
        rcases g2 with ⟨g2, -⟩ | ⟨ss', c', vc, vr, m1, -, m3, m4, m5⟩
        · exact absurd k2 g2
        · rw [k1] at m1
          cases m1
          cases m3
          obtain ⟨a1, c1, b1, rfl, x1, x2, x3⟩ := Strs.rd m4
          obtain ⟨a2, c2, b2, rfl, y1, y2, y3⟩ := own_files m5
          exact ⟨a1, c1, b1, a2, c2, b2, rfl, ⟨x1, y1, x3, y3, x2, y2⟩, g0⟩
    · rintro e w' ⟨⟨z, z1, ⟨rfl, -⟩ | ⟨-, z2⟩⟩, z3⟩
      · exact ⟨z1, z3⟩
      · exact absurd k2 z2
    · obtain ⟨b', L', be', p1, p2, p3, p4, p5⟩ := hin W hb h0
      refine (makerRun_any r.1 hl fs ef S a ae cap b' o ce L' be' oe clock W p1 p2 p3 hF.few p4 p5 hfS hSp).mono ?_
      rintro e w' ⟨g0, ⟨g2, -⟩ | ⟨ss', c', vc, vr, m1, -, rfl, m4, m5⟩⟩
      · exact absurd k2 g2
      · rw [k1] at m1
        cases m1
        obtain ⟨a1, c1, b1, rfl, x1, x2, x3⟩ := Strs.rd m4
        obtain ⟨a2, c2, b2, rfl, y1, y2, y3⟩ := own_files m5
        exact ⟨a1, c1, b1, a2, c2, b2, rfl, ⟨x1, y1, x3, y3, x2, y2⟩, g0⟩
  · have hr0 : ∃ r0 : Pl.Bs × Nat × Nat, r0.2.1 ≠ 0 ∧ r0.1 = [] ∧ ∀ r, TextR (fs.foldl Pl.addF []) path goal r → r = r0 := by
      by_cases hx : ∃ r, TextR (fs.foldl Pl.addF []) path goal r
      · obtain ⟨r, h1⟩ := hx
        have h2 : r.2.1 ≠ 0 := fun e => hex ⟨r, h1, e⟩
        exact ⟨r, h2, h1.none h2, fun q hq => hq.det h1⟩
      · exact ⟨([], 1, 0), by simp, rfl, fun q hq => absurd ⟨q, hq⟩ hx⟩
    obtain ⟨r0, h1, h2, h3⟩ := hr0
    refine parted_err path goal r0.2.1 r0.2.2 a ae fs.length cap ef.length ce clock w h1 (lives_any w hg) (fun W hb h0 => (hcomp W hb h0).mono ?_) (fun W hb h0 => (hmake W hb h0).mono ?_)
    · rintro e w' ⟨r', g1, rfl, g3⟩
      obtain rfl := h3 r' g1
      rw [h2]
      exact ⟨rfl, g3⟩
    · rintro e w' ⟨g0, r', g1, ⟨-, g2⟩ | ⟨g2, -⟩⟩
      · obtain rfl := h3 r' g1
        exact ⟨g2, g0⟩
      · obtain rfl := h3 r' g1
        exact absurd g2 h1
end Go.Proofs.YtjelacjggijmfaaGreatDoor
namespace Go.Proofs.YtjelacjggijmfaaGreatDoor
open Go.ChangeShapes Go.WideShapes Go.ChangeAt Go.RowKit Go.Deep

theorem sumF_map {α : Type} (F : α → Pl.File) : ∀ l : List α, sumF (l.map F) = (l.map fun i => (F i).path.length + (F i).text.length + 1).sum
  | [] => rfl
  | x :: r => by rw [List.map_cons, sumF, List.map_cons, List.sum_cons, sumF_map F r]
section
variable {H : Type} {enc : TypeId × Value → H} {W : World} {base : Nat} {spare : Nat → Bool} {held : Bool}
set_option maxRecDepth 20000 in
theorem open_file5 {n : Nat} {cs : List Value} {y : DataW H × List MemPlace} (h : DataW.trod enc Tryz.prog W base spare held n 65 cs = some y) : ∃ f : Pl.File, cs = [strV f.path, strV f.text, .int .i64 f.time] ∧ f.path.length ≤ maxLen ∧ f.path.length + f.text.length + 1 ≤ Rows.uptoBulk y.1 := by
  obtain ⟨xs, k, hk, hxy, hl, hxl, hf⟩ := DataW.trod_struct Tryz.underlying65 h
  rw [cells_file] at hl
  have hxl : xs.length = 3 := hxl
  match cs, hl with
  | [v0, v1, v2], _ =>
    match xs, hxl with
    | [y0, y1, y2], _ =>
      have g0 := hf 0 _ rfl
      have g1 := hf 1 _ rfl
      have g2 := hf 2 _ rfl
      simp [cells_str, cells_int] at g0 g1 g2
      obtain ⟨s0, e0, z0, m0⟩ := DataW.trod_string Tryz.underlying9 g0
      obtain ⟨s1, e1, z1, -⟩ := DataW.trod_string Tryz.underlying9 g1
      obtain ⟨z, e2, -, -⟩ := DataW.trod_int Tryz.underlying3 g2
      simp only [List.cons.injEq, and_true] at e0 e1 e2
      refine ⟨⟨s0.data.toList, s1.data.toList, z⟩, ?_, ?_, ?_⟩
      · rw [e0, e1, e2, str_strV s0, str_strV s1]
      · show s0.data.toList.length ≤ maxLen
        rw [Array.length_toList]
        exact m0
      · rw [hxy]
        simp only [List.map_cons, List.map_nil, Rows.uptoBulk, Rows.uptoBulkAll, z0, z1]
        omega
/-- Files that are handed in, and how much they are. -/
structure InG (W : World) (v : Value) (fs : List Pl.File) (bulk : Nat) : Prop where
  at' : ∃ a cap b o, v = .slice a fs.length cap ∧ (0 < fs.length → a = some ⟨b, o, none⟩ ∧ RdF W b o fs ∧ b < W.heap.size)
  path : ∀ f ∈ fs, f.path.length ≤ maxLen
  sum : sumF fs + 1 ≤ bulk
theorem open_files5 {fuel : Nat} {v : Value} {x : DataW H × List MemPlace} (h : DataW.trod enc Tryz.prog W base spare held fuel 27 [v] = some x) : ∃ fs, InG W v fs (Rows.uptoBulk x.1) := by
  rcases open_slice Tryz.underlying27 h with ⟨h0, rfl⟩ | ⟨a, len, cap, m, n, D, Pc, hv, hb, hlc, hm, hmm, rfl, hx⟩
  · simp only [List.cons.injEq, and_true] at h0
    exact ⟨[], ⟨none, 0, 0, 0, h0, fun h => by simp at h⟩, by simp, by simp [Rows.uptoBulk, sumF]⟩
  · simp only [List.cons.injEq, and_true] at hv
    have hlm : len ≤ m := by rw [hmm]; split <;> omega
    have each : ∀ i, i < len → ∃ f : Pl.File, (W.cell? (a.add (i * 3)) = some (strV f.path) ∧ W.cell? ((a.add (i * 3)).add 1) = some (strV f.text) ∧ W.cell? ((a.add (i * 3)).add 2) = some (.int .i64 f.time)) ∧ f.path.length ≤ maxLen ∧ f.path.length + f.text.length + 1 ≤ Rows.uptoBulk (D i) := fun i hi => by
      obtain ⟨cs', h1, h2⟩ := hx i (by omega)
      rw [cells_file] at h1
      obtain ⟨_, -, hc⟩ := World.cells?_some h1
      obtain ⟨f, rfl, hp, hq⟩ := open_file5 h2
      have c0 := hc 0 (by omega)
      have c1 := hc 1 (by omega)
      have c2 := hc 2 (by omega)
      exact ⟨f, ⟨by simpa [Addr.add] using c0, c1, c2⟩, hp, hq⟩
    have hinh : Inhabited Pl.File := ⟨⟨[], [], 0⟩⟩
    obtain ⟨F, hF⟩ := choose_lt each
    have hlen : ((List.range len).map F).length = len := by simp
    refine ⟨(List.range len).map F, ⟨some a, cap, a.block, a.off, by rw [hlen, hv], fun h0 => ?_⟩, fun f hf => ?_, ?_⟩
    · rw [hlen] at h0
      obtain ⟨hs, hbl⟩ := spot_none (hF 0 h0).1.1
      have hs' : a.spot = none := by simpa [Addr.add] using hs
      have hbl' : a.block < W.heap.size := by simpa [Addr.add] using hbl
      refine ⟨by cases a; simp_all, fun i hi => ?_, hbl'⟩
      have hi' : i < len := by omega
      obtain ⟨⟨c0, c1, c2⟩, -, -⟩ := hF i hi'
      rw [add_add] at c1 c2
      rw [addr_at hs'] at c0 c1 c2
      simp only [List.getElem_map, List.getElem_range]
      exact ⟨c0, by rw [Nat.add_assoc]; exact c1, by rw [Nat.add_assoc]; exact c2⟩
    · obtain ⟨i, hi, rfl⟩ := List.mem_map.1 hf
      exact (hF i (List.mem_range.1 hi)).2.1
    · have h1 := bulk_sum (fun i => (F i).path.length + (F i).text.length + 1) ((List.range len).map D) 0 (fun i d hd => by
        obtain ⟨hi, rfl⟩ := List.getElem?_eq_some_iff.1 hd
        simp only [List.length_map, List.length_range] at hi
        simp only [List.getElem_map, List.getElem_range, Nat.zero_add]
        exact (hF i hi).2.2)
      rw [List.length_map, List.length_range, ← List.range_eq_range'] at h1
      rw [sumF_map]
      simp only [Rows.uptoBulk]
      omega
end
end Go.Proofs.YtjelacjggijmfaaGreatDoor
namespace Go.Proofs.YtjelacjggijmfaaGreatDoor
open Go.ChangeShapes Go.WideShapes Go.ChangeAt Go.RowKit
open Go.ChangeMaps (open_string shut_string)

set_option maxRecDepth 100000 in
theorem parted_contract (H : Type) (enc : TypeId × Value → H) (W : World) (base : Nat) (args : Array Value) (ds gs : List (DataW H)) (before : List MemPlace)
    (hval : ∀ (j : Nat) t v, Tryz.f6.params[j]? = some t → args[j]? = some v → Value.okWide Tryz.prog W .any base t v)
    (hW : DataW.Whole enc Tryz.prog Tryz.f6.params.toList Rows.partedSpec.vars false W args.toList ds gs before)
    (hk : Rows.uptoSmall H (ds ++ gs) = true) (hsh : W.ShapedOpen Tryz.prog) :
    Calls Tryz.prog 6 args W fun e W' => ∃ v, e = .returned v ∧ Rows.partedSpec.post enc Tryz.prog Tryz.f6 false true false false W args v W' := by
  have hW' := hW
  obtain ⟨p, q, hA0, hV, rfl, hfz, hnd⟩ := hW
  have hA : DataW.TrodAll enc Tryz.prog W 0 (fun _ => true) true Tryz.f6.params.toList args.toList ds p := hA0
  rw [Tryz.params6] at hA hval
  obtain ⟨v0, vs0, d0, ds0, p0, q0, hargs, rfl, rfl, h0, r0⟩ := trodAll_cons hA
  obtain ⟨v1, vs1, d1, ds1, p1, q1, rfl, rfl, rfl, h1, r1⟩ := trodAll_cons r0
  obtain ⟨v2, vs2, d2, ds2, p2, q2, rfl, rfl, rfl, h2, r2⟩ := trodAll_cons r1
  obtain ⟨v3, vs3, d3, ds3, p3, q3, rfl, rfl, rfl, h3, r3⟩ := trodAll_cons r2
  obtain ⟨v4, vs4, d4, ds4, p4, q4, rfl, rfl, rfl, h4, r4⟩ := trodAll_cons r3
  obtain ⟨rfl, rfl, rfl⟩ := trodAll_nil r4
  obtain rfl : args = #[v0, v1, v2, v3, v4] := by cases args; simp_all
  obtain ⟨rfl, rfl⟩ := trodVars_none hV
  obtain ⟨a1, n1, c1, rfl⟩ := okWide_slice Tryz.underlying27 (hval 0 27 v0 rfl rfl)
  obtain ⟨s, rfl, rfl, rfl, hs⟩ := open_string Tryz.underlying9 (hval 1 9 v1 rfl rfl) h1
  obtain ⟨g, rfl, rfl, rfl, hgl⟩ := open_string Tryz.underlying9 (hval 2 9 v2 rfl rfl) h2
  obtain ⟨a2, n2, c2, rfl⟩ := okWide_slice Tryz.underlying51 (hval 3 51 v3 rfl rfl)
  obtain ⟨z, rfl, rfl, rfl, hz⟩ := open_int Tryz.underlying3 (hval 4 3 v4 rfl rfl) h4
  clear hA0
  have hlt : ∀ x, x ∈ p0 ∨ x ∈ p3 → x.block < W.heap.size := fun x hx => hW'.lt x (by simpa using hx)
  obtain ⟨fu1, g1⟩ := h0
  obtain ⟨fu2, g2⟩ := h3
  obtain ⟨fs, hfs⟩ := open_files5 g1
  obtain ⟨ef, hef⟩ := open_effs g2
  simp only [List.append_nil] at hW'
  have hb := of_decide_eq_true hk
  simp only [List.append_nil, Rows.uptoBulkAll, Rows.uptoBulk] at hb
  have hl1 := hfs.sum
  have hl2 := hef.len
  simp only at hl1 hl2
  obtain ⟨a, cap, b, o, e1, k1⟩ := hfs.at'
  obtain ⟨ae, ce, be, oe, e2, k2⟩ := hef.at'
  have e1' := e1
  have e2' := e2
  cases e1'
  cases e2'
  have hm : (⟨s.data.toList.toArray⟩ : ByteArray) = s := (mk_eq (t := s) rfl).symm
  have hm2 : (⟨g.data.toList.toArray⟩ : ByteArray) = g := (mk_eq (t := g) rfl).symm
  have hfl := sumF_len fs
  have hwr : ∀ e ∈ ef, e.writes.length ≤ (ef.flatMap (·.writes)).length := fun e he => flat_leE he
  have walk := parted_any s.data.toList g.data.toList fs (by omega) ef (fs.map (·.path) ++ (ef.flatMap (·.writes)).map (·.path)) a1 a2 c1 b o c2 W.heap.size be oe z W (fun h => (k1 h).1) (fun h => (k1 h).2) (fun h => (k2 h).1) (fun h => ⟨(k2 h).2, Nat.le_refl _⟩) (by omega) (fun e he => by have := hwr e he; omega) (by simp only [List.length_append, List.length_map]; omega)
    (fun f hf => List.mem_append_left _ (List.mem_map_of_mem hf)) (fun e he f hf => List.mem_append_right _ (List.mem_map_of_mem (List.mem_flatMap_of_mem he hf))) (fun x hx => by
      rcases List.mem_append.1 hx with h | h
      · obtain ⟨f, hf, rfl⟩ := List.mem_map.1 h
        exact hfs.path f hf
      · obtain ⟨f, hf, rfl⟩ := List.mem_map.1 h
        obtain ⟨e, he, hf⟩ := List.mem_flatMap.1 hf
        exact hef.path e he f hf) (glob_shaped W hsh)
  rw [hm, hm2] at walk
  refine walk.mono fun e W' ⟨he, hn⟩ => ?_
  subst he
  exact ⟨_, rfl, _, _, _, _, _, _, hW', trodAll_cons_mk (shut_bool Tryz.underlying4 _) trodAll_mk0, trodAll_cons_mk (Below.trod Tryz.laidOut (by kernel_rfl) (of_decide_eq_true (by kernel_rfl)) ⟨fu1, g1⟩ hn (fun x hx => hlt x (.inl hx))) (trodAll_cons_mk (shut_string Tryz.underlying9 hs) (trodAll_cons_mk (shut_string Tryz.underlying9 hgl) (trodAll_cons_mk (Below.trod Tryz.laidOut (by kernel_rfl) (of_decide_eq_true (by kernel_rfl)) ⟨fu2, g2⟩ hn (fun x hx => hlt x (.inr hx))) (trodAll_cons_mk (shut_int Tryz.underlying3 hz) trodAll_mk0)))), rfl, hn.frame _, fun h => by cases h⟩
end Go.Proofs.YtjelacjggijmfaaGreatDoor
namespace Go.Proofs.YtjelacjggijmfaaGreatDoor
open Go.ChangeShapes Go.WideShapes Go.ChangeAt Go.RowKit

set_option maxRecDepth 100000
theorem parted_laid_met (os : Os) : laidMet Tryz.prog Rows.partedUptoRow.laid (({ World.holding Tryz.prog os ⟨#[], #[], []⟩ with heap := laidHeap (World.holding Tryz.prog os ⟨#[], #[], []⟩).heap } : World).forCall (fun _ _ => 0) ⟨#[], #[.slice none 0 0, .string ⟨#[]⟩, .string ⟨#[]⟩, .slice none 0 0, .int .i64 0], []⟩).memory :=
  laidMet_of_run' 8 (by kernel_rfl) (by kernel_rfl)
theorem parted_reads (os : Os) {H : Type} (enc : TypeId × Value → H) : ∃ places, DataW.whole enc Tryz.prog (({ World.holding Tryz.prog os ⟨#[], #[], []⟩ with heap := laidHeap (World.holding Tryz.prog os ⟨#[], #[], []⟩).heap } : World).forCall (fun _ _ => 0) ⟨#[], #[.slice none 0 0, .string ⟨#[]⟩, .string ⟨#[]⟩, .slice none 0 0, .int .i64 0], []⟩).memory Tryz.f6.params.toList Rows.partedSpec.vars false #[Value.slice none 0 0, .string ⟨#[]⟩, .string ⟨#[]⟩, .slice none 0 0, .int .i64 0].toList 8 = some ([.nil, .lit (.string []), .lit (.string []), .nil, .lit (.int .i64 0)], [], places) :=
  ⟨[], by kernel_rfl⟩

theorem parted_lifted (os : Os) (started : os.Started) (H : Type) (enc : TypeId × Value → H) (F : Stop.Interp) :
    ReturnsInHanded {} Tryz.checked os 6 .any ((Rows.OpenSpec.upto Rows.partedSpec).preRow enc Tryz.prog Tryz.f6 Rows.partedUptoRow.domain false Rows.partedUptoRow.laid) (((Rows.OpenSpec.upto Rows.partedSpec).at F).post enc Tryz.prog Tryz.f6 false true false false) := by
  obtain ⟨places, hx⟩ := parted_reads os enc
  refine returnsInHanded_of_row (C := Tryz.checked) (s := Rows.OpenSpec.upto Rows.partedSpec) own started (by kernel_rfl) Tryz.func6
    (witness_row_at (enc := enc) (C := Tryz.checked) false ({ World.holding Tryz.prog os ⟨#[], #[], []⟩ with heap := laidHeap (World.holding Tryz.prog os ⟨#[], #[], []⟩).heap }) #[.slice none 0 0, .string ⟨#[]⟩, .string ⟨#[]⟩, .slice none 0 0, .int .i64 0] rfl (by kernel_rfl) (by kernel_rfl) (by kernel_rfl)
      (OpenSpec.preRow_of_cond 8 hx (by kernel_rfl) (fun k hk => by cases hk; kernel_rfl) (by kernel_rfl) (parted_laid_met os))) ?_
  intro W base args ds gs before hval hW _ hcond _ hL hsh _
  exact parted_contract H enc W base args ds gs before hval hW (hcond _ rfl) hsh

end Go.Proofs.YtjelacjggijmfaaGreatDoor
