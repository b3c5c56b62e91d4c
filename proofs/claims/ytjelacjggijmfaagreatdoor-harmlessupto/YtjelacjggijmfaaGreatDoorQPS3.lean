/-
  Make of package maker; one rule with one command is done.
  One rule with one command: what making it comes to.
  Plans that are written: all steps: a plan is sound, and does what is told of the nodes in their order.
-/
import Derived.Test.YtjelacjggijmfaaGreatDoorQGH1
import Derived.Test.YtjelacjggijmfaaGreatDoorQGG4
import Derived.Deep.Cut
namespace Go.Proofs.YtjelacjggijmfaaGreatDoor
open Go.RowKit Go.MapKept Go.ChangeMaps Go.Maps

def kOf (T : List Pl.Bs) (s : Pl.Bs) : Nat := (T.findIdx? (fun x => x == s)).getD T.length
/-- Strings are among those, and nothing was too much. -/
structure Gd (T : List Pl.Bs) (q : Cp.Wr) : Prop where
  pre : q.strs <+: T
  ok : q.failed = false
theorem addW_code (p : Cp.Wr) (op : Nat) (os : List Nat) : (addW p op os).code = p.code ++ (UInt8.ofNat op :: (Cp.beB (os.getD 0 0) (wdAt op 0) ++ Cp.beB (os.getD 1 0) (wdAt op 1))) := by
  show (p.code ++ [UInt8.ofNat op] ++ Cp.beB (os.getD 0 0) (wdAt op 0)) ++ Cp.beB (os.getD 1 0) (wdAt op 1) = _
  simp
theorem addW_failed (p : Cp.Wr) (op : Nat) (os : List Nat) : (addW p op os).failed = ((p.failed || Cp.big (os.getD 0 0) (wdAt op 0)) || Cp.big (os.getD 1 0) (wdAt op 1)) := rfl
section
variable {T : List Pl.Bs} {q : Cp.Wr}
theorem Gd.add {op : Nat} {os : List Nat} (h : Gd T (addW q op os)) : Gd T q ∧ Cp.big (os.getD 0 0) (wdAt op 0) = false ∧ Cp.big (os.getD 1 0) (wdAt op 1) = false := by
  have h1 := h.pre
  have h2 := h.ok
  rw [addW_strs] at h1
  rw [addW_failed, Bool.or_eq_false_iff, Bool.or_eq_false_iff] at h2
  exact ⟨⟨h1, h2.1.1⟩, h2.1.2, h2.2⟩
theorem kOf_prefix {ss : List Pl.Bs} {s : Pl.Bs} {i : Nat} (h : ss <+: T) (hf : ss.findIdx? (fun x => x == s) = some i) : kOf T s = i ∧ KOk T (kOf T) s := by
  obtain ⟨r, rfl⟩ := h
  have e : (ss ++ r).findIdx? (fun x => x == s) = some i := by rw [List.findIdx?_append, hf]; rfl
  have hk : kOf (ss ++ r) s = i := by unfold kOf; rw [e]; rfl
  obtain ⟨h1, h2, _⟩ := List.findIdx?_eq_some_iff_getElem.1 e
  refine ⟨hk, ⟨by rw [hk]; exact h1, ?_⟩⟩
  rw [hk, List.getD_eq_getElem?_getD, List.getElem?_eq_getElem h1]
  exact beq_iff_eq.1 h2
theorem Gd.str {s : Pl.Bs} (h : Gd T (q.str s)) : Gd T q ∧ q.num s = kOf T s ∧ KOk T (kOf T) s := by
  have h1 := h.pre
  have h2 := h.ok
  unfold Cp.Wr.str at h1 h2
  unfold Cp.Wr.num
  cases hf : q.strs.findIdx? (fun x => x == s) with
  | some i =>
    rw [hf] at h1 h2
    obtain ⟨k1, k2⟩ := kOf_prefix h1 hf
    exact ⟨⟨h1, h2⟩, k1.symm, k2⟩
  | none =>
    rw [hf] at h1 h2
    have e : (q.strs ++ [s]).findIdx? (fun x => x == s) = some q.strs.length := by
      rw [List.findIdx?_append, hf]
      simp [List.findIdx?_cons]
    obtain ⟨k1, k2⟩ := kOf_prefix h1 e
    exact ⟨⟨(List.prefix_append _ _).trans h1, h2⟩, k1.symm, k2⟩
theorem big_not {n w : Nat} (h : Cp.big n w = false) : n < 256 ^ w := by
  unfold Cp.big at h
  have := of_decide_eq_false h
  omega
theorem gives_good : ∀ (cmds : List Pl.Bs) (q : Cp.Wr), Gd T (cmds.foldl giveStep q) → Gd T q ∧ (cmds.foldl giveStep q).code = q.code ++ givesC (kOf T) cmds ∧ ∀ c ∈ cmds, KOk T (kOf T) c
  | [], q, h => ⟨h, by simp [givesC], fun c hc => by cases hc⟩
  | c :: r, q, h => by
    obtain ⟨h1, h2, h3⟩ := gives_good r (giveStep q c) h
    obtain ⟨k1, -, -⟩ := h1.add
    obtain ⟨k4, k5, k6⟩ := k1.str
    refine ⟨k4, ?_, fun y hy => ?_⟩
    · rw [List.foldl_cons, h2]
      unfold giveStep
      rw [addW_code, str_code, k5]
      unfold givesC
      rw [List.flatMap_cons, List.append_assoc]
      rfl
    · rcases List.mem_cons.1 hy with e | e
      · rw [e]; exact k6
      · exact h3 y e
theorem needs_good (fl : Flags) (name : Pl.Bs) : ∀ (needs : List Pl.Bs) (q : Cp.Wr), Gd T (needs.foldl (staleStep fl (kOf T name)) q) → Gd T q ∧ (needs.foldl (staleStep fl (kOf T name)) q).code = q.code ++ needs.flatMap (needC (flagOf fl) (kOf T) name) ∧ ∀ n ∈ needs, KOk T (kOf T) n ∧ flagOf fl n < 256
  | [], q, h => ⟨h, by simp, fun c hc => by cases hc⟩
  | n :: r, q, h => by
    obtain ⟨h1, h2, h3⟩ := needs_good fl name r (staleStep fl (kOf T name) q n) h
    unfold staleStep at h1
    obtain ⟨k1, -, -⟩ := h1.add
    obtain ⟨k2, -, -⟩ := k1.add
    obtain ⟨k3, k4, k5⟩ := k2.str
    obtain ⟨k6, -, -⟩ := k3.add
    obtain ⟨k7, k8, -⟩ := k6.add
    refine ⟨k7, ?_, fun y hy => ?_⟩
    · rw [List.foldl_cons, h2]
      unfold staleStep
      rw [addW_code, addW_code, str_code, addW_code, addW_code, k4, List.flatMap_cons, ← List.append_assoc]
      congr 1
      simp only [List.append_assoc]
      rfl
    · rcases List.mem_cons.1 hy with e | e
      · rw [e]; exact ⟨k5, big_not k8⟩
      · exact h3 y e
theorem stale_good (fl : Flags) (x : Stp) (h : Gd T (staleW fl q x.ph x.name x.needs)) : Gd T q ∧ (staleW fl q x.ph x.name x.needs).code = q.code ++ preC (flagOf fl) (kOf T) x.ph x.name x.needs ∧ (x.ph = false → KOk T (kOf T) x.name) ∧ (x.ph = false → ∀ n ∈ x.needs, KOk T (kOf T) n ∧ flagOf fl n < 256) := by
  unfold staleW at h ⊢
  unfold preC
  cases hp : x.ph with
  | true =>
    rw [hp] at h
    simp only [if_true] at h ⊢
    obtain ⟨k1, -, -⟩ := h.add
    exact ⟨k1, by rw [addW_code]; rfl, fun e => (by cases e), fun e => (by cases e)⟩
  | false =>
    rw [hp] at h
    simp only [Bool.false_eq_true, if_false] at h ⊢
    have hm : ∀ (needs : List Pl.Bs) (nm : Nat) (p : Cp.Wr), Gd T (needs.foldl (staleStep fl nm) p) → Gd T p := fun needs nm => by
      induction needs with
      | nil => exact fun p hh => hh
      | cons n r ih =>
        intro p hh
        have h1 := ih _ hh
        unfold staleStep at h1
        exact h1.add.1.add.1.str.1.add.1.add.1
    obtain ⟨k1, k2, k3⟩ := (hm _ _ _ h).add.1.str
    rw [k2] at h ⊢
    obtain ⟨-, j2, j3⟩ := needs_good fl x.name x.needs _ h
    refine ⟨k1, ?_, fun _ => k3, fun _ => j3⟩
    rw [j2, addW_code, str_code, List.append_assoc]
    rfl
theorem skip_good (cmds : List Pl.Bs) (i : Nat) (h : Gd T (skipW q cmds i)) : Gd T q ∧ (skipW q cmds i).code = q.code ++ (cSkip (bodyC (kOf T) cmds i).length ++ bodyC (kOf T) cmds i) ∧ (∀ c ∈ cmds, KOk T (kOf T) c) ∧ (bodyC (kOf T) cmds i).length < 65536 ∧ i < 256 := by
  have hf := h.ok
  unfold skipW fixW at hf
  rw [Bool.or_eq_false_iff] at hf
  have hb : Gd T (blockW (addW q 6 []) cmds i) := ⟨h.pre, hf.1⟩
  unfold blockW at hb
  obtain ⟨k1, k2, -⟩ := hb.add
  obtain ⟨j1, j2, j3⟩ := gives_good cmds _ k1
  have hc : (blockW (addW q 6 []) cmds i).code = q.code ++ ([6, 0, 0] ++ bodyC (kOf T) cmds i) := by
    unfold blockW bodyC
    rw [addW_code, j2, addW_code]
    simp only [List.append_assoc]
    rfl
  have hlen : (blockW (addW q 6 []) cmds i).code.length - (q.code.length + 1 + 2) = (bodyC (kOf T) cmds i).length := by
    rw [hc]
    simp only [List.length_append, List.length_cons, List.length_nil]
    omega
  have hm := big_not hf.2
  rw [hlen] at hm
  refine ⟨j1.add.1, ?_, j3, hm, big_not k2⟩
  unfold skipW fixW
  simp only
  rw [hlen, hc]
  have e1 : (q.code ++ ([6, 0, 0] ++ bodyC (kOf T) cmds i)).take (q.code.length + 1) = q.code ++ [6] := by
    rw [List.take_append, List.take_of_length_le (by omega), Nat.add_sub_cancel_left]
    rfl
  have e2 : (q.code ++ ([6, 0, 0] ++ bodyC (kOf T) cmds i)).drop (q.code.length + 1 + 2) = bodyC (kOf T) cmds i := by
    rw [List.drop_append, List.drop_eq_nil_of_le (by omega), show q.code.length + 1 + 2 - q.code.length = 3 by omega]
    rfl
  rw [e1, e2, List.append_assoc]
  rfl
end
/-- The flags' numbers when a step is written. -/
def fOf (ss : List Stp) (i : Nat) : Pl.Bs → Nat := flagOf (writeAt ss (i + 1)).2
def allC (F : Nat → Pl.Bs → Nat) (K : Pl.Bs → Nat) : List Stp → Nat → Pl.Bs
  | [], _ => []
  | x :: r, i => nodeC (F i) K x i ++ allC F K r (i + 1)
theorem allC_snoc (F : Nat → Pl.Bs → Nat) (K : Pl.Bs → Nat) (x : Stp) : ∀ (ss : List Stp) (i : Nat), allC F K (ss ++ [x]) i = allC F K ss i ++ nodeC (F (i + ss.length)) K x (i + ss.length)
  | [], i => by simp [allC]
  | y :: r, i => by
    rw [List.cons_append, allC, allC, allC_snoc F K x r (i + 1), List.append_assoc, List.length_cons]
    rw [show i + 1 + r.length = i + (r.length + 1) by omega]
structure StK (T : List Pl.Bs) (F : Nat → Pl.Bs → Nat) (x : Stp) (i : Nat) : Prop where
  k : NdK T (kOf T) x
  f : x.ph = false → ∀ n ∈ x.needs, F i n < 256
  b : (bodyC (kOf T) x.cmds i).length < 65536
  n : i < 256
theorem write_good {T : List Pl.Bs} (ss : List Stp) : ∀ j, j ≤ ss.length → Gd T (writeAt ss j).1 → (writeAt ss j).1.code = allC (fOf ss) (kOf T) (ss.take j) 0 ∧ ∀ i (h : i < ss.length), i < j → StK T (fOf ss) ss[i] i
  | 0, _, _ => ⟨by simp [writeAt, allC], fun i _ hi => by omega⟩
  | j + 1, hj, h => by
    have hl : j < ss.length := by omega
    have e := writeAt_next ss j hl
    have ef : fOf ss j = flagOf (flPut (writeAt ss j).2 ss[j].name j) := by unfold fOf; rw [e]
    rw [e] at h ⊢
    simp only at h ⊢
    obtain ⟨k1, k2, k3, k4, k5⟩ := skip_good _ _ h
    obtain ⟨j1, j2, j3, j4⟩ := stale_good _ ss[j] k1
    obtain ⟨i1, i2⟩ := write_good ss j (by omega) j1
    refine ⟨?_, fun i hi hij => ?_⟩
    · rw [k2, j2, i1, List.take_succ_eq_append_getElem hl, allC_snoc, List.length_take, Nat.min_eq_left (by omega), Nat.zero_add, ef]
      unfold nodeC
      rw [List.append_assoc]
    · by_cases hj2 : i < j
      · exact i2 i hi hj2
      · obtain rfl : i = j := by omega
        exact ⟨⟨j3, fun p n hn => (j4 p n hn).1, k3⟩, fun p n hn => by rw [ef]; exact (j4 p n hn).2, k4, k5⟩
theorem all_rest {T : List Pl.Bs} {F : Nat → Pl.Bs → Nat} (hT : T.length ≤ 65536) : ∀ (ss : List Stp) (i : Nat), (∀ j (h : j < ss.length), StK T F ss[j] (i + j)) → Rest T.length (allC F (kOf T) ss i)
  | [], _, _ => Rest.nil _
  | x :: r, i, h => by
    have h0 := h 0 (Nat.succ_pos _)
    rw [allC]
    refine (node_rest hT h0.k h0.b).comp (all_rest hT r (i + 1) fun j hj => ?_)
    have := h (j + 1) (by simpa using hj)
    rw [show i + (j + 1) = i + 1 + j by omega] at this
    exact this
theorem stB_ph {F G : Pl.Bs → Nat} {fl : Nat → Bool} {fs : List Pl.File} {x : Stp} (h : x.ph = true) : stB F fl fs x = stB G fl fs x := by unfold stB; rw [h]; rfl
theorem pre_ph {F K : Pl.Bs → Nat} {x : Stp} (i : Nat) (h : x.ph = true) : nodeC F K x i = nodeC (fun _ => 0) K x i := by unfold nodeC preC; rw [h]; rfl
theorem node_ends' {T : List Pl.Bs} {F : Nat → Pl.Bs → Nat} {ef : List Pl.Eff} {x : Stp} {i : Nat} {R X : Pl.Wd} {fl : Nat → Bool} (hT : T.length ≤ 65536) (h : StK T F x i) (hx : X.exit = 0) (a b : Pl.Bs)
    (hr : Pl.Ends (a ++ (nodeC (F i) (kOf T) x i ++ b)) T ef a.length [] fl X R) : ((doN ef (F i) i x (fl, X)).2.exit = 0 ∧ Pl.Ends (a ++ (nodeC (F i) (kOf T) x i ++ b)) T ef (a.length + (nodeC (F i) (kOf T) x i).length) [] (doN ef (F i) i x (fl, X)).1 (doN ef (F i) i x (fl, X)).2 R) ∨ ((doN ef (F i) i x (fl, X)).2.exit ≠ 0 ∧ R = (doN ef (F i) i x (fl, X)).2) := by
  cases hp : x.ph with
  | false => exact node_ends hT h.k (h.f hp) h.n h.b hx a b hr
  | true =>
    rw [pre_ph i hp] at hr ⊢
    have := node_ends (F := fun _ => 0) hT h.k (fun _ _ => by decide) h.n h.b hx a b hr
    unfold doN at this ⊢
    rw [stB_ph (G := F i) hp] at this
    exact this
theorem all_ends {T : List Pl.Bs} {F : Nat → Pl.Bs → Nat} {ef : List Pl.Eff} (hT : T.length ≤ 65536) : ∀ (ss : List Stp) (i : Nat) (fl : Nat → Bool) (X R : Pl.Wd) (a : Pl.Bs), (∀ j (h : j < ss.length), StK T F ss[j] (i + j)) → X.exit = 0 → Pl.Ends (a ++ allC F (kOf T) ss i) T ef a.length [] fl X R → R = doA ef F ss i (fl, X)
  | [], i, fl, X, R, a, _, _, hr => by
    rw [allC, List.append_nil] at hr
    exact (hr.stop fun q => by omega).symm
  | x :: r, i, fl, X, R, a, h, hx, hr => by
    have h0 := h 0 (Nat.succ_pos _)
    rw [allC] at hr
    rw [doA, if_pos hx]
    rcases node_ends' hT h0 hx a _ hr with ⟨q1, q2⟩ | ⟨q1, q2⟩
    · refine all_ends hT r (i + 1) _ _ R (a ++ nodeC (F i) (kOf T) x i) (fun j hj => ?_) q1 ?_
      · have := h (j + 1) (by simpa using hj)
        rw [show i + (j + 1) = i + 1 + j by omega] at this
        exact this
      · rw [List.length_append, List.append_assoc]
        exact q2
    · rw [q2]
      cases r with
      | nil => rfl
      | cons y s =>
        rw [doA]
        exact (if_neg q1).symm
theorem strs_of (c : Pl.Bs) : ∀ T : List Pl.Bs, (∀ s ∈ T, s.length < 65536) → Pl.strs T.length (strsW T ++ c) = some (T, c)
  | [], _ => rfl
  | s :: r, h => by
    have ih := strs_of c r fun y hy => h y (List.mem_cons_of_mem _ hy)
    have hs := h s (List.mem_cons_self ..)
    have e : strsW (s :: r) ++ c = Cp.beB s.length 2 ++ (s ++ (strsW r ++ c)) := by
      unfold strsW
      rw [List.flatMap_cons]
      simp
    have e2 : Pl.two (Cp.beB s.length 2 ++ (s ++ (strsW r ++ c))) 0 = s.length := by
      have := two_beB hs 0 (s ++ (strsW r ++ c))
      unfold Pl.two at this ⊢
      exact this
    rw [List.length_cons, e, Pl.strs, e2, if_pos ⟨by simp [beB2], by simp only [beB2, List.length_append, List.length_cons, List.length_nil]; omega⟩]
    have d1 : (Cp.beB s.length 2 ++ (s ++ (strsW r ++ c))).drop (2 + s.length) = strsW r ++ c := by
      rw [← List.drop_drop]
      show (s ++ (strsW r ++ c)).drop s.length = _
      exact List.drop_left
    have d2 : ((Cp.beB s.length 2 ++ (s ++ (strsW r ++ c))).drop 2).take s.length = s := by
      show (s ++ (strsW r ++ c)).take s.length = s
      exact List.take_left
    rw [d1, d2, ih]
    rfl
/-- A plan that is written is sound, and does what is told of the nodes in their order. -/
theorem plan_is {ss : List Stp} {p : Pl.Bs} (h : planW ss = some p) : ∃ T c, Pl.load p = some (T, c) ∧ Pl.checkOf p ∧ ∀ ef X, X.exit = 0 → Pl.runW c T ef X = doA ef (fOf ss) ss 0 ((fun _ => false), X) := by
  unfold planW textW at h
  generalize hw : (writeAt ss ss.length).1 = w at h
  split at h
  · cases h
  · rename_i hn
    cases h
    rw [Bool.not_eq_true, Bool.or_eq_false_iff] at hn
    obtain ⟨hf, hd⟩ := hn
    unfold failW at hf
    rw [Bool.or_eq_false_iff, Bool.or_eq_false_iff, List.take_length] at hf
    have h1000 : w.strs.length ≤ 1000 := by have := of_decide_eq_false hd; omega
    have hs : ∀ s ∈ w.strs, s.length < 65536 := fun s hs => by
      have := List.any_eq_false.1 hf.2 s hs
      exact big_not (by simpa using this)
    obtain ⟨g1, g2⟩ := write_good (T := w.strs) ss ss.length (Nat.le_refl _) (by rw [hw]; exact ⟨List.prefix_refl _, hf.1.1⟩)
    rw [hw, List.take_length] at g1
    have hl : Pl.load (outW w.strs w.strs.length ++ w.code) = some (w.strs, w.code) := by
      unfold outW
      rw [List.take_length]
      have e2 : Pl.two ([80, 49] ++ Cp.beB w.strs.length 2 ++ strsW w.strs ++ w.code) 2 = w.strs.length := by
        have := two_beB (n := w.strs.length) (by omega) 0 (strsW w.strs ++ w.code)
        unfold Pl.two at this ⊢
        rw [List.append_assoc, List.append_assoc]
        exact this
      unfold Pl.load
      rw [e2, if_pos ⟨by simp [beB2], rfl, h1000⟩]
      have : ([80, 49] ++ Cp.beB w.strs.length 2 ++ strsW w.strs ++ w.code).drop 4 = strsW w.strs ++ w.code := by
        rw [List.append_assoc, List.append_assoc]
        rfl
      rw [this]
      exact strs_of _ _ hs
    have hst : ∀ j (hj : j < ss.length), StK w.strs (fOf ss) ss[j] (0 + j) := fun j hj => by rw [Nat.zero_add]; exact g2 j hj hj
    refine ⟨w.strs, w.code, hl, ⟨_, hl, ?_⟩, fun ef X hx => ?_⟩
    · have := all_rest (by omega) ss 0 hst [] []
      rw [List.append_nil, List.nil_append] at this
      simp only
      rw [g1]
      exact this ((Pl.spec_end (by simp)).2 ⟨fun q hq => (by cases hq), rfl, fun _ _ => rfl⟩)
    · have he := Pl.Ends.start w.code w.strs ef X
      refine all_ends (by omega) ss 0 _ X _ [] hst hx ?_
      rw [List.nil_append, ← g1]
      exact he
end Go.Proofs.YtjelacjggijmfaaGreatDoor
namespace Go.Proofs.YtjelacjggijmfaaGreatDoor
open Go.RowKit Go.MapKept Go.ChangeMaps Go.Maps

def liveF : List Pl.File := [⟨[82], [97, 58, 10, 9, 98], 0⟩]
theorem exp_free {L : NL} {t : Pl.Bs} (h : Mk.has 36 t = false) (hl : (Mk.before 36 t).length ≤ 2000) : expE L t = ⟨Mk.before 36 t, 0, 0⟩ := by
  refine expE_eq ?_
  have := Cp.Exp.free (N := nOf L) (sg := fun _ => none) (m := []) (k := 0) (a := []) h
  have e1 : Cp.addB [] (Mk.before 36 t) = Mk.before 36 t := rfl
  rw [e1] at this
  unfold Cp.toldB at this
  rw [if_neg (by omega)] at this
  exact this
def liveS : St := { explicitF { st0 with n := 1, rules := [⟨[[97]], [], []⟩] } [[97]] 0 with rules := [⟨[[97]], [], [([98], 2)]⟩] }
theorem live_book : bookF liveF [82] = (0, 0, liveS) := by
  have e1 : expE [] [97] = ⟨[97], 0, 0⟩ := exp_free rfl (by decide)
  have e2 : expE [] [] = ⟨[], 0, 0⟩ := exp_free rfl (by decide)
  have ha : Mk.allF (Mk.joined [97, 58, 10, 9, 98]) = [(⟨1, 5, [97], []⟩, 0), (⟨2, 1, [], [98]⟩, 0)] := by rfl
  have hr : ruleF st0 ⟨1, 5, [97], []⟩ = (0, some 0, explicitF { st0 with n := 1, rules := [⟨[[97]], [], []⟩] } [[97]] 0) := by
    unfold ruleF
    simp only [show st0.names = [] from rfl]
    rw [e1, e2]
    rfl
  show readF liveF 3 st0 [97, 58, 10, 9, 98] = _
  rw [readF, ha, linesF]
  have h1 : lineF (readF liveF 2) liveF st0 none ⟨1, 5, [97], []⟩ = (0, 1, some 0, explicitF { st0 with n := 1, rules := [⟨[[97]], [], []⟩] } [[97]] 0) := by
    unfold lineF
    rw [if_neg (by decide), if_pos rfl, hr]
  simp only
  rw [h1, if_neg (by simp), if_neg (by simp), linesF]
  rfl
def liveX : List Stp := [⟨[97], false, [], [], [[98]]⟩]
theorem live_from {q : Nat × Wst} (h : FromR liveS liveF (usL liveS liveF liveS.pats) (enterF liveS liveF (usL liveS liveF liveS.pats) wst0 [97]) q) : q.1 = 0 ∧ q.2.over = [⟨[97], false, [], [], [([98], 2)]⟩] := by
  obtain ⟨n, hn⟩ := h
  match n, hn with
  | 0, hn => exact absurd hn (by rw [show fromF liveS liveF (usL liveS liveF liveS.pats) 0 (enterF liveS liveF (usL liveS liveF liveS.pats) wst0 [97]) = none from rfl]; simp)
  | n + 1, hn =>
    have : fromF liveS liveF (usL liveS liveF liveS.pats) (n + 1) (enterF liveS liveF (usL liveS liveF liveS.pats) wst0 [97]) = some (0, ⟨[([97], 2)], [], [⟨[97], false, [], [], [([98], 2)]⟩]⟩) := by
      rw [fromF, if_neg (by simp [enterF]; decide)]
      cases n with
      | zero => rfl
      | succ n => rfl
    rw [this] at hn
    cases hn
    exact ⟨rfl, rfl⟩
theorem live_plan : ∃ p, planW liveX = some p ∧ p.length ≤ 100 := by
  have h : (planW liveX).isSome = true ∧ ((planW liveX).getD []).length ≤ 100 := by decide
  cases hp : planW liveX with
  | none => rw [hp] at h; cases h.1
  | some p => rw [hp] at h; exact ⟨p, rfl, h.2⟩
theorem live_text {r : Pl.Bs × Nat × Nat} (h : TextR liveF [82] [97] r) : ∃ p, planW liveX = some p ∧ r = (p, 0, 0) := by
  obtain ⟨p, hp, -⟩ := live_plan
  refine ⟨p, hp, ?_⟩
  unfold TextR at h
  rw [live_book] at h
  rcases h with ⟨h1, -⟩ | ⟨-, h⟩
  · exact absurd rfl h1
  · have hg : goalF liveS [97] = [97] := rfl
    simp only at h
    rw [hg] at h
    rcases h with ⟨h1, -⟩ | ⟨-, h1, -⟩ | ⟨-, -, q, hq, h⟩
    · cases h1
    · exact absurd h1 (by decide)
    · obtain ⟨q1, q2⟩ := live_from hq
      rw [q2] at h
      rcases h with ⟨h1, -⟩ | ⟨-, h1, -⟩ | ⟨-, -, R, hR, h⟩
      · exact absurd q1 h1
      · exact absurd h1 (by decide)
      · obtain ⟨G, hG, hR⟩ := hR
        obtain ⟨e, he, hG⟩ := hG
        have hx : Cp.Exp (nOf liveS.names) (Nod.sg ⟨[97], false, [], [], [([98], 2)]⟩) [] 0 [] [98] ⟨[98], 0, 0⟩ := Cp.Exp.free rfl
        obtain rfl := he.det hx
        rw [if_neg (by decide), if_neg (by decide)] at hG
        have hG' : G = .inr (1, [[98]]) := hG
        subst hG'
        have hR' : R = .inr (1, liveX) := hR
        subst hR'
        rcases h with ⟨h1, -⟩ | ⟨-, h⟩
        · exact absurd h1 (by decide)
        · rw [hp] at h
          exact h
end Go.Proofs.YtjelacjggijmfaaGreatDoor
namespace Go.Proofs.YtjelacjggijmfaaGreatDoor
open Go.RowKit Go.MapKept Go.ChangeMaps Go.Maps

set_option maxHeartbeats 2000000 in
set_option maxRecDepth 20000 in
theorem make_any {fs0 : List Pl.File} {path goal : Pl.Bs} (hF : FsOk fs0 path goal) (hpl : ∀ r, TextR (fs0.foldl Pl.addF []) path goal r → r.2.1 = 0 → r.1.length ≤ 8388608) (ef : List Pl.Eff) (S : List Pl.Bs) (a ae : Option Addr) (cap b o ce L be oe : Nat) (clock : Int) (W : World)
    (ha : 0 < fs0.length → a = some ⟨b, o, none⟩) (hr : RdF W b o fs0) (hbw : b < W.heap.size) (hg : Glob W) (hE : EffOk W L be oe ae ef S) (hL : L ≤ W.heap.size) (hfS : ∀ f ∈ fs0, f.path ∈ S) (hSp : ∀ p ∈ S, p.length ≤ maxLen) :
    Calls Tryz.prog 20 #[.slice a fs0.length cap, .string ⟨path.toArray⟩, .string ⟨goal.toArray⟩, .slice ae ef.length ce, .int .i64 clock] W fun e W' => MakeP fs0 path goal ef clock W e W' := by
  have C1 : Hid (∀ w1, Below W.heap.size W w1 → Calls Tryz.prog 11 #[.slice a fs0.length cap, .string ⟨path.toArray⟩, .string ⟨goal.toArray⟩] w1 fun e W' => TextP (fs0.foldl Pl.addF []) path goal w1 e W') := fun w1 hb => compile_any hF a cap b o w1 ha (hr.below hb hbw) (Nat.lt_of_lt_of_le hbw hb.size) (hg.later hb)
  have C2 : Hid (∀ w1 (l : Pl.Bs), l.length ≤ 8388608 → Below W.heap.size W w1 → Calls Tryz.prog 30 #[.string ⟨l.toArray⟩, .slice a fs0.length cap, .slice ae ef.length ce, .int .i64 clock] w1 fun e W' => ARunPost l fs0 ef clock w1 e W') := fun w1 l hl hb => makerRun_any l hl fs0 ef S a ae cap b o ce L be oe clock w1 ha (hr.below hb hbw) (Nat.lt_of_lt_of_le hbw hb.size) hF.few (hE.tn (Tn.later (p := fun _ => False) hb) hL (fun k e => e.elim)) (Nat.le_trans hL hb.size) hfS hSp
  have HP := hide hpl
  clear ha hr hg hE hfS hSp hF hpl
  go_enter Tryz.func20, Tryz.ntmps20
  have hR0 := Row.new W 48 [.slice none 0 0, .slice none 0 0, .int .i64 0, .int .i64 0]
  have hs0 : (W.alloc (.cells #[.slice none 0 0, .slice none 0 0, .int .i64 0, .int .i64 0] 48)).heap.size = W.heap.size + 1 := World.size_alloc _ _
  have hb0 : Below W.heap.size W (W.alloc (.cells #[.slice none 0 0, .slice none 0 0, .int .i64 0, .int .i64 0] 48)) := (Below.refl _ _).alloc (Nat.le_refl _) _
  have HR0 := hide hR0
  have HS0 := hide hs0
  have HB0 := hide hb0
  clear hR0 hs0 hb0
  go_wp2_with (first
    | (go_at_call 11; refine (unhide C1 _ (unhide HB0)).mono ?_; rintro e w1 ⟨r, hr1, rfl, hb1⟩; have HR1 := hide hr1; have HB1 := hide ((unhide HB0).trans (hb1.mono (by rw [unhide HS0]; omega))); have hrow := (unhide HR0).below hb1 (by rw [unhide HS0]; omega); have r0 := hrow.cell 0 (by simp); have r1 := hrow.cell 1 (by simp); have r2 := hrow.cell 2 (by simp); have r3 := hrow.cell 3 (by simp); have f0 := hrow.frozen 0; have f1 := hrow.frozen 1; have f2 := hrow.frozen 2; have f3 := hrow.frozen 3; simp only [List.getElem_cons_zero, List.getElem_cons_succ] at r0 r1 r2 r3; have HW1 := hide hrow; have HSZ : Hid (W.heap.size < w1.heap.size) := hide hrow.lt; have HZ : Hid (((r.2.1 : Int) != 0) = false → r.2.1 = 0) := hide (fun q => (by have := bne_eq_false_iff_eq.1 q; omega)); have HNZ : Hid (((r.2.1 : Int) != 0) = true → r.2.1 ≠ 0) := hide (fun q => (by have := bne_iff_ne.1 q; omega)); clear hrow hr1 hb1 C1)
    | fail)
  · rename_i hnz
    have hset : ∀ u0 u1 u2 u3, Below W.heap.size W ((((w1.setCell ⟨W.heap.size, 0, none⟩ u0).setCell ⟨W.heap.size, 1, none⟩ u1).setCell ⟨W.heap.size, 2, none⟩ u2).setCell ⟨W.heap.size, 3, none⟩ u3) := fun u0 u1 u2 u3 => ((((unhide HB1).setCell (p := ⟨W.heap.size, 0, none⟩) (Nat.le_refl _) u0).setCell (p := ⟨W.heap.size, 1, none⟩) (Nat.le_refl _) u1).setCell (p := ⟨W.heap.size, 2, none⟩) (Nat.le_refl _) u2).setCell (p := ⟨W.heap.size, 3, none⟩) (Nat.le_refl _) u3
    have hR := ((((unhide HW1).set 0 (.slice none 0 0)).set 1 (.slice none 0 0)).set 2 (.int .i64 0)).set 3 (.int .i64 0)
    have o0 := hR.cell 0 (by simp)
    have o1 := hR.cell 1 (by simp)
    have o2 := hR.cell 2 (by simp)
    have o3 := hR.cell 3 (by simp)
    simp only [List.set_cons_zero, List.set_cons_succ, List.getElem_cons_zero, List.getElem_cons_succ] at o0 o1 o2 o3
    refine bodyPost_ret (v := .tuple #[zRes, .int .i64 (r.2.1 : Int), .int .i64 (r.2.2 : Int)]) ?_ rfl ⟨hset _ _ _ _, r, unhide HR1, .inl ⟨unhide HNZ (by first | assumption | simpa using hnz), rfl⟩⟩
    simp [results, Tryz.results20, go_sem, o0, o1, o2, o3, zRes]
  · have hz := unhide HZ (by assumption)
    refine (unhide C2 w1 r.1 (unhide HP r (unhide HR1) hz) (unhide HB1)).mono ?_
    rintro e w2 ⟨hb2, hres⟩
    have hres : RunRes r.1 fs0 ef clock w1.heap.size e w2 := hres
    obtain ⟨a1, n1, c1, a2, n2, c2, ex, ck, er, rfl⟩ := hres.shape
    have HRE := hide hres
    have HB2 := hide hb2
    have hba : Below w2.heap.size w2 (w2.alloc (.cells #[.slice a1 n1 c1, .slice a2 n2 c2, .int .i64 ex, .int .i64 ck] 48)) := (Below.refl _ _).alloc (Nat.le_refl _) _
    have hrow := ((unhide HW1).later hb2).later hba
    have hr2 := Row.new w2 48 [.slice a1 n1 c1, .slice a2 n2 c2, .int .i64 ex, .int .i64 ck]
    have hlt := ((unhide HW1).later hb2).lt
    have r0 := hrow.cell 0 (by simp)
    have r1 := hrow.cell 1 (by simp)
    have r2 := hrow.cell 2 (by simp)
    have r3 := hrow.cell 3 (by simp)
    have f0 := hrow.frozen 0
    have f1 := hrow.frozen 1
    have f2 := hrow.frozen 2
    have f3 := hrow.frozen 3
    have p0 := hr2.cell 0 (by simp)
    have p1 := hr2.cell 1 (by simp)
    have p2 := hr2.cell 2 (by simp)
    have p3 := hr2.cell 3 (by simp)
    simp only [List.getElem_cons_zero, List.getElem_cons_succ] at r0 r1 r2 r3 p0 p1 p2 p3
    have HW2 := hide hrow
    have HBA := hide hba
    clear hres hb2 hrow HW1 hr2 hba
    go_upto_region 5 with fail
    generalize w2.alloc (.cells #[.slice a1 n1 c1, .slice a2 n2 c2, .int .i64 ex, .int .i64 ck] 48) = W3 at *
    go_wp2_with fail
    have hR := ((((unhide HW2).set 0 (.slice a1 n1 c1)).set 1 (.slice a2 n2 c2)).set 2 (.int .i64 ex)).set 3 (.int .i64 ck)
    have o0 := hR.cell 0 (by simp)
    have o1 := hR.cell 1 (by simp)
    have o2 := hR.cell 2 (by simp)
    have o3 := hR.cell 3 (by simp)
    simp only [List.set_cons_zero, List.set_cons_succ, List.getElem_cons_zero, List.getElem_cons_succ] at o0 o1 o2 o3
    have hbw3 : Below W.heap.size W W3 := ((unhide HB1).trans ((unhide HB2).mono (unhide HB1).size)).trans ((unhide HBA).mono (by omega))
    have hset : Below W.heap.size W ((((W3.setCell ⟨W.heap.size, 0, none⟩ (.slice a1 n1 c1)).setCell ⟨W.heap.size, 1, none⟩ (.slice a2 n2 c2)).setCell ⟨W.heap.size, 2, none⟩ (.int .i64 ex)).setCell ⟨W.heap.size, 3, none⟩ (.int .i64 ck)) := (((hbw3.setCell (p := ⟨W.heap.size, 0, none⟩) (Nat.le_refl _) _).setCell (p := ⟨W.heap.size, 1, none⟩) (Nat.le_refl _) _).setCell (p := ⟨W.heap.size, 2, none⟩) (Nat.le_refl _) _).setCell (p := ⟨W.heap.size, 3, none⟩) (Nat.le_refl _) _
    have hre := (((((unhide HRE).later (unhide HBA)).set (k := 0) (unhide HSZ) (.slice a1 n1 c1)).set (k := 1) (unhide HSZ) (.slice a2 n2 c2)).set (k := 2) (unhide HSZ) (.int .i64 ex)).set (k := 3) (unhide HSZ) (.int .i64 ck)
    refine bodyPost_ret (v := .tuple #[.agg #[.slice a1 n1 c1, .slice a2 n2 c2, .int .i64 ex, .int .i64 ck], .int .i64 er, .int .i64 0]) ?_ rfl ⟨hset, r, unhide HR1, .inr ⟨hz, _, er, rfl, hre.low (Nat.le_of_lt (unhide HSZ))⟩⟩
    simp [results, Tryz.results20, go_sem, o0, o1, o2, o3]
end Go.Proofs.YtjelacjggijmfaaGreatDoor
