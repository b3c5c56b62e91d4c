/-
  goals.Order, and what compile.Text has left to do then.
  Plans that are written: all steps: a plan is sound, and does what is told of the nodes in their order.
-/
import Derived.Test.YtjelacjggijmfaaGreatDoorVPS1
import Derived.Test.YtjelacjggijmfaaGreatDoorVGG4
namespace Go.Proofs.YtjelacjggijmfaaGreatDoor
open Go.RowKit Go.MapKept Go.ChangeMaps Go.Maps

def kOf (T : List Pl.Bs) (s : Pl.Bs) : Nat := (T.findIdx? (fun x => x == s)).getD T.length
/-- Strings are among those, and nothing was too much. -/
structure Gd (T : List Pl.Bs) (q : Cp.Wr) : Prop where
  pre : q.strs <+: T
  ok : q.failed = false
theorem addW_code (p : Cp.Wr) (op : Nat) (os : List Nat) : (addW p op os).code = p.code ++ (UInt8.ofNat op :: (Cp.beB (os.getD 0 0) (wdAt op 0) ++ Cp.beB (os.getD 1 0) (wdAt op 1))) := by
  show (p.code ++ [UInt8.ofNat op] ++ Cp.beB (os.getD 0 0) (wdAt op 0)) ++ Cp.beB (os.getD 1 0) (wdAt op 1) = _
  simp
theorem addW_failed (p : Cp.Wr) (op : Nat) (os : List Nat) : (addW p op os).failed = ((p.failed || Cp.big (os.getD 0 0) (wdAt op 0)) || Cp.big (os.getD 1 0) (wdAt op 1)) := rfl
section
variable {T : List Pl.Bs} {q : Cp.Wr}
theorem Gd.add {op : Nat} {os : List Nat} (h : Gd T (addW q op os)) : Gd T q ∧ Cp.big (os.getD 0 0) (wdAt op 0) = false ∧ Cp.big (os.getD 1 0) (wdAt op 1) = false := by
  have h1 := h.pre
  have h2 := h.ok
  rw [addW_strs] at h1
  rw [addW_failed, Bool.or_eq_false_iff, Bool.or_eq_false_iff] at h2
  exact ⟨⟨h1, h2.1.1⟩, h2.1.2, h2.2⟩
theorem kOf_prefix {ss : List Pl.Bs} {s : Pl.Bs} {i : Nat} (h : ss <+: T) (hf : ss.findIdx? (fun x => x == s) = some i) : kOf T s = i ∧ KOk T (kOf T) s := by
  obtain ⟨r, rfl⟩ := h
  have e : (ss ++ r).findIdx? (fun x => x == s) = some i := by rw [List.findIdx?_append, hf]; rfl
  have hk : kOf (ss ++ r) s = i := by unfold kOf; rw [e]; rfl
  obtain ⟨h1, h2, _⟩ := List.findIdx?_eq_some_iff_getElem.1 e
  refine ⟨hk, ⟨by rw [hk]; exact h1, ?_⟩⟩
  rw [hk, List.getD_eq_getElem?_getD, List.getElem?_eq_getElem h1]
  exact beq_iff_eq.1 h2
theorem Gd.str {s : Pl.Bs} (h : Gd T (q.str s)) : Gd T q ∧ q.num s = kOf T s ∧ KOk T (kOf T) s := by
  have h1 := h.pre
  have h2 := h.ok
  unfold Cp.Wr.str at h1 h2
  unfold Cp.Wr.num
  cases hf : q.strs.findIdx? (fun x => x == s) with
  | some i =>
    rw [hf] at h1 h2
    obtain ⟨k1, k2⟩ := kOf_prefix h1 hf
    exact ⟨⟨h1, h2⟩, k1.symm, k2⟩
  | none =>
    rw [hf] at h1 h2
    have e : (q.strs ++ [s]).findIdx? (fun x => x == s) = some q.strs.length := by
      rw [List.findIdx?_append, hf]
      simp [List.findIdx?_cons]
    obtain ⟨k1, k2⟩ := kOf_prefix h1 e
    exact ⟨⟨(List.prefix_append _ _).trans h1, h2⟩, k1.symm, k2⟩
theorem big_not {n w : Nat} (h : Cp.big n w = false) : n < 256 ^ w := by
  unfold Cp.big at h
  have := of_decide_eq_false h
  omega
theorem gives_good : ∀ (cmds : List Pl.Bs) (q : Cp.Wr), Gd T (cmds.foldl giveStep q) → Gd T q ∧ (cmds.foldl giveStep q).code = q.code ++ givesC (kOf T) cmds ∧ ∀ c ∈ cmds, KOk T (kOf T) c
  | [], q, h => ⟨h, by simp [givesC], fun c hc => by cases hc⟩
  | c :: r, q, h => by
    obtain ⟨h1, h2, h3⟩ := gives_good r (giveStep q c) h
    obtain ⟨k1, -, -⟩ := h1.add
    obtain ⟨k4, k5, k6⟩ := k1.str
    refine ⟨k4, ?_, fun y hy => ?_⟩
    · rw [List.foldl_cons, h2]
      unfold giveStep
      rw [addW_code, str_code, k5]
      unfold givesC
      rw [List.flatMap_cons, List.append_assoc]
      rfl
    · rcases List.mem_cons.1 hy with e | e
      · rw [e]; exact k6
      · exact h3 y e
theorem needs_good (fl : Flags) (name : Pl.Bs) : ∀ (needs : List Pl.Bs) (q : Cp.Wr), Gd T (needs.foldl (staleStep fl (kOf T name)) q) → Gd T q ∧ (needs.foldl (staleStep fl (kOf T name)) q).code = q.code ++ needs.flatMap (needC (flagOf fl) (kOf T) name) ∧ ∀ n ∈ needs, KOk T (kOf T) n ∧ flagOf fl n < 256
  | [], q, h => ⟨h, by simp, fun c hc => by cases hc⟩
  | n :: r, q, h => by
    obtain ⟨h1, h2, h3⟩ := needs_good fl name r (staleStep fl (kOf T name) q n) h
    unfold staleStep at h1
    obtain ⟨k1, -, -⟩ := h1.add
    obtain ⟨k2, -, -⟩ := k1.add
    obtain ⟨k3, k4, k5⟩ := k2.str
    obtain ⟨k6, -, -⟩ := k3.add
    obtain ⟨k7, k8, -⟩ := k6.add
    refine ⟨k7, ?_, fun y hy => ?_⟩
    · rw [List.foldl_cons, h2]
      unfold staleStep
      rw [addW_code, addW_code, str_code, addW_code, addW_code, k4, List.flatMap_cons, ← List.append_assoc]
      congr 1
      simp only [List.append_assoc]
      rfl
    · rcases List.mem_cons.1 hy with e | e
      · rw [e]; exact ⟨k5, big_not k8⟩
      · exact h3 y e
theorem stale_good (fl : Flags) (x : Stp) (h : Gd T (staleW fl q x.ph x.name x.needs)) : Gd T q ∧ (staleW fl q x.ph x.name x.needs).code = q.code ++ preC (flagOf fl) (kOf T) x.ph x.name x.needs ∧ (x.ph = false → KOk T (kOf T) x.name) ∧ (x.ph = false → ∀ n ∈ x.needs, KOk T (kOf T) n ∧ flagOf fl n < 256) := by
  unfold staleW at h ⊢
  unfold preC
  cases hp : x.ph with
  | true =>
    rw [hp] at h
    simp only [if_true] at h ⊢
    obtain ⟨k1, -, -⟩ := h.add
    exact ⟨k1, by rw [addW_code]; rfl, fun e => (by cases e), fun e => (by cases e)⟩
  | false =>
    rw [hp] at h
    simp only [Bool.false_eq_true, if_false] at h ⊢
    have hm : ∀ (needs : List Pl.Bs) (nm : Nat) (p : Cp.Wr), Gd T (needs.foldl (staleStep fl nm) p) → Gd T p := fun needs nm => by
      induction needs with
      | nil => exact fun p hh => hh
      | cons n r ih =>
        intro p hh
        have h1 := ih _ hh
        unfold staleStep at h1
        exact h1.add.1.add.1.str.1.add.1.add.1
    obtain ⟨k1, k2, k3⟩ := (hm _ _ _ h).add.1.str
    rw [k2] at h ⊢
    obtain ⟨-, j2, j3⟩ := needs_good fl x.name x.needs _ h
    refine ⟨k1, ?_, fun _ => k3, fun _ => j3⟩
    rw [j2, addW_code, str_code, List.append_assoc]
    rfl
theorem skip_good (cmds : List Pl.Bs) (i : Nat) (h : Gd T (skipW q cmds i)) : Gd T q ∧ (skipW q cmds i).code = q.code ++ (cSkip (bodyC (kOf T) cmds i).length ++ bodyC (kOf T) cmds i) ∧ (∀ c ∈ cmds, KOk T (kOf T) c) ∧ (bodyC (kOf T) cmds i).length < 65536 ∧ i < 256 := by
  have hf := h.ok
  unfold skipW fixW at hf
  rw [Bool.or_eq_false_iff] at hf
  have hb : Gd T (blockW (addW q 6 []) cmds i) := ⟨h.pre, hf.1⟩
  unfold blockW at hb
  obtain ⟨k1, k2, -⟩ := hb.add
  obtain ⟨j1, j2, j3⟩ := gives_good cmds _ k1
  have hc : (blockW (addW q 6 []) cmds i).code = q.code ++ ([6, 0, 0] ++ bodyC (kOf T) cmds i) := by
    unfold blockW bodyC
    rw [addW_code, j2, addW_code]
    simp only [List.append_assoc]
    rfl
  have hlen : (blockW (addW q 6 []) cmds i).code.length - (q.code.length + 1 + 2) = (bodyC (kOf T) cmds i).length := by
    rw [hc]
    simp only [List.length_append, List.length_cons, List.length_nil]
    omega
  have hm := big_not hf.2
  rw [hlen] at hm
  refine ⟨j1.add.1, ?_, j3, hm, big_not k2⟩
  unfold skipW fixW
  simp only
  rw [hlen, hc]
  have e1 : (q.code ++ ([6, 0, 0] ++ bodyC (kOf T) cmds i)).take (q.code.length + 1) = q.code ++ [6] := by
    rw [List.take_append, List.take_of_length_le (by omega), Nat.add_sub_cancel_left]
    rfl
  have e2 : (q.code ++ ([6, 0, 0] ++ bodyC (kOf T) cmds i)).drop (q.code.length + 1 + 2) = bodyC (kOf T) cmds i := by
    rw [List.drop_append, List.drop_eq_nil_of_le (by omega), show q.code.length + 1 + 2 - q.code.length = 3 by omega]
    rfl
  rw [e1, e2, List.append_assoc]
  rfl
end
/-- The flags' numbers when a step is written. -/
def fOf (ss : List Stp) (i : Nat) : Pl.Bs → Nat := flagOf (writeAt ss (i + 1)).2
def allC (F : Nat → Pl.Bs → Nat) (K : Pl.Bs → Nat) : List Stp → Nat → Pl.Bs
  | [], _ => []
  | x :: r, i => nodeC (F i) K x i ++ allC F K r (i + 1)
theorem allC_snoc (F : Nat → Pl.Bs → Nat) (K : Pl.Bs → Nat) (x : Stp) : ∀ (ss : List Stp) (i : Nat), allC F K (ss ++ [x]) i = allC F K ss i ++ nodeC (F (i + ss.length)) K x (i + ss.length)
  | [], i => by simp [allC]
  | y :: r, i => by
    rw [List.cons_append, allC, allC, allC_snoc F K x r (i + 1), List.append_assoc, List.length_cons]
    rw [show i + 1 + r.length = i + (r.length + 1) by omega]
structure StK (T : List Pl.Bs) (F : Nat → Pl.Bs → Nat) (x : Stp) (i : Nat) : Prop where
  k : NdK T (kOf T) x
  f : x.ph = false → ∀ n ∈ x.needs, F i n < 256
  b : (bodyC (kOf T) x.cmds i).length < 65536
  n : i < 256
theorem write_good {T : List Pl.Bs} (ss : List Stp) : ∀ j, j ≤ ss.length → Gd T (writeAt ss j).1 → (writeAt ss j).1.code = allC (fOf ss) (kOf T) (ss.take j) 0 ∧ ∀ i (h : i < ss.length), i < j → StK T (fOf ss) ss[i] i
  | 0, _, _ => ⟨by simp [writeAt, allC], fun i _ hi => by omega⟩
  | j + 1, hj, h => by
    have hl : j < ss.length := by omega
    have e := writeAt_next ss j hl
    have ef : fOf ss j = flagOf (flPut (writeAt ss j).2 ss[j].name j) := by unfold fOf; rw [e]
    rw [e] at h ⊢
    simp only at h ⊢
    obtain ⟨k1, k2, k3, k4, k5⟩ := skip_good _ _ h
    obtain ⟨j1, j2, j3, j4⟩ := stale_good _ ss[j] k1
    obtain ⟨i1, i2⟩ := write_good ss j (by omega) j1
    refine ⟨?_, fun i hi hij => ?_⟩
    · rw [k2, j2, i1, List.take_succ_eq_append_getElem hl, allC_snoc, List.length_take, Nat.min_eq_left (by omega), Nat.zero_add, ef]
      unfold nodeC
      rw [List.append_assoc]
    · by_cases hj2 : i < j
      · exact i2 i hi hj2
      · obtain rfl : i = j := by omega
        exact ⟨⟨j3, fun p n hn => (j4 p n hn).1, k3⟩, fun p n hn => by rw [ef]; exact (j4 p n hn).2, k4, k5⟩
theorem all_rest {T : List Pl.Bs} {F : Nat → Pl.Bs → Nat} (hT : T.length ≤ 65536) : ∀ (ss : List Stp) (i : Nat), (∀ j (h : j < ss.length), StK T F ss[j] (i + j)) → Rest T.length (allC F (kOf T) ss i)
  | [], _, _ => Rest.nil _
  | x :: r, i, h => by
    have h0 := h 0 (Nat.succ_pos _)
    rw [allC]
    refine (node_rest hT h0.k h0.b).comp (all_rest hT r (i + 1) fun j hj => ?_)
    have := h (j + 1) (by simpa using hj)
    rw [show i + (j + 1) = i + 1 + j by omega] at this
    exact this
theorem stB_ph {F G : Pl.Bs → Nat} {fl : Nat → Bool} {fs : List Pl.File} {x : Stp} (h : x.ph = true) : stB F fl fs x = stB G fl fs x := by unfold stB; rw [h]; rfl
theorem pre_ph {F K : Pl.Bs → Nat} {x : Stp} (i : Nat) (h : x.ph = true) : nodeC F K x i = nodeC (fun _ => 0) K x i := by unfold nodeC preC; rw [h]; rfl
theorem node_ends' {T : List Pl.Bs} {F : Nat → Pl.Bs → Nat} {ef : List Pl.Eff} {x : Stp} {i : Nat} {R X : Pl.Wd} {fl : Nat → Bool} (hT : T.length ≤ 65536) (h : StK T F x i) (hx : X.exit = 0) (a b : Pl.Bs)
    (hr : Pl.Ends (a ++ (nodeC (F i) (kOf T) x i ++ b)) T ef a.length [] fl X R) : ((doN ef (F i) i x (fl, X)).2.exit = 0 ∧ Pl.Ends (a ++ (nodeC (F i) (kOf T) x i ++ b)) T ef (a.length + (nodeC (F i) (kOf T) x i).length) [] (doN ef (F i) i x (fl, X)).1 (doN ef (F i) i x (fl, X)).2 R) ∨ ((doN ef (F i) i x (fl, X)).2.exit ≠ 0 ∧ R = (doN ef (F i) i x (fl, X)).2) := by
  cases hp : x.ph with
  | false => exact node_ends hT h.k (h.f hp) h.n h.b hx a b hr
  | true =>
    rw [pre_ph i hp] at hr ⊢
    have := node_ends (F := fun _ => 0) hT h.k (fun _ _ => by decide) h.n h.b hx a b hr
    unfold doN at this ⊢
    rw [stB_ph (G := F i) hp] at this
    exact this
theorem all_ends {T : List Pl.Bs} {F : Nat → Pl.Bs → Nat} {ef : List Pl.Eff} (hT : T.length ≤ 65536) : ∀ (ss : List Stp) (i : Nat) (fl : Nat → Bool) (X R : Pl.Wd) (a : Pl.Bs), (∀ j (h : j < ss.length), StK T F ss[j] (i + j)) → X.exit = 0 → Pl.Ends (a ++ allC F (kOf T) ss i) T ef a.length [] fl X R → R = doA ef F ss i (fl, X)
  | [], i, fl, X, R, a, _, _, hr => by
    rw [allC, List.append_nil] at hr
    exact (hr.stop fun q => by omega).symm
  | x :: r, i, fl, X, R, a, h, hx, hr => by
    have h0 := h 0 (Nat.succ_pos _)
    rw [allC] at hr
    rw [doA, if_pos hx]
    rcases node_ends' hT h0 hx a _ hr with ⟨q1, q2⟩ | ⟨q1, q2⟩
    · refine all_ends hT r (i + 1) _ _ R (a ++ nodeC (F i) (kOf T) x i) (fun j hj => ?_) q1 ?_
      · have := h (j + 1) (by simpa using hj)
        rw [show i + (j + 1) = i + 1 + j by omega] at this
        exact this
      · rw [List.length_append, List.append_assoc]
        exact q2
    · rw [q2]
      cases r with
      | nil => rfl
      | cons y s =>
        rw [doA]
        exact (if_neg q1).symm
theorem strs_of (c : Pl.Bs) : ∀ T : List Pl.Bs, (∀ s ∈ T, s.length < 65536) → Pl.strs T.length (strsW T ++ c) = some (T, c)
  | [], _ => rfl
  | s :: r, h => by
    have ih := strs_of c r fun y hy => h y (List.mem_cons_of_mem _ hy)
    have hs := h s (List.mem_cons_self ..)
    have e : strsW (s :: r) ++ c = Cp.beB s.length 2 ++ (s ++ (strsW r ++ c)) := by
      unfold strsW
      rw [List.flatMap_cons]
      simp
    have e2 : Pl.two (Cp.beB s.length 2 ++ (s ++ (strsW r ++ c))) 0 = s.length := by
      have := two_beB hs 0 (s ++ (strsW r ++ c))
      unfold Pl.two at this ⊢
      exact this
    rw [List.length_cons, e, Pl.strs, e2, if_pos ⟨by simp [beB2], by simp only [beB2, List.length_append, List.length_cons, List.length_nil]; omega⟩]
    have d1 : (Cp.beB s.length 2 ++ (s ++ (strsW r ++ c))).drop (2 + s.length) = strsW r ++ c := by
      rw [← List.drop_drop]
      show (s ++ (strsW r ++ c)).drop s.length = _
      exact List.drop_left
    have d2 : ((Cp.beB s.length 2 ++ (s ++ (strsW r ++ c))).drop 2).take s.length = s := by
      show (s ++ (strsW r ++ c)).take s.length = s
      exact List.take_left
    rw [d1, d2, ih]
    rfl
/-- A plan that is written is sound, and does what is told of the nodes in their order. -/
theorem plan_is {ss : List Stp} {p : Pl.Bs} (h : planW ss = some p) : ∃ T c, Pl.load p = some (T, c) ∧ Pl.checkOf p ∧ ∀ ef X, X.exit = 0 → Pl.runW c T ef X = doA ef (fOf ss) ss 0 ((fun _ => false), X) := by
  unfold planW textW at h
  generalize hw : (writeAt ss ss.length).1 = w at h
  split at h
  · cases h
  · rename_i hn
    cases h
    rw [Bool.not_eq_true, Bool.or_eq_false_iff] at hn
    obtain ⟨hf, hd⟩ := hn
    unfold failW at hf
    rw [Bool.or_eq_false_iff, Bool.or_eq_false_iff, List.take_length] at hf
    have h1000 : w.strs.length ≤ 1000 := by have := of_decide_eq_false hd; omega
    have hs : ∀ s ∈ w.strs, s.length < 65536 := fun s hs => by
      have := List.any_eq_false.1 hf.2 s hs
      exact big_not (by simpa using this)
    obtain ⟨g1, g2⟩ := write_good (T := w.strs) ss ss.length (Nat.le_refl _) (by rw [hw]; exact ⟨List.prefix_refl _, hf.1.1⟩)
    rw [hw, List.take_length] at g1
    have hl : Pl.load (outW w.strs w.strs.length ++ w.code) = some (w.strs, w.code) := by
      unfold outW
      rw [List.take_length]
      have e2 : Pl.two ([80, 49] ++ Cp.beB w.strs.length 2 ++ strsW w.strs ++ w.code) 2 = w.strs.length := by
        have := two_beB (n := w.strs.length) (by omega) 0 (strsW w.strs ++ w.code)
        unfold Pl.two at this ⊢
        rw [List.append_assoc, List.append_assoc]
        exact this
      unfold Pl.load
      rw [e2, if_pos ⟨by simp [beB2], rfl, h1000⟩]
      have : ([80, 49] ++ Cp.beB w.strs.length 2 ++ strsW w.strs ++ w.code).drop 4 = strsW w.strs ++ w.code := by
        rw [List.append_assoc, List.append_assoc]
        rfl
      rw [this]
      exact strs_of _ _ hs
    have hst : ∀ j (hj : j < ss.length), StK w.strs (fOf ss) ss[j] (0 + j) := fun j hj => by rw [Nat.zero_add]; exact g2 j hj hj
    refine ⟨w.strs, w.code, hl, ⟨_, hl, ?_⟩, fun ef X hx => ?_⟩
    · have := all_rest (by omega) ss 0 hst [] []
      rw [List.append_nil, List.nil_append] at this
      simp only
      rw [g1]
      exact this ((Pl.spec_end (by simp)).2 ⟨fun q hq => (by cases hq), rfl, fun _ _ => rfl⟩)
    · have he := Pl.Ends.start w.code w.strs ef X
      refine all_ends (by omega) ss 0 _ X _ [] hst hx ?_
      rw [List.nil_append, ← g1]
      exact he
end Go.Proofs.YtjelacjggijmfaaGreatDoor
namespace Go.Proofs.YtjelacjggijmfaaGreatDoor
open Go.RowKit Go.MapKept Go.ChangeMaps Go.Maps

theorem uni_len {s : St} {fs : List Pl.File} {g : Pl.Bs} {k P : Nat} (hok : Ok s k) (hP : 2000 ≤ P) (hfp : ∀ f ∈ fs, f.path.length ≤ P) (hg : g.length ≤ 2000) : ∀ y ∈ uniL s fs g, y.length ≤ P := fun y hy => by
  rcases List.mem_cons.1 hy with q | q
  · rw [q]; omega
  · rcases List.mem_append.1 q with q | q
    · obtain ⟨z, h1, h2⟩ := List.mem_flatten.1 q
      obtain ⟨r, h3, rfl⟩ := List.mem_map.1 h1
      have := (hok.rs r h3).nw y h2
      omega
    · rcases List.mem_append.1 q with q | q
      · obtain ⟨z, h1, h2⟩ := List.mem_flatten.1 q
        obtain ⟨r, h3, rfl⟩ := List.mem_map.1 h1
        have := (hok.rs r h3).tw y h2
        omega
      · obtain ⟨f, h1, rfl⟩ := List.mem_map.1 q
        exact hfp f h1
/-- The nodes' names stay short. -/
def NmB (s : St) (fs : List Pl.File) (g : Pl.Bs) (P : Nat) : Prop := g.length ≤ 2000 → ∀ r, FromR s fs (usL s fs s.pats) (enterF s fs (usL s fs s.pats) wst0 g) r → r.1 = 0 → r.2.over.length ≤ 100 → ∀ x ∈ r.2.over, x.name.length ≤ P
def OrderQ (s : St) (fs : List Pl.File) (g : Pl.Bs) (nm : Nat) (W : World) (e : Ending) (W' : World) : Prop :=
  ∃ (nv : Value) (er : Nat), e = .returned (.tuple #[nv, .int .i64 (er : Int)]) ∧ Below W.heap.size W W' ∧
    ((er ≠ 0 ∧ OrderT s fs g ([], er, 0)) ∨ (er = 0 ∧ ∃ nodes, (∀ R r, StepsR (nOf s.names) nodes 0 [] R → StepsT R r → OrderT s fs g r) ∧ Calls Tryz.prog 66 #[nv, .map (some nm)] W' fun e W2 => StepsQ (nOf s.names) nodes W' e W2))
theorem order_text {W : World} {c : Ad} {rb : Nat → Nat} {s : St} {vp : Value} {l : Ents} {bf bi : Nat} {ve : Value} {ef : List Pl.Eff} {fs : List Pl.File} {clock : Int} (gl : Pl.Bs) (k P : Nat) (hB : BM W c rb s vp l) (hp : PW W c.bx bf bi ve ef fs clock) (hgl : Glob W) (hok : Ok s k) (hk : k ≤ 200000000) (ht : Tgs s) (hu : NdU s) (hfl : fs.length ≤ 4000000000) (hP2 : P ≤ 80000) (hfp : ∀ f ∈ fs, f.path.length ≤ 8388608) (hnm : NmB s fs (goalF s gl) P) :
    Calls Tryz.prog 65 #[.pointer (some ⟨c.bb, 0, none⟩), .pointer (some ⟨c.bx, 0, none⟩), .string ⟨gl.toArray⟩] W fun e W' => OrderQ s fs (goalF s gl) c.nm W e W' := by
  have hU : (goalF s gl).length ≤ 2000 → Uni s fs (usL s fs s.pats) (uniL s fs (goalF s gl)) 256002000 := fun h => uni_any hok ht hB.ol hB.pl hfl (fun f hf => Nat.le_trans (hfp f hf) (by omega)) (by omega)
  refine (order_any gl k (fun _ h2 => walk_ok (hU h2) _ (List.mem_cons_self ..)) hB hp hgl hok).mono ?_
  rintro e w2 ⟨hb, ⟨q1, q2⟩ | ⟨q1, q2, q3⟩ | ⟨q1, q2, r, q3, ⟨q4, q5⟩ | ⟨q4, q5, q6⟩ | ⟨q4, q5, vv, qv, q6, q7, q8, q9⟩⟩⟩
  · exact ⟨_, 8, q2, hb, .inl ⟨by decide, .inl ⟨q1, rfl⟩⟩⟩
  · exact ⟨_, 5, q3, hb, .inl ⟨by decide, .inr (.inl ⟨q1, q2, rfl⟩)⟩⟩
  · exact ⟨_, r.1, q5, hb, .inl ⟨q4, .inr (.inr ⟨q1, q2, r, q3, .inl ⟨q4, rfl⟩⟩)⟩⟩
  · exact ⟨_, 5, q6, hb, .inl ⟨by decide, .inr (.inr ⟨q1, q2, r, q3, .inr (.inl ⟨q4, q5, rfl⟩)⟩)⟩⟩
  · have hov := (walk_ov q3 q4).1
    have hnm' := hnm q2 r q3 q4 q5
    have hw := walk_inv (hU q2) (List.mem_cons_self ..) q3 q4
    have hul := uni_len hok (P := 8388608) (by omega) hfp q2
    have hne := over_ne q3 q4
    have hlen : qv.length = r.2.over.length := by rw [← q9, List.length_map]
    have hus : ∀ x ∈ usL s fs s.pats, x.1 < s.rules.length := fun x hx => by
      unfold usL at hx
      obtain ⟨i, hi, rfl⟩ := List.mem_map.1 hx
      exact hB.pl i (List.mem_filter.1 hi).1
    refine ⟨vv, 0, q6, hb, .inr ⟨rfl, qv.map Vq.nd, fun R t a1 a2 => .inr (.inr ⟨q1, q2, r, q3, .inr (.inr ⟨q4, q5, R, by rw [← q9]; exact a1, a2⟩)⟩), ?_⟩⟩
    refine steps_text (P := P) q7 q8 (hB.later hb).names hok.short (hgl.later hb) (by omega) (by omega) (fun x hx => ?_) hP2 (fun x hx => ?_)
    · rw [q9] at hx
      exact over_ndb hok hk hu hB.ol hus 8388608 (Nat.le_refl _) hul hw hov q5 hx
    · rw [q9] at hx
      obtain ⟨z1, z2⟩ := over_needs hu hov q5 hx
      refine ⟨hnm' x hx, z1, fun n hn => ?_⟩
      obtain ⟨y, a, b⟩ := z2 n hn
      rw [← b]; exact hnm' y a
end Go.Proofs.YtjelacjggijmfaaGreatDoor
