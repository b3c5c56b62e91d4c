/-
  How long lines, and the plain form of a text, can be.
  The reader: what stands beside the book; whether a rule with commands has a target.
  What reading makes of rules, on lists.
-/
import Derived.Test.YtjelacjggijmfaaGreatDoorVGC1
import Derived.Test.YtjelacjggijmfaaGreatDoorVPureU
namespace Go.Proofs.YtjelacjggijmfaaGreatDoor
open Go.RowKit Go.MapKept Go.ChangeMaps Go.Maps

open Classical in
/-- What a text expands to where there are no signs. -/
noncomputable def expE (L : NL) (text : Pl.Bs) : Cp.Er := if h : ∃ r, Cp.Exp (nOf L) (fun _ => none) [] 0 [] text r then h.choose else ⟨[], 0, 0⟩
theorem expE_eq {L : NL} {text : Pl.Bs} {r : Cp.Er} (h : Cp.Exp (nOf L) (fun _ => none) [] 0 [] text r) : expE L text = r := by
  have hx : ∃ r, Cp.Exp (nOf L) (fun _ => none) [] 0 [] text r := ⟨r, h⟩
  unfold expE
  rw [dif_pos hx]
  exact Cp.Exp.det hx.choose_spec h
def hcB (s : St) (i : Nat) : Bool := match s.rules[i]? with
  | some r => decide (0 < r.cs.length)
  | none => false
def commandF (s : St) (op : Option Nat) (l : Mk.Ln) : Nat × St := match op with
  | none => (1, s)
  | some i => match s.rules[i]? with
    | none => (1, s)
    | some r => if r.cs.length = 0 ∧ (r.tg.any fun t => (s.of t).any (hcB s)) = true then (6, s) else (0, { s with rules := s.rules.set i { r with cs := r.cs ++ [(l.right, l.number)] } })
noncomputable def assignF (s : St) (l : Mk.Ln) : Nat × St :=
  if l.kind = 4 then (0, { s with names := nPut s.names l.left ⟨l.right, true⟩ })
  else ((expE s.names l.right).er, { s with names := nPut s.names l.left ⟨(expE s.names l.right).txt, false⟩ })
def ofAdd (i : Nat) (s : St) (t : Pl.Bs) : St := { s with of := ofPut s.of t (s.of t ++ [i]), tl := s.tl + 1 }
def explicitF (s : St) (tg : List Pl.Bs) (i : Nat) : St := tg.foldl (ofAdd i) (if s.first = [] then { s with first := tg.headD [] } else s)
def phonyB : Pl.Bs := [46, 80, 72, 79, 78, 89]
def addF (s : St) (tg nd : List Pl.Bs) : Option Nat × St :=
  if tg = [phonyB] then (none, { s with ph := nd.foldl phAdd s.ph })
  else if placeB (tg.headD []) = true then (some s.rules.length, { s with rules := s.rules ++ [⟨tg, onceB nd [], []⟩], pats := s.pats ++ [s.rules.length] })
  else (some s.rules.length, explicitF { s with rules := s.rules ++ [⟨tg, onceB nd [], []⟩] } tg s.rules.length)
noncomputable def ruleF (s : St) (l : Mk.Ln) : Nat × Option Nat × St :=
  if (expE s.names l.left).er ≠ 0 then ((expE s.names l.left).er, none, s)
  else if (expE s.names l.right).er ≠ 0 then ((expE s.names l.right).er, none, s)
  else if sidesB (Mk.words (expE s.names l.left).txt) (Mk.words (expE s.names l.right).txt) = false then (1, none, s)
  else if s.n = 64 then (5, none, s)
  else (0, addF { s with n := s.n + 1 } (Mk.words (expE s.names l.left).txt) (Mk.words (expE s.names l.right).txt))
section
variable (rec : St → Pl.Bs → Nat × Nat × St) (fs : List Pl.File)
def fileF (s : St) (w : Pl.Bs) (num : Nat) : Nat × Nat × St := match Pl.look fs w with
  | none => (2, num, s)
  | some g =>
    if s.opn = 3 then (3, num, s) else if s.inc = 100 then (5, num, s)
    else ((rec { s with inc := s.inc + 1, opn := s.opn + 1 } g.text).1, (rec { s with inc := s.inc + 1, opn := s.opn + 1 } g.text).2.1, { (rec { s with inc := s.inc + 1, opn := s.opn + 1 } g.text).2.2 with opn := (rec { s with inc := s.inc + 1, opn := s.opn + 1 } g.text).2.2.opn - 1 })
def filesF (num : Nat) : List Pl.Bs → St → Nat × Nat × St
  | [], s => (0, 0, s)
  | w :: ws, s => if (fileF rec fs s w num).1 ≠ 0 then fileF rec fs s w num else filesF num ws (fileF rec fs s w num).2.2
noncomputable def includeF (s : St) (l : Mk.Ln) : Nat × Nat × St :=
  if (expE s.names l.right).er ≠ 0 then ((expE s.names l.right).er, l.number, s) else filesF rec fs l.number (Mk.words (expE s.names l.right).txt) s
/-- What a line does: the error, the number beside it, which rule is open then, what was read then. -/
noncomputable def lineF (s : St) (op : Option Nat) (l : Mk.Ln) : Nat × Nat × Option Nat × St :=
  if l.kind = 1 then ((commandF s op l).1, l.number, op, (commandF s op l).2)
  else if l.kind = 5 then ((ruleF s l).1, l.number, (ruleF s l).2.1, (ruleF s l).2.2)
  else if l.kind = 2 then ((includeF rec fs s l).1, (includeF rec fs s l).2.1, none, (includeF rec fs s l).2.2)
  else ((assignF s l).1, l.number, none, (assignF s l).2)
noncomputable def linesF : List (Mk.Ln × Nat) → St → Option Nat → Nat × Nat × St
  | [], s, _ => (0, 0, s)
  | x :: xs, s, op =>
    if x.2 ≠ 0 then (x.2, x.1.number, s)
    else if (lineF rec fs s op x.1).1 ≠ 0 then ((lineF rec fs s op x.1).1, (lineF rec fs s op x.1).2.1, (lineF rec fs s op x.1).2.2.2)
    else linesF xs (lineF rec fs s op x.1).2.2.2 (lineF rec fs s op x.1).2.2.1
end
noncomputable def readF (fs : List Pl.File) : Nat → St → Pl.Bs → Nat × Nat × St
  | 0, s, text => linesF (fun s _ => (3, 0, s)) fs (Mk.allF (Mk.joined text)) s none
  | d + 1, s, text => linesF (readF fs d) fs (Mk.allF (Mk.joined text)) s none
def st0 : St := ⟨[], [], [], [], fun _ => [], [], 0, 0, 0, 0⟩
/-- What reading rules comes to. -/
noncomputable def bookF (fs : List Pl.File) (path : Pl.Bs) : Nat × Nat × St := match Pl.look fs path with
  | none => (2, 0, st0)
  | some g => readF fs 3 st0 g.text
end Go.Proofs.YtjelacjggijmfaaGreatDoor
namespace Go.Proofs.YtjelacjggijmfaaGreatDoor
open Go.RowKit Go.MapKept Go.ChangeMaps Go.Maps

structure En (W : World) (F : Foot) (bx bf bi : Nat) (ve : Value) (ef : List Pl.Eff) (fs : List Pl.File) (clock : Int) : Prop where
  pw : PW W bx bf bi ve ef fs clock
  glob : Glob W
  n1 : F bx = none
  n2 : F bf = none
  n3 : F bi = none
  n4 : F 0 = none
section
variable {W X : World} {F G : Foot} {c : Ad} {rb : Nat → Nat} {s : St} {bx bf bi : Nat} {ve : Value} {ef : List Pl.Eff} {fs : List Pl.File} {clock : Int}
theorem glob_lt (h : Glob W) : 0 < W.heap.size := by
  obtain ⟨m, hm⟩ := h
  exact World.block_lt_of_cell? W _ hm
theorem En.fr (h : En W F bx bf bi ve ef fs clock) (hf : Fr F G W X) : En X G bx bf bi ve ef fs clock := by
  have l1 := h.pw.row.lt
  have l2 := h.pw.files.lt
  have l3 : bi < W.heap.size := by obtain ⟨l, q, -⟩ := h.pw.first; exact q.lt
  have l4 := glob_lt h.glob
  refine ⟨h.pw.tn hf.tn (fun e => e h.n1) (fun e => e h.n2) (fun e => e h.n3), ?_, hf.old _ l1 h.n1, hf.old _ l2 h.n2, hf.old _ l3 h.n3, hf.old _ l4 h.n4⟩
  obtain ⟨m, hm⟩ := h.glob
  refine ⟨m, ?_⟩
  have := hf.tn.block _ l4 (fun e => e h.n4)
  unfold World.cell? at *
  rw [this]
  exact hm
theorem En.later (h : En W F bx bf bi ve ef fs clock) (hb : Below W.heap.size W X) : En X F bx bf bi ve ef fs clock := h.fr (Fr.later hb)
theorem RdM.inj (h : RdM W F c rb s) {i j : Nat} (hi : i < s.rules.length) (hj : j < s.rules.length) (e : rb i = rb j) : i = j := by
  have h1 := h.frb i hi
  rw [e, h.frb j hj] at h1
  cases h1
  rfl
theorem PRow.rdp {t : Tag} {v : Value} {xs : List Nat} (h : PRow W F t v rb xs) : ∃ a cap b o, v = .slice a (xs.map rb).length cap ∧ (0 < (xs.map rb).length → a = some ⟨b, o, none⟩ ∧ b < W.heap.size ∧ RdP W b o (xs.map rb)) := by
  rw [List.length_map]
  rcases h.1.2 with ⟨h1, h2⟩ | ⟨g, cap, cur, h1, h2, h3, h4⟩
  · rw [h2]
    exact ⟨none, 0, 0, 0, h1, fun e => by omega⟩
  · refine ⟨some ⟨g, 0, none⟩, cap, g, 0, h1, fun e => ⟨rfl, (Array.getElem?_eq_some_iff.1 h3).1, fun j r hj => ?_⟩⟩
    have ho := h.1
    rw [h1] at ho
    rw [List.getElem?_map] at hj
    cases hx : xs[j]? with
    | none => rw [hx] at hj; cases hj
    | some y =>
      rw [hx] at hj
      cases hj
      have hl := (List.getElem?_eq_some_iff.1 hx).1
      have := own_cell ho j (by rw [List.length_map]; exact hl)
      rw [Nat.zero_add, this, List.getElem_map, (List.getElem?_eq_some_iff.1 hx).2]
      rfl
open Classical in
theorem RdM.hcm (h : RdM W F c rb s) (hl : ∀ name, (s.of name).length ≤ 1073741824) : ∃ vp l, HcM W c.bb c.nm c.bt c.pb vp s.first l (fun n => (s.of n).map rb) (fun b => decide (∃ i, i < s.rules.length ∧ rb i = b ∧ hcB s i = true)) := by
  obtain ⟨vp, h1, h2⟩ := h.book
  obtain ⟨l, h3, h4, h5⟩ := h.tgts
  refine ⟨vp, l, h1, h3, fun name => (h5 name).rdp, fun name r hr => ?_, fun name => by simp only [List.length_map]; exact hl name⟩
  obtain ⟨i, hi, rfl⟩ := List.mem_map.1 hr
  have hil := h.ol name i hi
  obtain ⟨vt, vn, vc, q1, q2, q3, q4⟩ := h.rules i s.rules[i] (List.getElem?_eq_getElem hil)
  obtain ⟨a, cap, rfl⟩ := own_sh q4.1
  refine ⟨vt, vn, a, _, cap, q1, ?_⟩
  have hb : hcB s i = decide (0 < s.rules[i].cs.length) := by unfold hcB; rw [List.getElem?_eq_getElem hil]
  rw [decide_eq_decide]
  constructor
  · rintro ⟨j, hj, he, hc⟩
    cases h.inj hj hil he
    rw [hb] at hc
    simpa using hc
  · intro e
    exact ⟨i, hil, rfl, by rw [hb]; simpa using e⟩
open Classical in
theorem RdM.any (h : RdM W F c rb s) (ts : List Pl.Bs) : (ts.any fun t => ((s.of t).map rb).any (fun b => decide (∃ i, i < s.rules.length ∧ rb i = b ∧ hcB s i = true))) = ts.any fun t => (s.of t).any (hcB s) := by
  congr 1
  funext t
  rw [List.any_map]
  rw [Bool.eq_iff_iff, List.any_eq_true, List.any_eq_true]
  constructor
  · rintro ⟨i, hi, hq⟩
    simp only [Function.comp, decide_eq_true_eq] at hq
    obtain ⟨j, hj, he, hc⟩ := hq
    cases h.inj hj (h.ol t i hi) he
    exact ⟨_, hi, hc⟩
  · rintro ⟨i, hi, hq⟩
    exact ⟨i, hi, by simp only [Function.comp, decide_eq_true_eq]; exact ⟨i, h.ol t i hi, rfl, hq⟩⟩
end
end Go.Proofs.YtjelacjggijmfaaGreatDoor
namespace Go.Mk

def segTotal (ss : List Bs) : Nat := (ss.map (fun s => s.length + 1)).sum
def total (l : List (Nat × Bs)) : Nat := (l.map (fun x => x.2.length + 1)).sum
theorem segTotal_cons (p : Bs) (ps : List Bs) : segTotal (p :: ps) = p.length + 1 + segTotal ps := by simp [segTotal]
theorem total_cons (x : Nat × Bs) (l : List (Nat × Bs)) : total (x :: l) = x.2.length + 1 + total l := by simp [total]
theorem segTotal_segs (t : Bs) : segTotal (segs t) = t.length + 1 := by
  induction t with
  | nil => rfl
  | cons c r ih =>
    unfold segs
    by_cases h : c = 10
    · subst h
      simp only [beq_self_eq_true, if_true, segTotal_cons, ih, List.length_nil, List.length_cons]
      omega
    · have hb : (c == 10) = false := by simpa using h
      rw [hb]
      simp only [Bool.false_eq_true, if_false]
      have hne := segs_ne r
      cases hs : segs r with
      | nil => exact absurd hs hne
      | cons p ps =>
        rw [hs] at ih
        simp only [segTotal_cons, List.headD_cons, List.tail_cons, List.length_cons] at *
        omega
theorem noBack_le' (l : Bs) : (noBack l).length ≤ l.length := rdrop_le _ l
theorem take1_total : ∀ (ps : List Bs) (acc : Bs) (used : Nat) (p : Bs), (take1 acc used p ps).1.length + 1 + segTotal (take1 acc used p ps).2.2 ≤ acc.length + p.length + 1 + segTotal ps
  | [], acc, used, p => by
    have := noBack_le' p
    simp only [take1, List.length_append]; omega
  | q :: qs, acc, used, p => by
    unfold take1
    cases h : endsBack p with
    | true =>
      simp only [if_true]
      have ih := take1_total qs (acc ++ p.dropLast ++ [32]) (used + 1) (cutL q)
      have h1 := cutL_le q
      have h2 : p.dropLast.length + 1 = p.length := by
        cases p with
        | nil => simp [endsBack] at h
        | cons a r => simp
      simp only [List.length_append, List.length_cons, List.length_nil, segTotal_cons] at *
      omega
    | false =>
      simp only [Bool.false_eq_true, if_false, List.length_append, segTotal_cons]
      omega
theorem joinF_total : ∀ (f n : Nat) (ss : List Bs), total (joinF f n ss) ≤ segTotal ss
  | 0, _, _ => by simp [joinF, total]
  | _ + 1, _, [] => by simp [joinF, total]
  | f + 1, n, p :: ps => by
    have h1 := take1_total ps [] 1 p
    have h2 := joinF_total f (n + (take1 [] 1 p ps).2.1) (take1 [] 1 p ps).2.2
    rw [joinF, total_cons, segTotal_cons]
    simp only [List.length_nil] at *
    omega
theorem joined_total (t : Bs) : total (joined t) ≤ t.length + 1 := by
  rw [← segTotal_segs]; exact joinF_total _ _ _
theorem mem_total : ∀ {l : List (Nat × Bs)} {x : Nat × Bs}, x ∈ l → x.2.length + 1 ≤ total l
  | y :: l, x, h => by
    rw [total_cons]
    rcases List.mem_cons.1 h with rfl | h
    · omega
    · have := mem_total h; omega
theorem joined_len {t : Bs} {x : Nat × Bs} (h : x ∈ joined t) : x.2.length ≤ t.length := by
  have h1 := mem_total h
  have h2 := joined_total t
  omega
theorem before_le' (c : UInt8) (l : Bs) : (before c l).length ≤ l.length := by unfold before; exact (List.takeWhile_prefix _).length_le
theorem parse_len (w : Bs) : (parse w).1.left.length ≤ w.length ∧ (parse w).1.right.length ≤ w.length ∧ (parse w).1.kind ≤ 5 := by
  unfold parse
  split
  · unfold parseCmd
    split
    · simp [Ln.zero]
    · have := cutL_le w
      simp only [List.length_nil]
      omega
  · have h1 := cut_le (before 35 w)
    have h2 := before_le' 35 w
    generalize cut (before 35 w) = T at *
    split
    · simp [Ln.zero]
    · split
      · unfold parseIncl
        split
        · simp [Ln.zero]
        · have h3 := cut_le (T.drop 7)
          simp only [List.length_nil, List.length_drop] at *
          omega
      · unfold parseSides
        split
        · simp [Ln.zero]
        · split
          · have h3 := cut_le (T.takeWhile noSign)
            have h4 := cut_le (kindOf (T.dropWhile noSign)).2
            have h5 := kindOf_le (T.dropWhile noSign)
            have h6 := dropWhile_le noSign T
            have h7 : (T.takeWhile noSign).length ≤ T.length := (List.takeWhile_prefix _).length_le
            have h8 : (kindOf (T.dropWhile noSign)).1 ≤ 5 := by unfold kindOf; split <;> simp
            simp only
            omega
          · simp [Ln.zero]
theorem sides_len (a b c : Bs) : (sides a b c).length ≤ a.length + b.length + c.length + 2 := by
  unfold sides
  split
  · simp; omega
  · simp; omega
theorem written_len (l : Ln) : (written l).length ≤ l.left.length + l.right.length + 8 := by
  have h1 := oneBlank_le l.left
  have h2 := oneBlank_le l.right
  have h3 := sides_len l.left [58, 61] l.right
  have h4 := sides_len l.left [61] l.right
  have h5 := sides_len (oneBlank l.left) [58] (oneBlank l.right)
  unfold written
  simp only [List.length_cons, List.length_nil] at h3 h4 h5
  repeat' split
  all_goals try simp only [List.length_append, List.length_cons, List.length_nil, incl]
  all_goals omega
theorem closed_len (l : Bs) : (closed l).length ≤ l.length + 1 := by
  unfold closed; split <;> simp
def cost (l : List (Ln × Nat)) : Nat := (l.map (fun x => x.1.left.length + x.1.right.length + 12)).sum
theorem cost_cons (x : Ln × Nat) (l : List (Ln × Nat)) : cost (x :: l) = x.1.left.length + x.1.right.length + 12 + cost l := by simp [cost]
theorem cost_append (a b : List (Ln × Nat)) : cost (a ++ b) = cost a + cost b := by simp [cost]
theorem cost_allF : ∀ js : List (Nat × Bs), cost (allF js) ≤ 12 * total js
  | [] => by simp [allF, cost]
  | (n, w) :: r => by
    have ih := cost_allF r
    have h := parse_len w
    rw [total_cons]
    unfold allF
    split
    · omega
    · rw [cost_cons]
      split
      · simp only; omega
      · simp only [cost, List.map_nil, List.sum_nil]; omega
theorem cost_all (t : Bs) : cost (allF (joined t)) ≤ 12 * (t.length + 1) := by
  have h1 := cost_allF (joined t)
  have h2 := joined_total t
  omega
theorem textTo_len : ∀ (l : List (Ln × Nat)) (op : Bool) (acc : Bs) (op' : Bool) (acc' : Bs), textTo op acc l = some (op', acc') → acc'.length ≤ acc.length + cost l
  | [], op, acc, op', acc', h => by
    simp only [textTo, Option.some.injEq, Prod.mk.injEq] at h
    obtain ⟨_, rfl⟩ := h
    omega
  | (l, e) :: r, op, acc, op', acc', h => by
    unfold textTo at h
    split at h
    · have ih := textTo_len r _ _ op' acc' h
      have h1 := closed_len (written l)
      have h2 := written_len l
      rw [cost_cons]
      simp only [List.length_append, List.length_cons, List.length_nil] at *
      omega
    · cases h
theorem textF_len : ∀ (l : List (Ln × Nat)) (op : Bool) (acc : Bs), (textF op acc l).1.length ≤ acc.length + cost l
  | [], op, acc => by simp [textF]
  | (l, e) :: r, op, acc => by
    unfold textF
    split
    · split
      · simp
      · have ih := textF_len r (if l.kind == 1 then op else l.kind == 5) (acc ++ closed (written l) ++ [10])
        have h1 := closed_len (written l)
        have h2 := written_len l
        rw [cost_cons]
        simp only [List.length_append, List.length_cons, List.length_nil] at *
        omega
    · simp
theorem plainOf_len (t : Bs) : (plainOf t).1.length ≤ 12 * (t.length + 1) := by
  have h1 := textF_len (allF (joined t)) false []
  have h2 := cost_all t
  unfold plainOf
  simp only [List.length_nil] at h1
  omega
/-- Every line that is given comes of one that has been put together. -/
theorem allF_mem : ∀ {js : List (Nat × Bs)} {x : Ln × Nat}, x ∈ allF js → ∃ y ∈ js, x = ({ (parse y.2).1 with number := y.1 }, (parse y.2).2)
  | (n, w) :: r, x, h => by
    unfold allF at h
    split at h
    · obtain ⟨y, hy, e⟩ := allF_mem h
      exact ⟨y, List.mem_cons_of_mem _ hy, e⟩
    · rcases List.mem_cons.1 h with rfl | h
      · exact ⟨(n, w), List.mem_cons_self .., rfl⟩
      · split at h
        · obtain ⟨y, hy, e⟩ := allF_mem h
          exact ⟨y, List.mem_cons_of_mem _ hy, e⟩
        · cases h
theorem all_len {t : Bs} {x : Ln × Nat} (h : x ∈ allF (joined t)) : x.1.left.length ≤ t.length ∧ x.1.right.length ≤ t.length ∧ x.1.kind ≤ 5 := by
  obtain ⟨y, hy, rfl⟩ := allF_mem h
  have h1 := joined_len hy
  have h2 := parse_len y.2
  simp only
  omega
theorem textF_from : ∀ (pre rest : List (Ln × Nat)) (op : Bool) (acc : Bs) (op' : Bool) (acc' : Bs), textTo op acc pre = some (op', acc') → textF op acc (pre ++ rest) = textF op' acc' rest
  | [], rest, op, acc, op', acc', h => by
    simp only [textTo, Option.some.injEq, Prod.mk.injEq] at h
    obtain ⟨rfl, rfl⟩ := h
    rfl
  | (l, e) :: r, rest, op, acc, op', acc', h => by
    unfold textTo at h
    split at h
    · rename_i hc
      rw [Bool.and_eq_true] at hc
      have ih := textF_from r rest _ _ op' acc' h
      rw [List.cons_append, textF, hc.1]
      have h2 : (l.kind == 1 && !op) = false := by have := hc.2; rwa [Bool.not_eq_true'] at this
      rw [h2]
      exact ih
    · cases h
theorem textTo_snoc : ∀ (pre : List (Ln × Nat)) (x : Ln × Nat) (op : Bool) (acc : Bs) (op' : Bool) (acc' : Bs), textTo op acc pre = some (op', acc') → textTo op acc (pre ++ [x]) = textTo op' acc' [x]
  | [], x, op, acc, op', acc', h => by
    simp only [textTo, Option.some.injEq, Prod.mk.injEq] at h
    obtain ⟨rfl, rfl⟩ := h
    rfl
  | (l, e) :: r, x, op, acc, op', acc', h => by
    unfold textTo at h
    split at h
    · rename_i hc
      have ih := textTo_snoc r x _ _ op' acc' h
      rw [List.cons_append, textTo, hc]
      exact ih
    · cases h
end Go.Mk
