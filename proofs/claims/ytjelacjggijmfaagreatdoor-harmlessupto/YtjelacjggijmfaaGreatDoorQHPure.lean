/-
  Small laws of the plain functions: dropping from the end, cutting.
  IsName of package lines: is a text a name?
  The small functions of package lines that call nothing: what each answers.
  What Plain is, as plain functions on lists of bytes: lines, what each is, and its plain form.
  Harmless of package makerkeep: a plan that is checked gives no command but its own strings.
  How long a result is; how what came out is read.
  What a plan may do: no command but its own strings; the clock tells how many; with an exit the last one had it.
-/
import Derived.Test.YtjelacjggijmfaaGreatDoorQRG1
import Derived.Test.YtjelacjggijmfaaGreatDoorQMR1
import Derived.Test.YtjelacjggijmfaaGreatDoorQSB
import Derived.Test.YtjelacjggijmfaaGreatDoorChecked
import Derived.WalkKit
import Derived.WalkSpells
import Derived.WalkLawsBesides
import Derived.Lib.Strings
import Derived.Lib.OthersKept
namespace Go.Pl
open Go Go.RowKit

def exitOf (ef : List Eff) (ex : Int) (c : Bs) : Int := match ef.find? (fun e => e.cmd == c) with
  | none => ex
  | some e => e.exit
def exits (ef : List Eff) (cs : List Bs) : Int := cs.foldl (exitOf ef) 0
structure Tame (ss : List Bs) (ef : List Eff) (k0 : Int) (X : Wd) : Prop where
  cmds : ∀ c ∈ X.cmds, c ∈ ss ∨ c = []
  clock : X.clock = wrap64 (k0 + X.cmds.length)
  ends : exits ef X.cmds = X.exit
  zero : ∀ i, i < X.cmds.length → exits ef (X.cmds.take i) = 0
theorem wrap64_in (a b : Int) : wrap64 (wrap64 a + b) = wrap64 (a + b) := by unfold wrap64; omega
theorem Tame.give {ss : List Bs} {ef : List Eff} {k0 : Int} {X : Wd} (h : Tame ss ef k0 X) (hx : X.exit = 0) (i : Nat) : Tame ss ef k0 (giveW ef X (ss.getD i [])) := by
  have hc : (giveW ef X (ss.getD i [])).cmds = X.cmds ++ [ss.getD i []] := by unfold giveW; split <;> rfl
  have hk : (giveW ef X (ss.getD i [])).clock = wrap64 (X.clock + 1) := by unfold giveW; split <;> rfl
  have he : (giveW ef X (ss.getD i [])).exit = exitOf ef X.exit (ss.getD i []) := by unfold giveW exitOf; cases ef.find? (fun e => e.cmd == ss.getD i []) <;> rfl
  refine ⟨fun c hcm => ?_, ?_, ?_, fun j hj => ?_⟩
  · rw [hc] at hcm
    rcases List.mem_append.1 hcm with h1 | h1
    · exact h.cmds c h1
    · simp only [List.mem_singleton] at h1
      subst h1
      rw [List.getD_eq_getElem?_getD]
      by_cases hi : i < ss.length
      · rw [List.getElem?_eq_getElem hi]; exact .inl (List.getElem_mem hi)
      · rw [List.getElem?_eq_none (by omega)]; exact .inr rfl
  · rw [hk, hc, h.clock, wrap64_in, List.length_append, List.length_singleton]
    congr 1
    push_cast
    omega
  · rw [he, hc]
    unfold exits
    rw [List.foldl_append]
    show exitOf ef (exits ef X.cmds) _ = _
    rw [h.ends]
  · rw [hc] at hj ⊢
    rw [List.length_append, List.length_singleton] at hj
    by_cases hl : j < X.cmds.length
    · rw [List.take_append_of_le_length (by omega)]; exact h.zero j hl
    · have : j = X.cmds.length := by omega
      subst this
      rw [List.take_left, h.ends, hx]
theorem exec_tame (c : Bs) (ss : List Bs) (ef : List Eff) (k0 : Int) : ∀ (f p : Nat) (st : List Bool) (fl : Nat → Bool) (X : Wd), Tame ss ef k0 X → Tame ss ef k0 (exec c ss ef f p st fl X)
  | 0, _, _, _, _, h => h
  | f + 1, p, st, fl, X, h => by
    rw [exec]
    split
    · rename_i hp
      refine exec_tame c ss ef k0 f _ _ _ _ ?_
      have : (act ss ef (mkIns c p) st fl X).2.2.2 = X ∨ ∃ i, (act ss ef (mkIns c p) st fl X).2.2.2 = giveW ef X (ss.getD i []) := by
        unfold act
        repeat' split
        all_goals first | exact .inl rfl | exact .inr ⟨_, rfl⟩
      rcases this with e | ⟨d, e⟩
      · rw [e]; exact h
      · rw [e]; exact h.give hp.2 d
    · exact h
theorem run_tame (c : Bs) (ss : List Bs) (ef : List Eff) (fs : List File) (clock : Int) (hk : wrap64 clock = clock) : Tame ss ef clock (runW c ss ef (newW fs clock)) :=
  exec_tame c ss ef clock _ _ _ _ _ ⟨by simp [newW], by show clock = wrap64 (clock + ((0 : Nat) : Int)); simp [hk], rfl, fun i hi => by simp [newW] at hi⟩
/-- A text that stands within another. -/
def Within (c l : Bs) : Prop := ∃ k, k + c.length ≤ l.length ∧ (l.drop k).take c.length = c
theorem Within.nil (l : Bs) : Within [] l := ⟨0, by simp, by simp⟩
theorem Within.drop {c l : Bs} {n : Nat} (h : Within c (l.drop n)) (hn : n ≤ l.length) : Within c l := by
  obtain ⟨k, h1, h2⟩ := h
  rw [List.length_drop] at h1
  exact ⟨n + k, by omega, by rw [← List.drop_drop]; exact h2⟩
theorem strs_within : ∀ (n : Nat) (r : Bs) (x : List Bs × Bs), strs n r = some x → ∀ s ∈ x.1, Within s r
  | 0, r, x, h, s, hs => by cases h; cases hs
  | n + 1, r, x, h, s, hs => by
    unfold strs at h
    split at h
    · rename_i hr
      cases e : strs n (r.drop (2 + two r 0)) with
      | none => rw [e] at h; cases h
      | some y =>
        rw [e] at h
        cases h
        rcases List.mem_cons.1 hs with rfl | hs
        · refine ⟨2, ?_, ?_⟩
          · rw [List.length_take, List.length_drop]; omega
          · rw [List.length_take, List.length_drop, Nat.min_eq_left (by omega)]
        · exact (strs_within n _ y e s hs).drop hr.2
    · cases h
theorem load_within {l : Bs} {ss : List Bs} {c : Bs} (h : load l = some (ss, c)) : ∀ s ∈ ss, Within s l := fun s hs => by
  unfold load at h
  split at h
  · rename_i h4
    exact (strs_within _ _ _ h s hs).drop h4.1
  · cases h
end Go.Pl
namespace Go.Proofs.YtjelacjggijmfaaGreatDoor
open Go.RowKit

theorem exec_cmds (c : Pl.Bs) (ss : List Pl.Bs) (ef : List Pl.Eff) : ∀ (f p : Nat) (st : List Bool) (fl : Nat → Bool) (X : Pl.Wd), (Pl.exec c ss ef f p st fl X).cmds.length ≤ X.cmds.length + f
  | 0, _, _, _, X => Nat.le_refl _
  | f + 1, p, st, fl, X => by
    rw [Pl.exec]
    split
    · have h1 := exec_cmds c ss ef f (Pl.act ss ef (Pl.mkIns c p) st fl X).1 (Pl.act ss ef (Pl.mkIns c p) st fl X).2.1 (Pl.act ss ef (Pl.mkIns c p) st fl X).2.2.1 (Pl.act ss ef (Pl.mkIns c p) st fl X).2.2.2
      have h2 : (Pl.act ss ef (Pl.mkIns c p) st fl X).2.2.2 = X ∨ ∃ d, (Pl.act ss ef (Pl.mkIns c p) st fl X).2.2.2 = Pl.giveW ef X d := by
        unfold Pl.act
        repeat' split
        all_goals first | exact .inl rfl | exact .inr ⟨_, rfl⟩
      rcases h2 with e | ⟨d, e⟩
      · rw [e] at h1 ⊢; omega
      · rw [e] at h1 ⊢
        rw [give_cmds', List.length_append, List.length_singleton] at h1
        omega
    · omega
theorem load_short {l : Pl.Bs} {ss : List Pl.Bs} {c : Pl.Bs} (h : Pl.load l = some (ss, c)) : c.length + 4 ≤ l.length := by
  unfold Pl.load at h
  split at h
  · rename_i h4
    have := (Pl.strs_len _ _ _ h).2
    simp only [List.length_drop] at this
    omega
  · cases h
theorem run_cmds {l : Pl.Bs} {ss : List Pl.Bs} {c : Pl.Bs} (h : Pl.load l = some (ss, c)) (fs : List Pl.File) (ef : List Pl.Eff) (clock : Int) : (Pl.runW c ss ef (Pl.newW fs clock)).cmds.length ≤ l.length := by
  have h1 := exec_cmds c ss ef (c.length + 1) 0 [] (fun _ => false) (Pl.newW fs clock)
  have h2 := load_short h
  have h3 : (Pl.newW fs clock).cmds.length = 0 := rfl
  unfold Pl.runW
  omega
theorem run_files (S : List Pl.Bs) (c : Pl.Bs) (ss : List Pl.Bs) (fs : List Pl.File) (ef : List Pl.Eff) (clock : Int) (hfS : ∀ f ∈ fs, f.path ∈ S) (hEs : ∀ e ∈ ef, ∀ f ∈ e.writes, f.path ∈ S) : (Pl.sortF (Pl.runW c ss ef (Pl.newW fs clock)).files).length ≤ S.length := by
  rw [sort_len]
  refine Fit.len ?_
  unfold Pl.runW
  exact exec_fit S c ss ef hEs _ _ _ _ _ (Fit.adds fs ⟨by simp [Pl.Uniq], by simp⟩ hfS)
theorem own_read {w : World} {B e size n : Nat} {v : Value} {xs : List Value} (h : w.ownsRow B e size v n xs) : ∃ a cap b, v = .slice a n cap ∧ (0 < n → a = some ⟨b, 0, none⟩) ∧ (0 < n → b < w.heap.size) ∧ ∀ i u, xs[i]? = some u → w.cell? ⟨b, i, none⟩ = some u := by
  rcases h.2 with ⟨h1, h2⟩ | ⟨g, cap, cur, h1, h2, h3, h4, h5, h6, h7⟩
  · refine ⟨none, 0, 0, ?_, fun h => by omega, fun h => by omega, fun i u hu => ?_⟩
    · rw [h1, h2]
    · have := h.1
      subst h2
      simp only [Nat.zero_mul, List.length_eq_zero_iff] at this
      subst this
      simp at hu
  · have hr : Row w g e cur.toList := by unfold Row; simpa using h3
    refine ⟨some ⟨g, 0, none⟩, cap, g, h1, fun _ => rfl, fun _ => hr.lt, fun i u hu => hr.cell? ?_⟩
    rw [← h7, List.getElem?_take] at hu
    split at hu
    · exact hu
    · cases hu
theorem Strs.rd {w : World} {B : Nat} {v : Value} {ss : List Pl.Bs} (h : Strs w B v ss) : ∃ a cap b, v = .slice a ss.length cap ∧ (0 < ss.length → a = some ⟨b, 0, none⟩) ∧ (0 < ss.length → b < w.heap.size) ∧ RdS w b 0 ss := by
  obtain ⟨a, cap, b, h1, h2, h3, h4⟩ := own_read h
  exact ⟨a, cap, b, h1, h2, h3, fun i hi => h4 (0 + i) _ (by simp [hi])⟩
theorem own_files {w : World} {B t : Nat} {v : Value} {fs : List Pl.File} (h : w.ownsRow B t 3 v fs.length (filesC fs)) : ∃ a cap b, v = .slice a fs.length cap ∧ (0 < fs.length → a = some ⟨b, 0, none⟩) ∧ (0 < fs.length → b < w.heap.size) ∧ RdF w b 0 fs := by
  obtain ⟨a, cap, b, h1, h2, h3, h4⟩ := own_read h
  refine ⟨a, cap, b, h1, h2, h3, fun i hi => ?_⟩
  obtain ⟨k0, k1, k2⟩ := filesC_get fs i hi
  rw [Nat.zero_add]
  exact ⟨h4 _ _ k0, h4 _ _ k1, h4 _ _ k2⟩
theorem RdE.wide {w : World} {L L' b o : Nat} {ef : List Pl.Eff} (h : RdE w L b o ef) (hL : L ≤ L') : RdE w L' b o ef := ⟨Nat.lt_of_lt_of_le h.1 hL, fun i hi => by
  obtain ⟨h1, h2, aw, cw, bw, ow, h3, h4, h5, h6⟩ := h.2 i hi
  exact ⟨h1, h2, aw, cw, bw, ow, h3, h4, h5, Nat.lt_of_lt_of_le h6 hL⟩⟩
end Go.Proofs.YtjelacjggijmfaaGreatDoor
namespace Go.Proofs.YtjelacjggijmfaaGreatDoor
open Go.RowKit

/-- What a run that ends leaves, in the law's words. -/
structure HOut (l : Pl.Bs) (ef : List Pl.Eff) (clock ex ck : Int) (cs : List Pl.Bs) : Prop where
  few : cs.length ≤ l.length
  clock : ck = wrap64 (clock + cs.length)
  within : ∀ i (h : i < cs.length), Pl.Within cs[i] l
  zero : ∀ i, i < cs.length → Pl.exits ef (cs.take i) = 0
  ends : Pl.exits ef cs = ex
theorem hOut {l c : Pl.Bs} {ss : List Pl.Bs} (h : Pl.load l = some (ss, c)) (fs : List Pl.File) (ef : List Pl.Eff) (clock : Int) (hk : wrap64 clock = clock) : HOut l ef clock (Pl.runW c ss ef (Pl.newW fs clock)).exit (Pl.runW c ss ef (Pl.newW fs clock)).clock (Pl.runW c ss ef (Pl.newW fs clock)).cmds := by
  have ht := Pl.run_tame c ss ef fs clock hk
  refine ⟨run_cmds h fs ef clock, ht.clock, fun i hi => ?_, ht.zero, ht.ends⟩
  rcases ht.cmds _ (List.getElem_mem hi) with q | q
  · exact Pl.load_within h _ q
  · rw [q]; exact Pl.Within.nil l
theorem exits_next (ef : List Pl.Eff) (cs : List Pl.Bs) (i : Nat) (h : i < cs.length) : Pl.exits ef (cs.take (i + 1)) = Pl.exitOf ef (Pl.exits ef (cs.take i)) cs[i] := by
  unfold Pl.exits
  rw [List.take_succ_eq_append_getElem h, List.foldl_append]
  rfl
theorem exitOf_none {ef : List Pl.Eff} {c : Pl.Bs} (ex : Int) (h : ∀ j (hj : j < ef.length), ef[j].cmd ≠ c) : Pl.exitOf ef ex c = ex := by
  have : ef.find? (fun e => e.cmd == c) = none := by
    rw [List.find?_eq_none]
    intro x hx
    obtain ⟨j, hj, rfl⟩ := List.getElem_of_mem hx
    simpa using h j hj
  unfold Pl.exitOf
  rw [this]
theorem exitOf_some {ef : List Pl.Eff} {c : Pl.Bs} (ex : Int) {k : Nat} (hk : k < ef.length) (h : ∀ j (hj : j < ef.length), j < k → ef[j].cmd ≠ c) (he : ef[k].cmd = c) : Pl.exitOf ef ex c = ef[k].exit := by
  have : ef.find? (fun e => e.cmd == c) = some ef[k] := by
    rw [List.find?_eq_some_iff_getElem]
    exact ⟨by simpa using he, k, hk, rfl, fun j hj => by simpa using h j (by omega) hj⟩
  unfold Pl.exitOf
  rw [this]
end Go.Proofs.YtjelacjggijmfaaGreatDoor
namespace Go.Mk
abbrev Bs := List UInt8

def blk (c : UInt8) : Bool := c == 32 || c == 9
def cutL (l : Bs) : Bs := l.dropWhile blk
def cutR (l : Bs) : Bs := (l.reverse.dropWhile blk).reverse
def cut (l : Bs) : Bs := cutL (cutR l)
def noBack (l : Bs) : Bs := (l.reverse.dropWhile (· == 92)).reverse
def endsBack (l : Bs) : Bool := l.getLast? == some 92

def segs : Bs → List Bs
  | [] => [[]]
  | c :: r => if c == 10 then [] :: segs r else (c :: (segs r).headD []) :: (segs r).tail

def take1 : Bs → Nat → Bs → List Bs → Bs × Nat × List Bs
  | acc, used, p, [] => (acc ++ noBack p, used, [])
  | acc, used, p, q :: qs => if endsBack p then take1 (acc ++ p.dropLast ++ [32]) (used + 1) (cutL q) qs else (acc ++ p, used, q :: qs)

def joinF : Nat → Nat → List Bs → List (Nat × Bs)
  | 0, _, _ => []
  | _ + 1, _, [] => []
  | f + 1, n, p :: ps => (n, (take1 [] 1 p ps).1) :: joinF f (n + (take1 [] 1 p ps).2.1) (take1 [] 1 p ps).2.2
def joined (t : Bs) : List (Nat × Bs) := joinF (segs t).length 1 (segs t)

structure Ln where
  number : Nat
  kind : Nat
  left : Bs
  right : Bs

def Ln.zero : Ln := ⟨0, 0, [], []⟩
def incl : Bs := [105, 110, 99, 108, 117, 100, 101]
def before (c : UInt8) (l : Bs) : Bs := l.takeWhile (fun x => !(x == c))
def letter (c : UInt8) : Bool := (65 ≤ c && c ≤ 90) || (97 ≤ c && c ≤ 122) || (48 ≤ c && c ≤ 57) || c == 95
def isName (l : Bs) : Bool := !l.isEmpty && decide (l.length ≤ 16) && l.all letter
def noSign (c : UInt8) : Bool := !(c == 61 || c == 58)
def kindOf : Bs → Nat × Bs
  | 58 :: 61 :: b => (3, b)
  | 61 :: b => (4, b)
  | l => (5, l.tail)
def mayStand (kind : Nat) (left : Bs) : Bool :=
  if left == incl then false else if kind == 5 then !left.isEmpty else isName left
def parseCmd (w : Bs) : Ln := if (cutL w).isEmpty then Ln.zero else ⟨0, 1, [], cutL w⟩
def isIncl (t : Bs) : Bool := incl.isPrefixOf t && (match t.drop 7 with | [] => true | c :: _ => blk c)
def parseIncl (b : Bs) : Ln × Nat := if b.isEmpty then (Ln.zero, 1) else (⟨0, 2, [], b⟩, 0)
def parseSides (t : Bs) : Ln × Nat :=
  if (t.dropWhile noSign).isEmpty then (Ln.zero, 1)
  else if mayStand (kindOf (t.dropWhile noSign)).1 (cut (t.takeWhile noSign)) then (⟨0, (kindOf (t.dropWhile noSign)).1, cut (t.takeWhile noSign), cut (kindOf (t.dropWhile noSign)).2⟩, 0)
  else (Ln.zero, 1)
def parse (w : Bs) : Ln × Nat :=
  if [9].isPrefixOf w then (parseCmd w, 0)
  else if (cut (before 35 w)).isEmpty then (Ln.zero, 0)
  else if isIncl (cut (before 35 w)) then parseIncl (cut ((cut (before 35 w)).drop 7))
  else parseSides (cut (before 35 w))

def allF : List (Nat × Bs) → List (Ln × Nat)
  | [] => []
  | (n, w) :: r => if (parse w).2 == 0 && (parse w).1.kind == 0 then allF r
      else ({ (parse w).1 with number := n }, (parse w).2) :: (if (parse w).2 == 0 then allF r else [])

def wordsA : Bs → Bs → List Bs
  | cur, [] => if cur.isEmpty then [] else [cur]
  | cur, c :: r => if blk c then (if cur.isEmpty then wordsA [] r else cur :: wordsA [] r) else wordsA (cur ++ [c]) r
def words (l : Bs) : List Bs := wordsA [] l
def oneBlank (l : Bs) : Bs := [32].intercalate (words l)
def sides (left sign right : Bs) : Bs := if right.isEmpty then left ++ [32] ++ sign else left ++ [32] ++ sign ++ [32] ++ right
def written (l : Ln) : Bs :=
  if l.kind == 1 then [9] ++ l.right
  else if l.kind == 2 then incl ++ [32] ++ oneBlank l.right
  else if l.kind == 3 then sides l.left [58, 61] l.right
  else if l.kind == 4 then sides l.left [61] l.right
  else sides (oneBlank l.left) [58] (oneBlank l.right)
def closed (l : Bs) : Bs := if endsBack l then l ++ [32] else l

/-- The flag and the text behind some lines; none: it has ended with an error. -/
def textTo : Bool → Bs → List (Ln × Nat) → Option (Bool × Bs)
  | op, acc, [] => some (op, acc)
  | op, acc, (l, e) :: r => if e == 0 && !(l.kind == 1 && !op) then textTo (if l.kind == 1 then op else l.kind == 5) (acc ++ closed (written l) ++ [10]) r else none
def textF : Bool → Bs → List (Ln × Nat) → Bs × Nat × Nat
  | _, acc, [] => (acc, 0, 0)
  | op, acc, (l, e) :: r => if e == 0 then (if l.kind == 1 && !op then ([], 1, l.number) else textF (if l.kind == 1 then op else l.kind == 5) (acc ++ closed (written l) ++ [10]) r) else ([], e, l.number)
def plainOf (t : Bs) : Bs × Nat × Nat := textF false [] (allF (joined t))
end Go.Mk
namespace Go.Proofs.YtjelacjggijmfaaGreatDoor
open Go.RowKit

theorem bcell {W w1 : World} (hb : Below W.heap.size W w1) : (∀ b o, b < W.heap.size → w1.cell? ⟨b, o, none⟩ = W.cell? ⟨b, o, none⟩) ∧ (∀ b o, b < W.heap.size → w1.frozen? ⟨b, o, none⟩ = W.frozen? ⟨b, o, none⟩) :=
  ⟨fun b o h => hb.cell (p := ⟨b, o, none⟩) h, fun b o h => hb.frozen (p := ⟨b, o, none⟩) h⟩
/-- A block of four cells. -/
def Box4 (w : World) (b : Nat) (t : TypeId) (a0 a1 a2 a3 : Value) : Prop := w.heap[b]? = some (.cells #[a0, a1, a2, a3] t (0, 0))
theorem Box4.new (w : World) (t : TypeId) (a0 a1 a2 a3 : Value) : Box4 (w.alloc (.cells #[a0, a1, a2, a3] t)) w.heap.size t a0 a1 a2 a3 := by show (w.heap.push _)[w.heap.size]? = _; simp
theorem Box4.lt {w : World} {b : Nat} {t : TypeId} {a0 a1 a2 a3 : Value} (h : Box4 w b t a0 a1 a2 a3) : b < w.heap.size := (Array.getElem?_eq_some_iff.1 h).1
theorem Box4.later {w w' : World} {b : Nat} {t : TypeId} {a0 a1 a2 a3 : Value} (h : Box4 w b t a0 a1 a2 a3) (hb : Below w.heap.size w w') : Box4 w' b t a0 a1 a2 a3 := (hb.block b h.lt).trans h
theorem Box4.alloc {w : World} {b : Nat} {t : TypeId} {a0 a1 a2 a3 : Value} (h : Box4 w b t a0 a1 a2 a3) (o : Obj) : Box4 (w.alloc o) b t a0 a1 a2 a3 := (Below.heap_alloc w o b h.lt).trans h
theorem Box4.cells {w : World} {b : Nat} {t : TypeId} {a0 a1 a2 a3 : Value} (h : Box4 w b t a0 a1 a2 a3) :
    (w.cell? ⟨b, 0, none⟩ = some a0 ∧ w.cell? ⟨b, 1, none⟩ = some a1 ∧ w.cell? ⟨b, 2, none⟩ = some a2 ∧ w.cell? ⟨b, 3, none⟩ = some a3) ∧
    (w.frozen? ⟨b, 0, none⟩ = false ∧ w.frozen? ⟨b, 1, none⟩ = false ∧ w.frozen? ⟨b, 2, none⟩ = false ∧ w.frozen? ⟨b, 3, none⟩ = false) := by
  unfold Box4 at h
  simp [World.cell?, World.frozen?, h]
def blkI (r : Int) : Bool := r == 32 || r == 9
def letterI (r : Int) : Bool := (decide (65 ≤ r) && decide (r ≤ 90)) || (decide (97 ≤ r) && decide (r ≤ 122)) || (decide (48 ≤ r) && decide (r ≤ 57)) || r == 95
set_option maxHeartbeats 400000 in
theorem isBlank_any (r : Int) (w : World) :
    Calls Tryz.prog 212 #[.int .i32 r] w fun e w' => e = .returned (.bool (blkI r)) ∧ w = w' := by
  go_enter Tryz.func212, Tryz.ntmps212
  go_wp2
  all_goals go_ret
  all_goals (refine ⟨?_, rfl⟩; simp [blkI, *])
set_option maxHeartbeats 400000 in
theorem isLetter_any (r : Int) (w : World) :
    Calls Tryz.prog 275 #[.int .i32 r] w fun e w' => e = .returned (.bool (letterI r)) ∧ w = w' := by
  go_enter Tryz.func275, Tryz.ntmps275
  go_wp2
  all_goals go_ret
  all_goals (refine ⟨ret_bool ?_, rfl⟩; rw [Bool.eq_iff_iff]; simp [letterI]; try omega)
end Go.Proofs.YtjelacjggijmfaaGreatDoor
namespace Go.Proofs.YtjelacjggijmfaaGreatDoor
open Go.RowKit

theorem letterI_byte (c : UInt8) : letterI c.toNat = Mk.letter c := by
  rw [Bool.eq_iff_iff]
  simp [letterI, Mk.letter, UInt8.le_iff_toNat_le, ← UInt8.toNat_inj]
  omega
theorem all_letter_not (l : List UInt8) (i : Nat) (h : i < l.length) (hn : Mk.letter l[i] = false) : l.all Mk.letter = false := by
  rw [List.all_eq_false]
  exact ⟨l[i], List.getElem_mem h, by simp [hn]⟩
theorem isName_long (l : List UInt8) (h : 16 < l.length) : Mk.isName l = false := by simp [Mk.isName]; omega
theorem isName_nil : Mk.isName [] = false := rfl
theorem high_not (c : UInt8) (h : 128 ≤ c.toNat) : Mk.letter c = false := by
  rw [← letterI_byte]; simp [letterI]; omega
theorem highI_not (n : Nat) (h : 128 ≤ n) : letterI n = false := by simp [letterI]; omega
theorem width_pos (s : ByteArray) (pos : Nat) (h : pos < s.size) : 1 ≤ (Utf8.decode s pos).2 := by
  by_cases ha : (s[pos]'h).toNat < 128
  · rw [decode_ascii s pos h ha]
    exact Nat.le_refl _
  · exact (decode_high s pos h (by omega)).2

theorem take_snoc (s : ByteArray) (k : Nat) (h : k < s.size) : s.data.toList.take (k + 1) = s.data.toList.take k ++ [s[k]] := by
  rw [List.take_succ_eq_append_getElem (by simpa using h)]; rfl
theorem empty_of {s : ByteArray} (h : s.toList.isEmpty = true) : s.data.toList = [] := by
  rw [Lib.toList_data] at h; simpa using h
theorem nonempty_of {s : ByteArray} (h : s.toList.isEmpty = false) : s.data.toList ≠ [] := by
  rw [Lib.toList_data] at h; simpa using h
theorem isName_all (s : ByteArray) (h0 : s.data.toList ≠ []) (h16 : s.size ≤ 16) : Mk.isName s.data.toList = s.data.toList.all Mk.letter := by
  have hl := Lib.size_eq s
  have : s.data.toList.isEmpty = false := by simpa using h0
  have h2 : decide (s.data.toList.length ≤ 16) = true := by simp only [decide_eq_true_eq]; omega
  unfold Mk.isName
  rw [this, h2]; simp
theorem isName_at (s : ByteArray) (h0 : s.data.toList ≠ []) (h16 : s.size ≤ 16) (pos : Nat) (h : pos < s.size) (hn : Mk.letter s[pos] = false) : Mk.isName s.data.toList = false := by
  rw [isName_all s h0 h16]
  exact all_letter_not _ pos (by rw [← Lib.size_eq]; exact h) hn
theorem isName_end (s : ByteArray) (h0 : s.data.toList ≠ []) (h16 : s.size ≤ 16) (pos : Nat) (h : ¬ pos < s.size) (ha : (s.data.toList.take pos).all Mk.letter = true) : Mk.isName s.data.toList = true := by
  rw [isName_all s h0 h16]
  rwa [List.take_of_length_le (by rw [← Lib.size_eq]; omega)] at ha

set_option maxHeartbeats 1000000 in
theorem isName_any (s : ByteArray) (w : World) :
    Calls Tryz.prog 244 #[.string s] w fun e w' => e = .returned (.bool (Mk.isName s.data.toList)) ∧ Below w.heap.size w w' := by
  cases h0 : s.toList.isEmpty with
  | true =>
    have HE := hide (empty_of h0)
    go_enter Tryz.func244, Tryz.ntmps244
    go_wp2
    go_ret
    exact ⟨ret_bool (by rw [unhide HE]; rfl), Below.refl _ _⟩
  | false =>
    have HE := hide (nonempty_of h0)
    by_cases h16 : 16 < s.size
    · go_enter Tryz.func244, Tryz.ntmps244
      go_wp2
      all_goals go_ret
      all_goals exact ⟨ret_bool (isName_long _ (by rw [← Lib.size_eq]; exact h16)).symm, Below.refl _ _⟩
    have h16' : s.size ≤ 16 := by omega
    go_enter Tryz.func244, Tryz.ntmps244
    go_wp2
    go_loopw [4] (fun _ wr => ∃ pos : Nat, wr.heap[w.heap.size]? = some (.stringIter s pos) ∧ Below w.heap.size w wr ∧ (s.data.toList.take pos).all Mk.letter = true) (fun _ wr => s.size - wr.iterPos w.heap.size)
    case atStart =>
      exact ⟨0, by simpa using World.iter_heap w s 0, (Below.refl _ w).alloc (Nat.le_refl _) _, by simp⟩
    case round =>
      obtain ⟨pos, hit, hb, hall⟩ := hrel
      have HA := hide hall
      clear hall
      have hsz : w.heap.size < wr.heap.size := (Array.getElem?_eq_some_iff.1 hit).1
      by_cases hp : pos < s.size
      · have hnx : ∀ ty, (Instr.next (.pointer (some ⟨w.heap.size, 0, none⟩)) true ty).run Tryz.prog wr = _ := fun ty => Lib.run_next_any_at wr w.heap.size s pos ty hit hp
        have hwd := width_pos s pos hp
        have hd1 := decode_le s pos
        have hit2 := Lib.iterAt_heap wr w.heap.size s pos (pos + (Utf8.decode s pos).2) hit
        have hb2 := Lib.below_iterAt hb (k := w.heap.size) (Nat.le_refl _) s (pos + (Utf8.decode s pos).2)
        by_cases hl : letterI (Utf8.decode s pos).1 = true
        · have hlow : (s[pos]'hp).toNat < 128 := by
            rcases Nat.lt_or_ge (s[pos]'hp).toNat 128 with h | h
            · exact h
            · rw [highI_not _ (decode_high s pos hp h).1] at hl; cases hl
          have HD := hide (decode_ascii s pos hp hlow)
          have HL := hide hl
          clear hlow
          go_wp2_with (go_at_call 275; refine (isLetter_any _ _).mono ?_; rintro e w1 ⟨rfl, rfl⟩)
          refine ⟨⟨pos + (Utf8.decode s pos).2, hit2, hb2, ?_⟩, ?_⟩
          · have hl2 := unhide HL
            rw [unhide HD] at hl2 ⊢
            rw [take_snoc s pos hp, List.all_append, unhide HA]
            simpa [letterI_byte] using hl2
          · simp only [World.iterPos, hit2, hit]
            omega
        · have HL := hide hl
          go_wp2_with (go_at_call 275; refine (isLetter_any _ _).mono ?_; rintro e w1 ⟨rfl, rfl⟩)
          go_ret
          refine ⟨ret_bool (isName_at s (unhide HE) h16' pos hp ?_).symm, hb2⟩
          rcases Nat.lt_or_ge (s[pos]'hp).toNat 128 with h | h
          · have hl2 := unhide HL
            rw [decode_ascii s pos hp h] at hl2
            simpa [letterI_byte] using hl2
          · exact high_not _ h
      · have hnx : ∀ ty, (Instr.next (.pointer (some ⟨w.heap.size, 0, none⟩)) true ty).run Tryz.prog wr = _ := fun ty => Lib.run_next_end_at wr w.heap.size s pos ty hit hp
        go_wp2
        go_ret
        exact ⟨ret_bool (isName_end s (unhide HE) h16' pos hp (unhide HA)).symm, hb⟩
end Go.Proofs.YtjelacjggijmfaaGreatDoor
namespace Go.Mk

def rdrop (p : UInt8 → Bool) (l : Bs) : Bs := (l.reverse.dropWhile p).reverse
theorem cutR_eq (l : Bs) : cutR l = rdrop blk l := rfl
theorem noBack_eq (l : Bs) : noBack l = rdrop (· == 92) l := rfl
theorem rdrop_nil (p : UInt8 → Bool) : rdrop p [] = [] := rfl
theorem rdrop_snoc (p : UInt8 → Bool) (l : Bs) (c : UInt8) : rdrop p (l ++ [c]) = if p c then rdrop p l else l ++ [c] := by
  unfold rdrop
  rw [List.reverse_append]
  by_cases h : p c
  · simp [h]
  · simp [h]
theorem rdrop_cons (p : UInt8 → Bool) (c : UInt8) (l : Bs) : rdrop p (c :: l) = if (rdrop p l).isEmpty && p c then [] else c :: rdrop p l := by
  unfold rdrop
  rw [List.reverse_cons, List.dropWhile_append]
  by_cases h : (l.reverse.dropWhile p).isEmpty
  · have h2 : (l.reverse.dropWhile p) = [] := by simpa using h
    rw [h2]
    by_cases hc : p c
    · simp [hc]
    · simp [hc]
  · simp [h]
theorem rdrop_le (p : UInt8 → Bool) (l : Bs) : (rdrop p l).length ≤ l.length := by
  induction l with
  | nil => simp [rdrop_nil]
  | cons c r ih => rw [rdrop_cons]; split <;> simp <;> omega
theorem cutL_le (l : Bs) : (cutL l).length ≤ l.length := by
  unfold cutL; exact (List.dropWhile_suffix _).length_le
theorem cut_le (l : Bs) : (cut l).length ≤ l.length := Nat.le_trans (cutL_le _) (rdrop_le _ _)
theorem cutL_cons (c : UInt8) (l : Bs) : cutL (c :: l) = if blk c then cutL l else c :: l := by
  unfold cutL; rw [List.dropWhile_cons]
theorem cut_comm (l : Bs) : cutR (cutL l) = cut l := by
  unfold cut
  induction l with
  | nil => rfl
  | cons c r ih =>
    rw [cutL_cons]
    simp only [cutR_eq] at ih ⊢
    by_cases h : blk c
    · rw [if_pos h, ih, rdrop_cons]
      by_cases he : (rdrop blk r).isEmpty
      · have he2 : rdrop blk r = [] := by simpa using he
        simp [he2, h]
      · simp only [Bool.not_eq_true] at he
        rw [he]
        simp only [Bool.false_and, Bool.false_eq_true, if_false]
        rw [cutL_cons, if_pos h]
    · rw [if_neg h, rdrop_cons]
      simp only [Bool.not_eq_true] at h
      simp [h, cutL_cons]
theorem kindOf_le (l : Bs) : (kindOf l).2.length ≤ l.length := by
  unfold kindOf
  split <;> simp <;> omega
theorem dropWhile_le (p : UInt8 → Bool) (l : Bs) : (l.dropWhile p).length ≤ l.length := (List.dropWhile_suffix _).length_le
theorem inter_cons (x : Bs) (ws : List Bs) : ([32].intercalate (x :: ws)).length ≤ x.length + 1 + ([32].intercalate ws).length := by
  cases ws with
  | nil => simp [List.intercalate]
  | cons y r => simp [List.intercalate, List.intersperse]; omega
theorem joinW_le : ∀ (l cur : Bs), ([32].intercalate (wordsA cur l)).length ≤ cur.length + l.length
  | [], cur => by
    unfold wordsA
    split
    · simp [List.intercalate]
    · simp [List.intercalate]
  | c :: r, cur => by
    unfold wordsA
    have h0 := joinW_le r []
    have h1 := joinW_le r (cur ++ [c])
    have h2 := inter_cons cur (wordsA [] r)
    split
    · split
      · simp only [List.length_nil, List.length_cons] at *; omega
      · simp only [List.length_nil, List.length_cons] at *; omega
    · simp only [List.length_append, List.length_nil, List.length_cons] at *; omega
theorem oneBlank_le (l : Bs) : (oneBlank l).length ≤ l.length := by
  have := joinW_le l []
  simpa [oneBlank, words] using this
theorem wordsA_count : ∀ (l cur : Bs), (wordsA cur l).length ≤ cur.length + l.length
  | [], cur => by
    unfold wordsA
    split
    · simp
    · rename_i h
      have : cur ≠ [] := by simpa using h
      have := List.length_pos_iff.2 this
      simp; omega
  | c :: r, cur => by
    unfold wordsA
    have h0 := wordsA_count r []
    have h1 := wordsA_count r (cur ++ [c])
    split
    · split
      · simp only [List.length_nil, List.length_cons] at *; omega
      · simp only [List.length_nil, List.length_cons] at *; omega
    · simp only [List.length_append, List.length_nil, List.length_cons] at *; omega
theorem words_count (l : Bs) : (words l).length ≤ l.length := by
  have := wordsA_count l []
  simpa [words] using this
end Go.Mk
